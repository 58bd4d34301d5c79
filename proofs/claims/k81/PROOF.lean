import PyProof.Rows.All
import Wide.All
import OpenK.AllK
import Wide.FinOn
import Lean
import PyProof.EqAt
import PyProof.EqKinds
import PyProof.TupleCall
import PyProof.MeetsSeq
import KE.KLam
import KE.KMinKey
import KE.KRevIter
import PySem.Challenge.RW_tietable_k81_webs_kept_by_a_desk
open PySem renaming Value->A_,Addr->BJ,Shared->BK,wpAny->BL,Str->BP,starEach->BR,model->BV,Program->BX,Expr->BZ,Heap->B_,compareOp->CG,wpAny_field->CJ,World->CN,eval->CP,Stmt->CQ,sizeLine_eq->CT,wpAny_newObj_type->CV,swapsWith->CW,FuncData->CZ,Around->C_,attributeBase->DG,wpAny_mono->DP,wpAny_truthy_bool->DR,wpAny_setField->DW,behindInMarks->DX,foldedSetIterable->DY,cellsFrom->D_,wpAny_callSpecial?_slot->EY,keywordEach->E_,binaryOp->FJ,cLine->FN,wpAny_call_entry->FP,sysModules->FQ,rawInt->FW,assignEach->F_,wpAny_standAt->GC,Obj->GD,NameKind->GF,backTo->GJ,noteFrame->GK,Pos->GP,wpAny_seqItems->GQ,backToKw->GR,Scope->GX,Env->GZ,DictEntry->G_,wpAny_typeNameOfWhole_keyiter->HB,wpAny_setField_rec->HF,valueAt->HH,tupleKind_room_in1->HJ,bootBuiltins->HQ,theTreesLotGoes->HR,wpAny_holding->HS,mainGlobals->HW,getMethod->HX,codeAny_mono->HY,wpAny_typeNameOf_keyiter->IK,wpAny_comprehension_free->IV,wpAny_Call_Name_kw->IW,wpAny_pyIter_list->JB,wpAny_loadPart_at->JC,codeAny->JD,Keyword->JF,wpAny_call->JG,typeIs_str->JH,evalEach->JL,callWith->JM,wpAny_passesOwn->JN,wpAny_execs_nil->JP,pushCells_keeps->JQ,IsPair->JS,Model->JV,standAt->JW,holding->JX,setFlight->J_,bindArgs->KC,wpAny_pyIter_enum->KR,excClassObj->KY,wpAny_onRaise->KZ,wpAny_attempt->K_,pyNext->LC,wpAny_execs_cons->LK,tupleKind->LQ,pushCells->LR,Builtin->MK,wpAny_loadPart'->MN,letOwnedTupleGo->MP,CmpOp->M_,codeAny_handlers_test->NB,wpAny_updateSeq_pair->NQ,firstArgMember->N_,codeAny_call_builtin->OD,lastMarks->OJ,getItem->PB,callerA->PK,wpAny_handleBy_cons->PN,comprehension->PX,ExceptHandler->P_,typeLookup->QB,call_meets->QF,IsPart->QG,wpAny_dictEntries->QJ,relabel->QK,handleBy->QM,concat_meets->QQ,IsZip->QR,plainObj_wpAny_Assign_Attribute->QS,noFill_tuple_add->QT,subscripted->QW,atKey->QX,wpAny_dictEpoch->Q_,BindsTo->RD,wpAny_letOwnedTupleGo_enum->RG,compPost->RK,builtinsNs->RL,assign->RM,ZipApart->RN,Paired->RP,seq_tuple_add->SJ,field->SX,bindL->S_,bindC->TF,wpAny_Assign_Subscript->TJ,leaving->TV,isTrue->T_,firstIterPos->UG,codeAny_compStart_list->UJ,Result->UL,ExcBaseFacts->UT,wpAny_isTrue_Compare1->UW,wpAny_isOneOf_keyiter->U_,wpAny_throw->VG,wpAny_letGo->VH,sliceBounds->VJ,setField->VL,wpAny_isSubtype_exc->WK,wpAny_Tuple_spliced->WL,wpAny_rule->WX,wpAny_getItem_heap->WY,wpAny_entryPlaceOf->W2,wpAny_Name->W3,pyIter->XF,closureFor->YL,wpAny_frameOf_fun->YS,wpAny_assign_Name->YT,wpAny_Return_some->YW,unaryOp->YZ,newList->Y_,getAttr->Z1,wpAny_pyIter_zip->Z_,wpAny_lookBehind->aA,wpAny_isInstance->aB,wpAny_getItem_of->aC,wpAny_Try_except->aD,seqItems?->aF,pastItsLine_dict->aG,onTheHeap->aH,PassesOwn->bL,Arguments->bM,wpAny_notIn_of->d9,wpAny_loadPart->d_,wpAny_fieldsOf->eE,typeOf->eQ,refuseLoop_ref->eV,recursionLimit->eX,newFunctionEnv->eY,newExc->eZ,isSubtype_stop->iM,cellOf->iQ,Params->iR,Operator->iT,IsEnum->iV,GenState->iW
open PySem.W renaming Frag->BW
open PyProof.Rows renaming slot_tupleiter_next->JT,AllBare->JZ,IntsAre->PL,IsTupIter->QV,IsTup->QZ,subscriptTail->R_,subscriptTail_builtinR->TQ,formatField_int_small->VF,entry_tupleiter_next->V_,FormattedValue_plain->WD,args_tupleiter_next->WW,iter_tuple->YK,chain_link->YM,Subscript_->YQ,slicePart_none->eU,joinParts_cons->gJ,ite_tt->iJ,ite_ff->iK,JoinedStr_many->iU
open PySem renaming wpAny_bind->CK,wpAny_pure->FZ
open PySem.W (Frag)
open List renaming length_map->HN,getElem?_set_ne->JR,getElem?_eq_getElem->MJ,getElem?_eq_some_iff->MT,mem_cons_of_mem->KQ,mem_cons->I_,mem_cons_self->MF,getElem?_set_self->QD,length_cons->L_,mem_singleton->NT,map_cons->KH,size_toArray->O_,length_append->PQ,getElem?_map->QC,mem_append_right->RZ,not_mem_nil->RC,length_set->RX,filterMap_cons->VD,all_eq_true->SN,map_map->RB,append_nil->SM,getElem?_eq_none->YJ,nodup_cons->VB,getElem?_append_right->bK,find?_cons->VN,eq_nil_of_length_eq_zero->d8,lookup_cons->WR,mem_of_getElem?->ZZ,mem_map->TX,length_take->YH,getElem?_append_left->dY,length_drop->YG,zip_cons_cons->ZX,drop_eq_nil_of_le->dX,mem_append->ZV,nil_append->ZS,drop_eq_getElem_cons->iI,all_cons->YD,extract_eq_take_drop->iG,map_congr_left->dW,cons_append->bJ,map_append->bH,getElem_mem->dJ,any_cons->bG,forIn_cons->dI,length_zip->dH,getElem?_replicate->oH,mem_range->dF,forIn_nil->dD,nodup_nil->dC,sum_cons->dB,mem_append_left->oE,length_nil->gZ,getElem?_zip_eq_some->x_,set_comm->gY,pairwise_iff_getElem->xZ,getElem?_take_of_lt->xY,filter_cons->nW,map_nil->gU,of_mem_zip->nT,take_of_length_le->xX,length_replicate->xW,take_drop->nQ,range_eq_range'->xT,map_take->nP,map_drop->nO,mem_map_of_mem->xP,mem_filterMap->xO,map_inj_right->xK,any_eq_false->xJ,getElem?_set->xH,append_assoc->xF,take_add_one->w6,length_range->w5,zipIdx_cons->wX,range'->nG,mem_filter->wV,zipIdx_nil->wQ,foldl_cons->wO
open PySem.Heap renaming get?_push_of_some->JK,lt_size->HD,get?_push_size->NP,get?_update_other->SQ,size_push->RW,get?_update_self->WT,size_update->nY,get?_none_of_le->xU,get?_update_ne->xQ,ExtBut->nH
open Nat renaming le_refl->H_,lt_of_lt_of_le->NZ,ne_of_lt->NK,lt_irrefl->QL,le_trans->RJ,min_eq_left->YF,lt_succ_of_lt->ZW,ne_of_gt->VM,zero_le->WQ,zero_add->ZR,lt_succ_self->dM,le_succ->ZQ,lt_of_le_of_lt->iB,add_sub_cancel_left->oG,le_add_right->g_,sub_succ_lt_self->oA,lt_trans->cZ,min_le_right->nZ,max_eq_right->nU,le_of_lt->gW,pow_le_pow_right->xR,not_lt->gR,le_of_eq->nM,le_of_succ_le->xG,log2_lt->nJ,succ_ne_self->wY
open Bool renaming and_eq_true->KN,false_ne_true->TY,eq_iff_iff->bI,not_eq_true'->dN,false_eq_true->n6,and_false->nR,or_eq_true->wR
open Option renaming bind_eq_some_iff->VV,map_eq_some_iff->VR,isSome_iff_exists->iD,isSome_map->dO,getD_some->h_,isSome_some->xN,bind_some->wW,map_some->wM
open Int renaming toNat_natCast->VP,emod_lt_of_pos->dR,toNat_of_nonneg->iC,emod_nonneg->dG,ofNat_le->gV,natAbs_natCast->xM,max_eq_right->wZ,min_eq_left->wU,natCast_add->wN
open Array renaming getElem?_eq_some_iff->dZ,getElem?_eq_getElem->iH,append_assoc->dU,all_eq_true_iff_forall_mem->yD,getElem?_toList->oF,toList_extract->n_,length_toList->n8
open Classical renaming byContradiction->yC,choose_spec->xV
noncomputable section
namespace Xe
variable {a P:Prop}
def aX{p0 p1:Prop}(k:p0->p1->a->P)(h:p0/\p1/\a):P:=h.elim λf h=>h.elim λe b=>k f e b
variable {b:Prop}
def z7{p0 p1:Prop}(k:p0->p1->a->b->P)(h:p0/\p1/\a/\b):P:=h.elim λj h=>h.elim λi h=>h.elim λf e=>k j i f e
variable {e:Prop}
def z6{p0 p1:Prop}(k:p0->p1->a->b->e->P)(h:p0/\p1/\a/\b/\e):P:=h.elim λm h=>h.elim λl h=>h.elim λj h=>h.elim λi f=>k m l j i f
def pJ{p0 p1 f:Prop}(k:p0->p1->a->b->e->f->P)(h:p0/\p1/\a/\b/\e/\f):P:=h.elim λo h=>h.elim λn h=>h.elim λm h=>h.elim λl h=>h.elim λj i=>k o n m l j i
def An{i:Type}{p0 p1:i->Prop}(k:∀f,p0 f->p1 f->P)(h:∃f,p0 f/\p1 f):P:=h.elim λf h=>h.elim λl j=>k f l j
def Jh{i:Type}{p0 p1 a:i->Prop}(k:∀f,p0 f->p1 f->a f->P)(h:∃f,p0 f/\p1 f/\a f):P:=h.elim λf h=>h.elim λm h=>h.elim λl j=>k f m l j
def fO{i:Type}{p0 p1 a b:i->Prop}(k:∀f,p0 f->p1 f->a f->b f->P)(h:∃f,p0 f/\p1 f/\a f/\b f):P:=h.elim λf h=>h.elim λn h=>h.elim λm h=>h.elim λl j=>k f n m l j
def zZ{l j:Type}{p0:l->j->Prop}(k:∀i f,p0 i f->P)(h:∃i f,p0 i f):P:=h.elim λi h=>h.elim λf h=>k i f h
def Ce{l j:Type}{p0 p1:l->j->Prop}(k:∀i f,p0 i f->p1 i f->P)(h:∃i f,p0 i f/\p1 i f):P:=h.elim λi h=>h.elim λf h=>h.elim λn m=>k i f n m
def Bh{l j:Type}{p0 p1 a:l->j->Prop}(k:∀i f,p0 i f->p1 i f->a i f->P)(h:∃i f,p0 i f/\p1 i f/\a i f):P:=h.elim λi h=>h.elim λf h=>h.elim λo h=>h.elim λn m=>k i f o n m
def Wz{l j:Type}{p0 p1 a b:l->j->Prop}(k:∀i f,p0 i f->p1 i f->a i f->b i f->P)(h:∃i f,p0 i f/\p1 i f/\a i f/\b i f):P:=h.elim λi h=>h.elim λf h=>h.elim λp h=>h.elim λo h=>h.elim λn m=>k i f p o n m
def pI{l j:Type}{p0 p1 a b e:l->j->Prop}(k:∀i f,p0 i f->p1 i f->a i f->b i f->e i f->P)(h:∃i f,p0 i f/\p1 i f/\a i f/\b i f/\e i f):P:=h.elim λi h=>h.elim λf h=>h.elim λq h=>h.elim λp h=>h.elim λo h=>h.elim λn m=>k i f q p o n m
def zY{l j:Type}{p0 p1 a b e m:l->j->Prop}(k:∀i f,p0 i f->p1 i f->a i f->b i f->e i f->m i f->P)(h:∃i f,p0 i f/\p1 i f/\a i f/\b i f/\e i f/\m i f):P:=h.elim λi h=>h.elim λf h=>h.elim λs h=>h.elim λr h=>h.elim λq h=>h.elim λp h=>h.elim λo n=>k i f s r q p o n
def ZK{n m l:Type}{p0 p1:n->m->l->Prop}(k:∀j i f,p0 j i f->p1 j i f->P)(h:∃j i f,p0 j i f/\p1 j i f):P:=h.elim λj h=>h.elim λi h=>h.elim λf h=>h.elim λp o=>k j i f p o
def aW{n m l:Type}{p0 p1 a:n->m->l->Prop}(k:∀j i f,p0 j i f->p1 j i f->a j i f->P)(h:∃j i f,p0 j i f/\p1 j i f/\a j i f):P:=h.elim λj h=>h.elim λi h=>h.elim λf h=>h.elim λq h=>h.elim λp o=>k j i f q p o
def pH{n m l:Type}{p0 p1 a b e:n->m->l->Prop}(k:∀j i f,p0 j i f->p1 j i f->a j i f->b j i f->e j i f->P)(h:∃j i f,p0 j i f/\p1 j i f/\a j i f/\b j i f/\e j i f):P:=h.elim λj h=>h.elim λi h=>h.elim λf h=>h.elim λs h=>h.elim λr h=>h.elim λq h=>h.elim λp o=>k j i f s r q p o
def XS{p o n m:Type}{p0 p1 a b:p->o->n->m->Prop}(k:∀l j i f,p0 l j i f->p1 l j i f->a l j i f->b l j i f->P)(h:∃l j i f,p0 l j i f/\p1 l j i f/\a l j i f/\b l j i f):P:=h.elim λl h=>h.elim λj h=>h.elim λi h=>h.elim λf h=>h.elim λt h=>h.elim λs h=>h.elim λr q=>k l j i f t s r q
def jQ{r q p o n:Type}{p0 p1 a b e s:r->q->p->o->n->Prop}(k:∀m l j i f,p0 m l j i f->p1 m l j i f->a m l j i f->b m l j i f->e m l j i f->s m l j i f->P)(h:∃m l j i f,p0 m l j i f/\p1 m l j i f/\a m l j i f/\b m l j i f/\e m l j i f/\s m l j i f):P:=h.elim λm h=>h.elim λl h=>h.elim λj h=>h.elim λi h=>h.elim λf h=>h.elim λy h=>h.elim λx h=>h.elim λw h=>h.elim λv h=>h.elim λu t=>k m l j i f y x w v u t
end Xe
open Xe
set_option Elab.async false
set_option linter.all false
set_option maxRecDepth 100000
namespace L2
open PySem PySem.Spec PyProof.Rows
abbrev Zs(n : GZ)(e : BZ)(a : List BZ): Prop:= BR (e::a) n=(false, CP e n)::BR a n
abbrev Zd(x : BP): Prop:= (x == ("__debug__" : BP))=false
abbrev Zp(n : GZ)(p : GP)(a : List BZ): Prop:= (GJ p (BR a n)).any (·.1)=false
abbrev Key:=Sum Int BP
def Vo:Key->A_->Bool
 | .inl k,v=>Value.isInt k v
 | .inr x,v=>Value.isStrOf x v
def fK(w:CN):Key->Int
 | .inl k=>hashInt k
 | .inr x=>hashStr w x
def Ca:∀{k:Key}{v:A_},Vo k v=true->(∃i t,k=Sum.inl i/\v=Value.int i t)\/(∃x t,k=Sum.inr x/\v=Value.str x t)
 | .inl i,v,h=>by have⟨t,e⟩:=Value.isInt_shape (k:=i) (v:=v) h;exact .inl ⟨i,t,rfl,e⟩
 | .inr x,v,h=>by have⟨t,e⟩:=Value.isStrOf_shape (x:=x) (v:=v) h;exact .inr ⟨x,t,rfl,e⟩
def jy4(i:Int)(t:Tok):Vo (.inl i) (.int i t)=true:=by simp[Vo,Value.isInt]
def jy5(x:BP)(t:Tok):Vo (.inr x) (.str x t)=true:=by simp[Vo,Value.isStrOf]
def wk0(a b:Int):decide ((Sum.inl a:Key)=Sum.inl b)=(a == b):=by
 by_cases e:a=b
 ·subst e;simp
 ·have h:¬ (Sum.inl a:Key)=Sum.inl b:=λq=>e (Sum.inl.inj q);rw[decide_eq_false h];exact(beq_eq_false_iff_ne.mpr e).symm
def wk3(a b:BP):decide ((Sum.inr a:Key)=Sum.inr b)=decide (a=b):=by
 by_cases e:a=b
 ·subst e;simp
 ·have h:¬ (Sum.inr a:Key)=Sum.inr b:=λq=>e (Sum.inr.inj q);rw[decide_eq_false h,decide_eq_false e]
def wk1(a:Int)(b:BP):decide ((Sum.inl a:Key)=Sum.inr b)=false:=decide_eq_false (λq=>nomatch q)
def wk2(a:BP)(b:Int):decide ((Sum.inr a:Key)=Sum.inl b)=false:=decide_eq_false (λq=>nomatch q)
def Bq(prog:BX)(w:CN):PySem.KeyKind prog w Key where
 is:=Vo
 hash:=fK w
 inj:=λv a b ha hb=>by
  rcases Ca ha with ⟨i,t,rfl,rfl⟩ | ⟨x,t,rfl,rfl⟩
  ·rcases Ca hb with ⟨j,u,rfl,e⟩ | ⟨y,u,rfl,e⟩
   ·injection e with e1 _;rw[e1]
   ·exact nomatch e
  ·rcases Ca hb with ⟨j,u,rfl,e⟩ | ⟨y,u,rfl,e⟩
   ·exact nomatch e
   ·injection e with e1 _;rw[e1]
 byValue:=λk v h=>by rcases Ca h with ⟨i,t,rfl,rfl⟩ | ⟨x,t,rfl,rfl⟩<;>rfl
 pyHash:=λhv h=>by
  rcases Ca hv with ⟨i,t,rfl,rfl⟩ | ⟨x,t,rfl,rfl⟩
  ·exact wpAny_pyHash_int h
  ·exact wpAny_pyHash_str h
 eqBool:=λhu hv h=>by
  rcases Ca hu with ⟨i,t,rfl,rfl⟩ | ⟨x,t,rfl,rfl⟩
  ·rcases Ca hv with ⟨j,u,rfl,rfl⟩ | ⟨y,u,rfl,rfl⟩
   ·rw[wk0]at h;exact wpAny_eqBool_int h
   ·rw[wk1]at h;exact SeqAt.EqAt.int_str i t y u _ _ _ _ h
  ·rcases Ca hv with ⟨j,u,rfl,rfl⟩ | ⟨y,u,rfl,rfl⟩
   ·rw[wk2]at h;exact SeqAt.EqAt.str_int x t j u _ _ _ _ h
   ·rw[wk3]at h;exact wpAny_eqBool_str h
 «strs»:=λk x t v h=>by
  rcases Ca h with ⟨i,u,rfl,e⟩ | ⟨y,u,rfl,e⟩
  ·exact nomatch e
  ·injection e with e1 _;subst e1;cases v<;>rfl
def jf9(prog:BX)(w:CN)(i:Int)(t:Tok):(Bq prog w).is (.inl i) (.int i t)=true:=jy4 i t
def Jw(prog:BX)(w:CN)(x:BP)(t:Tok):(Bq prog w).is (.inr x) (.str x t)=true:=jy5 x t
inductive V where
 |non |bl (b:Bool) |int (i:Int) |str (x:BP) |byt (b:Array UInt8) |flt (b:UInt64) |ref (a:BJ) |ty (n:String)
 deriving DecidableEq
def RelV:V->A_->Prop
 | .non,u=>u=Value.none
 | .bl b,u=>u=Value.bool b
 | .int i,u=>∃t,u=Value.int i t
 | .str x,u=>∃t,u=Value.str x t
 | .byt b,u=>∃t,u=Value.bytes b t
 | .flt b,u=>∃t,u=Value.float b t
 | .ref a,u=>u=Value.ref a
 | .ty n,u=>u=Value.type n
abbrev Vals:List V->List A_->Prop:=RP RelV
variable {xs:List V}{us:List A_}
def Vals.length(r:Vals xs us):xs.length=us.length:=Paired.length r
def Vals.get:∀{xs:List V}{us:List A_}{i:Nat}{x:V},Vals xs us->xs[i]? = some x->∃u,us[i]? = some u/\RelV x u
 |_,_,_,_,.nil,e=>by simp at e
 |_,_,0,_,.cons r _,e=>by simp at e;subst e;exact⟨_,rfl,r⟩
 |_,_,i+1,x,.cons _ t,e=>by obtain⟨u,b,a⟩:=Vals.get (i:=i) (x:=x) t (by simpa using e);exact⟨u,by simpa using b,a⟩
variable {ys:List V}
def Vals.append{ws:List A_}(h:Vals xs us)(s:Vals ys ws):Vals (xs++ys) (us++ws):=by
 induction h with
 |nil=>exact s
 |cons r t a=>exact .cons r a
def Vals.take:∀{xs:List V}{us:List A_}(n:Nat),Vals xs us->Vals (xs.take n) (us.take n)
 |_,_,0,_=>.nil
 |_,_,_+1,.nil=>.nil
 |_,_,n+1,.cons r t=>.cons r (Vals.take n t)
def Vals.drop:∀{xs:List V}{us:List A_}(n:Nat),Vals xs us->Vals (xs.drop n) (us.drop n)
 |_,_,0,r=>r
 |_,_,_+1,.nil=>.nil
 |_,_,n+1,.cons _ t=>Vals.drop n t
def J5:Option V->Option A_->Prop
 |some v,some u=>RelV v u
 |none,none=>True
 |_,_=>False
def KV{a:Type}:List (a×V)->List (a×A_)->Prop:=RP λ(p:a×V)(q:a×A_)=>p.1=q.1/\RelV p.2 q.2
def kV:Key->V
 | .inl i=>.int i
 | .inr x=>.str x
inductive HO where
 |lst (xs:List V)
 |tup (xs:List V)
 |dK (kvs:List (Key×V)) |dT (kvs:List (List Key×V))
 |set (S:Int->Bool) (n:Nat)
 |ins (C dx:BJ) (fs:List (BP×V))
 |own (x:BJ)
 |xd (fs:List (BP×V))
 |met (f x:BJ)
 |rng (lo hi:Int)
 |frz (o:GD) (u:HO)
 |tbl (ps:Array A_)
 |ext (φ:B_->Prop)
abbrev Hp:=BJ->Option HO
def upd(H:Hp)(a:BJ)(o:HO):Hp:=λb=>if b=a then some o else H b
def Af{H:Hp}{a:BJ}{o:HO}:upd H a o a=some o:=by unfold upd;rw[if_pos rfl]
def Ac{H:Hp}{a b:BJ}{o:HO}(h:b≠a):upd H a o b=H b:=by unfold upd;rw[if_neg h]
def ww5{H:Hp}{a b:BJ}{o u:HO}(h:H a=some o)(h':H b=some u)(d:o≠u):a≠b:=by intro e;subst e;rw[h]at h';exact d (Option.some.inj h')
def Aw{H:Hp}{a b:BJ}{o:HO}(h:H a=some o)(h':H b=none):a≠b:=by intro e;subst e;rw[h]at h';cases h'
section
variable (P:BX)(w:CN)
def Cj(H:Hp)(h:B_)(a:BJ):HO->Prop
 | .lst xs=>xs.length<=sizeLine/\∃(its:List A_)(n:Nat),Vals xs its/\h.get? a=some {cls:=.type "list",data:=.seq its.toArray n}
 | .tup xs=>xs.length<=sizeLine/\∃its:List A_,Vals xs its/\QZ h a its.toArray
 | .dK e=>e.length<=sizeLine/\(a == FQ)=false/\∃vs,KV e vs/\h.DictOf (Bq P w) a vs
 | .dT e=>e.length<=sizeLine/\(a == FQ)=false/\∃xs:List (List Key×BJ×A_),
   RP (λ(p:List Key×V)(q:List Key×BJ×A_)=>p.1=q.1/\H q.2.1=some (.tup (p.1.map kV))/\RelV p.2 q.2.2) e xs /\
   ∃o A F,h.get? a=some o/\o.ExactDict/\o.data=.dict A F/\A.toList=xs.map (entryOfKey (LQ (Bq P w)))/\(xs.map (·.1)).Nodup
 | .set S n=>h.SetOf (intKind P w) a S n
 | .ins C m j=>H m=some (.own a)/\j.length<=1000/\m≠a/\h.get? a=some (W.instObj C m) /\
   ∃i,h.Ns1 m i/\(∀f,J5 (j.lookup f) (i f))/\PySem.Within i (j.map (·.1))
 | .own _=>∃o,h.get? a=some o
 | .xd j=>∃i,h.Ns1 a i/\∀f,J5 (j.lookup f) (i f)
 | .rng B E=>∃t u v,h.get? a=some {cls:=.type "range",data:=.fields #[.int B t,.int E u,.int 1 v] }
 | .frz o u=>h.get? a=some o/\Cj H h a u
 | .tbl ps=>∃s:Array A_,h.get? a=some {cls:=.none,data:=.fields s}/\(s = #[]\/∃(l c:A_)(q:BP)(t:Tok)(b:BJ)(o:GD)(vs:Array A_)(t':Tok),ps = #[l,c,.str q t]/\s = #[l,c,.ref b]/\H b=some (.frz o (.own a))/\o.data=.fields vs/\vs[1]? = some (.str q t'))
 | .met f x=>h.get? a=some (W.methodObj (.ref f) (.ref x))
 | .ext r=>r h/\(∃o,h.get? a=some o)/\∀z y:B_,r z->(∀o,z.get? a=some o->y.get? a=some o)->r y
def HOk(H:Hp)(h:B_):Prop:=∀a o,H a=some o->Cj P w H h a o
end
variable {a:BJ}{o:HO}{h h':B_}{H H':Hp}{P:BX}{w:CN}
def Cj.lt(x:Cj P w H h a o):a<h.objs.size:=by
 cases o with
 |lst xs=>obtain⟨_,_,_,_,e⟩:=x;exact HD e
 |tup xs=>obtain⟨_,_,_,p⟩:=x;exact p.lt
 |dK b=>obtain⟨_,_,_,_,o,_,_,e,_⟩:=x;exact HD e
 |dT b=>obtain⟨_,_,_,_,o,_,_,e,_⟩:=x;exact HD e
 |set S n=>obtain⟨o,_,_,_,e,_⟩:=x;exact HD e
 |ins C r i=>obtain⟨_,_,_,e,_⟩:=x;exact HD e
 |own y=>obtain⟨_,e⟩:=x;exact HD e
 |xd i=>obtain⟨_,⟨_,_,_,e,_⟩,_⟩:=x;exact HD e
 |rng m q=>obtain⟨_,_,_,e⟩:=x;exact HD e
 |frz l u=>obtain⟨e,_⟩:=x;exact HD e
 |tbl ps=>obtain⟨_,e,_⟩:=x;exact HD e
 |met f y=>exact HD (show h.get? a=some _ from x)
 |ext j=>obtain⟨_,⟨_,e⟩,_⟩:=x;exact HD e
def Paired.mapP{l j:Type}{F G:l->j->Prop}{i:List l}{e:List j}(h:RP F i e)(f:∀a b,F a b->G a b):RP G i e:=by
 induction h with
 |nil=>exact .nil
 |cons r t m=>exact .cons (f _ _ r) m
theorem Cj.stay(x:Cj P w H h a o)(k:∀b u,(b=a\/H b=some (.own a))->h.get? b=some u->h'.get? b=some u)
  (M:∀b,H b=some (.own a)->H' b=some (.own a))(ht:∀b xs,H b=some (.tup xs)->H' b=some (.tup xs))
  (O:∀b o y,H b=some (.frz o (.own y))->H' b=some (.frz o (.own y)):=by first |exact λ_ _ _ q=>q | (intro b o y q;rw[Ac (Aw q (by assumption))];exact q)):Cj P w H' h' a o:=by
 induction o with
 |lst xs=>obtain⟨z,s,n,r,e⟩:=x;exact⟨z,s,n,r,k _ _ (.inl rfl) e⟩
 |tup xs=>obtain⟨z,s,r,i,e,c⟩:=x;exact⟨z,s,r,i,k _ _ (.inl rfl) e,c⟩
 |dK F=>obtain⟨z,y,A,r,i,j,m,e,c⟩:=x;exact⟨z,y,A,r,i,j,m,k _ _ (.inl rfl) e,c⟩
 |dT F=>obtain⟨z,y,xs,r,i,j,m,e,c⟩:=x;exact⟨z,y,xs,Paired.mapP r λp q z=>⟨z.1,ht _ _ z.2.1,z.2.2⟩,i,j,m,k _ _ (.inl rfl) e,c⟩
 |set S n=>obtain⟨i,j,m,t,e,c⟩:=x;exact⟨i,j,m,t,k _ _ (.inl rfl) e,c⟩
 |ins C Z Q=>obtain⟨d,z,ne,e,E,⟨B,j,m,G,c⟩,r⟩:=x;exact⟨M _ d,z,ne,k _ _ (.inl rfl) e,E,⟨B,j,m,k _ _ (.inr d) G,c⟩,r⟩
 |own y=>obtain⟨i,e⟩:=x;exact⟨i,k _ _ (.inl rfl) e⟩
 |xd Q=>obtain⟨E,⟨B,j,m,e,c⟩,r⟩:=x;exact⟨E,⟨B,j,m,k _ _ (.inl rfl) e,c⟩,r⟩
 |rng X Y=>obtain⟨t,u,v,e⟩:=x;exact⟨t,u,v,k _ _ (.inl rfl) e⟩
 |frz i u L=>obtain⟨e,q⟩:=x;exact⟨k _ _ (.inl rfl) e,L q⟩
 |tbl ps=>obtain⟨K,e,z⟩:=x;exact⟨K,k _ _ (.inl rfl) e,z.imp id λ⟨l,c,q,t,b,o,A,J,T,G,d,r⟩=>⟨l,c,q,t,b,o,A,J,T,G,O _ _ _ d,r⟩⟩
 |met f y=>have e:h.get? a=some (W.methodObj (.ref f) (.ref y)):=x;show h'.get? a=some (W.methodObj (.ref f) (.ref y));exact k a _ (.inl rfl) e
 |ext U=>obtain⟨p,⟨o,e⟩,I⟩:=x;exact⟨I _ _ p λo q=>k _ _ (.inl rfl) q,⟨o,k _ _ (.inl rfl) e⟩,I⟩
def HOk.lt(x:HOk P w H h)(e:H a=some o):a<h.objs.size:=(x a o e).lt
def HOk.fresh(x:HOk P w H h)(e:h.objs.size<=a):H a=none:=by
 cases q:H a with
 |none=>rfl
 |some u=>exact absurd (NZ (x.lt q) e) (QL _)
def HOk.kept(x:HOk P w H h)(k:∀b u,h.get? b=some u->h'.get? b=some u):HOk P w H h':=λa o e =>
 (x a o e).stay (λb u _ q=>k b u q) (λ_ q=>q) λ_ _ q=>q
def HOk.laid(x:HOk P w H h)(k:∀b u,h.get? b=some u->h'.get? b=some u)(j:h.objs.size<=a)(new:Cj P w (upd H a o) h' a o):HOk P w (upd H a o) h':=λb u e=>by
 have f:=x.fresh j;by_cases i:b=a
 ·subst i;rw[Af]at e;cases e;exact new
 ·rw[Ac i]at e;exact(x b u e).stay (λc v _ q=>k c v q) (λc q=>by rw[Ac (Aw q f)];exact q) λc xs q=>by rw[Ac (Aw q f)];exact q
def Rd(H:Hp)(a:BJ)(u:HO):Prop:=H a=some u\/∃o,H a=some (.frz o u)
def Rd.ok{u:HO}(r:Rd H a u)(x:HOk P w H h):Cj P w H h a u:=by
 rcases r with r | ⟨o,r⟩
 ·exact x a u r
 ·have⟨_,q⟩:=x a _ r;exact q
def Mut:Option HO->Prop
 |some (.lst _)=>True
 |some (.dK _)=>True
 |some (.dT _)=>True
 |some (.set _ _)=>True
 |some (.ins _ _ _)=>True
 |some (.ext _)=>True
 |_=>False
variable {x:BJ}
section
variable {e:BJ}{o':HO}
def HOk.write(ok:HOk P w H h)(j:Mut (H x))(t:e=x\/H e=some (.own x))(k:∀b u,b≠e->h.get? b=some u->h'.get? b=some u)(p:∃u,h'.get? e=some u)
  (new:Cj P w (upd H x o') h' x o'):HOk P w (upd H x o') h':=λb u q=>by
 have i:∀c y,H c=some (.own y)->c≠x:=λc y r z=>by subst z;rw[r]at j;exact j
 have l:∀c xs,H c=some (.tup xs)->c≠x:=λc xs r z=>by subst z;rw[r]at j;exact j
 by_cases n:b=x
 ·subst n;rw[Af]at q;cases q;exact new
 ·rw[Ac n]at q;by_cases f:b=e
  ·have s:H b=some (.own x):=by
    rcases t with z |z
    ·exact absurd (f.trans z) n
    ·rw[f];exact z
   rw[q]at s;cases s;obtain⟨v,A⟩:=p;exact⟨v,by rw[f];exact A⟩
  ·refine(ok b u q).stay (λc v m r=>k c v ?_ r) (λc r=>by rw[Ac (i c b r)];exact r) (λc xs r=>by rw[Ac (l c xs r)];exact r) λc o y r=>by rw[Ac (λz=>by subst z;rw[r]at j;exact j)];exact r
   rcases m with rfl |m
   ·exact f
   ·rintro rfl;rcases t with z |z
    ·exact i c b m z
    ·rw[m]at z;cases z;exact n rfl
end
structure Un(fs ex:List BJ)(H H':Hp)(h h':B_):Prop where
 keep:∀b o,h.get? b=some o->H b=none->b∉fs->b∉ex->h'.get? b=some o
 slot:∀b o,h.get? b=some o->H b=none->b∈fs->b∉ex->∃sl,h'.get? b=some {o with slots:=sl}
 free:∀b o,h.get? b=some o->H b=none->b∉ex->H' b=none
 there:∀b o,h.get? b=some o->b∉ex->∃o',h'.get? b=some o'
 tups:∀b xs,H b=some (.tup xs)->H' b=some (.tup xs)
 frzs:∀b o u,H b=some (.frz o u)->H' b=some (.frz o u)
 tbls:∀b ps,H b=some (.tbl ps)->∃more,H' b=some (.tbl (ps++more))
section
variable {fs b ex j:List BJ}{H1 i:Hp}{h1 f:B_}{e:BJ}
def Un.any(u:Un fs ex H H1 h h1){b:BJ}{l:GD}(q:h.get? b=some l)(n:H b=none)(m:b∉ex):∃r,h1.get? b=some {l with slots:=r}:=by
 by_cases p:b∈fs
 ·exact u.slot b l q n p m
 ·exact⟨l.slots,u.keep b l q n p m⟩
def Un.trans(a:Un fs ex H H1 h h1)(b:Un fs ex H1 i h1 f):Un fs ex H i h f where
 keep:=λc ob q n hc hx=>b.keep c ob (a.keep c ob q n hc hx) (a.free c ob q n hx) hc hx
 slot:=λc ob q n hc hx=>by have⟨sl,e1⟩:=a.slot c ob q n hc hx;have⟨sl',e2⟩:=b.slot c _ e1 (a.free c ob q n hx) hc hx;exact⟨sl',e2⟩
 free:=λc ob q n hx=>by have⟨o',e1⟩:=a.there c ob q hx;exact b.free c o' e1 (a.free c ob q n hx) hx
 there:=λc ob q hx=>by have⟨o',e1⟩:=a.there c ob q hx;exact b.there c o' e1 hx
 tups:=λc xs q=>b.tups c xs (a.tups c xs q)
 frzs:=λc ob xs q=>b.frzs c ob xs (a.frzs c ob xs q)
 tbls:=λc ps q=>by have⟨m1,e1⟩:=a.tbls c ps q;have⟨m2,e2⟩:=b.tbls c _ e1;exact⟨m1++m2,by rw[e2,dU]⟩
def Un.kept(k:∀b u,h.get? b=some u->h'.get? b=some u):Un fs ex H H h h':=
 ⟨λb l q _ _ _=>k b l q,λb l q _ _ _=>⟨l.slots,k b l q⟩,λ_ _ _ n _=>n,λb l q _=>⟨l,k b l q⟩,λ_ _ q=>q,λ_ _ _ q=>q,λ_ ps q=>⟨#[],by rw[q];simp⟩⟩
def Un.refl:Un fs ex H H h h:=Un.kept λ_ _ q=>q
def Un.laid(k:∀b u,h.get? b=some u->h'.get? b=some u)(hp:h.objs.size<=a)(hn:H a=none):Un fs ex H (upd H a o) h h' where
 keep:=λb u q _ _ _=>k b u q
 slot:=λb u q _ _ _=>⟨u.slots,k b u q⟩
 free:=λb u q n _=>by rw[Ac (NK (NZ (HD q) hp))];exact n
 there:=λb u q _=>⟨u,k b u q⟩
 tups:=λb xs q=>by rw[Ac (Aw q hn)];exact q
 frzs:=λb u xs q=>by rw[Ac (Aw q hn)];exact q
 tbls:=λb ps q=>⟨#[],by rw[Ac (Aw q hn),q];simp⟩
def Un.write(m:Mut (H x))(y:e=x\/H e=some (.own x))(k:∀b u,b≠e->h.get? b=some u->h'.get? b=some u)(s:∃u,h'.get? e=some u):Un fs ex H (upd H x o) h h':=by
 have t:∀b,H b=none->b≠x:=λb n z=>by subst z;rw[n]at m;exact m
 have v:∀b,H b=none->b≠e:=λb n z=>by
  subst z;rcases y with r |r
  ·exact t b n r
  ·rw[n]at r;cases r
 have p:∀b u,H b=some u->¬ Mut (some u)->b≠x:=λb u q nm z=>by subst z;rw[q]at m;exact nm m
 refine⟨λb u q n _ _=>k b u (v b n) q,λb u q n _ _=>⟨u.slots,k b u (v b n) q⟩,λb u q n _=>by rw[Ac (t b n)];exact n,λb u q _=>?_,
  λb xs q=>by rw[Ac (p b _ q λz=>z)];exact q,λb u xs q=>by rw[Ac (p b _ q λz=>z)];exact q,λb ps q=>⟨#[],by rw[Ac (p b _ q λz=>z),q];simp⟩⟩
 by_cases l:b=e
 ·subst l;exact s
 ·exact⟨u,k b u l q⟩
end
def trk(h:B_)(H:Hp):List BJ:=(List.range h.objs.size).filter λa=>(H a).isSome
def Zn(h:B_)(H:Hp):B_:=W.hideAll h (trk h H)
def jx5(h:B_)(H:Hp):(Zn h H).objs.size=h.objs.size:=W.hideAll_size _ _
def kf8{b:BJ}{o:GD}(e:h.get? b=some o)(n:H b=none):(Zn h H).get? b=some o:=
 W.hideAll_get _ e λf=>by have q:(H b).isSome=true:=(wV.mp f).2;rw[n]at q;simp at q
def kw8{b:BJ}{o:GD}(e:(Zn h H).get? b=some o):h.get? b=some o/\H b=none:=by
 have f:h.get? b=some o:=W.of_hideAll (trk h H) e;refine⟨f,?_⟩;cases q:H b with
 |none=>rfl
 |some x=>have i:b∈trk h H:=wV.mpr ⟨dF.mpr (HD f),by simp[q]⟩;have z:(Zn h H).get? b=none:=W.hideAll_none (trk h H) i;rw[z]at e;cases e
structure Mod(K:BW)(mg:BP->Option A_)(base:B_):Prop where
 kin:K.In base
 glob:base.Ns HW mg
 blt:∃mb,base.Ns RL mb/\∀x:BP,x ≠ "__name__"->mb x=HQ x
 nolimit:base.NoLimit
structure Cx where
 prog:BX
 w:CN
 K:BW
 mg:BP->Option A_
 base:B_
 A:C_
 N:List BP
 s₀:BK
 H₀:Hp
 env:GZ
 outer:List GZ
 stack:List GZ
 ex:List BJ
 fn:BP->Bool
 calm:Bool
 pn:List (BJ×GD)
 xe:A_->BK->Prop
def frs(l:List GZ):List BJ:=l.filterMap (·.frame)
abbrev Cx.fs(X:Cx):List BJ:=frs X.outer
def Vis(sc:GX)(x:BP):Prop:=sc.names.lookup x=some .local\/sc.names.lookup x=some .cell\/sc.names.lookup x=some .free
def Loc(sc:GX)(x:BP):Prop:=sc.names.lookup x=some .local\/sc.names.lookup x=some .cell
def Look(env:GZ)(h:B_)(m:BP->Option A_)(x:BP)(u:A_):Prop:=
 (env.kindOf x=some .local/\m x=some u)\/((env.kindOf x=some .cell\/env.kindOf x=some .free)/\∃c,env.cells.lookup x=some c/\h.IsCell c (some u))
structure Cx.Ok(X:Cx):Prop where
 mod:Mod X.K X.mg X.base
 kind:X.env.scope.kind=.function
 glob:X.env.globals=HW
 blt:X.env.builtins=RL
 above:X.s₀.heap.objs.size<=X.env.locals
 inj:∀x y c,X.env.cells.lookup x=some c->X.env.cells.lookup y=some c->x=y
 has:∀x,(X.env.kindOf x=some .cell\/X.env.kindOf x=some .free)->∃c,X.env.cells.lookup x=some c
 cab:∀x c,X.fn x=true->X.env.cells.lookup x=some c->X.s₀.heap.objs.size<=c
 hd:X.calm=true->X.A.handled=none
 frames:X.A.frames=some X.stack
 stk:X.stack=X.outer\/(X.stack=X.env::X.outer/\X.env.frame=some X.env.locals)
 exf:∀b∈X.ex,b≠X.env.locals/\∀x c,X.env.cells.lookup x=some c->c≠b
 bs:∀b o,X.base.get? b=some o->X.s₀.heap.get? b=some o/\X.H₀ b=none
 bsz:X.base.objs.size<=X.s₀.heap.objs.size
 noex:∀b o,X.base.get? b=some o->b∉X.ex
 exfs:∀b∈X.ex,b∉X.fs
 funs:X.s₀.heap.FunFrames X.base X.outer
 frf:∀b∈X.fs,X.H₀ b=none
structure Inv(X:Cx)(pins:List (BJ×GD))(σ:List (Option V))(H:Hp)(s:BK):Prop where
 ok:X.Ok
 os:s.os=X.s₀.os
 bare:JZ s.gens
 base:Un X.fs X.ex X.H₀ H X.s₀.heap s.heap
 loc:∃m,s.heap.Ns X.env.locals m/\∀(i:Nat)(x:BP)(v:V),X.N[i]? = some x->σ[i]? = some (some v)->Vis X.env.scope x->∃u,RelV v u/\Look X.env s.heap m x u
 cell:∀x c,X.env.cells.lookup x=some c->∃v,s.heap.IsCell c v
 free:H X.env.locals=none
 freeC:∀x c,X.env.cells.lookup x=some c->H c=none
 pin:∀p∈X.pn++pins,s.heap.get? p.1=some p.2/\H p.1=none/\p.1≠X.env.locals/\p.1∉X.fs/\∀v,p.2.data≠.cell v
 hok:HOk X.prog X.w H s.heap
 len:σ.length=X.N.length
variable {X:Cx}{pins:List (BJ×GD)}{s:BK}
variable {u:A_}{t' i j:Nat}{it:BJ}{v:V}{s':BK}
section
variable {σ:List (Option V)}
def Cx.Ok.nofr(ok:X.Ok){b:BJ}{o:GD}(e:X.base.get? b=some o):b∉X.fs:=λf=>by have:=(ok.funs.mem f).1;rw[e]at this;cases this
def Inv.bs(I:Inv X pins σ H s):∀b o,X.base.get? b=some o->s.heap.get? b=some o/\H b=none:=λb o e =>
 ⟨I.base.keep b o (I.ok.bs b o e).1 (I.ok.bs b o e).2 (I.ok.nofr e) (I.ok.noex b o e),I.base.free b o (I.ok.bs b o e).1 (I.ok.bs b o e).2 (I.ok.noex b o e)⟩
def Inv.bk(I:Inv X pins σ H s):∀b o,X.base.get? b=some o->s.heap.get? b=some o:=λb o e=>(I.bs b o e).1
def Inv.mod(I:Inv X pins σ H s):Mod X.K X.mg X.base:=I.ok.mod
def Inv.KJ(I:Inv X pins σ H s):X.K.In s.heap:=I.ok.mod.kin.keeps I.bk
def Inv.lt(I:Inv X pins σ H s):X.env.locals<s.heap.objs.size:=let ⟨_,b,_⟩:=I.loc;b.lt
def Inv.sz(I:Inv X pins σ H s):X.s₀.heap.objs.size<=s.heap.objs.size:=RJ I.ok.above (gW I.lt)
def Inv.nofs(I:Inv X pins σ H s)(h:s.heap.objs.size<=a):a∉X.fs:=λe=>by have⟨_,o,b,_⟩:=I.ok.funs.mem e;exact absurd (NZ (HD b) (RJ I.sz h)) (QL _)
def Inv.cne(I:Inv X pins σ H s):∀x c,X.env.cells.lookup x=some c->c≠X.env.locals:=λx c e z=>by have⟨v,o,l,n⟩:=I.cell x c e;obtain⟨m,⟨p,q,r,b,f,_⟩,_⟩:=I.loc;rw[z,b]at l;cases l;rw[f]at n;cases n
def Inv.funs(I:Inv X pins σ H s):s.heap.FunFrames X.base X.outer:=by
 have all:∀(l:List GZ),(∀b∈frs l,b∈X.fs)->X.s₀.heap.FunFrames X.base l->s.heap.FunFrames X.base l:=by
  intro l;induction l with
  |nil=>intro _ _;trivial
  |cons env r q=>intro p B;obtain⟨C,⟨L,o,f,A,y,E⟩,t⟩:=B;have n:L∈X.fs:=p L (by unfold frs;rw[VD,f];exact MF);have⟨F,e⟩:=I.base.slot L o y (I.ok.frf L n) n λz=>I.ok.exfs L z n;exact⟨C,⟨L,_,f,A,e,E⟩,q (λb m=>p b (by unfold frs;rw[VD,f];exact KQ _ m)) t⟩
 exact all X.outer (λ_ m=>m) I.ok.funs
def Inv.stack(I:Inv X pins σ H s):s.heap.FunFrames X.base X.stack:=by
 rcases I.ok.stk with e | ⟨e,f⟩
 ·rw[e];exact I.funs
 ·rw[e];obtain⟨m,b,_⟩:=I.loc;refine .cons (by rw[I.ok.kind];decide) f b ?_ I.funs;exact xU (RJ I.ok.bsz I.ok.above)
def Inv.stkSub(I:Inv X pins σ H s):∀b∈frs X.stack,b∈X.env.locals::X.fs:=λb f=>by
 rcases I.ok.stk with e | ⟨e,l⟩
 ·rw[e]at f;exact KQ _ f
 ·rw[e]at f;unfold frs at f;rw[VD,l]at f;exact f
def Inv.stkFree(I:Inv X pins σ H s):∀b∈frs X.stack,H b=none:=λb f=>by
 rcases I_.mp (I.stkSub b f) with e |f
 ·rw[e];exact I.free
 ·have⟨_,o,l,_⟩:=I.ok.funs.mem f;exact I.base.free b o l (I.ok.frf b f) λz=>I.ok.exfs b z f
def Inv.step{g':Array iW}{d':Drawn}{ch:List BJ}(I:Inv X pins σ H s)
  (y:∀b∈ch,(b∈X.ex\/X.s₀.heap.objs.size<=b)/\b≠X.env.locals/\(∀x c,X.env.cells.lookup x=some c->c≠b)/\∀p∈X.pn++pins,p.1≠b)
  (keep:∀b o,b≠X.env.locals->b∉X.fs->b∉ch->s.heap.get? b=some o->H b=none->h'.get? b=some o)
  (slot:∀b o,b≠X.env.locals->b∈X.fs->b∉ch->s.heap.get? b=some o->H b=none->∃Q,h'.get? b=some {o with slots:=Q})(free:∀b o,b∉ch->s.heap.get? b=some o->H b=none->H' b=none)
  (there:∀b o,b∉ch->s.heap.get? b=some o->∃J,h'.get? b=some J)
  (F:∀b xs,H b=some (.tup xs)->H' b=some (.tup xs))(L:∀b o u,H b=some (.frz o u)->H' b=some (.frz o u))(G:∀b ps,H b=some (.tbl ps)->∃more,H' b=some (.tbl (ps++more)))
  (ns:∀m,s.heap.Ns X.env.locals m->h'.Ns X.env.locals m)(T:HOk X.prog X.w H' h')(hg:JZ g'):
  Inv X pins σ H' {s with heap:=h',gens:=g',drawn:=d',toks:=t'}:=by
 have K:∀b o,X.s₀.heap.get? b=some o->b≠X.env.locals:=λb o e=>NK (NZ (HD e) I.ok.above);have A:∀b o,X.s₀.heap.get? b=some o->b∉X.ex->b∉ch:=λb o e f C=>by
  rcases(y b C).1 with z |z
  ·exact f z
  ·exact absurd (NZ (HD e) z) (QL _)
 have cellK:∀x c,X.env.cells.lookup x=some c->∀v,s.heap.IsCell c v->h'.IsCell c v:=λx c e v ⟨o,E,U⟩=>by
  have t:c∉ch:=λz=>(y c z).2.2.1 x c e rfl;by_cases hc:c∈X.fs
  ·have⟨Q,q⟩:=slot c o (I.cne x c e) hc t E (I.freeC x c e);exact⟨_,q,U⟩
  ·exact⟨o,keep c o (I.cne x c e) hc t E (I.freeC x c e),U⟩
 refine⟨I.ok,I.os,hg,⟨λb o e n C f=>?_,λb o e n C f=>?_,λb o e n f=>?_,λb o e f=>?_,λb xs e=>F b xs (I.base.tups b xs e),λb o xs e=>L b o xs (I.base.frzs b o xs e),λb ps e=>?_⟩,?_,λx c e=>?_,?_,λx c e=>?_,λp Z=>?_,T,I.len⟩
 ·exact keep b o (K b o e) C (A b o e f) (I.base.keep b o e n C f) (I.base.free b o e n f)
 ·have⟨Q,B⟩:=I.base.slot b o e n C f;have⟨O,M⟩:=slot b _ (K b o e) C (A b o e f) B (I.base.free b o e n f);exact⟨O,M⟩
 ·have⟨J,B⟩:=I.base.there b o e f;exact free b J (A b o e f) B (I.base.free b o e n f)
 ·have⟨J,B⟩:=I.base.there b o e f;exact there b J (A b o e f) B
 ·have⟨m1,B⟩:=I.base.tbls b ps e;have⟨m2,M⟩:=G b _ B;exact⟨m1++m2,by rw[M,dU]⟩
 ·obtain⟨m,hn,hl⟩:=I.loc;refine⟨m,ns m hn,λi x v B M e3=>?_⟩;have⟨u,r,l⟩:=hl i x v B M e3;refine⟨u,r,?_⟩;rcases l with l | ⟨k,c,e,z⟩
  ·exact .inl l
  ·exact .inr ⟨k,c,e,cellK x c e _ z⟩
 ·have⟨v,z⟩:=I.cell x c e;exact⟨v,cellK x c e v z⟩
 ·obtain⟨m,⟨o,_,_,E,_⟩,_⟩:=I.loc;exact free _ o (λz=>(y _ z).2.1 rfl) E I.free
 ·have⟨v,o,E,U⟩:=I.cell x c e;exact free c o (λz=>(y c z).2.2.1 x c e rfl) E (I.freeC x c e)
 ·have⟨e,n,ne,Y,d⟩:=I.pin p Z;have t:p.1∉ch:=λz=>(y p.1 z).2.2.2 p Z rfl;exact⟨keep p.1 p.2 ne Y t e n,free p.1 p.2 t e n,ne,Y,d⟩
def Inv.un(I:Inv X pins σ H s)(u:Un X.fs [] H H' s.heap h')(l:HOk X.prog X.w H' h'):Inv X pins σ H' {s with heap:=h',toks:=t'}:=by
 have⟨m,⟨o,J,K,y,r⟩,_⟩:=id I.loc;have⟨C,B⟩:=u.any y I.free (by simp);exact I.step (g':=s.gens) (d':=s.drawn) (ch:=[]) (λ_ z=>nomatch z) (λb o _ p _ e n=>u.keep b o e n p (by simp)) (λb o _ p _ e n=>u.slot b o e n p (by simp)) (λb o _ e n=>u.free b o e n (by simp)) (λb o _ e=>u.there b o e (by simp)) u.tups u.frzs u.tbls (λG A=>by
  obtain⟨E,q,t,f,F⟩:=A;rw[y]at f;cases f;exact⟨_,q,t,B,F⟩) l I.bare
def Inv.call{g':Array iW}{d':Drawn}{ch:List BJ}(I:Inv X pins σ H s)(u:Un (frs X.stack) ch H H' s.heap h')(t:HOk X.prog X.w H' h')(G:JZ g')
  (q:∀b∈ch,(b∈X.ex\/X.s₀.heap.objs.size<=b)/\b≠X.env.locals/\(∀x c,X.env.cells.lookup x=some c->c≠b)/\∀p∈X.pn++pins,p.1≠b):
  Inv X pins σ H' {s with heap:=h',gens:=g',drawn:=d',toks:=t'}:=by
 have⟨m,⟨o,O,Q,C,r⟩,_⟩:=id I.loc;have⟨K,y⟩:=u.any C I.free λz=>(q _ z).2.1 rfl;exact I.step (ch:=ch) q (λb o y J f e n=>u.keep b o e n (λz=>(I_.mp (I.stkSub b z)).elim y J) f) (λb o _ _ f e n=>u.any e n f) (λb o f e n=>u.free b o e n f) (λb o f e=>u.there b o e f) u.tups u.frzs u.tbls (λM E=>by
  obtain⟨L,A,B,l,F⟩:=E;rw[C]at l;cases l;exact⟨_,A,B,y,F⟩) t G
def Inv.turned(I:Inv X pins σ H s)(k:∀b o,b≠it->s.heap.get? b=some o->h'.get? b=some o)(A:H it=none)(t:it≠X.env.locals)
  (h1:it∈X.ex\/X.s₀.heap.objs.size<=it)(F:∀x c,X.env.cells.lookup x=some c->c≠it)(E:∀p∈X.pn++pins,p.1≠it):Inv X pins σ H {s with heap:=h',toks:=t'}:=by
 have l:∀b u,H b=some u->b≠it:=λb u e z=>by rw[z,A]at e;cases e
 refine I.step (g':=s.gens) (d':=s.drawn) (ch:=[it]) (λb C=>?_) (λb o _ _ f e _=>k b o (λz=>f (by simp[z])) e) (λb o _ _ f e _=>⟨o.slots,k b o (λz=>f (by simp[z])) e⟩) (λ_ _ _ _ n=>n)
  (λb o f e=>⟨o,k b o (λz=>f (by simp[z])) e⟩) (λ_ _ e=>e) (λ_ _ _ e=>e) (λb ps e=>⟨#[],by rw[e];simp⟩) (λm B=>?_) (λb u e=>?_) I.bare
 ·have e:b=it:=by simpa using C
  subst e;exact⟨h1,t,F,E⟩
 ·obtain⟨o,G,J,y,r⟩:=B;exact⟨o,G,J,k _ o (Ne.symm t) y,r⟩
 ·refine(I.hok b u e).stay (λc v f q=>k c v ?_ q) (λ_ q=>q) λ_ _ q=>q;rcases f with z |z
  ·rw[z];exact l b u e
  ·exact l c _ z
def Inv.tok(I:Inv X pins σ H s)(t:Nat):Inv X pins σ H {s with toks:=t}:=I.un (h':=s.heap) (t':=t) Un.refl I.hok
def Inv.kept(I:Inv X pins σ H s)(k:∀b u,s.heap.get? b=some u->h'.get? b=some u):Inv X pins σ H {s with heap:=h',toks:=t'}:=I.un (Un.kept k) (I.hok.kept k)
def Inv.laid(I:Inv X pins σ H s)(k:∀b u,s.heap.get? b=some u->h'.get? b=some u)(e:s.heap.objs.size<=a)(new:Cj X.prog X.w (upd H a o) h' a o):
  Inv X pins σ (upd H a o) {s with heap:=h',toks:=t'}:=I.un (Un.laid k e (I.hok.fresh e)) (I.hok.laid k e new)
def Inv.write{e:BJ}(I:Inv X pins σ H s)(l:Mut (H x))(m:e=x\/H e=some (.own x))(k:∀b u,b≠e->s.heap.get? b=some u->h'.get? b=some u)(f:∃u,h'.get? e=some u)
  (new:Cj X.prog X.w (upd H x o) h' x o):Inv X pins σ (upd H x o) {s with heap:=h',toks:=t'}:=I.un (Un.write l m k f) (I.hok.write l m k f new)
def Inv.pins_of{b:List (BJ×GD)}(I:Inv X pins σ H s)(h:∀p∈b,s.heap.get? p.1=some p.2/\H p.1=none/\p.1≠X.env.locals/\p.1∉X.fs/\∀v,p.2.data≠.cell v):Inv X b σ H s:=
 ⟨I.ok,I.os,I.bare,I.base,I.loc,I.cell,I.free,I.freeC,λp e=>(ZV.mp e).elim (λz=>I.pin p (oE _ z)) (h p),I.hok,I.len⟩
def Vv{N:List BP}(e:N.Nodup){x:BP}(a:N[i]? = some x)(b:N[j]? = some x):i=j:=by have⟨n,l⟩:=MT.mp a;have⟨m,f⟩:=MT.mp b;exact(List.getElem_inj e).mp (l.trans f.symm)
theorem Yp{M:JV}{A:C_}{E:A_->BK->Prop}{x:BP}{Q:Unit->BK->Prop}(I:Inv X pins σ H s)(hN:X.N.Nodup)(Z:X.N[i]? = some x)(B:Loc X.env.scope x)(r:RelV v u)
  (h:∀s',Inv X pins (σ.set i (some v)) H s'->(∃a,Heap.SameBut a s.heap s'.heap/\(a=X.env.locals\/X.env.cells.lookup x=some a))->Q () s')(hf:X.fn x=true\/X.env.scope.names.lookup x=some .local:=by first |exact .inl rfl |exact .inr rfl |assumption):BL M A (storeName X.env x u) Q E s:=by
 have⟨m,hn,hl⟩:=id I.loc;have aa:(X.env.scope.kind == .class || (X.env.scope.kind == .module && X.env.locals != X.env.globals))=false:=by rw[I.ok.kind];rfl
 have K:i<σ.length:=by rw[I.len];exact(MT.mp Z).1
 have cne:=I.cne;have tracked:∀{a:BJ}{h':B_},(∃o,s.heap.get? a=some o/\H a=none)->Heap.SameBut a s.heap h'->HOk X.prog X.w H h':=λ{a h'} ha f b ob e=>by
  obtain⟨_,_,C⟩:=ha;refine(I.hok b ob e).stay (λc w' t q=>(f.2 c ?_).trans q) (λ_ q=>q) λ_ _ q=>q;rintro rfl;rcases t with rfl |t
  ·rw[C]at e;cases e
  ·rw[C]at t;cases t
 rcases B with J |J
 ·refine wpAny_storeName_local J hn (λh' ag f=>?_) aa;have⟨oL,_,_,af,_⟩:=id hn;refine h _ ⟨I.ok,I.os,I.bare,⟨λb o e n T B=>?_,λb o e n T B=>?_,I.base.free,λb o e B=>?_,I.base.tups,I.base.frzs,I.base.tbls⟩,⟨_,ag,λj y v' l G e3=>?_⟩,λy c e=>?_,I.free,I.freeC,λp hp=>?_,tracked ⟨oL,af,I.free⟩ f,by simpa using I.len⟩ ⟨_,f,.inl rfl⟩
  ·exact(f.2 b (NK (NZ (HD e) I.ok.above))).trans (I.base.keep b o e n T B)
  ·have⟨sl,l⟩:=I.base.slot b o e n T B;exact⟨sl,(f.2 b (NK (NZ (HD e) I.ok.above))).trans l⟩
  ·have⟨o',l⟩:=I.base.there b o e B;exact⟨o',(f.2 b (NK (NZ (HD e) I.ok.above))).trans l⟩
  ·by_cases L:j=i
   ·subst L;rw[Z]at l;cases l;rw[QD K]at G;cases G;exact⟨u,r,.inl ⟨J,by simp⟩⟩
   ·rw[JR (Ne.symm L)]at G;have⟨u',F,q⟩:=hl j y v' l G e3;refine⟨u',F,?_⟩;rcases q with ⟨k,e⟩ | ⟨k,c,e,z⟩
    ·refine .inl ⟨k,?_⟩;have:y≠x:=λe=>L (Vv hN l (e ▸ Z));simp[this,e]
    ·exact .inr ⟨k,c,e,z.sameBut f (cne y c e)⟩
  ·have⟨w',z⟩:=I.cell y c e;exact⟨w',z.sameBut f (cne y c e)⟩
  ·have⟨e,n,ne,nf,d⟩:=I.pin p hp;exact⟨(f.2 p.1 ne).trans e,n,ne,nf,d⟩
 ·have O:X.fn x=true:=by
   rcases hf with z |z
   ·exact z
   ·rw[z]at J;cases J
  have⟨c,t⟩:=I.ok.has x (.inl J);have⟨w',z⟩:=I.cell x c t;refine wpAny_storeName_cell I.ok.kind J t z (λh' ae f=>?_);have⟨oc,Y,U⟩:=id z;refine h {s with heap:=h'} ⟨I.ok,I.os,I.bare,⟨λb o e n T B=>?_,λb o e n T B=>?_,I.base.free,λb o e B=>?_,I.base.tups,I.base.frzs,I.base.tbls⟩,⟨m,hn.sameBut f (Ne.symm (cne x c t)),λj y v' l G e3=>?_⟩,λy c' e=>?_,I.free,I.freeC,λp hp=>?_,tracked ⟨oc,Y,I.freeC x c t⟩ f,by simpa using I.len⟩ ⟨c,f,.inr t⟩
  ·exact(f.2 b (NK (NZ (HD e) (I.ok.cab x c O t)))).trans (I.base.keep b o e n T B)
  ·have⟨sl,l⟩:=I.base.slot b o e n T B;exact⟨sl,(f.2 b (NK (NZ (HD e) (I.ok.cab x c O t)))).trans l⟩
  ·have⟨o',l⟩:=I.base.there b o e B;exact⟨o',(f.2 b (NK (NZ (HD e) (I.ok.cab x c O t)))).trans l⟩
  ·by_cases L:j=i
   ·subst L;rw[Z]at l;cases l;rw[QD K]at G;cases G;exact⟨u,r,.inr ⟨.inl J,c,t,ae⟩⟩
   ·rw[JR (Ne.symm L)]at G;have⟨u',F,q⟩:=hl j y v' l G e3;refine⟨u',F,?_⟩;rcases q with q | ⟨k,c',e,z'⟩
    ·exact .inl q
    ·refine .inr ⟨k,c',e,z'.sameBut f ?_⟩;rintro rfl;exact L (Vv hN l (I.ok.inj _ _ _ e t ▸ Z))
  ·by_cases ab:c'=c
   ·subst ab;exact⟨_,ae⟩
   ·have⟨w2,z2⟩:=I.cell y c' e;exact⟨w2,z2.sameBut f ab⟩
  ·have⟨e,n,ne,nf,d⟩:=I.pin p hp;refine⟨(f.2 p.1 ?_).trans e,n,ne,nf,d⟩;intro q;rw[q,Y]at e;have q':oc=p.2:=Option.some.inj e;exact d w' (by rw[<-q'];exact U)
theorem Wk{M:JV}{A:C_}{E:A_->BK->Prop}{x:BP}{Q:Unit->BK->Prop}(I:Inv X pins σ H s)(l:X.N.Nodup)(e:X.N[i]? = some x)(b:Loc X.env.scope x)(r:RelV v u)
  (h:∀s',Inv X pins (σ.set i (some v)) H s'->Q () s')(f:X.fn x=true\/X.env.scope.names.lookup x=some .local:=by first |exact .inl rfl |exact .inr rfl |assumption):BL M A (storeName X.env x u) Q E s:=
 Yp I l e b r (λs' m _=>h s' m) f
def Inv.call'{ch:List BJ}(I:Inv X pins σ H s)(n:s'.os=s.os)(u:Un (frs X.stack) ch H H' s.heap s'.heap)(f:HOk X.prog X.w H' s'.heap)(q:JZ s'.gens)
  (l:∀b∈ch,(b∈X.ex\/X.s₀.heap.objs.size<=b)/\b≠X.env.locals/\(∀x c,X.env.cells.lookup x=some c->c≠b)/\∀p∈X.pn++pins,p.1≠b):Inv X pins σ H' s':=by
 obtain⟨h',g',d',t',m⟩:=s';have e:m=s.os:=n;subst e;exact I.call (g':=g') (t':=t') (d':=d') u f q l
end
abbrev XK:=A_->Option BJ->Hp->Prop
abbrev St:=List (Option V)
abbrev VK:=V->Hp->Prop
abbrev TE:=St->Hp->VK->Prop
abbrev TT:=St->Hp->(Bool->Hp->Prop)->Prop
abbrev TA:=St->Hp->(List V->Hp->Prop)->Prop
structure Ends where
 nx:St->Hp->Prop
 rt:VK
 bk:St->Hp->Prop:=λ_ _=>False
 ct:St->Hp->Prop:=λ_ _=>False
abbrev TS:=Ends->St->Hp->Prop
def EP(X:Cx)(pins:List (BJ×GD))(b:St)(Q:VK)(u:A_)(s':BK):Prop:=∃v H',Inv X pins b H' s'/\RelV v u/\Q v H'
def TP(X:Cx)(pins:List (BJ×GD))(e:St)(Q:Bool->Hp->Prop)(b:Bool)(s':BK):Prop:=∃H',Inv X pins e H' s'/\Q b H'
def AP(X:Cx)(pins:List (BJ×GD))(e:St)(Q:List V->Hp->Prop)(us:List A_)(s':BK):Prop:=∃b H',Inv X pins e H' s'/\Vals b us/\Q b H'
def SP(X:Cx)(pins:List (BJ×GD))(D:Ends)(f:Flow)(s':BK):Prop:=
 match f with
 | .next=>∃b H',Inv X pins b H' s'/\D.nx b H'
 | .brk=>∃b H',Inv X pins b H' s'/\D.bk b H'
 | .cont=>∃b H',Inv X pins b H' s'/\D.ct b H'
 | .ret u=>∃v b H',Inv X pins b H' s'/\RelV v u/\D.rt v H'
def PE(X:Cx)(e:BZ)(t:TE):Prop:=
 ∀(pins:List (BJ×GD))(s:BK)(b:St)(H:Hp)(Q:VK),Inv X pins b H s->t b H Q->BL (BV X.prog X.w) X.A (CP e X.env) (EP X pins b Q) X.xe s
def PT(X:Cx)(e:BZ)(t:TT):Prop:=
 ∀(pins:List (BJ×GD))(s:BK)(b:St)(H:Hp)(Q:Bool->Hp->Prop),Inv X pins b H s->t b H Q->BL (BV X.prog X.w) X.A (T_ e X.env (CP e X.env)) (TP X pins b Q) X.xe s
def PW(X:Cx)(e:BZ)(t:TT):Prop:=
 ∀(whole:Sem A_)(pins:List (BJ×GD))(s:BK)(b:St)(H:Hp)(Q:Bool->Hp->Prop),Inv X pins b H s->t b H Q->BL (BV X.prog X.w) X.A (T_ e X.env whole) (TP X pins b Q) X.xe s
def PW.pt{e:BZ}{t:TT}(h:PW X e t):PT X e t:=h _
def PA(X:Cx)(e:List BZ)(t:TA):Prop:=
 ∀(pos:GP)(pins:List (BJ×GD))(s:BK)(b:St)(H:Hp)(Q:List V->Hp->Prop),Inv X pins b H s->t b H Q->BL (BV X.prog X.w) X.A (spliced (GJ pos (BR e X.env))) (AP X pins b Q) X.xe s
def PS(X:Cx)(st:CQ)(t:TS):Prop:=
 ∀(pins:List (BJ×GD))(s:BK)(b:St)(H:Hp)(D:Ends),Inv X pins b H s->t D b H->BL (BV X.prog X.w) X.A (exec st X.env) (SP X pins D) X.xe s
def PSs(X:Cx)(st:List CQ)(t:TS):Prop:=
 ∀(pins:List (BJ×GD))(s:BK)(b:St)(H:Hp)(D:Ends),Inv X pins b H s->t D b H->BL (BV X.prog X.w) X.A (execs st X.env) (SP X pins D) X.xe s
def thn{b:Type}{t:Sem b}{Q e:b->BK->Prop}{M:JV}{A:C_}{E:A_->BK->Prop}(h:BL M A t Q E s)(f:∀a s,Q a s->e a s):BL M A t e E s:=DP h f λ_ _ x=>x
def thG{f b:Type}{t:Sem b}{e:St}{R:f->b->Prop}{Q:f->Hp->Prop}{l:b->BK->Prop}{M:JV}{A:C_}{E:A_->BK->Prop}
  (h:BL M A t (λu s'=>∃v H',Inv X pins e H' s'/\R v u/\Q v H') E s)(k:∀u s' v H',Inv X pins e H' s'->R v u->Q v H'->l u s'):BL M A t l E s:=DP h (λu s' q=>let ⟨v,H',I,r,z⟩:=q;k u s' v H' I r z) λ_ _ x=>x
variable {b:BZ}{pos:GP}{B:TE}
variable {Q:A_->BK->Prop}
section
def eO(i:Nat):TE:=λe H Q=>∃v,e[i]? = some (some v)/\Q v H
def tC(v:V):TE:=λ_ H Q=>Q v H
def V0{x:BP}(G:X.N[i]? = some x)(A:Vis X.env.scope x)(q:Zd x:=by decide)(t:(x == ("__classdict__" : BP))=false:=by decide):PE X (.Name x pos) (eO i):=by
 intro pins s z H Q I h;obtain⟨v,e,h⟩:=h;obtain⟨m,C,F⟩:=I.loc;have⟨u,r,l⟩:=F i x v G e A;have p:EP X pins z Q u s:=⟨v,H,I,r,h⟩;rcases l with ⟨n,E⟩ | ⟨n,c,y,f⟩
 ·exact W3 (wpAny_loadName_local I.ok.kind n C E p) q
 ·rcases n with n |n
  ·exact W3 (wpAny_loadName_cell I.ok.kind n y f p) q
  ·exact W3 (wpAny_loadName_free I.ok.kind n y f p t) q
def wm5{i j pos}:PE X (.Constant (.int i) j pos) (tC (.int i)):=λ_ _ _ H _ I h=>wpAny_Constant_int ⟨.int i,H,I.tok _,⟨_,rfl⟩,h⟩
def wz4{b j pos}:PE X (.Constant (.bool b) j pos) (tC (.bl b)):=λ_ _ _ H _ I h=>Constant_bool ⟨.bl b,H,I,rfl,h⟩
def wm6{j pos}:PE X (.Constant .none j pos) (tC .non):=λ_ _ _ H _ I h=>Constant_none ⟨.non,H,I,rfl,h⟩
def Z7{x j pos}:PE X (.Constant (.str x) j pos) (tC (.str x)):=λ_ _ _ H _ I h=>Calls.Constant_str ⟨.str x,H,I.tok _,⟨_,rfl⟩,h⟩
def Gl(X:Cx)(x:BP):Prop:=X.env.kindOf x=some .globalImplicit
def Gy{E:A_->BK->Prop}{e:St}{x:BP}(I:Inv X pins e H s)(l:Gl X x)(f:X.mg x=some u)(h:Q u s)
  (m:Zd x:=by decide):BL (BV X.prog X.w) X.A (CP (.Name x pos) X.env) Q E s:=
 Calls.Name_function_global I.ok.kind l (Calls.loadGlobal_global (by rw[I.ok.glob];exact I.mod.glob.keeps I.bk) f h) m
def Rw{E:A_->BK->Prop}{e:St}{x:BP}(I:Inv X pins e H s)(n:Gl X x)(m:X.mg x=none)(f:HQ x=some u)(h:Q u s)
  (l:x ≠ "__name__":=by decide)(p:Zd x:=by decide):BL (BV X.prog X.w) X.A (CP (.Name x pos) X.env) Q E s:=by
 obtain⟨t,r,q⟩:=I.mod.blt;exact Calls.Name_function_global I.ok.kind n (Calls.loadGlobal_builtin (by rw[I.ok.glob];exact I.mod.glob.keeps I.bk) m (by rw[I.ok.blt];exact r.keeps I.bk) ((q x l).trans f) h) p
def Z5{x:BP}(f:Gl X x)(e:X.mg x=some u)(r:RelV v u)(l:Zd x:=by decide):PE X (.Name x pos) (tC v):=
 λ_ _ _ H _ I h=>Gy I f e ⟨v,H,I,r,h⟩ l
def kx4{x:BP}(m:Gl X x)(l:X.mg x=none)(e:HQ x=some u)(r:RelV v u)(f:x ≠ "__name__":=by decide)(n:Zd x:=by decide):PE X (.Name x pos) (tC v):=
 λ_ _ _ H _ I h=>Rw I m l e ⟨v,H,I,r,h⟩ f n
variable {a:BZ}{tb:TE}
def PC(X:Cx)(m:M_)(a b:BZ)(t:TE):Prop:=
 ∀(pins:List (BJ×GD))(s:BK)(l:St)(H:Hp)(Q:VK),Inv X pins l H s->t l H Q ->
  BL (BV X.prog X.w) X.A (CP a X.env) (λv f=>BL (BV X.prog X.w) X.A (CP b X.env) (λu e=>BL (BV X.prog X.w) X.A (CG m v u) (EP X pins l Q) X.xe e) X.xe f) X.xe s
def tB(t:TE):TT:=λe H Q=>t e H λx f=>∃c,x=.bl c/\Q c f
def rW{e:M_}{t:TE}(h:PC X e a b t)(h1:DX e b=false:=by first |exact nobehind _ (by decide) (by decide) |rfl):PT X (.Compare a [e] [b] pos) (tB t):=by intro pins s f H Q I n;refine UW (thn (h pins s f H _ I n) λv C h1=>thn h1 λu A p=>thn p λc z ⟨x,y,r,l,m⟩=>?_) h1;obtain⟨d,rfl,q⟩:=m;cases l;exact DR ⟨y,r,q⟩
variable {f e:TT}{rest:List BZ}
def yR(t u:TT):TT:=λl H Q=>t l H λc m=>if c=true then u l m Q else Q false m
def tOr(t u:TT):TT:=λl H Q=>t l H λc m=>if c=true then Q true m else u l m Q
def yL(t:TT):TT:=λl H Q=>t l H λc m=>Q (!c) m
def ky7(m:PT X a f):PW X (.BoolOp .And [a] pos) f:=by
 intro n pins s l H Q I h;refine isTrue_and (thn (m pins s l H Q I h) λc p e=>?_);cases c with
 |true=>exact isTrue_and_nil e
 |false=>exact e
def wn5(m:PT X a f):PW X (.BoolOp .Or [a] pos) f:=by
 intro n pins s l H Q I h;refine isTrue_or (thn (m pins s l H Q I h) λc p e=>?_);cases c with
 |false=>exact isTrue_or_nil e
 |true=>exact e
def wn4(z:PT X a f)(y:PW X (.BoolOp .And (b::rest) pos) e):PW X (.BoolOp .And (a::b::rest) pos) (yR f e):=by
 intro r pins s m H Q I h;refine isTrue_and (thn (z pins s m H _ I h) λc t l=>?_);obtain⟨q,p,n⟩:=l;cases c with
 |true=>exact y r pins t m q Q p n
 |false=>exact⟨q,p,n⟩
def wz8(z:PT X a f)(y:PW X (.BoolOp .Or (b::rest) pos) e):PW X (.BoolOp .Or (a::b::rest) pos) (tOr f e):=by
 intro r pins s m H Q I h;refine isTrue_or (thn (z pins s m H _ I h) λc t l=>?_);obtain⟨q,p,n⟩:=l;cases c with
 |true=>exact⟨q,p,n⟩
 |false=>exact y r pins t m q Q p n
def wn2(m:PT X a f):PT X (.UnaryOp .Not a pos) (yL f):=by intro pins s l H Q I h;exact isTrue_not (m pins s l H (λc n=>Q (!c) n) I h)
def ya7(B tb:TE):TE:=λl H Q=>B l H λx m=>∃c,x=.bl c/\if c=true then tb l m Q else Q (.bl false) m
def yK(B tb:TE):TE:=λl H Q=>B l H λx m=>∃c,x=.bl c/\if c=true then Q (.bl true) m else tb l m Q
def wm7{op}{t:TE}(h:PE X a t):PE X (.BoolOp op [a] pos) t:=λpins s l H Q I m=>BoolOp_one (h pins s l H Q I m)
def wm4(y:PE X a B)(t:PE X (.BoolOp .And (b::rest) pos) tb):PE X (.BoolOp .And (a::b::rest) pos) (ya7 B tb):=by
 intro pins s m H Q I h;refine BoolOp_and (thG (y pins s m H _ I h) λv q x p n r l=>?_);obtain⟨c,rfl,l⟩:=l;cases r;refine DR ?_;cases c with
 |true=>exact t pins q m p Q n l
 |false=>exact⟨.bl false,p,n,rfl,l⟩
def wz6(y:PE X a B)(t:PE X (.BoolOp .Or (b::rest) pos) tb):PE X (.BoolOp .Or (a::b::rest) pos) (yK B tb):=by
 intro pins s m H Q I h;refine BoolOp_or (thG (y pins s m H _ I h) λv q x p n r l=>?_);obtain⟨c,rfl,l⟩:=l;cases r;refine DR ?_;cases c with
 |false=>exact t pins q m p Q n l
 |true=>exact⟨.bl true,p,n,rfl,l⟩
def tIf(t:TT)(B tb:TE):TE:=λl H Q=>t l H λc m=>if c=true then B l m Q else tb l m Q
def kj6{c:BZ}(t:PT X c f)(z:PE X a B)(y:PE X b tb):PE X (.IfExp c a b pos) (tIf f B tb):=by
 intro pins s l H Q I h;refine wpAny_IfExp (thn (t pins s l H _ I h) λd n m=>?_);obtain⟨r,q,p⟩:=m;cases d with
 |true=>exact z pins n l r Q q p
 |false=>exact y pins n l r Q q p
end
def SqL(K:BW)(H:Hp)(a:BJ)(xs:List V):Prop:=
 Rd H a (.lst xs) \/
  ∃(o:GD)(its:Array A_)(n:Nat),K.lookup a=some o/\o.cls=.type "list"/\o.dict=none/\o.data=.seq its n/\its.size<=sizeLine/\Vals xs its.toList
def SqT(K:BW)(H:Hp)(a:BJ)(xs:List V):Prop:=
 Rd H a (.tup xs) \/
  ∃(o:GD)(its:Array A_)(n:Nat),K.lookup a=some o/\o.cls=.type "tuple"/\o.data=.seq its n/\its.size<=sizeLine/\Vals xs its.toList
def yd3:A_->Option V
 | .none=>some .non
 | .bool b=>some (.bl b)
 | .int i _=>some (.int i)
 | .str x _=>some (.str x)
 | .bytes b _=>some (.byt b)
 | .float b _=>some (.flt b)
 | .ref a=>some (.ref a)
 | .type n=>some (.ty n)
 |_=>none
def RelV.abs{x:V}(r:RelV x u):yd3 u=some x:=by
 cases x with
 |non=>cases r;rfl
 |bl _=>cases r;rfl
 |int _=>obtain⟨t,rfl⟩:=r;rfl
 |str _=>obtain⟨t,rfl⟩:=r;rfl
 |byt _=>obtain⟨t,rfl⟩:=r;rfl
 |flt _=>obtain⟨t,rfl⟩:=r;rfl
 |ref _=>cases r;rfl
 |ty _=>cases r;rfl
variable {y:V}
def RelV.inj{x:V}(r:RelV x u)(q:RelV y u):x=y:=Option.some.inj (r.abs.symm.trans q.abs)
def Vals.inj(h:Vals xs us):Vals ys us->xs=ys:=by
 induction h generalizing ys with
 |nil=>intro e;cases e;rfl
 |cons r t f =>
  intro e;cases e with
  |cons F t'=>rw[r.inj F,f t']
variable {σ:St}
variable {K:BW}
section
variable {xs ys:List V}
def SqL.of(h:H a=some (.lst xs)):SqL K H a xs:=.inl (.inl h)
theorem Inv.list(I:Inv X pins σ H s)(h:SqL X.K H a xs):∃f:List A_,Vals xs f/\PlainL s.heap a f.toArray/\xs.length<=sizeLine:=by
 rcases h with h | ⟨o,f,n,m,q,p,l,t,r⟩
 ·have⟨z,f,n,r,e⟩:=h.ok I.hok;exact⟨f,r,⟨_,n,e,rfl,rfl,rfl⟩,z⟩
 ·refine⟨f.toList,r,⟨o,n,I.KJ a o m,q,p,by simpa using l⟩,?_⟩;have e:=r.length;simp only[n8]at e;lia
theorem Inv.tuple(I:Inv X pins σ H s)(h:SqT X.K H a xs):∃f:List A_,Vals xs f/\QZ s.heap a f.toArray/\xs.length<=sizeLine:=by
 rcases h with h | ⟨o,f,n,m,q,l,t,r⟩
 ·have⟨z,f,r,p⟩:=h.ok I.hok;exact⟨f,r,p,z⟩
 ·refine⟨f.toList,r,⟨o,I.KJ a o m,q,n,by simpa using l⟩,?_⟩;have e:=r.length;simp only[n8]at e;lia
def Inv.list_inj(I:Inv X pins σ H s)(h:SqL X.K H a xs)(h':SqL X.K H a ys):xs=ys:=by
 have⟨l,r,⟨o,n,e,_,_,d⟩,_⟩:=I.list h;have⟨f,F,⟨t,z,m,_,_,p⟩,_⟩:=I.list h';rw[e]at m;cases m;rw[d]at p;injection p with q _;have:l=f:=by simpa using congrArg Array.toList q
 subst this;exact r.inj F
def Inv.tuple_inj(I:Inv X pins σ H s)(h:SqT X.K H a xs)(h':SqT X.K H a ys):xs=ys:=by
 have⟨l,r,⟨o,e,_,n,d⟩,_⟩:=I.tuple h;have⟨f,F,⟨t,m,_,z,p⟩,_⟩:=I.tuple h';rw[e]at m;cases m;rw[d]at p;injection p with q _;have:l=f:=by simpa using congrArg Array.toList q
 subst this;exact r.inj F
end
abbrev Cx.wish(X:Cx)(E:A_->BK->Prop):Cx:={X with xe:=E}
abbrev Cx.nox(X:Cx):Cx:=X.wish λ_ _=>False
def Cx.Ok.wish(ok:X.Ok)(E:A_->BK->Prop):(X.wish E).Ok:=
 ⟨ok.mod,ok.kind,ok.glob,ok.blt,ok.above,ok.inj,ok.has,ok.cab,ok.hd,ok.frames,ok.stk,ok.exf,ok.bs,ok.bsz,ok.noex,ok.exfs,ok.funs,ok.frf⟩
def Cx.Ok.unwish{E:A_->BK->Prop}(ok:(X.wish E).Ok):X.Ok:=
 ⟨ok.mod,ok.kind,ok.glob,ok.blt,ok.above,ok.inj,ok.has,ok.cab,ok.hd,ok.frames,ok.stk,ok.exf,ok.bs,ok.bsz,ok.noex,ok.exfs,ok.funs,ok.frf⟩
variable {E:A_->BK->Prop}
def Inv.wish(I:Inv X pins σ H s)(E:A_->BK->Prop):Inv (X.wish E) pins σ H s:=⟨I.ok.wish E,I.os,I.bare,I.base,I.loc,I.cell,I.free,I.freeC,I.pin,I.hok,I.len⟩
def Inv.unwish(I:Inv (X.wish E) pins σ H s):Inv X pins σ H s:=⟨I.ok.unwish,I.os,I.bare,I.base,I.loc,I.cell,I.free,I.freeC,I.pin,I.hok,I.len⟩
def SP.unwish{D:Ends}{f:Flow}(h:SP (X.wish E) pins D f s'):SP X pins D f s':=by
 cases f with
 |next=>obtain⟨e,H',I,q⟩:=h;exact⟨e,H',I.unwish,q⟩
 |brk=>obtain⟨e,H',I,q⟩:=h;exact⟨e,H',I.unwish,q⟩
 |cont=>obtain⟨e,H',I,q⟩:=h;exact⟨e,H',I.unwish,q⟩
 |ret u=>obtain⟨v,e,H',I,r,q⟩:=h;exact⟨v,e,H',I.unwish,r,q⟩
def PSs.nox{st:List CQ}{t:TS}(h:PSs X.nox st t):PSs X st t:=λpins s σ H D I e =>
 DP (h pins s σ H D (I.wish _) e) (λ_ _ q=>q.unwish) λ_ _ z=>False.elim z
variable {e:BZ}{G:TE}
section
variable {st:CQ}{rest:List CQ}{t u:TS}
def yb6:TS:=λD σ H=>D.nx σ H
def yI(t u:TS):TS:=λD σ H=>t {D with nx:=u D} σ H
def uA:PSs X [] yb6:=λ_ _ σ H _ I h=>JP ⟨σ,H,I,h⟩
def G6(h1:PS X st t)(n:PSs X rest u):PSs X (st::rest) (yI t u):=by
 intro pins s σ H D I h;refine LK (thn (h1 pins s σ H {D with nx:=u D} I h) λf m q=>?_);cases f with
 |next=>obtain⟨l,H',p,q⟩:=q;exact n pins m l H' D p q
 |ret v=>exact q
 |brk=>exact q
 |cont=>exact q
def Fw(h1:PS X st t):PSs X [st] t:=by
 intro pins s σ H D I h;refine LK (thn (h1 pins s σ H D I h) λf l q=>?_);cases f with
 |next=>exact JP q
 |ret v=>exact q
 |brk=>exact q
 |cont=>exact q
def Inv.quiet(I:Inv X pins σ H s):interactive X.env=false:=by simp[interactive,I.ok.kind]
def yb2(G:TE):TS:=λD σ H=>G σ H λ_ f=>D.nx σ f
def Z9(l:PE X e G)(hs:CW e none pos.line X.env=pure false:=by rfl):PS X (.Expr e pos) (yb2 G):=by intro pins s σ H D I h;exact wpAny_Expr_any (thG (l pins s σ H _ I h) λv p x n m q f=>⟨σ,n,m,f⟩) I.quiet hs
def yJ(G:TE):TS:=λD σ H=>G σ H D.rt
def gQ(m:PE X e G):PS X (.Return (some e) pos) (yJ G):=by intro pins s σ H D I h;exact YW (thG (m pins s σ H _ I h) λv q x p n f l=>⟨x,σ,p,n,f,l⟩)
def yN(c:TT)(t u:TS):TS:=λD σ H=>c σ H λb f=>if b=true then t D σ f else u D σ f
def j4{c:BZ}{a b:List CQ}{q:TT}(r:PT X c q)(A:PSs X a t)(z:PSs X b u):PS X (.If c a b pos) (yN q t u):=by
 intro pins s σ H D I h;refine wpAny_If (thn (r pins s σ H _ I h) λd l f=>?_);obtain⟨p,n,m⟩:=f;cases d with
 |true=>exact A pins l σ p D n m
 |false=>exact z pins l σ p D n m
end
abbrev TG:=V->St->Hp->(St->Hp->Prop)->Prop
abbrev TGs:=List V->St->Hp->(St->Hp->Prop)->Prop
def PG(X:Cx)(target:BZ)(t:TG):Prop:=
 ∀(pins:List (BJ×GD))(s:BK)(σ:St)(H:Hp)(v:V)(u:A_)(Q:St->Hp->Prop),Inv X pins σ H s->RelV v u->t v σ H Q ->
  BL (BV X.prog X.w) X.A (RM target X.env u) (λ_ s'=>∃f H',Inv X pins f H' s'/\Q f H') X.xe s
def PGs(X:Cx)(ts:List BZ)(t:TGs):Prop:=
 ∀(pins:List (BJ×GD))(s:BK)(σ:St)(H:Hp)(vs:List V)(us:List A_)(Q:St->Hp->Prop),Inv X pins σ H s->Vals vs us->t vs σ H Q ->
  BL (BV X.prog X.w) X.A (assignInOrder ((F_ ts X.env).map (·.2)) us) (λ_ s'=>∃f H',Inv X pins f H' s'/\Q f H') X.xe s
def qO(i:Nat):TG:=λv σ H Q=>Q (σ.set i (some v)) H
theorem Z8{x:BP}(n:X.N.Nodup)(l:X.N[i]? = some x)(f:Loc X.env.scope x)(m:X.fn x=true\/X.env.scope.names.lookup x=some .local:=by first |exact .inl rfl |exact .inr rfl |assumption):PG X (.Name x pos) (qO i):=by intro pins s σ H v u Q I r h;exact YT (Wk I n l f r (λs' p=>⟨_,H,p,h⟩) m)
def zW:TGs:=λf σ H Q=>f=[]/\Q σ H
def wv2(t:TG)(u:TGs):TGs:=λl σ H Q=>∃v r,l=v::r/\t v σ H λf H'=>u r f H' Q
def kx8:PGs X [] zW:=by intro pins s σ H f us Q I r h;obtain⟨e,h⟩:=h;subst e;cases r;exact assignInOrder_nil ⟨σ,H,I,h⟩
def kk4{f:List BZ}{t:TG}{u:TGs}(h1:PG X e t)(z:PGs X f u)
  (hs:(F_ (e::f) X.env).map (·.2)=RM e X.env::(F_ f X.env).map (·.2):=by rfl):PGs X (e::f) (wv2 t u):=by
 intro pins s σ H J us Q I r h;obtain⟨v,L,A,h⟩:=h;subst A;cases r with
 |cons r p=>rw[hs];refine assignInOrder_cons (thn (h1 pins s σ H _ _ _ I r h) λ_ n m=>?_);obtain⟨l,F,C,q⟩:=m;exact z pins n l F _ _ Q C p q
def zV(K:BW)(n:Nat)(t:TGs):TG:=λv σ H Q=>∃a xs,v=.ref a/\SqT K H a xs/\xs.length=n/\t xs σ H Q
variable {n:Nat}
def wm8{f:List BZ}{k:Nat}{t:TGs}(L:X.calm=true)(h:PGs X f t)
  (F:(F_ f X.env).length=n:=by rfl)(m:(F_ f X.env).findIdx? (·.1)=none:=by rfl):PG X (.Tuple f k pos) (zV X.K n t):=by
 intro pins s σ H v u Q I r l;obtain⟨a,xs,M,C,J,l⟩:=l;subst M;cases r;have⟨q,p,A,T⟩:=I.tuple C;refine assign_Tuple_tuple (I.ok.hd L) A (by simp[F,<-J,p.length]) m λh' z=>?_;have O:Inv X pins σ H {s with heap:=h'}:=I.kept (t':=s.toks) λb o e=>z b o (NK (HD e)) e;exact h pins _ σ H xs _ Q O (by simpa using p) l
def oM(G:TE)(g:TG):TS:=λD σ H=>G σ H λx f=>g x σ f D.nx
variable {tg:BZ}
def wn0{g:TG}(t:PE X e G)(r:PG X tg g)(hs:swapsWithSole [tg] e pos.line X.env=pure false:=by rfl)(p:swappedStores [tg] e X.env=pure none:=by rfl)
  (h1:(F_ [tg] X.env).map (·.2)=[RM tg X.env]:=by rfl):PS X (.Assign [tg] e pos) (oM G g):=by
 intro pins s σ H D I h;refine wpAny_Assign_stores (thG (t pins s σ H _ I h) λv f x A z l m=>?_) hs p;rw[h1];exact thn (r pins f σ A x v _ z l m) λ_ C q=>q
theorem O5{x:BP}{pos':GP}(t:X.N.Nodup)(p:X.N[i]? = some x)(m:Loc X.env.scope x)(r:PE X e G)(hs:CW e (some (.Name x pos')) pos.line X.env=pure false:=by rfl)(q:X.fn x=true\/X.env.scope.names.lookup x=some .local:=by first |exact .inl rfl |exact .inr rfl |assumption):
  PS X (.Assign [.Name x pos'] e pos) (oM G (qO i)):=by
 intro pins s σ H D I h;refine wpAny_Assign_Name (thG (r pins s σ H _ I h) λv J y C A f l=>?_) hs;exact Wk A t p m f (λF z=>⟨_,C,z,l⟩) q
structure It where
 go:Nat->Hp->Prop
 yld:Nat->Hp->V->Hp->Prop
 stop:Nat->Hp->Prop
def Lz(X:Cx)(pins:List (BJ×GD))(H:Hp)(b:BJ):Prop:=
 H b=none/\b≠X.env.locals/\b∉X.fs/\(b∈X.ex\/X.s₀.heap.objs.size<=b)/\(∀x c,X.env.cells.lookup x=some c->c≠b)/\∀p∈X.pn++pins,p.1≠b
def Inv.fpOk{b:BJ}(I:Inv X pins σ H s)(f:s.heap.objs.size<=b)(m:H' b=none):Lz X pins H' b:=by
 refine⟨m,VM (NZ I.lt f),I.nofs f,.inr (RJ I.sz f),λx c e z=>?_,λp l z=>?_⟩
 ·have⟨v,q⟩:=I.cell x c e;exact absurd (NZ q.lt (by rw[z];exact f)) (QL _)
 ·exact absurd (NZ (HD (I.pin p l).1) (by rw[z];exact f)) (QL _)
structure Turn(P:BX)(w:CN)(K:BW)(tg:BZ)(J:It)(fp:List BJ)(it:BJ)(tn:Nat->B_->Prop):Prop where
 mem:it∈fp
 obj:∀i h,tn i h->∀b∈fp,∃o,h.get? b=some o/\∀v,o.data≠.cell v
 keep:∀i h h',tn i h->(∀b∈fp,∀o,h.get? b=some o->h'.get? b=some o)->tn i h'
 item:∀(X:Cx),X.prog=P->X.w=w->X.K=K->X.calm=true->∀(i:Nat)(pins:List (BJ×GD))(s:BK)(σ:St)(H:Hp)(E:A_->BK->Prop),Inv X pins σ H s->(∀b∈fp,Lz X pins H b)->tn i s.heap->J.go i H ->
  BL (BV P w) X.A (LC (.ref it)) (λr s1=>∃u,r=some u /\
   BL (BV P w) X.A (MP tg (.ref it) u) (λ_ s2=>∃x H',Inv X pins σ H' s2/\RelV x u/\J.yld i H x H'/\tn (i+1) s2.heap/\∀b∈fp,H' b=none) E s1) E s
 done:∀(X:Cx),X.prog=P->X.w=w->X.K=K->X.calm=true->∀(i:Nat)(pins:List (BJ×GD))(s:BK)(σ:St)(H:Hp)(E:A_->BK->Prop),Inv X pins σ H s->(∀b∈fp,Lz X pins H b)->tn i s.heap->J.stop i H ->
  BL (BV P w) X.A (LC (.ref it)) (λr s1=>r=none/\Inv X pins σ H s1) E s
 self:∀(A:C_)(i:Nat)(s:BK)(Q:A_->BK->Prop)(E:A_->BK->Prop),tn i s.heap->Q (.ref it) s->BL (BV P w) A (XF (.ref it)) Q E s
abbrev TI:=St->Hp->(It->Hp->Prop)->Prop
def PIE(X:Cx)(pins:List (BJ×GD))(σ:St)(tg:BZ)(R:It->Hp->Prop)(f:A_)(l:BK):Prop:=
 ∃(it:BJ)(m:List BJ)(tn:Nat->B_->Prop)(J:It)(H':Hp),f=.ref it/\Inv X pins σ H' l/\Turn X.prog X.w X.K tg J m it tn/\tn 0 l.heap/\(∀b∈m,Lz X pins H' b)/\R J H'
def PI(X:Cx)(tg iter:BZ)(f:TI):Prop:=
 ∀(pins:List (BJ×GD))(s:BK)(σ:St)(H:Hp)(R:It->Hp->Prop),Inv X pins σ H s->f σ H R ->
  BL (BV X.prog X.w) X.A (CP iter X.env) (λv l=>BL (BV X.prog X.w) X.A (XF v) (PIE X pins σ tg R) X.xe l) X.xe s
def cU{M:JV}{A:C_}{o:GD}{n:String}{vs:Array A_}{Q:Unit->BK->Prop}(l:s.heap.get? it=some o)(q:o.cls=.type n)(p:o.data=.fields vs)
  (m:["enumerate","zip","dict_itemiterator","dict_reverseitemiterator","odict_iterator","itertools.zip_longest","itertools.pairwise"].contains n=false)(f:Q () s):BL M A (MP tg (.ref it) u) Q E s:=by
 unfold MP;cases tg<;>first
  |exact FZ f
  | (cases u<;>first
    |exact FZ f
    | (refine CK (wpAny_load l ?_)
       rw[q,p];show BL M A (if(["enumerate","zip","dict_itemiterator","dict_reverseitemiterator","odict_iterator","itertools.zip_longest","itertools.pairwise"].contains n && vs[0]? == some (FW _))=true then _ else _) Q E s;rw[if_neg (by intro h;rw[m,Bool.false_and]at h;cases h)];exact FZ f))
def Itl(K:BW)(a:BJ):It:=
 ⟨λi H=>∃xs x,SqL K H a xs/\xs[i]? = some x,λi H x H'=>H'=H/\∀xs,SqL K H a xs->xs[i]? = some x,λi H=>∃xs,SqL K H a xs/\xs.length<=i⟩
def Itt(K:BW)(a:BJ):It:=
 ⟨λi H=>∃xs x,SqT K H a xs/\xs[i]? = some x,λi H x H'=>H'=H/\∀xs,SqT K H a xs->xs[i]? = some x,λi H=>∃xs,SqT K H a xs/\xs.length<=i⟩
def Itr(f:Int)(n:Nat):It:=⟨λi _=>i<n,λi H x H'=>H'=H/\x=.int (f+i),λi _=>n<=i⟩
theorem kb7(a it:BJ):Turn P w K tg (Itl K a) [it] it (λi h=>h.IsListIter it a i) where
 mem:=by simp
 obj:=λi h st b hb=>by
  have e:b=it:=by simpa using hb
  subst e;obtain⟨o,e,c,d⟩:=st;exact⟨o,e,λv z=>by rw[d]at z;cases z⟩
 keep:=λi h h' st k=>st.at λo e=>k it (by simp) o e
 item:=by intro X hP hw hK hc i pins s σ H E I hf st hg;subst hP hw hK;obtain⟨xs,x,hq,hx⟩:=hg;have⟨its,rv,p,hz⟩:=I.list hq;have⟨u,hu,ru⟩:=rv.get hx;have⟨f0,f1,f2,f3,f4,f5⟩:=hf it (by simp);refine wpAny_pyNext_list_item st p.isList (x:=u) (by simpa using hu) λh' st' sb=>?_;have I1:Inv X pins σ H {s with heap:=h'}:=I.turned (t':=s.toks) (λb o hb e=>(sb.2 b hb).trans e) f0 f1 f3 f4 f5;have⟨o,e,c,d⟩:=id st';exact⟨u,rfl,cU (s:={s with heap:=h'}) e c d (by decide) ⟨x,H,I1,ru,⟨rfl,λys hy=>by rw[I.list_inj hy hq];exact hx⟩,st',λb hb=>(hf b hb).1⟩⟩
 done:=by intro X hP hw hK hc i pins s σ H E I hf st hg;subst hP hw hK;obtain⟨xs,hq,hx⟩:=hg;have⟨its,rv,p,hz⟩:=I.list hq;have⟨f0,f1,f2,f3,f4,f5⟩:=hf it (by simp);have hl:=rv.length;exact wpAny_pyNext_list_end (I.ok.hd hc) st p.isList (by simp;lia) λh' eb=>⟨rfl,I.turned (t':=s.toks) (λb o hb e=>eb b o hb e) f0 f1 f3 f4 f5⟩
 self:=λ_ _ _ _ _ st h=>wpAny_pyIter_listiter st h
theorem jp8(a it:BJ):Turn P w K tg (Itt K a) [it] it (λi h=>h.IsTupleIter it a i) where
 mem:=by simp
 obj:=λi h st b hb=>by
  have e:b=it:=by simpa using hb
  subst e;obtain⟨o,e,c,d⟩:=st;exact⟨o,e,λv z=>by rw[d]at z;cases z⟩
 keep:=λi h h' st k=>st.at λo e=>k it (by simp) o e
 item:=by intro X hP hw hK hc i pins s σ H E I hf st hg;subst hP hw hK;obtain⟨xs,x,hq,hx⟩:=hg;have⟨its,rv,p,hz⟩:=I.tuple hq;have⟨u,hu,ru⟩:=rv.get hx;have⟨f0,f1,f2,f3,f4,f5⟩:=hf it (by simp);refine wpAny_pyNext_tuple_item st (show s.heap.IsTuple a its.toArray from p) (x:=u) (by simpa using hu) λh' st' sb=>?_;have I1:Inv X pins σ H {s with heap:=h'}:=I.turned (t':=s.toks) (λb o hb e=>(sb.2 b hb).trans e) f0 f1 f3 f4 f5;have⟨o,e,c,d⟩:=id st';exact⟨u,rfl,cU (s:={s with heap:=h'}) e c d (by decide) ⟨x,H,I1,ru,⟨rfl,λys hy=>by rw[I.tuple_inj hy hq];exact hx⟩,st',λb hb=>(hf b hb).1⟩⟩
 done:=by intro X hP hw hK hc i pins s σ H E I hf st hg;subst hP hw hK;obtain⟨xs,hq,hx⟩:=hg;have⟨its,rv,p,hz⟩:=I.tuple hq;have⟨f0,f1,f2,f3,f4,f5⟩:=hf it (by simp);have hl:=rv.length;exact wpAny_pyNext_tuple_end (I.ok.hd hc) st (show s.heap.IsTuple a its.toArray from p) (by simp;lia) λh' eb=>⟨rfl,I.turned (t':=s.toks) (λb o hb e=>eb b o hb e) f0 f1 f3 f4 f5⟩
 self:=λ_ _ _ _ _ st h=>wpAny_pyIter_tupleiter st h
theorem jp7(it:BJ)(lo:Int)(n:Nat):Turn P w K tg (Itr lo n) [it] it (λi h=>IsRangeIter h it (lo+(i:Nat) * 1) ((n:Int) - (i:Nat)) 1) where
 mem:=by simp
 obj:=λi h st b hb=>by
  have e:b=it:=by simpa using hb
  subst e;exact⟨_,st,λv z=>by
   have z':Data.fields _=Data.cell v:=z;cases z'⟩
 keep:=λi h h' st k=>k it (by simp) _ st
 item:=by intro X hP hw hK hc i pins s σ H E I hf st hg;subst hP hw hK;have⟨f0,f1,f2,f3,f4,f5⟩:=hf it (by simp);have W:=Walks.range (prog:=X.prog) (w:=X.w) (I.ok.hd hc) it lo 1 n;refine W.item i s _ _ hg st λv h' tk hv st' kk=>?_;obtain⟨t,rfl⟩:=hv;have I1:Inv X pins σ H {s with heap:=h',toks:=tk}:=I.turned (λb o hb e=>kk b o (by simpa using hb) e) f0 f1 f3 f4 f5;refine⟨_,rfl,cU (s:={s with heap:=h',toks:=tk}) (n:="range_iterator") st' rfl rfl (by decide) ⟨.int (lo+i),H,I1,⟨t,?_⟩,⟨rfl,rfl⟩,st',λb hb=>(hf b hb).1⟩⟩;rw[Int.mul_one]
 done:=by intro X hP hw hK hc i pins s σ H E I hf st hg;subst hP hw hK;have⟨f0,f1,f2,f3,f4,f5⟩:=hf it (by simp);exact wpAny_pyNext_range_end (I.ok.hd hc) st (by have:n<=i:=hg;lia) λh' eb=>⟨rfl,I.turned (t':=s.toks) (λb o hb e=>eb b o hb e) f0 f1 f3 f4 f5⟩
 self:=λ_ _ _ _ _ st h=>wpAny_pyIter_rangeiter st h
variable {fp:List BJ}{z:List CQ}
section
variable {tg:BZ}
theorem kl6{R:It->Hp->Prop}{f l:Int}{t u v:Tok}{tk:Nat}(I:Inv X pins σ H s)(h1:-(2 ^ 62)<=f)(F:f<2 ^ 62)(C:-(2 ^ 62)<=l)(r:l<2 ^ 62)
  (q:R (Itr f (l - f).toNat) H):BL (BV X.prog X.w) X.A (XF (.ref s.heap.objs.size)) (PIE X pins σ tg R) E {s with heap:=s.heap.push {cls:=.type "range",data:=.fields #[.int f t,.int l u,.int 1 v] },toks:=tk}:=by
 refine wpAny_pyIter_range (IsRange.new ..) (small_one h1 F C r) ?_;have m:Inv X pins σ H {s with heap:=s.heap.push {cls:=.type "range",data:=.fields #[.int f t,.int l u,.int 1 v] },toks:=tk}:=I.kept λb o e=>JK _ e;refine⟨(s.heap.push {cls:=.type "range",data:=.fields #[.int f t,.int l u,.int 1 v] }).objs.size,[(s.heap.push {cls:=.type "range",data:=.fields #[.int f t,.int l u,.int 1 v] }).objs.size],_,_,H,rfl,
  m.kept (t':=tk) λb o e=>JK _ e,jp7 _ f (l - f).toNat,?_,λb p=>?_,q⟩
 ·have L:f+((0:Nat):Int) * 1=f:=by simp
  have J:(((l - f).toNat:Nat):Int) - ((0:Nat):Int)=Builtin.Range.rangeSize f l 1:=by rw[rangeSize_one];split<;>lia
  show IsRangeIter _ _ (f+((0:Nat):Int) * 1) ((((l - f).toNat:Nat):Int) - ((0:Nat):Int)) 1;rw[L,J];exact NP _ rfl
 ·have e:b=(s.heap.push {cls:=.type "range",data:=.fields #[.int f t,.int l u,.int 1 v] }).objs.size:=by simpa using p
  subst e;exact m.fpOk (H_ _) (m.hok.fresh (H_ _))
def wv7(B:TA):TI:=λσ H R=>B σ H λf l=>∃j:Int,f=[.int j]/\-(2 ^ 62)<=j/\j<2 ^ 62/\R (Itr 0 j.toNat) l
theorem ka0{a:BZ}{B:TA}{p:GP}(F:Gl X "range")(C:X.mg "range" = none)(J:PA X [a] B)(hs:BR [a] X.env=[(false,CP a X.env)]:=by rfl):PI X tg (.Call (.Name "range" p) [a] [] pos) (wv7 B):=by
 intro pins s σ H R I h;refine Call_ (Rw I F C boot_range (PyProof.Rows.callWith_type1 (thG (J pos pins s σ H _ I h) λus O M T L m f=>?_) hs rfl));obtain⟨j,e,f,A,q⟩:=f;subst e;cases m with
 |cons r l=>cases l;obtain⟨t,rfl⟩:=r;exact call_range_1 (kl6 L (by lia) (by lia) f A (by simpa using q))
def yO(q:TI)(g:TG)(tb:TS):TS:=λD σ H=>q σ H λJ t=>∃W:Nat->Nat->St->Hp->Prop,(∃m,W 0 m σ t)/\∀i m σ H,W i m σ H ->
 (J.stop i H/\D.nx σ H)\/(J.go i H/\∃N:St->Hp->Prop,(∀f H',N f H'->∃p,p<m/\W (i+1) p f H')/\∀x H',J.yld i H x H'->g x σ H' λl r=>tb {D with nx:=N,ct:=N,bk:=D.nx} l r)
def Rz(fp:List BJ)(h:B_):List (BJ×GD):=fp.filterMap λb=>(h.get? b).map λo=>(b,o)
def Gm{b:BJ}{o:GD}(f:b∈fp)(e:h.get? b=some o):(b,o)∈Rz fp h:=xO.mpr ⟨b,f,by rw[e];rfl⟩
def jz4{p:BJ×GD}(f:p∈Rz fp h):p.1∈fp/\h.get? p.1=some p.2:=by
 have⟨b,l,e⟩:=xO.mp f;cases q:h.get? b with
 |none=>rw[q]at e;cases e
 |some o=>rw[q]at e;have m:(b,o)=p:=Option.some.inj e;subst m;exact⟨l,q⟩
def Inv.pinned(I:Inv X pins σ H s)(r:∀b∈fp,Lz X pins H b)(q:∀b∈fp,∃o,s.heap.get? b=some o/\∀v,o.data≠.cell v):Inv X (pins++Rz fp s.heap) σ H s:=
 I.pins_of λp m=>(ZV.mp m).elim (λz=>I.pin p (RZ _ z)) λz=>by have⟨f,e⟩:=jz4 z;have⟨C,A,t,_⟩:=r p.1 f;have⟨o,l,d⟩:=q p.1 f;rw[e]at l;cases l;exact⟨e,C,A,t,d⟩
def Inv.unpinned{pl:List (BJ×GD)}(I:Inv X (pins++pl) σ H s):Inv X pins σ H s:=I.pins_of λp f=>I.pin p (RZ _ (oE _ f))
def nn0{p:Prop}(h:(p->False)->False):p:=yC h
inductive LpI(X:Cx)(pins:List (BJ×GD))(tn:Nat->B_->Prop)(fp:List BJ)(W:Nat->Nat->St->Hp->Prop)(n:Nat)(s:BK):Prop
 |mk (i:Nat) (σ:St) (H:Hp) (I:Inv X pins σ H s) (st:tn i s.heap) (fr:∀b∈fp,H b=none) (w:W i n σ H):LpI X pins tn fp W n s
def rY{iter:BZ}{wi:TI}{g:TG}{tb:TS}(hp:bL (BV X.prog X.w) X.A X.env X.xe)(hc:X.calm=true)(hi:PI X tg iter wi)(hg:PG X tg g)(C:PSs X z tb)
  (hs:∀x,DY iter X.env x=pure x:=by intro _;rfl):PS X (.For tg iter z [] pos) (yO wi g tb):=by
 intro pins s σ H D I h;refine wpAny_For (thn (hi pins s σ H _ I h) λv s1 h1=>thn h1 λaf s2 h2=>?_) hs;refine nn0 λM=>?_;obtain⟨it,fp,tn,J,H2,e,I2,T,Z,f2,W,⟨m0,w0⟩,turn⟩:=h2;subst e;refine M (codeAny_forLoop_any (LpI X pins tn fp W) ?_ m0 (.mk 0 σ H2 I2 Z (λb C=>(f2 b C).1) w0));clear M;have t:∀{H':Hp},(∀b∈fp,H' b=none)->∀b∈fp,Lz X pins H' b:=λhn b C=>⟨hn b C,(f2 b C).2⟩;clear f2 I2 Z w0 h;intro n s3 q;refine nn0 λM=>?_;obtain⟨i,p,H3,I3,Y,aa,w3⟩:=q;rcases turn i n p H3 w3 with ⟨stop,qn⟩ | ⟨go,N,hN,step⟩
 ·refine M (JN hp (thn (T.done X rfl rfl rfl hc i pins s3 p H3 X.xe I3 (t aa) Y stop) λr s4 q=>?_));obtain⟨rfl,I4⟩:=q;exact JP ⟨p,H3,I4,qn⟩
 ·refine M (JN hp (thn (T.item X rfl rfl rfl hc i pins s3 p H3 X.xe I3 (t aa) Y go) λr s4 q=>?_));clear M;obtain⟨u,rfl,h4⟩:=q;refine JN hp (thn h4 λ_ s5 q=>?_);refine nn0 λM=>?_;obtain⟨x,H5,I5,r5,y5,U,ae⟩:=q;refine M (JN hp (thn (hg _ s5 p H5 x u _ (I5.pinned (t ae) (T.obj _ _ U)) r5 (step x H5 y5)) λ_ s6 q=>?_));clear M;obtain⟨ab,H6,I6,q6⟩:=q;refine JN hp (thn (C _ s6 ab H6 _ I6 q6) λf s7 O=>?_);clear I6 q6 I5 y5 step w3 I3 go;have again:∀{l:St}{L:Hp},Inv X (pins++Rz fp s5.heap) l L s7->N l L->∃m,m<n/\LpI X pins tn fp W m s7:=λ{l L} F n7=>by have⟨m',hm,w7⟩:=hN l L n7;refine⟨m',hm,.mk (i+1) l L F.unpinned (T.keep _ _ _ U λb C o e=>(F.pin (b,o) (RZ _ (RZ _ (Gm C e)))).1) (λb C=>?_) w7⟩;have⟨o,e,d⟩:=T.obj _ _ U b C;exact(F.pin (b,o) (RZ _ (RZ _ (Gm C e)))).2.1
  cases f with
  |next=>obtain⟨l,L,F,n7⟩:=O;exact again F n7
  |cont=>obtain⟨l,L,F,n7⟩:=O;exact again F n7
  |brk=>obtain⟨l,L,F,O⟩:=O;exact⟨l,L,F.unpinned,O⟩
  |ret v=>obtain⟨x7,l,L,F,r7,O⟩:=O;exact⟨x7,l,L,F.unpinned,r7,O⟩
end
abbrev R2:=V->V->Hp->VK->Prop
def OpR(X:Cx)(f:A_->A_->Sem A_)(r:R2):Prop:=
 ∀(pins:List (BJ×GD))(s:BK)(σ:St)(H:Hp)(x y:V)(v u:A_)(Q:VK),Inv X pins σ H s->RelV x v->RelV y u->r x y H Q ->
  BL (BV X.prog X.w) X.A (f v u) (EP X pins σ Q) X.xe s
def UnR(X:Cx)(f:A_->Sem A_)(r:V->Hp->VK->Prop):Prop:=
 ∀(pins:List (BJ×GD))(s:BK)(σ:St)(H:Hp)(x:V)(v:A_)(Q:VK),Inv X pins σ H s->RelV x v->r x H Q ->
  BL (BV X.prog X.w) X.A (f v) (EP X pins σ Q) X.xe s
def Ei(X:Cx)(f:A_)(r:List V->Hp->VK->Prop):Prop:=
 ∀(pins:List (BJ×GD))(s:BK)(σ:St)(H:Hp)(xs:List V)(us:List A_)(Q:VK),Inv X pins σ H s->Vals xs us->r xs H Q ->
  BL (BV X.prog X.w) X.A (call f us) (EP X pins σ Q) X.xe s
def yd2(X:Cx)(r:V->Hp->(Bool->Hp->Prop)->Prop):Prop:=
 ∀(pins:List (BJ×GD))(s:BK)(σ:St)(H:Hp)(x:V)(v:A_)(Q:Bool->Hp->Prop),Inv X pins σ H s->RelV x v->r x H Q ->
  BL (BV X.prog X.w) X.A (truthy v) (TP X pins σ Q) X.xe s
def tOp(r:R2)(B tb:TE):TE:=λσ H Q=>B σ H λx l=>tb σ l λy f=>r x y f Q
def tUn(r:V->Hp->VK->Prop)(B:TE):TE:=λσ H Q=>B σ H λx f=>r x f Q
def rI(C:Int->Int->Prop)(g:Int->Int->V):R2:=λx y H Q=>∃i j,x=.int i/\y=.int j/\C i j/\Q (g i j) H
def rI0(g:Int->Int->V):R2:=λx y H Q=>∃i j,x=.int i/\y=.int j/\Q (g i j) H
def rU(g:Int->V):V->Hp->VK->Prop:=λx H Q=>∃i,x=.int i/\Q (g i) H
variable {q:TE}
variable {r:R2}
section
variable {a c:BZ}{tb:TE}
def jT(Y:PE X a B)(U:PE X b tb){R:V->V->Hp->Prop}(I:Inv X pins σ H s)
  (h:B σ H λx C=>tb σ C λy l=>R x y l){f:A_->A_->Sem A_}
  (T:∀v u t x y l,Inv X pins σ l t->RelV x v->RelV y u->R x y l->BL (BV X.prog X.w) X.A (f v u) Q X.xe t):
  BL (BV X.prog X.w) X.A (CP a X.env) (λv p=>BL (BV X.prog X.w) X.A (CP b X.env) (λu m=>BL (BV X.prog X.w) X.A (f v u) Q X.xe m) X.xe p) X.xe s:=by
 refine thG (Y pins s σ H _ I h) λv F x C I1 L O=>?_;refine thG (U pins F σ C _ I1 O) λu t y l Z J M=>?_;exact T v u t x y l Z L J M
def wz5{f:iT}(t:OpR X (FJ f) r)(C:PE X a B)(A:PE X b tb):PE X (.BinOp a f b pos) (tOp r B tb):=by intro pins s σ H Q I h;exact wpAny_BinOp (jT C A I h λv u l x y J F p m q=>t pins l σ J x y v u Q F p m q)
def wz7{f:UnaryOp}{r:V->Hp->VK->Prop}(t:UnR X (YZ f) r)(A:PE X a B):PE X (.UnaryOp f a pos) (tUn r B):=by intro pins s σ H Q I h;exact UnaryOp_ (thG (A pins s σ H _ I h) λv l x F C m p=>t pins l σ F x v Q C m p)
def opI{f:A_->A_->Sem A_}{C:Int->Int->Prop}{g:Int->Int->Int}
  (rule:∀(i j:Int)(t u:Tok)(s:BK)(Q:A_->BK->Prop)(E:A_->BK->Prop),C i j->Q (.int (g i j) s.toks) {s with toks:=s.toks+1}->BL (BV X.prog X.w) X.A (f (.int i t) (.int j u)) Q E s):
  OpR X f (rI C λi j=>.int (g i j)):=by
 intro pins s σ H x y v u Q I m l h;obtain⟨i,j,rfl,rfl,p,q⟩:=h;obtain⟨t,rfl⟩:=m;obtain⟨t',rfl⟩:=l;exact rule i j t t' s _ _ p ⟨.int (g i j),H,I.tok _,⟨_,rfl⟩,q⟩
def oN{f:A_->A_->Sem A_}{g:Int->Int->Int}
  (rule:∀(i j:Int)(t u:Tok)(s:BK)(Q:A_->BK->Prop)(E:A_->BK->Prop),Q (.int (g i j) s.toks) {s with toks:=s.toks+1}->BL (BV X.prog X.w) X.A (f (.int i t) (.int j u)) Q E s):
  OpR X f (rI0 λi j=>.int (g i j)):=by
 intro pins s σ H x y v u Q I m l h;obtain⟨i,j,rfl,rfl,q⟩:=h;obtain⟨t,rfl⟩:=m;obtain⟨t',rfl⟩:=l;exact rule i j t t' s _ _ ⟨.int (g i j),H,I.tok _,⟨_,rfl⟩,q⟩
def fD{f:A_->A_->Sem A_}{g:Int->Int->Bool}
  (rule:∀(i j:Int)(t u:Tok)(s:BK)(Q:A_->BK->Prop)(E:A_->BK->Prop),Q (.bool (g i j)) s->BL (BV X.prog X.w) X.A (f (.int i t) (.int j u)) Q E s):
  OpR X f (rI0 λi j=>.bl (g i j)):=by
 intro pins s σ H x y v u Q I m l h;obtain⟨i,j,rfl,rfl,q⟩:=h;obtain⟨t,rfl⟩:=m;obtain⟨t',rfl⟩:=l;exact rule i j t t' s _ _ ⟨.bl (g i j),H,I,rfl,q⟩
def yd1(i j:Int):Prop:=0<=j/\j<=1000000/\i.natAbs<2 ^ 64
def wm0:OpR X (FJ .Add) (rI0 λi j=>.int (i+j)):=oN λ_ _ _ _ _ _ _ q=>add_int q
def wm3:OpR X (FJ .Sub) (rI0 λi j=>.int (i - j)):=oN λ_ _ _ _ _ _ _ q=>sub_int q
theorem wm1:OpR X (FJ .Mod) (rI (λ_ j=>0<j) λi j=>.int (i % j)):=opI λi j _ _ _ _ _ f q=>by have l:(0:Int)<j:=f;exact mod_int' (by lia) (by rw[Int.fmod_eq_emod_of_nonneg i (by lia)];exact q)
def wm2:OpR X (FJ .Pow) (rI yd1 λi j=>.int (i ^ j.toNat)):=opI λ_ _ _ _ _ _ _ f q=>pow_int_small f.1 f.2.1 f.2.2 q
def unI{f:A_->Sem A_}{g:Int->Int}
  (rule:∀(i:Int)(t:Tok)(s:BK)(Q:A_->BK->Prop)(E:A_->BK->Prop),Q (.int (g i) s.toks) {s with toks:=s.toks+1}->BL (BV X.prog X.w) X.A (f (.int i t)) Q E s):
  UnR X f (rU λi=>.int (g i)):=by
 intro pins s σ H x v Q I l h;obtain⟨i,rfl,q⟩:=h;obtain⟨t,rfl⟩:=l;exact rule i t s _ _ ⟨.int (g i),H,I.tok _,⟨_,rfl⟩,q⟩
def wq5:UnR X (YZ .USub) (rU λi=>.int (-i)):=unI λ_ _ _ _ _ q=>neg_int q
end
variable {F:R2}
section
variable {a c:BZ}{tb:TE}
def wh8{Q:VK}{k f:Bool}(I:Inv X pins σ H s)(q:Q (.bl k) H)(e:k=f):EP X pins σ Q (.bool f) s:=by subst e;exact⟨.bl k,H,I,rfl,q⟩
def wy8:OpR X (CG .Lt) (rI0 λi j=>.bl (decide (i<j))):=fD λ_ _ _ _ _ _ _ q=>lt_int q
def wy7:OpR X (CG .LtE) (rI0 λi j=>.bl (decide (i<=j))):=fD λ_ _ _ _ _ _ _ q=>le_int q
def wy6:OpR X (CG .Gt) (rI0 λi j=>.bl (decide (j<i))):=fD λ_ _ _ _ _ _ _ q=>gt_int q
def wy5:OpR X (CG .GtE) (rI0 λi j=>.bl (decide (j<=i))):=fD λ_ _ _ _ _ _ _ q=>ge_int q
def jz5:OpR X (CG .In) (λx y H Q=>∃i j,x=.str i/\y=.str j/\Q (.bl (!(Builtin.Str.occurrences j i 0 j.length 1).isEmpty)) H):=by intro pins s σ H x y v u Q I l f h;obtain⟨i,j,rfl,rfl,q⟩:=h;obtain⟨t,rfl⟩:=l;obtain⟨t',rfl⟩:=f;exact in_str (wh8 I q rfl)
def Mu(b:BZ){f:M_}(h:f≠.In:=by decide)(l:f≠.NotIn:=by decide):DX f b=false:=by
 have p:(f == CmpOp.In)=false:=by cases f<;>first |rfl |exact absurd rfl h
 have m:(f == CmpOp.NotIn)=false:=by cases f<;>first |rfl |exact absurd rfl l
 cases b<;>simp[DX,p,m]
def kx5{f:M_}(t:OpR X (CG f) r)(J:PE X a B)(C:PE X b tb)(A:DX f b=false):PE X (.Compare a [f] [b] pos) (tOp r B tb):=by intro pins s σ H Q I h;exact wpAny_Compare1 (jT J C I h λv u l x y M L p m q=>t pins l σ M x y v u Q L p m q) A
def pU(t:TE):TT:=λσ H Q=>t σ H λx H'=>∃k,x=.bl k/\Q k H'
def ky2{f:M_}(M:OpR X (CG f) r)(U:PE X a B)(T:PE X b tb)(O:DX f b=false):PT X (.Compare a [f] [b] pos) (pU (tOp r B tb)):=by
 intro pins s σ H Q I h;refine UW (thG (U pins s σ H _ I h) λv m x H1 I1 A L=>thn (T pins m σ H1 _ I1 L) λu l ⟨y,H2,Z,t,J⟩ =>
  thn (M pins l σ H2 x y v u _ Z A t J) λc s3 ⟨z,H3,Y,p,k,e,C⟩=>?_) O
 subst e;cases p;exact DR ⟨H3,Y,C⟩
def lC(r F:R2)(B tb q:TE):TE:=λσ H Q=>B σ H λx t=>tb σ t λy p=>r x y p λz f=>∃k,z=.bl k /\
 (if k=true then q σ f λl m=>F y l m Q else Q (.bl false) f)
def kj4{l f:M_}(ho:OpR X (CG l) r)(m:OpR X (CG f) F)(ha:PE X a B)(hb:PE X b tb)(hc:PE X c q)
  (hm:OJ [l,f] [b,c]=false:=by with_unfolding_all rfl):PE X (.Compare a [l,f] [b,c] pos) (lC r F B tb q):=by
 intro pins s σ H Q I h;refine Compare_chain (thG (ha pins s σ H _ I h) λv U x H1 I1 r1 q1=>YM (thn (hb pins U σ H1 _ I1 q1) λu T ⟨y,H2,I2,p,q2⟩ =>
  thn (ho pins T σ H2 x y v u _ I2 r1 p q2) λd O ⟨z,C,A,Z,k,e,t⟩=>?_)) hm
 subst e;cases Z;refine DR ?_;cases k with
 |false=>exact iK ⟨.bl false,C,A,rfl,t⟩
 |true=>exact iJ (chain_last (thG (hc pins O σ C _ A t) λL M J H4 I4 Y q4=>m pins M σ H4 y J u L Q I4 p Y q4))
def kl1{m l:M_}(ho:OpR X (CG m) r)(p:OpR X (CG l) F)(ha:PE X a B)(hb:PE X b tb)(hc:PE X c q)
  (hm:OJ [m,l] [b,c]=false:=by with_unfolding_all rfl):PT X (.Compare a [m,l] [b,c] pos) (pU (lC r F B tb q)):=by
 intro pins s σ H Q I h;refine isTrue_chain (thG (ha pins s σ H _ I h) λv Y x H1 I1 r1 q1=>test_link (thn (hb pins Y σ H1 _ I1 q1) λu U ⟨y,H2,I2,t,q2⟩ =>
  thn (ho pins U σ H2 x y v u _ I2 r1 t q2) λd T ⟨z,J,C,r3,k,e,A⟩=>?_)) hm
 subst e;cases r3;refine DR ?_;cases k with
 |false=>obtain⟨k',e',q'⟩:=A;cases e';exact iK ⟨J,C,q'⟩
 |true=>refine iJ (test_last (thG (hc pins T σ J _ C A) λM O L H4 I4 r4 q4=>thG (p pins O σ H4 y L u M _ I4 t r4 q4) λd' s5 z2 H5 I5 Z f=>?_));obtain⟨k2,e2,q5⟩:=f;subst e2;cases Z;exact DR ⟨H5,I5,q5⟩
def pO(K:BW)(x:V)(H:Hp)(k:Bool):Prop:=
 match x with
 | .non=>k=false
 | .bl b=>k=b
 | .int i=>k=(i != 0)
 | .str y=>y.length<=sizeLine/\k=((y.length:Int) != 0)
 | .byt y=>y.size<=sizeLine/\k=((y.size:Int) != 0)
 | .ref p=>(∃xs,SqL K H p xs/\k = !xs.isEmpty)\/(∃xs,SqT K H p xs/\k = !xs.isEmpty)\/∃f,H p=some (.dK f)/\k = !f.isEmpty
 |_=>False
def jm6{l:Type}{f:List (l×V)}{vs:List (l×A_)}(r:KV f vs):(!vs.isEmpty) = !f.isEmpty:=by cases r<;>rfl
def Vn{its:List A_}(r:Vals xs its):(!its.toArray.isEmpty) = !xs.isEmpty:=by cases r<;>simp
def Rx:(sizeLine:Nat)<2 ^ 63:=by rw[CT];decide
theorem wq2:yd2 X (λx H Q=>∃k,pO X.K x H k/\Q k H):=by
 intro pins s σ H x v Q I C h;obtain⟨k,e,q⟩:=h;have Z:=Rx;have Y:sizeLine=16777216:=CT;cases x with
 |non=>cases C;have f:k=false:=e;subst f;exact truthy_none ⟨H,I,q⟩
 |bl b=>cases C;have f:k=b:=e;subst f;exact DR ⟨H,I,q⟩
 |int i=>obtain⟨t,rfl⟩:=C;have f:k=(i != 0):=e;subst f;exact PySem.P.truthy_int ⟨H,I,q⟩
 |str y=>obtain⟨t,rfl⟩:=C;obtain⟨T,f⟩:y.length<=sizeLine/\k=((y.length:Int) != 0):=e;subst f;exact PySem.P.truthy_str (by lia) ⟨H,I.tok _,q⟩
 |byt y=>obtain⟨t,rfl⟩:=C;obtain⟨T,f⟩:y.size<=sizeLine/\k=((y.size:Int) != 0):=e;subst f;exact W.truthy_bytes (by lia) ⟨H,I.tok _,q⟩
 |ref p =>
  cases C;have f:(∃xs,SqL X.K H p xs/\k = !xs.isEmpty)\/(∃xs,SqT X.K H p xs/\k = !xs.isEmpty)\/∃l,H p=some (.dK l)/\k = !l.isEmpty:=e;rcases f with ⟨xs,J,f⟩ | ⟨xs,J,f⟩ | ⟨l,J,f⟩
  ·subst f;have⟨M,r,pl,O⟩:=I.list J;have A:=r.length;exact wpAny_truthy_list pl.isList (by simp only[O_];lia) ⟨H,I.tok _,by rw[Vn r];exact q⟩
  ·subst f;have⟨M,r,pl,O⟩:=I.tuple J;have A:=r.length;exact truthy_tuple pl (by simp only[O_];lia) ⟨H,I.tok _,by rw[Vn r];exact q⟩
  ·subst f;obtain⟨O,U,L,r,m⟩:l.length<=sizeLine/\(p == FQ)=false/\∃L,KV l L/\s.heap.DictOf (Bq X.prog X.w) p L:=I.hok p _ J;have A:l.length=L.length:=Paired.length r;exact wpAny_truthy_dict U m (by lia) ⟨H,I.tok _,by rw[jm6 r];exact q⟩
 |_=>exact(show False from e).elim
def kl3(t:PE X a B)(p:∀whole,T_ a X.env whole=(do let v <-whole;JW a.pos;JX [v] (truthy v))):
  PT X a (λσ H Q=>B σ H λx H'=>∃k,pO X.K x H' k/\Q k H'):=by
 intro pins s σ H Q I h;exact isTrue_plain (thG (t pins s σ H _ I h) λv f x C A l m=>wq2 pins f σ C x v Q A l m) (p _)
def jn9:OpR X (FJ .Add) (λx y H Q=>∃i j,x=.str i/\y=.str j/\i.length+j.length<=sizeLine/\Q (.str (i++j)) H):=by intro pins s σ H x y v u Q I l f h;obtain⟨i,j,rfl,rfl,m,q⟩:=h;obtain⟨t,rfl⟩:=l;obtain⟨t',rfl⟩:=f;exact add_str (λt' p=>⟨.str (i++j),H,I.tok _,⟨_,rfl⟩,q⟩) m
def vals1{x:V}(r:Vals [x] us):∃u,us=[u]/\RelV x u:=by
 cases r with
 |cons l f=>cases f;exact⟨_,rfl,l⟩
def vals2{x:V}(r:Vals [x,y] us):∃u f,us=[u,f]/\RelV x u/\RelV y f:=by
 cases r with
 |cons t p =>
  cases p with
  |cons m l=>cases l;exact⟨_,_,rfl,t,m⟩
def jv6(l:X.calm=true):Ei X (.builtin "max") (λxs H Q=>∃i j,xs=[.int i,.int j]/\Q (.int (if j>i then j else i)) H):=by
 intro pins s σ H xs us Q I r h;obtain⟨i,j,rfl,q⟩:=h;obtain⟨u,m,rfl,⟨t,rfl⟩,⟨t',rfl⟩⟩:=vals2 r;refine max_two_ints (I.ok.hd l) λh' p k=>⟨_,H,I.kept k,?_,q⟩;by_cases f:j>i
 ·rw[if_pos f,if_pos f];exact⟨_,rfl⟩
 ·rw[if_neg f,if_neg f];exact⟨_,rfl⟩
def jv7(l:X.calm=true):Ei X (.builtin "min") (λxs H Q=>∃i j,xs=[.int i,.int j]/\Q (.int (if j<i then j else i)) H):=by
 intro pins s σ H xs us Q I r h;obtain⟨i,j,rfl,q⟩:=h;obtain⟨u,m,rfl,⟨t,rfl⟩,⟨t',rfl⟩⟩:=vals2 r;refine min_two_ints (I.ok.hd l) λh' p k=>⟨_,H,I.kept k,?_,q⟩;by_cases f:j<i
 ·rw[if_pos f,if_pos f];exact⟨_,rfl⟩
 ·rw[if_neg f,if_neg f];exact⟨_,rfl⟩
def Xl:Ei X (.type "int") (λxs H Q=>(∃i,xs=[.int i]/\Q (.int i) H)\/∃k,xs=[.bl k]/\Q (.int (if k then 1 else 0)) H):=by
 intro pins s σ H xs us Q I r h;rcases h with ⟨i,rfl,q⟩ | ⟨k,rfl,q⟩
 ·obtain⟨u,rfl,t,rfl⟩:=vals1 r;exact call_int_int ⟨.int i,H,I,⟨_,rfl⟩,q⟩
 ·obtain⟨u,rfl,f⟩:=vals1 r;cases f;exact call_int_bool ⟨.int (if k then 1 else 0),H,I.tok _,⟨_,rfl⟩,q⟩
def P0:Ei X (.type "str") (λxs H Q=>∃i,xs=[.int i]/\i.natAbs.log2<1920/\Q (.str (toString i)) H):=by intro pins s σ H xs us Q I r h;obtain⟨i,rfl,f,q⟩:=h;obtain⟨u,rfl,t,rfl⟩:=vals1 r;exact PySem.P.str_of_int f ⟨.str _,H,I.tok _,⟨_,rfl⟩,q⟩
end
structure ZM(h:B_)(x dx C:BJ)(mA:BP->Option A_):Prop where
 obj:h.get? x=some (W.instObj C dx)
 ns:h.Ns1 dx mA
 ne:dx≠x
variable {mA:BP->Option A_}
theorem Yc{p:BJ}(n:h.Ns1 p mA):∃l,h.get? p=some l/\∀name,W.lookIn name l=some (mA name):=by
 obtain⟨o,m,O,C,L,J,_,I⟩:=n;refine⟨o,C,λname=>?_⟩;have e:=I name;unfold nsFind findBy at e;rw[<-Array.find?_toList]at e;unfold W.lookIn;rw[L];dsimp only;split
 ·rename_i y q;rw[q]at e;exact congrArg some e
 ·rename_i q;rw[q]at e;have a:m.toList.any (·.refKey)=false:=by rw[xJ];intro y A;have⟨z,t,f⟩:=J y (Array.mem_toList_iff.mp A);simp[DictEntry.refKey,f]
  have M:¬ m.toList.any (·.refKey)=true:=by rw[a];exact TY
  rw[if_neg M];exact congrArg some e
def ZM.look{l C:BJ}(I:ZM h x l C mA):∃f,W.InstAt h x (W.instObj C l) C (some f)/\∀name,W.lookIn name f=some (mA name):=
 let ⟨f,m,p⟩:=Yc I.ns
 ⟨f,⟨I.obj,rfl,rfl,m⟩,p⟩
variable {C dx f:BJ}{A:C_}
variable {I:List (BP×A_)}
section
variable {prog:BX}{K:BW}{mA:BP->Option A_}{name:BP}{v:A_}
def get_map{expr:Bool}(X:K.In s.heap)(I:ZM s.heap x dx C mA)(L:W.plainGet K C name=true)(t:W.hasDictIn K C=true)
  (M:W.findIn K (.ref C) name=some none)(m:mA name=some v)(l:W.handedIn v=true)(h:Q v {s with toks:=s.toks+1}):
  BL (BV prog w) A (Z1 (.ref x) name expr) Q E s:=by
 obtain⟨O,J,p⟩:=I.look;exact W.get_value X J (W.plainGet_of L).1 (W.findObj_own t M rfl (by rw[p,m])) l h
def kf7{pl:Sem Bool}{Q:A_×List A_->BK->Prop}(X:K.In s.heap)(I:ZM s.heap x dx C mA)(l:W.plainGet K C name=true)
  (L:W.findIn K (.ref C) name=some (some (.ref f)))(ht:W.isFn K (.ref f)=true)(p:mA name=none)(h:Q (.ref f,[.ref x]) s):
  BL (BV prog w) A (HX (.ref x) name pl) Q E s:=by
 obtain⟨m,J,t⟩:=I.look;exact W.method_fn X J (W.plainGet_of l).1 (W.plainGet_of l).2 L (beq_iff_eq.mp ht) (by show(W.lookIn name m).map (·.isSome)=some false;rw[t,p];rfl) h
theorem kz4{O:List BP}{Q:Unit->BK->Prop}(X:K.In s.heap)(I:ZM s.heap x dx C mA)
  (hs:W.findIn K (.ref C) "__setattr__" = some (some (.builtin "object.__setattr__")))(Y:W.plainOver K C=true)(ht:W.takerIn K C name=some none)(Z:W.hasDictIn K C=true)
  (U:PySem.Within mA O)(hsz:O.length<=sizeLine)
  (h:∀h',ZM h' x dx C (λy=>if y=name then some v else mA y)->Heap.SameBut dx s.heap h'->Q () {s with heap:=h',toks:=s.toks+2}):
  BL (BV prog w) A (setAttr (.ref x) name v) Q E s:=by
 obtain⟨od,J,hl⟩:=I.look;refine W.set_plain X J hs (W.osa_open (s:={s with toks:=s.toks+1}) (r:=none) X J Y ht λb=>?_);have⟨cd,hc,L⟩:=W.any_some Z;have T:s.heap.get? x=some ⟨.ref C,some dx,.plain,#[]⟩:=I.obj;refine CK (FZ (CK (CK (d_ T (CK (W.Looks.here (s:={s with toks:=s.toks+1}) (W.looks_clsIn X hc) ?_))))));rw[L];refine FZ (a:=some dx) (CK (FZ (CK ?_)));refine wpAny_nsSet1 (s:={s with toks:=s.toks+1}) I.ns λh' m l=>?_;have⟨oD,aa,ab,p,t,M⟩:=m.count (PySem.Within.cons name v U);refine CK (aA p (by rw[t];exact aG (RJ M (by rw[L_];lia))) ?_);exact FZ (h _ ⟨(l.2 _ (Ne.symm I.ne)).trans I.obj,m,I.ne⟩ l)
def ki4{R:UL->BK->Prop}{vs:List A_}(X:K.In s.heap)(l:W.makesIn K C=true)
  (m:W.findIn K (.ref C) "__init__" = some (some (.ref f)))(p:W.typeIn K (.ref f)=some (.type "function"))
  (h:JD (BV prog w) (A.under (.builtin "type.__call__" ⟨.ref C::vs,I⟩)) (.call (.ref f) ⟨.ref (s.heap.objs.size+1)::vs,I⟩) (W.InitBack (s.heap.objs.size+1) R)
   {s with heap:=(s.heap.push W.emptyDict).push (W.instObj C s.heap.objs.size)}):
  JD (BV prog w) A (.call (.ref C) ⟨vs,I⟩) R s:=by
 obtain⟨L,g,d,t,J⟩:=s;exact W.make_core (W.makes_of X l) (W.looks_findIn X m) (λself=>W.bind_fn X self p) (.inl rfl) h
end
def Nm(f:BP)(v:V):List (BP×V)->List (BP×V)
 | []=>[(f,v)]
 | (g,x)::r=>if g=f then(g,v)::r else(g,x)::Nm f v r
def Ti(f g:BP)(v:V):∀p:List (BP×V),(Nm f v p).lookup g=if g=f then some v else p.lookup g
 | []=>by
  show List.lookup g [(f,v)]=_;by_cases h:g=f
  ·have l:(g == f)=true:=beq_iff_eq.mpr h;simp only[List.lookup,l,if_pos h]
  ·have l:(g == f)=false:=beq_eq_false_iff_ne.mpr h;simp only[List.lookup,l,if_neg h]
 | (k,x)::r=>by
  have t:=Ti f g v r;rw[show Nm f v ((k,x)::r)=(if k=f then(k,v)::r else(k,x)::Nm f v r) from rfl];by_cases m:k=f
  ·rw[if_pos m];by_cases h:g=k
   ·have l:(g == k)=true:=beq_iff_eq.mpr h;simp only[List.lookup,l,if_pos (h.trans m)]
   ·have l:(g == k)=false:=beq_eq_false_iff_ne.mpr h;simp only[List.lookup,l,if_neg (λe:g=f=>h (e.trans m.symm))]
  ·rw[if_neg m];by_cases h:g=k
   ·have l:(g == k)=true:=beq_iff_eq.mpr h;simp only[List.lookup,l,if_neg (λe:g=f=>m (h.symm.trans e))]
   ·have l:(g == k)=false:=beq_eq_false_iff_ne.mpr h;simp only[List.lookup,l];exact t
def Rv(f:BP)(v:V):∀m:List (BP×V),f∈(Nm f v m).map (·.1)/\∀g,g∈m.map (·.1)->g∈(Nm f v m).map (·.1)
 | []=>⟨by simp[Nm],λg h=>by simp at h⟩
 | (k,x)::r=>by
  obtain⟨t,p⟩:=Rv f v r;rw[show Nm f v ((k,x)::r)=(if k=f then(k,v)::r else(k,x)::Nm f v r) from rfl];by_cases l:k=f
  ·rw[if_pos l];subst l;exact⟨by simp,λg h=>by simpa using h⟩
  ·rw[if_neg l];refine⟨?_,λg h=>?_⟩
   ·rw[KH];exact KQ _ t
   ·rw[KH]at h ⊢;rcases I_.mp h with e |e
    ·exact I_.mpr (.inl e)
    ·exact KQ _ (p g e)
theorem Tg(f:BP)(v:V):∀m:List (BP×V),(Nm f v m).length<=m.length+1
 | []=>by simp[Nm]
 | (k,x)::r=>by
  have p:=Tg f v r;rw[show Nm f v ((k,x)::r)=(if k=f then(k,v)::r else(k,x)::Nm f v r) from rfl];by_cases l:k=f
  ·rw[if_pos l,L_,L_];lia
  ·rw[if_neg l,L_,L_];lia
def J5.some_of{o:Option A_}(r:J5 (some v) o):∃u,o=some u/\RelV v u:=by
 cases o with
 |none=>exact(show False from r).elim
 |some u=>exact⟨u,rfl,r⟩
def J5.none_of{o:Option A_}(r:J5 none o):o=none:=by
 cases o with
 |none=>rfl
 |some u=>exact(show False from r).elim
def X3(r:RelV v u):W.handedIn u=true:=by
 cases v with
 |non=>cases(show u=Value.none from r);rfl
 |bl b=>cases(show u=Value.bool b from r);rfl
 |int i=>have⟨t,e⟩:=(show ∃t,u=Value.int i t from r);cases e;rfl
 |str x=>have⟨t,e⟩:=(show ∃t,u=Value.str x t from r);cases e;rfl
 |byt b=>have⟨t,e⟩:=(show ∃t,u=Value.bytes b t from r);cases e;rfl
 |flt b=>have⟨t,e⟩:=(show ∃t,u=Value.float b t from r);cases e;rfl
 |ref a=>cases(show u=Value.ref a from r);rfl
 |ty n=>cases(show u=Value.type n from r);rfl
section
variable {fs l:List (BP×V)}
def Zt(m:HOk P w H h)(e:H a=some (.ins C dx fs)):∃mA,ZM h a dx C mA/\(∀f,J5 (fs.lookup f) (mA f))/\PySem.Within mA (fs.map (·.1))/\fs.length<=1000/\H dx=some (.own a):=by have⟨d,z,ne,p,mA,n,r,q⟩:=(show Cj P w H h a (.ins C dx fs) from m a _ e);exact⟨mA,⟨p,n,ne⟩,r,q,z,d⟩
end
structure Cls(K:BW)(C:BJ):Prop where
 pg:W.plainGet K C Str.empty=true
 hd:W.hasDictIn K C=true
 po:W.plainOver K C=true
 sa:W.findIn K (.ref C) "__setattr__" = some (some (.builtin "object.__setattr__"))
def Cls.get(c:Cls K C)(f:BP):W.plainGet K C f=true:=c.pg
def Ol(K:BW)(C:BJ)(f:BP):Prop:=W.findIn K (.ref C) f=some none
def Ol.taker{f:BP}(n:Ol K C f):W.takerIn K C f=some none:=by unfold W.takerIn;rw[show W.findIn K (.ref C) f=some none from n];rfl
structure Meth(K:BW)(C:BJ)(m:BP)(f:BJ):Prop where
 at_:W.findIn K (.ref C) m=some (some (.ref f))
 fn:W.isFn K (.ref f)=true
 kp:W.keepIn K (.ref f)=true
section
variable {fs:List (BP×V)}{f:BP}{v:V}
def jm0{b:Bool}(I:Inv X pins σ H s)(e:H a=some (.ins C dx fs))(c:Cls X.K C)(n:Ol X.K C f)(l:fs.lookup f=some v)
  (h:∀u s',Inv X pins σ H s'->RelV v u->Q u s'):BL (BV X.prog X.w) A (Z1 (.ref a) f b) Q E s:=by
 have⟨mA,O,r,_,_,_⟩:=Zt I.hok e;have⟨u,p,m⟩:=J5.some_of (v:=v) (o:=mA f) (by rw[<-l];exact r f);exact get_map I.KJ O (c.get f) c.hd n p (X3 m) (h u _ (I.tok _) m)
def Vj{m:BP}{g:BJ}{pl:Sem Bool}{Q:A_×List A_->BK->Prop}(I:Inv X pins σ H s)(e:H a=some (.ins C dx fs))(c:Cls X.K C)(k:Meth X.K C m g)(l:fs.lookup m=none)
  (h:Q (.ref g,[.ref a]) s):BL (BV X.prog X.w) A (HX (.ref a) m pl) Q E s:=by
 have⟨mA,O,r,_,_,_⟩:=Zt I.hok e;have p:mA m=none:=J5.none_of (by rw[<-l];exact r m);exact kf7 I.KJ O (c.get m) k.at_ k.fn p h
theorem jo5{Q:Unit->BK->Prop}(I:Inv X pins σ H s)(e:H a=some (.ins C dx fs))(c:Cls X.K C)(n:Ol X.K C f)(Z:fs.length<1000)(J:RelV y u)
  (h:∀s',Inv X pins σ (upd H a (.ins C dx (Nm f y fs))) s'->Q () s'):BL (BV X.prog X.w) A (setAttr (.ref a) f u) Q E s:=by
 have⟨mA,O,r,m,_,p⟩:=Zt I.hok e;have L:(fs.map (·.1)).length<=sizeLine:=by rw[HN,CT];lia
 refine kz4 I.KJ O c.sa c.po n.taker c.hd m L λh' l t=>h _ ?_;have T:∃o,h'.get? dx=some o:=let ⟨o,_,_,Y,_⟩:=l.ns; ⟨o,Y⟩;refine I.write (x:=a) (e:=dx) (by rw[e];exact True.intro) (.inr p) (λb q U z=>(t.2 b U).trans z) T ?_;refine⟨by rw[Ac O.ne];exact p,?_,O.ne,l.obj,_,l.ns,λg=>?_,λg M=>?_⟩
 ·have:=Tg f y fs;lia
 ·show J5 ((Nm f y fs).lookup g) (if g=f then some u else mA g);rw[Ti];by_cases q:g=f
  ·rw[if_pos q,if_pos q];exact J
  ·rw[if_neg q,if_neg q];exact r g
 ·by_cases q:g=f
  ·rw[q];exact(Rv f y fs).1
  ·refine(Rv f y fs).2 g (m g λz=>M ?_);show(if g=f then some u else mA g)=none;rw[if_neg q];exact z
def Inv.made(I:Inv X pins σ H s):Inv X pins σ (upd (upd H s.heap.objs.size (.own (s.heap.objs.size+1))) (s.heap.objs.size+1) (.ins C s.heap.objs.size []))
  {s with heap:=(s.heap.push W.emptyDict).push (W.instObj C s.heap.objs.size)}:=by
 have l:(s.heap.push W.emptyDict).get? s.heap.objs.size=some W.emptyDict:=NP s.heap rfl;have J:((s.heap.push W.emptyDict).push (W.instObj C s.heap.objs.size)).get? (s.heap.objs.size+1)=some (W.instObj C s.heap.objs.size):=by have:=NP (s.heap.push W.emptyDict) (o:=W.instObj C s.heap.objs.size) rfl;rwa [RW]at this
 have t:(s.heap.push W.emptyDict).Ns s.heap.objs.size (λ_=>none):=⟨W.emptyDict,#[],_,l,rfl,(λe p=>absurd p (by simp)),λ_=>rfl⟩;have L:=I.laid (a:=s.heap.objs.size) (o:=.own (s.heap.objs.size+1)) (h':=s.heap.push W.emptyDict) (t':=s.toks) (λb u q=>JK _ q) (H_ _) ⟨_,l⟩;refine L.laid (a:=s.heap.objs.size+1) (o:=.ins C s.heap.objs.size []) (t':=s.toks) (λb u q=>JK _ q) (nM (RW _ _)) ?_;have ne:s.heap.objs.size≠s.heap.objs.size+1:=NK (dM _);refine⟨by rw[Ac ne,Af],WQ _,ne,J,λ_=>none,(Heap.Ns1.of_empty t).at λo q=>JK _ q,λ_=>True.intro,λy m=>absurd rfl m⟩
def uV{prog:BX}{env:GZ}{f:BP}(m:DG e f env (CP e env)=CP e env)
  (h:BL (BV prog w) A (CP e env) (λo l=>BL (BV prog w) A (Z1 o f true) Q E l) E s):BL (BV prog w) A (CP (.Attribute e f pos) env) Q E s:=
 Attribute_any_ h (by rw[arm_eval_Attribute,m])
end
def yP(K:BW)(B:TE)(f:BP):TE:=λσ H Q=>B σ H λx m=>∃a C dx l v,x=.ref a/\m a=some (.ins C dx l)/\Cls K C/\Ol K C f/\l.lookup f=some v/\Q v m
def yZ(K:BW)(B p:TE)(f:BP):TS:=λD σ H=>p σ H λy t=>B σ t λx m=>∃a C dx l,x=.ref a/\m a=some (.ins C dx l)/\Cls K C/\Ol K C f/\l.length<1000 /\
 D.nx σ (upd m a (.ins C dx (Nm f y l)))
section
variable {o m:BZ}{f:BP}{p l:GP}{t:TE}
def lK(O:PE X e B)(T:DG e f X.env (CP e X.env)=CP e X.env):PE X (.Attribute e f pos) (yP X.K B f):=by intro pins s σ H Q I h;refine uV T (thG (O pins s σ H _ I h) λu s1 x H1 Z L J=>?_);obtain⟨a,C,dx,fs,v,ex,U,c,n,l,q⟩:=J;subst ex;obtain rfl:u=Value.ref a:=L;exact jm0 Z U c n l λu' s2 Y M=>⟨v,H1,Y,M,q⟩
def wn1(Y:PE X o B)(U:PE X m t)(hs:CW m (some (.Attribute o f p)) pos.line X.env=pure false):PS X (.Assign [.Attribute o f p] m pos) (yZ X.K B t f):=by intro pins s σ H D I h;refine QS (thG (U pins s σ H _ I h) λu J y H1 I1 L q=>thn (Y pins J σ H1 _ I1 q) λT s2 ⟨x,H2,I2,M,a,C,dx,fs,ex,Z,c,n,l,O⟩=>?_) hs;subst ex;obtain rfl:T=Value.ref a:=M;exact jo5 I2 Z c n l L λs3 I3=>⟨σ,_,I3,O⟩
end
structure Dd(k:Nat)(A:C_):Prop where
 hd:A.handled=none
 dp:A.depth+3 * k+5<eX
 un:A.units+16 * k+200<FN
 gd:A.guards=some []
theorem Dd.mono{k:Nat}(r:Dd k A)(h:j<=k):Dd j A:=⟨r.hd,by have:=r.dp;lia,by have:=r.un;lia,r.gd⟩
theorem Dd.deeper{k:Nat}(r:Dd (k+1) A)(env:GZ):Dd k (A.deeper env):=
 ⟨r.hd,by have:=r.dp;show A.depth+1+3 * k+5<_;lia,by have:=r.un;show A.units+3+16 * k+200<_;lia,r.gd⟩
def jn2:(A.under (.builtin "type.__call__" ⟨.ref C::us,I⟩)).depth=A.depth+1:=by
 first |rfl |simp[Around.under,Code.weight,Code.isCreation,Code.isGuard,Code.isCaller,Code.frames,Code.isFrame,guardIds]
def jn3:(A.under (.builtin "type.__call__" ⟨.ref C::us,I⟩)).units=A.units+1:=by
 first |rfl |simp[Around.under,Code.cUnits,Code.frames,Code.isFrame]
theorem Dd.make{k:Nat}(r:Dd (k+1) A)(C:BJ)(us:List A_)(I:List (BP×A_)):Dd k (A.under (.builtin "type.__call__" ⟨.ref C::us,I⟩)):=
 ⟨r.hd,by have:=r.dp;rw[jn2];lia,by have:=r.un;rw[jn3];lia,(by first |exact r.gd | (show(Around.under _ _).guards=_;simp[Around.under,Code.isGuard,guardIds];exact r.gd))⟩
theorem Dd.depth{k:Nat}(r:Dd k A):A.depth<eX:=by have:=r.dp;lia
def jA:TA:=λ_ H Q=>Q [] H
def pW(B:TE)(l:TA):TA:=λσ H Q=>B σ H λx p=>l σ p λxs m=>Q (x::xs) m
variable {es:List BZ}{t:TA}
def Jf:PA X [] jA:=λ_ _ _ _ H Q I h=>Calls.spliced_nil ⟨[],H,I,.nil,h⟩
def Cp(O:PE X e G)(M:PA X es t)(hs:Zs X.env e es:=by rfl):PA X (e::es) (pW G t):=by intro pos pins s σ H Q I h;rw[hs];show BL _ _ (spliced ((false,CP e X.env)::GJ pos (BR es X.env))) _ _ s;refine Calls.spliced_cons (thG (O pins s σ H _ I h) λu l x Z U p L=>?_);exact thG (M pos pins l σ Z _ U L) λus s2 xs Y T m J=>⟨x::xs,Y,T,.cons p m,J⟩
def yH(t:TA):TE:=λσ H Q=>t σ H λxs l=>xs.length<=sizeLine/\∀p,l p=none->Q (.ref p) (upd l p (.tup xs))
def yM(t:TA):TE:=λσ H Q=>t σ H λxs l=>xs.length<=sizeLine/\∀p,l p=none->Q (.ref p) (upd l p (.lst xs))
def sG{x1}(h:PA X es t):PE X (.Tuple es x1 pos) (yH t):=by intro pins s σ H Q I J;refine WL (thn (h pos pins s σ H _ I J) λus l ⟨xs,p,m,r,z,q⟩=>⟨by rw[<-r.length];exact z,?_⟩);have L:p l.heap.objs.size=none:=m.hok.fresh (H_ _);refine⟨.ref l.heap.objs.size,upd p l.heap.objs.size (.tup xs),m.laid (t':=l.toks) (λb u e=>JK _ e) (H_ _) ?_,rfl,q _ L⟩;exact⟨z,us,r,⟨_,NP _ rfl,rfl,_,rfl⟩⟩
def lJ(h:PA X es t):PE X (.List es pos) (yM t):=by intro pins s σ H Q I J;refine wpAny_List_spliced (thn (h pos pins s σ H _ I J) λus l ⟨xs,p,m,r,z,q⟩=>⟨by rw[<-r.length];exact z,?_⟩);have L:p l.heap.objs.size=none:=m.hok.fresh (H_ _);refine⟨.ref l.heap.objs.size,upd p l.heap.objs.size (.lst xs),m.laid (t':=l.toks) (λb u e=>JK _ e) (H_ _) ?_,rfl,q _ L⟩;exact⟨z,us,0,r,NP _ rfl⟩
abbrev Sp:=List V->Hp->VK->XK->Prop
abbrev CXT:=List GZ->Hp->BK->XK->A_->BK->Prop
structure ZP(P:BX)(w:CN)(K:BW)(mg:BP->Option A_)(base:B_)(A:C_)(outer:List GZ)(s:BK)(H:Hp):Prop where
 frames:A.frames=some outer
 mod:Mod K mg base
 bs:∀b o,base.get? b=some o->s.heap.get? b=some o/\H b=none
 bsz:base.objs.size<=s.heap.objs.size
 funs:s.heap.FunFrames base outer
 frf:∀b∈frs outer,H b=none
 hok:HOk P w H s.heap
 bare:JZ s.gens
def CE(outer:List GZ)(P:BX)(w:CN)(H:Hp)(s:BK)(Q:VK)(u:A_)(s':BK):Prop:=
 ∃v H',s'.os=s.os/\JZ s'.gens/\Un (frs outer) [] H H' s.heap s'.heap/\HOk P w H' s'.heap/\RelV v u/\Q v H'
def CR(CX:CXT)(outer:List GZ)(P:BX)(w:CN)(H:Hp)(s:BK)(Q:VK)(E:XK)(r:UL)(s':BK):Prop:=
 match r with
 | .ok (.ret u)=>CE outer P w H s Q u s'
 | .ok _=>False
 | .error e=>CX outer H s E e s'
structure Cw(P:BX)(w:CN)(K:BW)(mg:BP->Option A_)(base:B_)(CX:CXT)(k:Nat)(f:BJ)(fd:CZ)(ps:List BP)(sp:Sp):Prop where
 len:∀vs H Q E,sp vs H Q E->vs.length=ps.length
 run:∀(A:C_)(outer:List GZ)(s:BK)(H:Hp)(args:Args)(us:List A_)(vs:List V)(Q:VK)(E:XK),Dd k A->ZP P w K mg base A outer s H->RD s fd args (ps.zip us)->Vals vs us->sp vs H Q E ->
  JD (BV P w) A (.call (.ref f) args) (CR CX outer P w H s Q E) s
variable {mg:BP->Option A_}
def ZP.make{base:B_}{outer:List GZ}(e:ZP P w K mg base A outer s H)(C:BJ)(us:List A_)(I:List (BP×A_)):
  ZP P w K mg base (A.under (.builtin "type.__call__" ⟨.ref C::us,I⟩)) outer s H:=⟨by first |exact e.frames | (simpa[Around.under,Code.envs,Code.isFrame,pushEnvs] using e.frames),e.mod,e.bs,e.bsz,e.funs,e.frf,e.hok,e.bare⟩
section
variable {s':BK}
def Inv.env0(I:Inv X pins σ H s):ZP X.prog X.w X.K X.mg X.base X.A X.stack s H:=
 ⟨I.ok.frames,I.ok.mod,I.bs,RJ I.ok.bsz I.sz,I.stack,I.stkFree,I.hok,I.bare⟩
def Inv.after{Q:VK}(I:Inv X pins σ H s)(h:CE X.stack X.prog X.w H s Q u s'):EP X pins σ Q u s':=by obtain⟨v,H',p,bare,un,m,r,q⟩:=h;obtain⟨J,g,d,t,l⟩:=s';obtain rfl:l=s.os:=p;exact⟨v,H',I.call (h':=J) (g':=g) (d':=d) (t':=t) (ch:=[]) un m bare (λb z=>absurd z (by simp)),r,q⟩
end
def ya9(sp:Sp)(dvs:List V)(E:XK)(t:TA):TE:=λσ H Q=>t σ H λl m=>sp (l++dvs) m Q E
def yb5(C:BJ)(m:BP)(sp:Sp)(dvs:List V)(E:XK)(B:TE)(t:TA):TE:=λσ H Q=>B σ H λx p=>∃a dx l,x=.ref a/\p a=some (.ins C dx l)/\l.lookup m=none /\
 t σ p λJ L=>sp (x::(J++dvs)) L Q E
def yb4(C:BJ)(sp:Sp)(dvs:List V)(E:XK)(t:TA):TE:=λσ H Q=>t σ H λm l=>∀x dx,l x=none->l dx=none->dx≠x ->
 sp (.ref x::(m++dvs)) (upd (upd l dx (.own x)) x (.ins C dx [])) (λv p=>v=.non/\Q (.ref x) p) E
def Binds(K:BW)(l:CZ)(ps:List BP)(ds:List A_):Prop:=
 ∀(s:BK)(us:List A_),K.In s.heap->(us++ds).length=ps.length->RD s l ⟨us,[]⟩ (ps.zip (us++ds))
def Binds.all{m:CZ}{ps:List BP}(h:∀us:List A_,us.length=ps.length->KC m ⟨us,[]⟩=pure (ps.zip us)):Binds K m ps []:=λs us _ l=>by rw[SM]at l ⊢;exact .of_eq (h us l)
def Passes(CX:CXT)(X:Cx)(E:XK):Prop:=∀(pins:List (BJ×GD))(σ:St)(H:Hp)(s:BK)(e:A_)(s':BK),Inv X pins σ H s->CX X.stack H s E e s'->X.xe e s'
variable {p:GP}
variable {vs:List V}
section
variable {CX:CXT}{k:Nat}{fd:CZ}{ps:List BP}{sp:Sp}{dvs:List V}{ds:List A_}{E:XK}{x m:BP}{apos:GP}{o:BZ}
def rQ{Q:VK}(F:Cw X.prog X.w X.K X.mg X.base CX k f fd ps sp)(M:Dd k X.A)(U:Binds X.K fd ps ds)(T:Vals dvs ds)(L:Passes CX X E)
  (I:Inv X pins σ H s)(r:Vals vs us)(h:sp (vs++dvs) H Q E):BL (BV X.prog X.w) X.A (call (.ref f) us) (EP X pins σ Q) X.xe s:=by
 have J:Vals (vs++dvs) (us++ds):=r.append T;have O:(us++ds).length=ps.length:=by rw[<-J.length];exact F.len _ _ _ _ h
 refine JG (HY (F.run X.A X.stack s H ⟨us,[]⟩ (us++ds) (vs++dvs) Q E M I.env0 (U s us I.KJ O) J h) λr s' l=>?_);cases r with
 |error e=>exact L pins σ H s e s' I l
 |ok Y =>
  cases Y with
  |ret u=>exact I.after l
  |next=>exact False.elim l
  |brk=>exact False.elim l
  |cont=>exact False.elim l
def Z4(F:Cw X.prog X.w X.K X.mg X.base CX k f fd ps sp)(O:Dd k X.A)(Y:Gl X x)(T:X.mg x=some (.ref f))(U:W.keepIn X.K (.ref f)=true)(hb:Binds X.K fd ps ds)(hd:Vals dvs ds)(M:Passes CX X E)
  (ha:PA X (e::es) t)(J:Zd x:=by decide)(Z:Zs X.env e es:=by rfl)(l:Zp X.env pos es:=by rfl):
  PE X (.Call (.Name x p) (e::es) [] pos) (ya9 sp dvs E t):=by
 intro pins s σ H Q I h;refine IW (Gy I Y T ?_ J);refine W.callWith_K (h₀:=X.base) I.ok.mod.kin U (thG (ha pos pins s σ H _ I h) λus s1 vs H1 L r q=>⟨L.KJ,?_⟩) Z l;exact rQ F O hb hd M L r q
def Z6{pl:Sem Bool}(he:PE X o B)(c:Cls X.K C)(O:Meth X.K C m f)(F:Cw X.prog X.w X.K X.mg X.base CX k f fd ps sp)(hr:Dd k X.A)(hb:Binds X.K fd ps ds)(hd:Vals dvs ds)(hx:Passes CX X E)(ha:PA X (e::es) t)
  (J:Zs X.env e es:=by rfl)(L:Zp X.env pos es:=by rfl)
  (ht:CP (.Call (.Attribute o m apos) (e::es) [] pos) X.env=(do
   let M <-CP o X.env
   JW apos.atName
   let (f,first) <-JX [M] (HX M m pl)
   JM pos f first (GJ pos (BR (e::es) X.env)) (GR pos (E_ [] X.env))):=by rfl):
  PE X (.Call (.Attribute o m apos) (e::es) [] pos) (yb5 C m sp dvs E B t):=by
 intro pins s σ H Q I h;refine W.methodCall_KW (pl:=pl) (thn (he pins s σ H _ I h) λu Y ⟨x,H1,U,Z,a,dx,fs,ex,ea,l,q⟩=>?_) ht;subst ex;obtain rfl:u=Value.ref a:=Z;refine Vj U ea c O l ?_;refine W.callWith_K (first:=[.ref a]) (h₀:=X.base) I.ok.mod.kin O.kp (thG (ha pos pins Y σ H1 _ U q) λus s2 vs H2 T r q2=>⟨T.KJ,?_⟩) J L;exact rQ (us:=.ref a::us) (vs:=.ref a::vs) F hr hb hd hx T (.cons rfl r) q2
structure Mk(K:BW)(C f:BJ):Prop where
 makes:W.makesIn K C=true
 init:W.findIn K (.ref C) "__init__" = some (some (.ref f))
 fn:W.isFn K (.ref f)=true
 kp:W.keepIn K (.ref C)=true
def km5{Q:VK}(M:Mk X.K C f)(F:Cw X.prog X.w X.K X.mg X.base CX k f fd ps sp)(Z:Dd (k+1) X.A)(hb:Binds X.K fd ps ds)(hd:Vals dvs ds)
  (Y:Passes CX X E)(I:Inv X pins σ H s)(r:Vals vs us)
  (h:∀x dx,H x=none->H dx=none->dx≠x->sp (.ref x::(vs++dvs)) (upd (upd H dx (.own x)) x (.ins C dx [])) (λv H2=>v=.non/\Q (.ref x) H2) E):
  BL (BV X.prog X.w) X.A (call (.ref C) us) (EP X pins σ Q) X.xe s:=by
 have O:=h (s.heap.objs.size+1) s.heap.objs.size (I.hok.fresh (ZQ _)) (I.hok.fresh (H_ _)) (NK (dM _));have J:=Inv.made (C:=C) I;have L:Vals (V.ref (s.heap.objs.size+1)::(vs++dvs)) (Value.ref (s.heap.objs.size+1)::(us++ds)):=.cons rfl (r.append hd);have hl:(Value.ref (s.heap.objs.size+1)::us++ds).length=ps.length:=by have e:=L.length;rw[F.len _ _ _ _ O]at e;exact e.symm
 refine JG (ki4 (f:=f) I.KJ M.makes M.init (beq_iff_eq.mp M.fn) (HY (F.run _ X.stack _ _ ⟨Value.ref (s.heap.objs.size+1)::us,[]⟩ (Value.ref (s.heap.objs.size+1)::(us++ds)) _ _ E (Z.make C us [])
  (J.env0.make C us []) (hb _ (Value.ref (s.heap.objs.size+1)::us) J.KJ hl) L O) λr s' l=>?_))
 cases r with
 |error e=>exact Y pins σ _ _ e s' J l
 |ok fl =>
  cases fl with
  |ret u=>have⟨v,H',I3,T,ev,U⟩:=J.after l;subst ev;exact⟨T,⟨V.ref (s.heap.objs.size+1),H',I3,rfl,U⟩⟩
  |next=>exact False.elim l
  |brk=>exact False.elim l
  |cont=>exact False.elim l
def kj9(M:Mk X.K C f)(F:Cw X.prog X.w X.K X.mg X.base CX k f fd ps sp)(L:Dd (k+1) X.A)(T:Gl X x)(O:X.mg x=some (.ref C))(Y:Binds X.K fd ps ds)(U:Vals dvs ds)(J:Passes CX X E)
  (l:Zd x:=by decide):PE X (.Call (.Name x p) [] [] pos) (yb4 C sp dvs E jA):=by
 intro pins s σ H Q I h;refine IW (Gy I T O ?_ l);exact W.callWith_K0 I.KJ M.kp (km5 (us:=[]) M F L Y U J I .nil h)
end
structure Br(N P:List BP)(sc:GX):Prop where
 kind:sc.kind=.function
 co:sc.isCoroutine=false
 gen:sc.isGenerator=false
 nd:N.Nodup
 pre:N.take P.length=P
 par:∀x∈P,sc.names.lookup x=some .local\/sc.names.lookup x=some .cell
 nofree:∀y∈sc.names,y.2≠.free
theorem Xj{kindOf:BP->Option GF}{x:BP}:∀{binds:List (BP×A_)}{m:BP->Option A_},(∀v,(x,v)∉binds)->S_ kindOf binds m x=m x
 | [],_,_=>rfl
 | (n,v)::r,m,h=>by
  unfold S_;rw[Xj λw l=>h w (KQ _ l)];split
  ·have:x≠n:=by rintro rfl;exact h v MF
   simp[this]
  ·rfl
theorem Xh{kindOf:BP->Option GF}{x:BP}:∀{binds:List (BP×A_)}{m:BP->Option A_},(∀v,(x,v)∉binds)->TF kindOf binds m x=m x
 | [],_,_=>rfl
 | (n,v)::r,m,h=>by
  unfold TF;rw[Xh λw l=>h w (KQ _ l)];split
  ·rfl
  ·have:x≠n:=by rintro rfl;exact h v MF
   simp[this]
def Xi{kindOf:BP->Option GF}{x:BP}{v:A_}:∀{P:List BP}{vs:List A_}{i:Nat}{m:BP->Option A_},P.Nodup->P[i]? = some x->vs[i]? = some v->kindOf x=some .local ->
  S_ kindOf (P.zip vs) m x=some v
 | [],_,_,_,_,h,_,_=>by simp at h
 |_::_,[],_,_,_,_,h,_=>by simp at h
 |p::P,w::vs,0,m,L,J,l,M=>by simp at J l;subst J;subst l;show S_ kindOf ((p,w)::P.zip vs) m p=_;unfold S_;rw[Xj λv O=>(VB.mp L).1 (nT O).1,if_pos M];simp
 |p::P,w::vs,i+1,m,L,J,l,M=>by show S_ kindOf ((p,w)::P.zip vs) m x=_;unfold S_;exact Xi (i:=i) (VB.mp L).2 (by simpa using J) (by simpa using l) M
def Xg{kindOf:BP->Option GF}{x:BP}{v:A_}:∀{P:List BP}{vs:List A_}{i:Nat}{m:BP->Option A_},P.Nodup->P[i]? = some x->vs[i]? = some v->kindOf x≠some .local ->
  TF kindOf (P.zip vs) m x=some v
 | [],_,_,_,_,h,_,_=>by simp at h
 |_::_,[],_,_,_,_,h,_=>by simp at h
 |p::P,w::vs,0,m,L,J,l,M=>by simp at J l;subst J;subst l;show TF kindOf ((p,w)::P.zip vs) m p=_;unfold TF;rw[Xh λv O=>(VB.mp L).1 (nT O).1,if_neg M];simp
 |p::P,w::vs,i+1,m,L,J,l,M=>by show TF kindOf ((p,w)::P.zip vs) m x=_;unfold TF;exact Xg (i:=i) (VB.mp L).2 (by simpa using J) (by simpa using l) M
def start(N:List BP)(vs:List V):St:=vs.map some++List.replicate (N.length - vs.length) none
def Ls(CX:CXT)(P:BX)(w:CN)(K:BW)(mg:BP->Option A_)(base:B_)(N:List BP)(qual:BP)(scope:GX)(f:BJ)(cd:A_)(A:C_)(outer:List GZ)(s:BK)(H:Hp)(E:XK):Cx where
 prog:=P
 w:=w
 K:=K
 mg:=mg
 base:=base
 A:=A.deeper (envOfC qual scope s.heap.objs.size f cd)
 N:=N
 s₀:=s
 H₀:=H
 env:=envOfC qual scope s.heap.objs.size f cd
 outer:=outer
 stack:=envOfC qual scope s.heap.objs.size f cd::outer
 ex:=[]
 calm:=true
 fn:=λ_=>true
 pn:=[]
 xe:=λe s'=>BL (BV P w) (A.deeper (envOfC qual scope s.heap.objs.size f cd)) (TV (envOfC qual scope s.heap.objs.size f cd) e) (λ_ s''=>CX outer H s E e s'') (λe' s''=>CX outer H s E e' s'') s'
def wC{sc:GX}{x:BP}(h:sc.names.lookup x=some .cell):∃c,(D_ n sc.names []).lookup x=some c:=by have q:=W.cellsFrom_some sc.names n [] (.inl h);exact iD.mp q
variable {CX:CXT}{qual:BP}
theorem jx6{base:B_}{N ps:List BP}{l:GX}{Z:A_}{outer:List GZ}{s1:BK}{E:XK}
  (S:Br N ps l)(hd:A.handled=none)(J:ZP P w K mg base A outer s H)(hl:vs.length=ps.length)(r:Vals vs us)
  (x:InCallC s s.heap.objs.size (S_ (envOfC qual l s.heap.objs.size f Z).kindOf (ps.zip us) λ_=>none) (D_ (s.heap.objs.size+1) l.names []) (TF (envOfC qual l s.heap.objs.size f Z).kindOf (ps.zip us) λ_=>none) s1):
  Inv (Ls CX P w K mg base N qual l f Z A outer s H E) [] (start N vs) H s1:=by
 have aa:ps.length<=N.length:=by have:=congrArg List.length S.pre;rw[YH]at this;lia
 obtain⟨Y,tk,rfl,hk⟩:=x.done;have L:∀b:BJ,b∉(Ls CX P w K mg base N qual l f Z A outer s H E).ex:=λb z=>absurd (show b∈([]:List BJ) from z) (by simp);refine⟨⟨J.mod,S.kind,rfl,rfl,H_ _,λy z c Y m=>?_,λy M=>?_,λy c _ h=>?_,λ_=>hd,Around.frames_deeper J.frames,.inr ⟨rfl,rfl⟩,λb z=>absurd z (L b),J.bs,J.bsz,λb _ _=>L b,λb z=>absurd z (L b),J.funs,J.frf⟩,
  rfl,J.bare,Un.kept hk,⟨_,x.toInCall.ns,λi y v Y m h3=>?_⟩,λy c h=>⟨_,x.cell y c h⟩,J.hok.fresh (H_ _),λy c h=>?_,λp T=>absurd (show p∈([]:List (BJ×GD)) from T) (by simp),J.hok.kept hk,?_⟩
 ·exact name_of_addr x.apart (PySem.mem_of_lookup Y) (PySem.mem_of_lookup m)
 ·have M:l.names.lookup y=some .cell\/l.names.lookup y=some .free:=M;rcases M with M |M
  ·exact wC M
  ·exact absurd rfl (S.nofree _ (PySem.mem_of_lookup M))
 ·exact gW (x.above y c (PySem.mem_of_lookup h))
 ·have U:i<vs.length:=by
   unfold start at m;by_cases U:i<vs.length
   ·exact U
   ·rw[bK (by simpa using U)]at m;rw[oH]at m;split at m<;>cases m
  have ha:vs[i]? = some v:=by
   unfold start at m;rw[dY (by simpa using U),QC]at m;cases e:vs[i]? with
   |none=>rw[e]at m;cases m
   |some a=>rw[e]at m;cases m;rfl
  have⟨u,hu,rv⟩:=r.get ha;have T:ps[i]? = some y:=by rw[<-S.pre,xY (by lia)];exact Y
  have O:ps.Nodup:=by rw[<-S.pre];exact S.nd.sublist (List.take_sublist _ _)
  refine⟨u,rv,?_⟩;rcases S.par y (ZZ T) with k |k
  ·exact .inl ⟨k,Xi O T hu k⟩
  ·have⟨c,e⟩:=wC (n:=s.heap.objs.size+1) k;refine .inr ⟨.inl k,c,e,?_⟩;have q:=x.cell y c e;rw[Xg O T hu (by show l.names.lookup y≠_;rw[k];decide)]at q;exact q
 ·exact J.hok.fresh (gW (x.above y c (PySem.mem_of_lookup h)))
 ·unfold start;show _=N.length;rw[PQ,HN,xW];lia
def j_{base:B_}{k:Nat}{name:BP}{params:bM}{l:GX}{dV kV aa pm m ct oc:A_}{an od:Option BJ}
  {ab:Array (Option A_)}{N ps:List BP}{sp:Sp}(lk:K.lookup f=some ⟨oc,od,.func (W.fnOf name qual params z l dV kV aa pm an m ct),ab⟩)(ae:W.codeIn K m qual=true)(S:Br N ps l)
  (len:∀vs H Q E,sp vs H Q E->vs.length=ps.length)
  (O:∀(A:C_)(outer:List GZ)(s:BK)(H:Hp)(vs:List V)(Q:VK)(E:XK),Dd k (A.deeper (envOfC qual l s.heap.objs.size f m))->sp vs H Q E ->
   ∃t,PSs (Ls CX P w K mg base N qual l f m A outer s H E) z t/\t {nx:=λ_ H'=>Q .non H',rt:=Q} (start N vs) H):
  Cw P w K mg base CX (k+1) f (W.fnOf name qual params z l dV kV aa pm an m ct) ps sp:=by
 refine⟨len,λA outer s H args us vs Q E hr Z hb r U=>?_⟩;have hl:=len _ _ _ _ U;have KX:K.In s.heap:=Z.mod.kin.keeps λb o e=>(Z.bs b o e).1;have lim:s.heap.NoLimit:=Z.mod.nolimit.keeps λb o e=>(Z.bs b o e).1;have M:∀y∈ps.zip us,l.names.lookup y.1=some .local\/(l.names.lookup y.1=some .cell/\((D_ (s.heap.objs.size+1) l.names []).lookup y.1).isSome=true):=λ⟨n,v⟩ hy=>by
  rcases S.par n (nT hy).1 with q |q
  ·exact .inl q
  ·exact .inr ⟨q,W.cellsFrom_some _ _ _ (.inl q)⟩
 refine codeAny_call_function hr.depth (KX _ _ lk) rfl S.co S.gen rfl (W.codeRec_of KX ae) (hb _ _ _ _ ?_);refine wpAny_newFunctionEnv_cells S.kind M λenv he s1 x=>?_;subst he;refine⟨lim.keeps x.toInCall.keep,codeAny_func ?_⟩;have⟨t,ht,hq⟩:=O A outer s H vs Q E (hr.deeper _) U;have I:Inv (Ls CX P w K mg base N qual l f m A outer s H E) [] (start N vs) H s1:=jx6 S hr.hd Z hl r x;refine DP (ht [] s1 (start N vs) H _ I hq) (λfl s' T=>?_) λe s' T=>T;have Y:∀{L:St}{H':Hp}{v:V}{u:A_},Inv (Ls CX P w K mg base N qual l f m A outer s H E) [] L H' s'->RelV v u->Q v H'->CE outer P w H s Q u s':=
  λ{L H' v u} J rv q=>⟨v,H',J.os,J.bare,J.base,J.hok,rv,q⟩
 cases fl with
 |ret u=>obtain⟨v,L,H',J,rv,q⟩:=T;exact Y J rv q
 |next=>obtain⟨L,H',J,q⟩:=T;exact Y (v:=V.non) (u:=Value.none) J rfl q
 |brk=>obtain⟨_,_,_,q⟩:=T;exact False.elim q
 |cont=>obtain⟨_,_,_,q⟩:=T;exact False.elim q
section
variable {x:BP}{l T:String}{r:List V->Hp->VK->Prop}
def tCB(r:List V->Hp->VK->Prop)(t:TA):TE:=λσ H Q=>t σ H λvs m=>r vs m Q
def vL(hc:Ei X (.builtin l) r)(hg:Gl X x)(Z:X.mg x=none)(U:HQ x=some (.builtin l))(ha:PA X (e::es) t)(Y:x ≠ "__name__":=by decide)(J:Zd x:=by decide)
  (he:Zs X.env e es:=by rfl)(m:Zp X.env pos es:=by rfl):PE X (.Call (.Name x p) (e::es) [] pos) (tCB r t):=by
 intro pins s σ H Q I h;refine IW (Rw I hg Z U ?_ Y J);exact PyProof.Rows.callWith_builtin1 (thG (ha pos pins s σ H _ I h) λus L vs H1 I1 M O=>hc pins L σ H1 vs us Q I1 M O) he m
def jz8(hc:Ei X (.type T) r)(hg:Gl X x)(Z:X.mg x=none)(U:HQ x=some (.type T))(ha:PA X (e::es) t)(Y:x ≠ "__name__":=by decide)(J:Zd x:=by decide)
  (he:Zs X.env e es:=by rfl)(m:Zp X.env pos es:=by rfl):PE X (.Call (.Name x p) (e::es) [] pos) (tCB r t):=by
 intro pins s σ H Q I h;refine IW (Rw I hg Z U ?_ Y J);exact PyProof.Rows.callWith_type1 (thG (ha pos pins s σ H _ I h) λus L vs H1 I1 M O=>hc pins L σ H1 vs us Q I1 M O) he m
end
end L2
namespace HT
open PySem PyProof.Rows
variable {t sl:BJ}{Q:A_->BK->Prop}{b a:A_}{lo hi:Option Int}
section
variable {prog:BX}{w:CN}{A:C_}{E:A_->BK->Prop}{s:BK}
def kr2{b:BJ}{vs ws:List A_}(ht:QZ s.heap t vs.toArray)(x:QZ s.heap b ws.toArray)(p:vs≠[])
  (h1:ws=[]->Q (.ref t) s)(y:ws≠[]->Q (.ref s.heap.objs.size) {s with heap:=s.heap.push {cls:=.type "tuple",data:=.seq (vs++ws).toArray} })
  (hsz:vs.length+ws.length<=sizeLine):BL (BV prog w) A (FJ .Add (.ref t) (.ref b)) Q E s:=by
 have⟨⟨cls,u,data,sl⟩,m,r,n,q⟩:=id ht;have⟨⟨v,j,data2,h⟩,f,i,o,hd2⟩:=id x;simp only at r q i hd2;subst r q i hd2;have e:vs.toArray++ws.toArray=(vs++ws).toArray:=by simp
 by_cases l:ws=[]
 ·exact QQ ⟨_,m,rfl⟩ ⟨_,f,rfl⟩ QT SJ PySem.F.slot_tuple_add PySem.F.entry_tuple_add (PySem.F.args_tuple_add_2 _ _)
   (tuple_addW1 t b vs.toArray ws.toArray n o u j sl h (by simpa using p) (by simp[l])) ⟨m,f,h1 l⟩
 ·refine QQ ⟨_,m,rfl⟩ ⟨_,f,rfl⟩ QT SJ PySem.F.slot_tuple_add PySem.F.entry_tuple_add (PySem.F.args_tuple_add_2 _ _)
   (tuple_addW2 t b vs.toArray ws.toArray n o u j sl h (by simpa using p) (by simpa using l) (by rw[O_,O_];exact hsz)) ⟨m,f,?_⟩
  rw[e];exact y l
def sIx(n d:Nat):Option Int->Nat
 |none=>d
 |some v=>if v<0 then(v+(n:Int)).toNat else min v.toNat n
def Q8(n d:Nat):sIx n d none=d:=rfl
theorem Lb(n d k:Nat):sIx n d (some (k:Int))=min k n:=by show(if(k:Int)<0 then((k:Int)+(n:Int)).toNat else min (k:Int).toNat n)=min k n;rw[if_neg (by lia),VP]
theorem wo0(n d:Nat)(f:d<=n)(o:Option Int):sIx n d o<=n:=by
 cases o with
 |none=>exact f
 |some v =>
  show(if v<0 then(v+(n:Int)).toNat else min v.toNat n)<=n;by_cases e:v<0
  ·rw[if_pos e];lia
  ·rw[if_neg e];exact nZ _ _
def oV(a b:Nat):((min a b:Nat):Int)=min (a:Int) b:=by
 rcases Nat.le_total a b with h |h
 ·rw[YF h,wU (gV.mpr h)]
 ·rw[Nat.min_eq_right h,Int.min_eq_right (gV.mpr h)]
def Y4(v:Int)(n d:Nat):(if v<0 then max (v+(n:Int)) 0 else min v (n:Int))=((sIx n d (some v):Nat):Int):=by
 show(if v<0 then max (v+(n:Int)) 0 else min v (n:Int))=(((if v<0 then(v+(n:Int)).toNat else min v.toNat n):Nat):Int);by_cases e:v<0
 ·rw[if_pos e,if_pos e];exact(Int.toNat_eq_max _).symm
 ·rw[if_neg e,if_neg e,oV,iC (Int.not_lt.mp e)]
def wB(v:Int)(n d:Nat):max 0 (min (if v<0 then v+(n:Int) else v) (n:Int))=((sIx n d (some v):Nat):Int):=by
 rw[<-Y4 v n d];by_cases e:v<0
 ·rw[if_pos e,if_pos e,Int.max_comm,wU (Int.le_trans (Int.add_le_add_right (Int.le_of_lt e) _) (Int.le_of_eq (Int.zero_add _)))]
 ·rw[if_neg e,if_neg e,wZ (Int.le_min.mpr ⟨Int.not_lt.mp e,Int.natCast_nonneg n⟩)]
theorem jj6(lo hi:Option Int)(n:Nat):Builtin.Slice.sliceAdjust lo hi 1 (n:Int)=(((sIx n 0 lo:Nat):Int),((sIx n n hi:Nat):Int)):=by
 have e:¬ ((1:Int)<0):=by lia
 unfold Builtin.Slice.sliceAdjust;simp only[e,if_false];refine Prod.ext ?_ ?_
 ·cases lo with
  |none=>rfl
  |some v=>exact Y4 v n 0
 ·cases hi with
  |none=>rfl
  |some v=>exact Y4 v n n
theorem jo2(i j:Nat):Builtin.Slice.slicePlaces (i:Int) (j:Int) 1=j - i:=by
 unfold Builtin.Slice.slicePlaces;have e:(1:Int)>0:=by lia
 simp only[e,if_true,Int.ediv_one];split<;>lia
def Wg{v:A_}{o:Option Int}{Q:Option Int->BK->Prop}(p:QG v o)(h:Q o s):BL (BV prog w) A (Builtin.Slice.slicePartIndex v) Q E s:=by
 cases p with
 |none=>exact eU h
 |int i t=>exact slicePart_int h
def R4{n:Nat}{Q:Int×Int×Nat->BK->Prop}(hs:s.heap.IsSliceOf sl b a .none)(pl:QG b lo)(i:QG a hi)
  (h:Q (((sIx n 0 lo:Nat):Int),1,sIx n n hi - sIx n 0 lo) s):BL (BV prog w) A (Builtin.Slice.sliceApplied (.ref sl) (pure (n:Int))) Q E s:=by
 have⟨l,e,j,f⟩:=id hs;unfold Builtin.Slice.sliceApplied Builtin.Slice.sliceFields;refine CK (CK (CJ e f (x:=b) rfl (CK (CJ e f (x:=a) rfl (CK (CJ e f (x:=.none) rfl (FZ ?_)))))));refine CK (eU ?_);show BL _ _ (if((1:Int) == 0)=true then _ else _) _ _ s;rw[if_neg (by decide)];refine CK (Wg pl (CK (Wg i (CK (FZ ?_)))));show BL _ _ (match Builtin.Slice.sliceAdjust lo hi 1 (n:Int) with | (lo,hi)=>pure (lo,(1:Int),Builtin.Slice.slicePlaces lo hi 1)) _ _ s;rw[jj6 lo hi n];show BL _ _ (pure (((sIx n 0 lo:Nat):Int),(1:Int),Builtin.Slice.slicePlaces ((sIx n 0 lo:Nat):Int) ((sIx n n hi:Nat):Int) 1)) _ _ s;rw[jo2];exact FZ h
theorem kk6(xs:Array A_)(i k:Nat):((List.range k).filterMap λ(m:Nat)=>xs[((i:Int)+(m:Int) * 1).toNat]?).toArray=((xs.toList.drop i).take k).toArray:=by
 have e:(λ(m:Nat)=>xs[((i:Int)+(m:Int) * 1).toNat]?)=λm=>xs[i+m]?:=by
  funext m;have:((i:Int)+(m:Int) * 1).toNat=i+m:=by lia
  rw[this]
 rw[e];have:=pick_run xs i k;rw[List.filterMap_map]at this;have f:((λx=>xs[x]?)∘λx=>i+x)=λm=>xs[i+m]?:=rfl;rw[f]at this;rw[this]
theorem Qs{items:Array A_}(ht:QZ s.heap t items)(hs:s.heap.IsSliceOf sl b a .none)(pl:QG b lo)(n:QG a hi)
  (p:¬ (sIx items.size 0 lo=0/\sIx items.size items.size hi=items.size))
  (h:Q (.ref s.heap.objs.size) {s with heap:=s.heap.push {cls:=.type "tuple",data:=.seq ((items.toList.drop (sIx items.size 0 lo)).take (sIx items.size items.size hi - sIx items.size 0 lo)).toArray} })
  (hsz:items.size<=sizeLine):BL (BV prog w) A (PB (.ref t) (.ref sl)) Q E s:=by
 have e:sizeOk (.seq ((items.toList.drop (sIx items.size 0 lo)).take (sIx items.size items.size hi - sIx items.size 0 lo)).toArray):=by show((items.toList.drop (sIx items.size 0 lo)).take (sIx items.size items.size hi - sIx items.size 0 lo)).toArray.size<=sizeLine;rw[O_,YH,YG,n8];exact RJ (RJ (nZ _ _) (Nat.sub_le _ _)) hsz
 have x:sIx items.size items.size hi<=items.size:=wo0 _ _ (H_ _) hi;have⟨o,f,j,r⟩:=id hs;have l:s.TypeIs (.ref sl) "slice":=⟨o,f,j⟩;unfold PB
 try with_reducible refine HS ?_
 first |refine CK (FZ ?_) |skip
 refine CK (wpAny_sequenceKey ht.typeIs (by decide) ?_);refine CK (EY (name:=Str.ofString "__getitem__") ht.typeIs PyProof.Rows.slot_tuple_getitem
  (FP PyProof.Rows.slot_tuple_getitem ht.typeIs entry_tuple_getitem ?_ (args_tuple_getitem _ _)))
 show BL _ _ (Builtin.Tuple.tupleItemsOf (.ref t) >>= _) _ _ s;refine CK (tupleItemsOf_ ht ?_);refine CK (wpAny_typeOf l ?_);rw[if_pos (by decide)];refine CK (R4 hs pl n ?_);have i:¬ ((((sIx items.size 0 lo:Nat):Int) == 0 && (1:Int) == 1 && (sIx items.size items.size hi - sIx items.size 0 lo) == items.size)=true):=by intro q;rw[KN,KN]at q;have v:((sIx items.size 0 lo:Nat):Int)=0:=eq_of_beq q.1.1;have u:sIx items.size items.size hi - sIx items.size 0 lo=items.size:=eq_of_beq q.2;exact p ⟨by lia,by lia⟩
 show BL _ _ (if(((sIx items.size 0 lo:Nat):Int) == 0 && (1:Int) == 1 && (sIx items.size items.size hi - sIx items.size 0 lo) == items.size)=true then _ else _) _ _ s;rw[if_neg i,kk6]
 first
  |exact CK (m:=Builtin.Tuple.tupleExact _) (CV (FZ ⟨_,rfl,FZ h⟩) e)
  |exact CK (m:=Builtin.Tuple.tupleExact _) (CV (CK (FZ (FZ ⟨_,rfl,FZ h⟩))) e)
  |exact CK (CK (m:=Builtin.Tuple.tupleExact _) (CV (FZ (FZ ⟨_,rfl,FZ h⟩)) e))
  |exact CK (CK (m:=Builtin.Tuple.tupleExact _) (CV (FZ ⟨_,rfl,FZ h⟩) e))
end
end HT
namespace L2
open PySem PySem.Spec PyProof.Rows
abbrev TO:=St->Hp->(Option Int->Hp->Prop)->Prop
def PO(X:Cx)(e:Option BZ)(t:TO):Prop:=
 ∀(a:List (BJ×GD))(s:BK)(b:St)(H:Hp)(Q:Option Int->Hp->Prop),Inv X a b H s->t b H Q ->
  BL (BV X.prog X.w) X.A (evalPart e X.env) (λu h=>∃o f,Inv X a b f h/\QG u o/\Q o f) X.xe s
def wa0:TO:=λ_ H Q=>Q none H
def yb7(t:TE):TO:=λa H Q=>t a H λx b=>∃i,x=.int i/\Q (some i) b
variable {X:Cx}{e:BZ}{pos:GP}
variable {r:V->Option Int->Option Int->Hp->VK->Prop}{xs:List V}{us:List A_}
section
variable {a:TE}{lo hi:Option BZ}{f i:TO}{j:GP}
def kx9:PO X none wa0:=by intro b s l H Q I h;rw[evalPart_none];exact FZ ⟨none,H,I,.none,h⟩
def ky0(h:PE X e a):PO X (some e) (yb7 a):=by intro b s l H Q I o;rw[evalPart_some];refine thG (h b s l H _ I o) λu w x v p m n=>?_;obtain⟨i,rfl,q⟩:=n;obtain⟨t,rfl⟩:=m;exact⟨some i,v,p,.int i t,q⟩
def SlR(X:Cx)(r:V->Option Int->Option Int->Hp->VK->Prop):Prop:=
 ∀(b:List (BJ×GD))(s:BK)(h:St)(H:Hp)(x:V)(v m l:A_)(lo hi:Option Int)(n:BJ)(Q:VK),Inv X b h H s->RelV x v->s.heap.IsSliceOf n m l .none->QG m lo->QG l hi->r x lo hi H Q ->
  ∃T o,QB (.type T) "__getitem__" = pure (some (.builtin o))/\s.TypeIs v T/\BL (BV X.prog X.w) X.A (PB v (.ref n)) (EP X b h Q) X.xe s
def SlR.or{t:V->Option Int->Option Int->Hp->VK->Prop}(h:SlR X r)(h':SlR X t):SlR X (λx lo hi H Q=>r x lo hi H Q\/t x lo hi H Q):=by
 intro b s l H x v n m lo hi o Q I p w pl u q;rcases q with q |q
 ·exact h b s l H x v n m lo hi o Q I p w pl u q
 ·exact h' b s l H x v n m lo hi o Q I p w pl u q
def tSl(r:V->Option Int->Option Int->Hp->VK->Prop)(a:TE)(f i:TO):TE:=λb H Q=>a b H λx n=>f b n λl m=>i b m λu h=>r x l u h Q
def Vz(M:SlR X r)(U:PE X e a)(O:PO X lo f)(K:PO X hi i):PE X (.Subscript e (.Slice lo hi none j) pos) (tSl r a f i):=by intro m s o H Q I h;refine YQ (thG (U m s o H _ I h) λv B x H1 I1 C G=>?_);refine wpAny_Slice (thG (O m B o H1 _ I1 G) λt z l H2 I2 pl F=>thG (K m z o H2 _ I2 F) λp n u y I3 J E=>?_);rw[evalPart_none];refine FZ ?_;have Z:Inv X m o y {n with heap:=n.heap.push {cls:=.type "slice",data:=.fields #[t,p,.none] } }:=I3.kept (t':=n.toks) λb ob q=>JK _ q;have⟨T,id,Y,L,P⟩:=M m {n with heap:=n.heap.push {cls:=.type "slice",data:=.fields #[t,p,.none] } } o y x v t p l u n.heap.objs.size Q Z C (Heap.IsSliceOf.new ..) pl J E;show BL (BV X.prog X.w) X.A (R_ e (.Slice lo hi none j) v (.ref n.heap.objs.size)) (EP X m o Q) X.xe {n with heap:=n.heap.push {cls:=.type "slice",data:=.fields #[t,p,.none] } };exact tail_any (ops:=[.ref n.heap.objs.size,v]) L Y P (by with_unfolding_all rfl)
def X_(xs:List V)(lo hi:Option Int):List V:=(xs.drop (HT.sIx xs.length 0 lo)).take (HT.sIx xs.length xs.length hi - HT.sIx xs.length 0 lo)
def Sv(xs:List V)(lo hi:Option Int):(X_ xs lo hi).length<=xs.length:=by unfold X_;rw[YH,YG];exact RJ (nZ _ _) (Nat.sub_le _ _)
def y_(K:BW):V->Option Int->Option Int->Hp->VK->Prop:=λx lo hi H Q=>∃a xs,x=.ref a/\SqT K H a xs /\
 ¬ (HT.sIx xs.length 0 lo=0/\HT.sIx xs.length xs.length hi=xs.length)/\∀p,H p=none->Q (.ref p) (upd H p (.tup (X_ xs lo hi)))
def wo6:SlR X (y_ X.K):=by
 intro n s B H x v E C lo hi F Q I u A pl w h;obtain⟨a,xs,rfl,y,z,q⟩:=h;cases u;have⟨m,r,t,p⟩:=I.tuple y;have l:m.toArray.size=xs.length:=by rw[O_];exact r.length.symm
 refine⟨"tuple",_,PyProof.Rows.slot_tuple_getitem.lookup,t.typeIs,?_⟩;refine HT.Qs t A pl w (by rw[l];exact z) ?_ (by rw[l];exact p);rw[l];refine⟨.ref s.heap.objs.size,_,I.laid (t':=s.toks) (o:=.tup (X_ xs lo hi)) (λb G q=>JK _ q) (H_ _) ?_,rfl,q _ (I.hok.fresh (H_ _))⟩;exact⟨RJ (Sv xs lo hi) p,_,(r.drop (HT.sIx xs.length 0 lo)).take (HT.sIx xs.length xs.length hi - HT.sIx xs.length 0 lo),IsTup.new _ _⟩
def wz9(K:BW):R2:=λx y H Q=>∃a b xs h,x=.ref a/\y=.ref b/\SqT K H a xs/\SqT K H b h/\xs≠[]/\xs.length+h.length<=sizeLine /\
 (h=[]->Q (.ref a) H)/\(h≠[]->∀p,H p=none->Q (.ref p) (upd H p (.tup (xs++h))))
def Vals.nil_iff(r:Vals xs us):us=[]↔xs=[]:=by
 cases r with
 |nil=>simp
 |cons _ _=>simp
def kx2:OpR X (FJ .Add) (wz9 X.K):=by intro n s O H x y v u Q I C B h;obtain⟨a,b,xs,A,rfl,rfl,M,L,J,t,F,E⟩:=h;cases C;cases B;have⟨G,m,p1,_⟩:=I.tuple M;have⟨p,l,j,_⟩:=I.tuple L;refine HT.kr2 p1 j (λz=>J (m.nil_iff.mp z)) (λz=>⟨.ref a,H,I,rfl,F (l.nil_iff.mp z)⟩) (λz=>?_) (by rw[<-m.length,<-l.length];exact t);refine⟨.ref s.heap.objs.size,_,I.laid (t':=s.toks) (o:=.tup (xs++A)) (λb P q=>JK _ q) (H_ _) ?_,rfl,E (λw=>z (l.nil_iff.mpr w)) _ (I.hok.fresh (H_ _))⟩;exact⟨by rw[PQ];exact t,_,m.append l,IsTup.new _ _⟩
end
def ixN(n:Nat)(i:Int):Option Nat:=if 0<=i then(if i<n then some i.toNat else none) else if -(n:Int)<=i then some (i+n).toNat else none
def atI{a:Type}(xs:List a)(i:Int):Option a:=(ixN xs.length i).bind λj=>xs[j]?
variable {n j:Nat}{i:Int}
theorem ku8(h:ixN n i=some j):seqIndex? i n=some j/\j<n/\-(n:Int)<=i/\i<n:=by
 unfold ixN at h;by_cases b:0<=i
 ·rw[if_pos b]at h;by_cases a:i<n
  ·rw[if_pos a]at h;have e:i.toNat=j:=Option.some.inj h;exact⟨by rw[seqIndex_of b a,e],by lia,by lia,a⟩
  ·rw[if_neg a]at h;cases h
 ·rw[if_neg b]at h;by_cases a:-(n:Int)<=i
  ·rw[if_pos a]at h;have e:(i+n).toNat=j:=Option.some.inj h;exact⟨by rw[seqIndex_neg (by lia) a,e],by lia,a,by lia⟩
  ·rw[if_neg a]at h;cases h
def Yw{a:Type}{xs:List a}{v:a}(h:atI xs i=some v):∃j,seqIndex? i xs.length=some j/\xs[j]? = some v/\j<xs.length/\-(xs.length:Int)<=i/\i<xs.length:=by
 unfold atI at h;cases e:ixN xs.length i with
 |none=>rw[e]at h;cases h
 |some j=>rw[e]at h;have⟨m,l,f,b⟩:=ku8 e;exact⟨j,m,h,l,f,b⟩
theorem Yx{a:Type}{xs:List a}{v:a}(h:xs[j]? = some v):atI xs (j:Int)=some v:=by
 have b:j<xs.length:=(MT.mp h).1;have e:ixN xs.length (j:Int)=some j:=by unfold ixN;rw[if_pos (by lia),if_pos (by lia)];simp
 unfold atI;rw[e];exact h
def Ug(b:BZ):Prop:=∀o i,QW b false o i=operate [o,i] (PB o i)
def IxR(X:Cx)(r:R2):Prop:=
 ∀(value slice:BZ)(a:List (BJ×GD))(s:BK)(b:St)(H:Hp)(x y:V)(v u:A_)(Q:VK),Inv X a b H s->RelV x v->RelV y u->r x y H Q ->
  QW slice false v u=operate [v,u] (PB v u)->BL (BV X.prog X.w) X.A (R_ value slice v u) (EP X a b Q) X.xe s
def MtR(X:Cx)(f:String)(r:V->List V->Hp->VK->Prop):Prop:=
 ∀(a:List (BJ×GD))(s:BK)(b:St)(H:Hp)(x:V)(xs:List V)(v:A_)(us:List A_)(Q:VK),Inv X a b H s->RelV x v->Vals xs us->r x xs H Q ->
  BL (BV X.prog X.w) X.A (call (.builtin f) (v::us)) (EP X a b Q) X.xe s
variable {x:V}
section
variable {a b:BZ}{l tb:TE}
def j5{r:R2}(w:IxR X r)(A:PE X a l)(z:PE X b tb)(hs:Ug b):PE X (.Subscript a b pos) (tOp r l tb):=by intro f s m H Q I h;exact YQ (jT A z I h λv u o x y C B t p q=>w a b f o m C x y v u Q B t p q (hs _ _))
def zG(K:BW):R2:=λx y H Q=>∃p xs i v,x=.ref p/\y=.int i/\SqL K H p xs/\atI xs i=some v/\Q v H
def zE(K:BW):R2:=λx y H Q=>∃p xs i v,x=.ref p/\y=.int i/\SqT K H p xs/\atI xs i=some v/\Q v H
def zF:R2:=λx y H Q=>∃z i c,x=.str z/\y=.int i/\z.length<=sizeLine/\atI z.cps.toList i=some c/\Q (.str ⟨#[c]⟩) H
theorem Zv:IxR X (zG X.K):=by
 intro value slice f s E H x y v u Q I O M h F;obtain⟨p,xs,i,z,rfl,rfl,P,U,q⟩:=h;cases O;obtain⟨t,rfl⟩:=M;have⟨B,r,pl,hz⟩:=I.list P;have⟨j,o,h2,h3,Z,Y⟩:=Yw U;have⟨w,J,A⟩:=r.get h2;have T:=r.length;have hn:=Rx;have m:EP X f E Q w s:=⟨z,H,I,A,q⟩;by_cases G:0<=i
 ·have C:i.toNat=j:=by rw[seqIndex_of G Y]at o;exact Option.some.inj o
  exact item_listR pl.isList G (by lia) (by rw[C];simpa using J) m F
 ·have C:(i+(B.toArray.size:Int)).toNat=j:=by rw[seqIndex_neg (by lia) Z]at o;rw[O_,<-T];exact Option.some.inj o
  exact TQ (x:=w) pl.isList.typeIs slot_list_getitem.lookup
   (wpAny_getItem_list_neg (Q:=λr L=>r=w/\EP X f E Q r L) pl.isList (by lia) (by rw[O_]<;>lia) (by lia) (by rw[C];simpa using J) ⟨rfl,m⟩) F
theorem wj9:IxR X (zE X.K):=by
 intro value slice f s A H x y v u Q I E C h G;obtain⟨p,xs,i,z,rfl,rfl,J,M,q⟩:=h;cases E;obtain⟨t,rfl⟩:=C;have⟨F,r,pl,U⟩:=I.tuple J;have⟨j,P,O,h3,h4,Z⟩:=Yw M;have⟨w,T,m⟩:=r.get O;have L:=r.length;have Y:=Rx;have o:EP X f A Q w s:=⟨z,H,I,m,q⟩;exact TQ (x:=w) pl.typeIs slot_tuple_getitem.lookup
  (getItem_tuple (j:=j) (Q:=λr B=>r=w/\EP X f A Q r B) pl (by lia) (by lia) (by rw[O_,<-L];exact P) (by simpa using T) ⟨rfl,o⟩) G
theorem wj8:IxR X zF:=by
 intro value slice f s K H x y v u Q I p o h w;obtain⟨z,i,c,rfl,rfl,M,B,q⟩:=h;obtain⟨t,rfl⟩:=p;obtain⟨L,rfl⟩:=o;have⟨j,m,F,P,E,C⟩:=Yw B;have A:z.cps.toList.length=z.length:=by simp[Str.length]
 rw[A]at m E C;have O:=Rx;exact tail_any (JH s z t) slot_str_getitem.lookup (getItem_str (c:=c) (by
  have J:decide (i < -(2 ^ 63:Int))=false:=decide_eq_false (by lia);have G:decide (i≥2 ^ 63)=false:=decide_eq_false (by lia);rw[J,G,Bool.or_false]) (by rw[m];simpa using F) ⟨.str ⟨#[c]⟩,H,I.tok _,⟨_,rfl⟩,q⟩) w
def ja4(f h:Option Int)(n:Nat):(VJ f h none n).1=((HT.sIx n 0 f:Nat):Int)/\(VJ f h none n).2.1=((HT.sIx n n h:Nat):Int)/\(VJ f h none n).2.2=1:=by
 refine⟨?_,?_,rfl⟩
 ·cases f with
  |none=>rfl
  |some i=>exact HT.wB i n 0
 ·cases h with
  |none=>rfl
  |some i=>exact HT.wB i n n
def W8(its:List A_)(f h:Option Int):slicePick its.toArray f h none=((its.drop (HT.sIx its.length 0 f)).take (HT.sIx its.length its.length h - HT.sIx its.length 0 f)).toArray:=by have⟨p,o,m⟩:=ja4 f h its.toArray.size;unfold slicePick;rw[p,o,m];simp only[sliceRange_one,pick_run,O_]<;>rfl
def zB(K:BW):V->Option Int->Option Int->Hp->VK->Prop:=λx f h H Q=>∃a xs,x=.ref a/\SqL K H a xs/\∀p,H p=none->Q (.ref p) (upd H p (.lst (X_ xs f h)))
theorem tX:SlR X (zB X.K):=by intro t s E H x v G F m p J Q I w C pl y h;obtain⟨a,xs,rfl,B,q⟩:=h;cases w;have⟨z,r,u,A⟩:=I.list B;have f:=r.length;refine⟨"list",_,slot_list_getitem.lookup,u.isList.typeIs,?_⟩;refine wpAny_getItem_list_slice u.isList C pl y .none (by simp) ?_ (by rw[O_]<;>lia);rw[W8,<-f];refine⟨.ref s.heap.objs.size,_,I.laid (t':=s.toks) (o:=.lst (X_ xs m p)) (λb L q=>JK _ q) (H_ _) ?_,rfl,q _ (I.hok.fresh (H_ _))⟩;exact⟨RJ (Sv xs m p) A,_,0,(r.drop (HT.sIx xs.length 0 m)).take (HT.sIx xs.length xs.length p - HT.sIx xs.length 0 m),NP _ rfl⟩
theorem Pz:Ei X (.builtin "len") (λxs H Q=>∃p m,xs=[.ref p]/\(SqL X.K H p m\/SqT X.K H p m)/\Q (.int m.length) H):=by
 intro w s A H xs us Q I r h;obtain⟨p,m,rfl,o,q⟩:=h;obtain⟨u,rfl,y⟩:=vals1 r;cases y;have B:=Rx;rcases o with o |o
 ·have⟨v,t,pl,z⟩:=I.list o;have f:=t.length;exact Calls.call_len_list pl.isList (by simp only[O_]<;>lia) ⟨.int m.length,H,I.tok _,⟨s.toks+1,by rw[O_,f]⟩,q⟩
 ·have⟨v,t,pl,z⟩:=I.tuple o;have f:=t.length;exact len_tuple pl (by simp only[O_]<;>lia) ⟨.int m.length,H,I.tok _,⟨s.toks+1,by rw[O_,f]⟩,q⟩
theorem Yy:Ei X (.builtin "len") (λxs H Q=>∃z,xs=[.str z]/\z.length<=sizeLine/\Q (.int z.length) H):=by intro f s m H xs us Q I r h;obtain⟨z,rfl,o,q⟩:=h;obtain⟨u,rfl,t,rfl⟩:=vals1 r;have p:=Rx;exact len_str (by lia) ⟨.int z.length,H,I.tok _,⟨_,rfl⟩,q⟩
theorem Nx:Ei X (.type "tuple") (λxs H Q=>∃p t,xs=[.ref p]/\((SqL X.K H p t/\∀l,H l=none->Q (.ref l) (upd H l (.tup t)))\/(SqT X.K H p t/\Q (.ref p) H))):=by
 intro f s A H xs us Q I r h;obtain⟨p,t,rfl,h⟩:=h;obtain⟨u,rfl,F⟩:=vals1 r;cases F;rcases h with ⟨z,q⟩ | ⟨z,q⟩
 ·have⟨m,y,pl,B⟩:=I.list z;have C:=y.length;refine call_tuple_list pl.isList (λv G=>?_) (by simp only[O_]<;>lia);have E:Inv X f A H {s with heap:=v}:=I.kept (t':=s.toks) G;have J:Inv X f A (upd H v.objs.size (.tup t)) {s with heap:=v.push {cls:=.type "tuple",data:=.seq m.toArray} }:=
   E.laid (t':=s.toks) (λb o e=>JK _ e) (H_ _) (show Cj X.prog X.w _ _ _ (.tup t) from⟨B,m,y,IsTup.new _ _⟩)
  exact⟨.ref v.objs.size,_,J,rfl,q _ (E.hok.fresh (H_ _))⟩
 ·have⟨m,y,pl,B⟩:=I.tuple z;exact call_tuple_same pl ⟨.ref p,H,I,rfl,q⟩
def tyV(K:BW)(T:String)(x:V)(H:Hp):Prop:=match x with
 | .str _=>T = "str"
 | .int _=>T = "int"
 | .ref p=>(T = "list"/\∃xs,SqL K H p xs)\/(T = "tuple"/\∃o,K.lookup p=some o/\o.cls=.type "tuple"/\o.dict=none) \/
   (T = "dict"/\((∃f,H p=some (.dK f))\/∃f,H p=some (.dT f)))\/(T = "set"/\∃S n,H p=some (.set S n))
 |_=>False
def wq4{h:List (BJ×GD)}{y:St}{H:Hp}{s:BK}{T:String}{v:A_}(I:Inv X h y H s)(r:RelV x v)(ty:tyV X.K T x H):
  s.TypeIs v T/\∀a,v=.ref a->∃w,s.heap.get? a=some w/\w.dict=none:=by
 cases x with
 |str z=>obtain⟨t,rfl⟩:=r;cases(show T = "str" from ty);exact⟨JH s z t,λ_ e=>nomatch e⟩
 |int i=>obtain⟨t,rfl⟩:=r;cases(show T = "int" from ty);exact⟨typeIs_int s i t,λ_ e=>nomatch e⟩
 |ref p =>
  cases r;rcases ty with ⟨rfl,xs,B⟩ | ⟨rfl,o,f,C,q⟩ | ⟨rfl,f⟩ | ⟨rfl,S,n,f⟩
  ·have⟨A,_,pl,_⟩:=I.list B;refine⟨pl.isList.typeIs,λa e=>?_⟩;cases e;obtain⟨o,n,e,c,q,_⟩:=pl;exact⟨o,e,q⟩
  ·refine⟨⟨o,I.KJ p o f,C⟩,λa e=>?_⟩;cases e;exact⟨o,I.KJ _ o f,q⟩
  ·have z:∃o,s.heap.get? p=some o/\o.ExactDict:=by
    rcases f with ⟨m,f⟩ | ⟨m,f⟩
    ·have⟨_,_,_,_,o,_,_,e,ex,_⟩:=I.hok p _ f;exact⟨o,e,ex⟩
    ·have⟨_,_,_,_,o,_,_,e,ex,_⟩:=I.hok p _ f;exact⟨o,e,ex⟩
   obtain⟨o,e,ex⟩:=z;refine⟨⟨o,e,ex.1⟩,λa u=>?_⟩;cases u;exact⟨o,e,ex.2.1⟩
  ·have⟨o,_,_,_,e,ex,_⟩:=I.hok p _ f;refine⟨⟨o,e,ex.1⟩,λa u=>?_⟩;cases u;exact⟨o,e,ex.2.1⟩
 |_=>exact False.elim ty
def tBM(K:BW)(T:String)(r:V->List V->Hp->VK->Prop)(to:TE)(t:TA):TE:=λf H Q=>to f H λx h=>tyV K T x h/\t f h λxs m=>r x xs m Q
variable {o:BZ}{es:List BZ}{to:TE}{t:TA}{name:BP}{apos cpos:GP}{T f:String}{r:V->List V->Hp->VK->Prop}
def f9(P:PlainAttrs T)(slot:Slot T name f)(A:eQ (.builtin f)=pure (.type "method_descriptor"))(Y:MtR X f r)(U:PE X o to)(Z:PA X (e::es) t)
  (w:DG o name X.env (CP o X.env)=CP o X.env:=by rfl)
  (y:((GJ cpos (BR (e::es) X.env)).all (λx=>!x.1) && (GR cpos (E_ [] X.env)).all (λx=>x.1.isSome)
   && decide ((e::es).length+([]:List JF).length+(if([]:List JF).isEmpty then 0 else 1)<30))=true:=by rfl)
  (u:(apos.endLine == cpos.line)=true:=by rfl)(hs:Zs X.env e es:=by rfl)(p:Zp X.env cpos es:=by rfl):
  PE X (.Call (.Attribute o name apos) (e::es) [] cpos) (tBM X.K T r to t):=by
 intro m s z H Q I h;refine wpAny_Call_method_late w y u rfl (thG (U m s z H _ I h) λv J x H1 E B q=>?_);obtain⟨ty,O⟩:=q;have⟨h1,h2⟩:=wq4 E B ty;refine⟨T,f,P,slot,A,h1,h2,?_⟩;have C:=Z cpos m J z H1 _ E O;rw[hs]at C ⊢;refine Calls.callWith_builtin (by show(false || (GJ cpos (BR es X.env)).any (·.1))=false;rw[p]<;>rfl) (Calls.evalArgs_plain ?_);exact thn C λus G ⟨F,H2,I2,L,M⟩=>Y m G z H2 x F v us Q I2 B L M
end
def MtM(X:Cx)(f:String)(r:V->List V->Hp->VK->Prop):Prop:=
 ∀(a:List (BJ×GD))(s:BK)(b:St)(H:Hp)(x:V)(xs:List V)(v:A_)(us:List A_)(Q:VK),Inv X a b H s->RelV x v->Vals xs us->r x xs H Q ->
  BL (BV X.prog X.w) X.A (call (.builtin f) (v::us)) (EP X a b Q) X.xe s
def Vals.zero:∀{us:List A_},Vals [] us->us=[]
 |_,.nil=>rfl
def Vals.unc(h:Vals (x::xs) us):∃u a,us=u::a/\RelV x u/\Vals xs a:=by
 cases h with
 |cons r t=>exact⟨_,_,rfl,r,t⟩
def Vals.one(h:Vals [x] us):∃u,us=[u]/\RelV x u:=by obtain⟨u,a,rfl,r,t⟩:=h.unc;exact⟨u,by rw[t.zero],r⟩
def Vals.two{y:V}(h:Vals [x,y] us):∃u v,us=[u,v]/\RelV x u/\RelV y v:=by obtain⟨u,a,rfl,r,t⟩:=h.unc;obtain⟨v,rfl,q⟩:=t.one;exact⟨u,v,rfl,r,q⟩
variable {its:List A_}{t':Nat}
section
variable {pins:List (BJ×GD)}{σ:St}{H:Hp}{s:BK}{l b:BJ}{xs ys a:List V}
def Inv.lset{its':List A_}{f:Array A_->Array A_}(I:Inv X pins σ H s)(v:H l=some (.lst xs))
  (e:s.heap.get? l=some {cls:=.type "list",data:=.seq its.toArray n})(p:f its.toArray=its'.toArray)(m:Vals ys its')(h:ys.length<=sizeLine):
  Inv X pins σ (upd H l (.lst ys)) {s with heap:=s.heap.update l (Obj.mapSeq f),toks:=t'}:=by
 have q:=PySem.IsL.update e f;rw[p]at q;refine I.write (x:=l) (e:=l) (by rw[v];exact trivial) (.inl rfl) (λw u t o=>(SQ s.heap (Obj.mapSeq f) (Ne.symm t)).trans o) ⟨_,q⟩ ?_;exact⟨h,its',_,m,q⟩
def Inv.lnew(I:Inv X pins σ H s)(h:Vals ys its)(f:ys.length<=sizeLine):
  Inv X pins σ (upd H s.heap.objs.size (.lst ys)) {s with heap:=s.heap.push {cls:=.type "list",data:=.seq its.toArray},toks:=t'}:=
 I.laid (λ_ _ q=>JK _ q) (H_ _) ⟨f,its,0,h,NP _ rfl⟩
def Inv.fresh(I:Inv X pins σ H s):H s.heap.objs.size=none:=I.hok.fresh (H_ _)
def Inv.lstM(I:Inv X pins σ H s)(f:H l=some (.lst xs)):xs.length<=sizeLine/\∃(its:List A_)(n:Nat),Vals xs its/\xs.length=its.length/\s.heap.get? l=some {cls:=.type "list",data:=.seq its.toArray n}:=by have⟨z,its,n,r,e⟩:=I.hok l _ f;exact⟨z,its,n,r,r.length,e⟩
end
def ky8:V->List V->Hp->VK->Prop:=λx a H Q=>∃l xs y,x=.ref l/\a=[y]/\H l=some (.lst xs)/\xs.length<sizeLine/\Q .non (upd H l (.lst (xs++[y])))
theorem Ry:MtM X "list.append" ky8:=by intro a s p H x t v us Q I f m h;obtain⟨l,xs,y,rfl,rfl,b,w,q⟩:=h;cases f;obtain⟨u,rfl,o⟩:=m.one;have⟨z,its,n,r,A,e⟩:=I.lstM b;refine QF F.slot_list_append ⟨_,e,rfl⟩ F.entry_list_append (F.args_list_append_2 _ _) (PySem.list_append l its.toArray n u (by rw[O_];lia)) ⟨e,?_⟩;refine⟨.non,_,I.lset (its':=its++[u]) b e (by simp) (r.append (.cons o .nil)) ?_,rfl,q⟩;rw[PQ,List.length_singleton];lia
end L2
namespace Att
open PySem PySem.W PySem.Calls PyProof.Rows
variable {h:B_}
def Uc{P:iR}:∀(e:List Int)(vs:List A_),WellAll P h vs (e.map WData.int)->PL vs e:=by
 intro e;induction e with
 |nil=>intro vs w;rw[gU]at w;cases w;exact .nil
 |cons n e f =>
  intro vs w;rw[KH]at w;cases w with
  |cons a b=>cases a;exact .cons _ _ (f _ b)
variable {n:Nat}
theorem ka9{l:OpenLaw}(y:l.most=some n){P:iR}{args:List WData}{vals:List A_}
  (e:l.row.toRowW.claim.pre args=true)(o:WellAll P h vals args):
  ∃a s b,vals=[Value.ref a]/\args=[WData.list (b.map WData.int)]/\h.get? a=some {cls:=.type "list",data:=.seq s.toArray}/\PL s b/\b.length<=n:=by
 have p:WShape.hasAll [] args [.list .int]=true:=(pre_splitW e).1;have t:l.pre.holds [] {args:=args}=true:=(pre_splitW e).2;obtain⟨d,r,rfl,B,A⟩:=hasAllW_cons p;obtain rfl:=hasAllW_nil A;obtain⟨C,rfl,z⟩:=hasW_list B;obtain⟨b,rfl⟩:=items_int z;have f:b.length<=n:=by
  unfold OpenLaw.pre at t;have m:(WTm.not (.lt (.lit (.int (n:Int))) (.len (.arg 0)))).holds [] {args:=[.list (b.map .int)] }=true:=by have m:=(holds_andW t).1;rw[y]at m;exact m
  have j:=condW_of m (w_not (w_lt w_lit (w_len_list (w_arg rfl))));rw[HN]at j;refine Nat.le_of_not_lt λq=>?_;have w:(n:Int)<((b.length:Nat):Int):=by lia
  first
   | (rw[decide_eq_true w]at j;exact absurd j (by decide))
   | (simp at j;lia)
 cases o with
 |cons v u =>
  cases u;cases v with
  |list x i=>exact⟨_,_,b,rfl,rfl,x,Uc b _ i,f⟩
def ka2(l:OpenLaw)(args:List WData):l.row.toRowW.claim.post args (.bool true) args=true:=
 postW_of (r:=l.row.toRowW) (X:=(true == true))
  (show WShape.has [] (.bool true) .bool=true by first |rfl |decide |simp[WShape.has,WShape.arms,WShape.armsAll])
  (show(WTm.eq .res (.lit (.bool true))).value [] {args:=args,res:=some (.bool true),after:=args}=some (.bool (true == true)) from w_eq_bool (w_res rfl) w_lit) rfl
def jc0{l:OpenLaw}{q:BX}{loose:List BP}{J:(BP->Option A_)->B_->Prop}{I:CN->B_->Prop}{d:DefRec}
  (O:l.most=some n)(C:d.params.defaults=[])
  (call:∀(w:CN)(e b:BK)(v z:BP->Option A_)(s:BJ)(o:GD)(y x i:A_)(a:BJ)(vs:List A_)(u:List Int),
   Ground q loose [] J w e v z b.heap->I w b.heap ->
   b.heap.get? s=some o->o.data=.func (docDef d.name d.params d.body d.scope y x i)->b.heap.CodeRec x d.name->v d.name=some (.ref s) ->
   b.heap.get? a=some {cls:=.type "list",data:=.seq vs.toArray}->PL vs u->u.length<=n->b.gens = #[] ->
   JD (BV l.prog w) PK (.call (.ref s) ⟨[.ref a],[]⟩) (λr t=>r=.ok (.ret (.bool true))/\OldK b.heap t.heap/\t.os=b.os/\JZ t.gens) b):
  WalkO q loose J I l.row.toRowW d [] (λf vs=>PySem.call f vs):=by
 intro w e b v z G Y s o y x i dV kV M U E H B T args vals as j F K A Q;obtain rfl:dV=.none:=Dflts.none H C;obtain rfl:kV=.none:=Dflts.noKw H;obtain⟨a,vs,u,rfl,rfl,m,hints,p⟩:=ka9 O j A;refine enter_call (HY (call w e b v z s o y x i a vs u G Y M (fd_plain U) E B m hints p T) λr t L=>?_);obtain⟨rfl,h2,Z,X⟩:=L;exact⟨.inl ⟨.bool true,.bool true,[],rfl,λ_=>rfl,.bool true,ka2 l _,λ_=>⟨List.Pairwise.nil,λ_ P=>(nomatch P)⟩⟩,h2,Z,X⟩
end Att
namespace L2
open PySem PySem.Spec PyProof.Rows
variable {vs:List A_}{ns:List Int}
def kb8(h:PL vs ns):Vals (ns.map V.int) vs:=by
 induction h with
 |nil=>exact .nil
 |cons n t h a=>exact .cons ⟨t,rfl⟩ a
def Only(H:Hp):Prop:=∀b,H b=none\/∃o a,H b=some (.frz o (.lst a))
variable {fd:CZ}{x:BP}{sp:Sp}
def kh8{P:BX}{w:CN}{K:BW}{A T:BP->Option A_}{CX:CXT}{k:Nat}{fa a:BJ}{f:BK}
  (KX:K.In f.heap)(G:f.heap.Ns HW A)(j:f.heap.Ns RL T)(Y:∀x:BP,x ≠ "__name__"->T x=HQ x)(I:f.heap.NoLimit)(hg:f.gens = #[])
  (O:f.heap.get? a=some {cls:=.type "list",data:=.seq vs.toArray})(hi:PL vs ns)(hl:ns.length<=sizeLine)(hr:Dd k PK)
  (F:∀base:B_,K.In base->base.Ns HW A->Cw P w K A base CX k fa fd [x] sp)(t:∀(s:BK)(u:A_),RD s fd ⟨[u],[]⟩ [(x,u)])
  (U:∀H:Hp,Only H->SqL K H a (ns.map V.int)->sp [.ref a] H (λv _=>v=.bl true) λ_ _ _=>False)
  (Z:∀H e l,CX [] H f (λ_ _ _=>False) e l->False):
  JD (BV P w) PK (.call (.ref fa) ⟨[.ref a],[]⟩) (λr l=>r=.ok (.ret (.bool true))/\OldK f.heap l.heap/\l.os=f.os/\JZ l.gens) f:=by
 have rv:=kb8 hi;have B:=hi.length;have core:∀H:Hp,Only H->SqL K H a (ns.map V.int)->HOk P w H f.heap->(∀b,H b≠none->b=a)->(H a≠none->K.lookup a=none) ->
   JD (BV P w) PK (.call (.ref fa) ⟨[.ref a],[]⟩) (λr l=>r=.ok (.ret (.bool true))/\OldK f.heap l.heap/\l.os=f.os/\JZ l.gens) f:=by
  intro H hO hS E hA hK;have i:∀{b:BJ}{o:GD},f.heap.get? b=some o->H b=none->(Zn f.heap H).get? b=some o:=λe n=>kf8 e n;have Q:∀{b:BJ}{o:GD}{L:Array G_}{M:Nat},f.heap.get? b=some o->o.data=.dict L M->H b=none:=λ{b o L M} e d=>by
   cases q:H b with
   |none=>rfl
   |some u=>have e':b=a:=hA b (by rw[q];simp);subst e';rw[O]at e;cases e;have d':Data.seq vs.toArray _=Data.dict L M:=d;cases d'
  have p:∀{b:BJ}{m:BP->Option A_},f.heap.Ns b m->(Zn f.heap H).Ns b m:=λ{b m} ⟨o,L,M,e,d,r⟩=>⟨o,L,M,i e (Q e d),d,r⟩;have J:K.In (Zn f.heap H):=λb o e=>i (KX b o e) (by
   cases q:H b with
   |none=>rfl
   |some u =>
    have e':b=a:=hA b (by rw[q];simp);subst e';rw[hK (by rw[q];simp)]at e;cases e)
  have hM:Mod K A (Zn f.heap H):=⟨J,p G,⟨T,p j,Y⟩,let ⟨mc,h1,h2⟩:=I; ⟨mc,p h1,h2⟩⟩;have e0:ZP P w K A (Zn f.heap H) PK [] f H:=⟨rfl,hM,λb o e=>kw8 e,nM (jx5 _ _),trivial,λb j=>absurd (show b∈([]:List BJ) from j) (by simp),E,.of_eq hg⟩;refine HY ((F _ J (p G)).run PK [] f H ⟨[.ref a],[]⟩ [.ref a] [.ref a] _ _ hr e0 (t f (.ref a)) (.cons rfl .nil) (U H hO hS)) λr l h=>?_;cases r with
  |error e=>exact(Z H e l h).elim
  |ok fl =>
   cases fl with
   |next=>exact False.elim h
   |brk=>exact False.elim h
   |cont=>exact False.elim h
   |ret u =>
    obtain⟨v,H',os,bare,un,C,r',q⟩:=h;have q':v=.bl true:=q;subst q';obtain rfl:u=Value.bool true:=r';refine⟨rfl,OldK.of_keep λb o e=>?_,os,bare⟩;cases q:H b with
    |none=>exact un.keep b o e q (by intro z;exact absurd (show b∈([]:List BJ) from z) (by simp)) (by simp)
    |some u =>
     rcases hO b with z | ⟨ob,xs,z⟩
     ·rw[q]at z;cases z
     ·have z2:=un.frzs b ob _ z;have⟨e1,_⟩:=E b _ z;have⟨e2,_⟩:=C b _ z2;rw[e]at e1;cases e1;exact e2
 cases X:K.lookup a with
 |some o=>have e:=KX a o X;rw[O]at e;cases e;refine core (λ_=>none) (λ_=>.inl rfl) (.inr ⟨_,vs.toArray,_,X,rfl,rfl,rfl,by rw[O_,B];exact hl,by simpa using rv⟩) (λb u z=>by have y:(none:Option HO)=some u:=z;cases y) (λb z=>absurd rfl z) λz=>absurd rfl z
 |none =>
  refine core (λb=>if b=a then some (.frz {cls:=.type "list",data:=.seq vs.toArray} (.lst (ns.map V.int))) else none) (λb=>?_) (.inl (.inr ⟨{cls:=.type "list",data:=.seq vs.toArray},if_pos rfl⟩)) (λb u z=>?_) (λb z=>?_) λ_=>X
  ·by_cases j:b=a
   ·exact .inr ⟨_,_,if_pos j⟩
   ·exact .inl (if_neg j)
  ·by_cases j:b=a
   ·have y:=(if_pos j).symm.trans z;cases y;subst j;exact⟨O,by rw[HN];exact hl,vs,_,rv,O⟩
   ·have y:=(if_neg j).symm.trans z;cases y
  ·by_cases j:b=a
   ·exact j
   ·exact absurd (if_neg j) z
def wa8{l:W.OpenLaw}{n k:Nat}{q:BX}{loose:List BP}{XP:(BP->Option A_)->B_->Prop}{I:CN->B_->Prop}{d:DefRec}{K:iR->BW}{CX:CN->CXT}{sp:CN->Sp}
  (M:l.most=some n)(z:n<=sizeLine)(B:d.params.defaults=[])(L:Dd k PK)
  (U:∀(w:CN)(h:B_),I w h->(K w.params).In h)
  (F:∀(w:CN)(j:BP->Option A_)(r:BJ)(h:B_),(K w.params).In h->h.Ns HW j->j d.name=some (.ref r) ->
   ∃fd:CZ,(∀(s:BK)(u:A_),RD s fd ⟨[u],[]⟩ [(x,u)]) /\
    ∀base:B_,(K w.params).In base->base.Ns HW j->Cw l.prog w (K w.params) j base (CX w) k r fd [x] (sp w))
  (y:∀(w:CN)(H:Hp)(a:BJ)(ns:List Int),ns.length<=n->Only H->SqL (K w.params) H a (ns.map V.int)->sp w [.ref a] H (λv _=>v=.bl true) λ_ _ _=>False)
  (C:∀(w:CN)(H:Hp)(s:BK)(e:A_)(t:BK),CX w [] H s (λ_ _ _=>False) e t->False):
  W.WalkO q loose XP I l.row.toRowW d [] (λf vs=>PySem.call f vs):=by
 refine Att.jc0 M B λw E m j mb r o pm cd aa a vs ns G Y ho hd P A p hints i O=>?_;have J:=U w _ Y;have⟨fd,Q,hF⟩:=F w j r _ J G.T.g A;exact kh8 J G.T.g G.T.b G.T.builtins G.T.nolimit O p hints (RJ i z) L hF Q (λH Z X=>y w H a ns i Z X) λH e t=>C w H m e t
def Cm(s:CQ):bM:=match s with
 | .FunctionDef _ a _ _ _ _ _ _ _ _=>a
 |_=>{posonlyargs:=[],args:=[],vararg:=none,kwonlyargs:=[],kw_defaults:=[],kwarg:=none,defaults:=[] }
def Bd(s:CQ):List CQ:=match s with
 | .FunctionDef _ _ b _ _ _ _ _ _ _=>b
 |_=>[]
def Ae(s:CQ):GX:=match s with
 | .FunctionDef _ _ _ _ _ _ sc _ _ _=>sc
 |_=>{kind:=.function,names:=[],isGenerator:=false,isCoroutine:=false}
abbrev CX0:CXT:=λ_ _ _ _ _ _=>False
abbrev E0:XK:=λ_ _ _=>False
def wy9{X:Cx}:Passes CX0 X E0:=λ_ _ _ _ _ _ _ h=>h.elim
structure Fun(K:BW)(x qual:BP)(st:CQ)(f:BJ)(fd:CZ):Prop where
 ex:∃(oc:A_)(od:Option BJ)(kV doc pm:A_)(an:Option BJ)(cdv ct:A_)(osl:Array (Option A_)),
  fd=W.fnOf x qual (Cm st) (Bd st) (Ae st) .none kV doc pm an cdv ct/\K.lookup f=some ⟨oc,od,.func fd,osl⟩/\W.codeIn K cdv qual=true
 kp:W.keepIn K (.ref f)=true
variable {P:BX}{w:CN}
variable {qual:BP}{st:CQ}{f:BJ}
section
variable {K:BW}{mg:BP->Option A_}{base:B_}
def Fun.ok{N ps:List BP}{k:Nat}(F:Fun K x qual st f fd)(S:Br N ps (Ae st))(len:∀vs H Q E,sp vs H Q E->vs.length=ps.length)
  (b:∀(a:A_)(A:C_)(outer:List GZ)(s:BK)(H:Hp)(vs:List V)(Q:VK)(E:XK),Dd k (A.deeper (envOfC qual (Ae st) s.heap.objs.size f a))->sp vs H Q E ->
   ∃t,PSs (Ls CX0 P w K mg base N qual (Ae st) f a A outer s H E).nox (Bd st) t/\t {nx:=λ_ n=>Q .non n,rt:=Q} (start N vs) H):Cw P w K mg base CX0 (k+1) f fd ps sp:=by
 obtain⟨r,p,kV,m,o,an,a,ct,j,rfl,lk,i⟩:=F.ex;refine j_ lk i S len λA outer s H vs Q E l e=>?_;have⟨t,h,q⟩:=b a A outer s H vs Q E l e;exact⟨t,h.nox,q⟩
def Fun.binds{ps:List BP}(F:Fun K x qual st f fd)
  (h:∀(kV a e:A_)(an:Option BJ)(b ct:A_)(us:List A_),us.length=ps.length->KC (W.fnOf x qual (Cm st) (Bd st) (Ae st) .none kV a e an b ct) ⟨us,[]⟩=pure (ps.zip us)):Binds K fd ps []:=by
 obtain⟨m,l,kV,a,e,an,b,ct,i,rfl,lk,j⟩:=F.ex;exact .all (h kV a e an b ct)
def Zj{j:A_}{i an:Option BJ}{e:Array (Option A_)}{kV b h a ct:A_}(l:K.lookup f=some ⟨j,i,.func (W.fnOf x qual (Cm st) (Bd st) (Ae st) .none kV b h an a ct),e⟩)
  (c:W.codeIn K a qual=true)(k:W.keepIn K (.ref f)=true):Fun K x qual st f (W.fnOf x qual (Cm st) (Bd st) (Ae st) .none kV b h an a ct):=⟨⟨j,i,kV,b,h,an,a,ct,e,rfl,l,c⟩,k⟩
end
variable {X:Cx}
def pv(i:Nat){pos:GP}(h:X.N[i]? = some x:=by rfl)(b:Vis X.env.scope x:=by first |exact Or.inl rfl |exact Or.inr (Or.inl rfl) |exact Or.inr (Or.inr rfl))(e:Zd x:=by decide)
  (a:(x == ("__classdict__" : BP))=false:=by decide):PE X (.Name x pos) (eO i):=V0 h b e a
def Ab(H H':Hp):Prop:=∀b o,H b=some o->H' b=some o
def Ab.refl(H:Hp):Ab H H:=λ_ _ h=>h
def Ab.trans{H i e:Hp}(a:Ab H i)(b:Ab i e):Ab H e:=λc o h=>b c o (a c o h)
variable {H':Hp}
def Ab.free{H:Hp}(e:Ab H H'){l:BJ}(h:H' l=Option.none):H l=Option.none:=by
 cases q:H l with
 |none=>rfl
 |some o=>rw[e l o q]at h;cases h
section
variable {a:Type}[DecidableEq a]
def Ld(b:List (a×V))(k:a):Option V:=(b.find? λe=>decide (e.1=k)).map (·.2)
def putK(b:List (a×V))(k:a)(v:V):List (a×V):=
 if(b.any λe=>decide (e.1=k))=true then b.map (λe=>if e.1=k then(e.1,v) else e) else b++[(k,v)]
def M5{p:a×V}{r:List (a×V)}{k:a}(e:p.1=k):Ld (p::r) k=some p.2:=by simp[Ld,VN,e]
def M4{p:a×V}{r:List (a×V)}{k:a}(e:¬ p.1=k):Ld (p::r) k=Ld r k:=by simp[Ld,VN,e]
def uZ(k:a):∀b:List (a×V),(b.any λh=>decide (h.1=k))=(Ld b k).isSome
 | []=>rfl
 |p::r=>by
  rw[bG];by_cases e:p.1=k
  ·simp only[M5 e,decide_eq_true e,Bool.true_or,xN]
  ·rw[M4 e,decide_eq_false e,Bool.false_or];exact uZ k r
theorem Th(b:List (a×V))(k:a)(v:V):(putK b k v).length<=b.length+1:=by
 unfold putK;split
 ·rw[HN];lia
 ·rw[PQ,L_,gZ];lia
def J5.isSome_eq{o:Option V}{u:Option A_}(r:J5 o u):o.isSome=u.isSome:=by
 cases o with
 |none=>cases u with
  |none=>rfl
  |some _=>exact(show False from r).elim
 |some _=>cases u with
  |none=>exact(show False from r).elim
  |some _=>rfl
def J5.getD{o:Option V}{u:Option A_}{d:V}{d':A_}(r:J5 o u)(b:RelV d d'):RelV (o.getD d) (u.getD d'):=by
 cases o with
 |none=>cases u with
  |none=>exact b
  |some _=>exact(show False from r).elim
 |some _=>cases u with
  |none=>exact(show False from r).elim
  |some _=>exact r
def KV.val{i:List (a×V)}{vs:List (a×A_)}(r:KV i vs)(k:a):J5 (Ld i k) (HH vs k):=by
 unfold KV at r;induction r with
 |nil=>exact True.intro
 | @cons p q ps j h t n =>
  obtain⟨m,o⟩:=h;by_cases e:p.1=k
  ·have l:q.1=k:=m.symm.trans e;have b:HH (q::j) k=some q.2:=by simp[HH,VN,l]
   rw[M5 e,b];exact o
  ·have l:¬ q.1=k:=λz=>e (m.trans z);have b:HH (q::j) k=HH j k:=by simp[HH,VN,l]
   rw[M4 e,b];exact n
def KV.any{b:List (a×V)}{vs:List (a×A_)}(r:KV b vs)(k:a):(b.any λe=>decide (e.1=k))=vs.any λe=>decide (e.1=k):=by
 unfold KV at r;induction r with
 |nil=>rfl
 |cons h t i=>rw[bG,bG,i,h.1]
def KV.repl{i:List (a×V)}{vs:List (a×A_)}(r:KV i vs)(k:a){y:V}{u:A_}(l:RelV y u):
  KV (i.map λb=>if b.1=k then(b.1,y) else b) (vs.map λb=>if b.1=k then(b.1,u) else b):=by
 unfold KV at r ⊢;induction r with
 |nil=>exact .nil
 | @cons p q ps o h t m =>
  rw[KH,KH];refine .cons ?_ m;obtain⟨j,n⟩:=h;by_cases e:p.1=k
  ·rw[if_pos e,if_pos (j.symm.trans e)];exact⟨j,l⟩
  ·rw[if_neg e,if_neg (λz=>e (j.trans z))];exact⟨j,n⟩
def KV.put{b:List (a×V)}{vs:List (a×A_)}(r:KV b vs)(k:a){y:V}{u:A_}(h:RelV y u):KV (putK b k y) (stored vs k u):=by
 unfold putK stored;rw[r.any k];by_cases e:(vs.any λi=>decide (i.1=k))=true
 ·rw[if_pos e,if_pos e];exact r.repl k h
 ·rw[if_neg e,if_neg e];exact Paired.snoc r ⟨rfl,h⟩
def KV.length{b:List (a×V)}{vs:List (a×A_)}(r:KV b vs):b.length=vs.length:=Paired.length r
end
def X8{k:Key}{u:A_}(r:RelV (kV k) u):(Bq P w).is k u=true:=by
 cases k with
 |inl i=>have⟨t,e⟩:=(show ∃t,u=Value.int i t from r);subst e;exact jf9 P w i t
 |inr x=>have⟨t,e⟩:=(show ∃t,u=Value.str x t from r);subst e;exact Jw P w x t
def Rq{P:BX}{w:CN}:∀{ks:List Key}{us:List A_},Vals (ks.map kV) us->ItemsAre (Bq P w) ks us
 | [],_,r=>by rw[gU]at r;cases r;exact .nil
 |k::ks,_,r=>by
  rw[KH]at r;cases r with
  |cons h t=>exact .cons (X8 h) (Rq t)
abbrev KT(H:Hp):List (List Key×V)->List (List Key×BJ×A_)->Prop:=RP λp q=>p.1=q.1/\H q.2.1=some (.tup (p.1.map kV))/\RelV p.2 q.2.2
variable {kvs:List (List Key×V)}{xs:List (List Key×BJ×A_)}
def KT.val{H:Hp}(r:KT H kvs xs)(k:List Key):J5 (Ld kvs k) ((QX xs k).map (·.2)):=by
 induction r with
 |nil=>exact True.intro
 | @cons p q ps a h t l =>
  obtain⟨j,_,m⟩:=h;by_cases e:p.1=k
  ·have i:q.1=k:=j.symm.trans e;have b:QX (q::a) k=some q.2:=by simp[QX,VN,i]
   rw[M5 e,b];exact m
  ·have i:¬ q.1=k:=λz=>e (j.trans z);have b:QX (q::a) k=QX a k:=by simp[QX,VN,i]
   rw[M4 e,b];exact l
def KT.repl{H:Hp}(r:KT H kvs xs)(k:List Key){y:V}{u:A_}(j:RelV y u):
  KT H (kvs.map λb=>if b.1=k then(b.1,y) else b) (xs.map (putAt k u)):=by
 induction r with
 |nil=>exact .nil
 | @cons p q ps n h t l =>
  rw[KH,KH];refine .cons ?_ l;obtain⟨a,i,m⟩:=h;unfold putAt;by_cases e:p.1=k
  ·rw[if_pos e,if_pos (a.symm.trans e)];exact⟨a,i,j⟩
  ·rw[if_neg e,if_neg (λz=>e (a.trans z))];exact⟨a,i,m⟩
def KT.put{H:Hp}(r:KT H kvs xs)(k:List Key){b:BJ}{y:V}{u:A_}(i:H b=some (.tup (k.map kV)))(a:RelV y u):
  KT H (putK kvs k y) (storedH xs k b u):=by
 have e:(kvs.any λh=>decide (h.1=k))=(QX xs k).isSome:=by rw[uZ,(r.val k).isSome_eq,dO]
 unfold putK storedH;rw[e];by_cases q:(QX xs k).isSome=true
 ·rw[if_pos q,if_pos q];exact r.repl k a
 ·rw[if_neg q,if_neg q];exact Paired.snoc r ⟨rfl,i,a⟩
def KT.keeps{H:Hp}(r:KT H kvs xs)(ht:∀b a,H b=some (.tup a)->H' b=some (.tup a)):KT H' kvs xs:=
 Paired.mapP r λ_ _ z=>⟨z.1,ht _ _ z.2.1,z.2.2⟩
variable {a:BJ}{H:Hp}
section
variable {h:B_}
def pZ{u:HO}(ok:HOk P w H h)(e:Rd H a u):Cj P w H h a u:=e.ok ok
def U9{kvs:List (Key×V)}(ok:HOk P w H h)(e:Rd H a (.dK kvs)):kvs.length<=sizeLine/\(a == FQ)=false/\∃vs,KV kvs vs/\h.DictOf (Bq P w) a vs:=
 show Cj P w H h a (.dK kvs) from pZ ok e
def wt4{kvs:List (Key×V)}(ok:HOk P w H h)(e:H a=some (.dK kvs)):kvs.length<=sizeLine/\(a == FQ)=false/\∃vs,KV kvs vs/\h.DictOf (Bq P w) a vs:=U9 ok (.inl e)
def Rr{ks:List Key}(ok:HOk P w H h)(e:H a=some (.tup (ks.map kV))):(LQ (Bq P w)).is h ks a:=by have⟨_,b,r,o,l,j,n,i⟩:=(show Cj P w H h a (.tup (ks.map kV)) from ok a _ e);exact⟨o,b.toArray,n,l,j,i,by simpa using Rq r⟩
def Sy(ok:HOk P w H h)(e:Rd H a (.dT kvs)):kvs.length<=sizeLine/\(a == FQ)=false /\
  ∃xs,KT H kvs xs/\h.DictOfH (LQ (Bq P w)) a xs:=by
 have⟨z,y,xs,r,o,B,C,A,v,u,s,n⟩:=(show Cj P w H h a (.dT kvs) from pZ ok e);refine⟨z,y,xs,r,o,B,C,A,v,u,s,λx b=>?_,n⟩;have all:∀{l:List (List Key×V)}{m:List (List Key×BJ×A_)},KT H l m->∀x∈m,(LQ (Bq P w)).is h x.1 x.2.1:=by
  intro l m q;induction q with
  |nil=>intro x b;exact nomatch b
  | @cons p q ps E i t j =>
   intro x b;rcases I_.mp b with e |b
   ·subst e;exact Rr ok (by rw[<-i.1];exact i.2.1)
   ·exact j x b
 exact all r x b
def wt5(ok:HOk P w H h)(e:H a=some (.dT kvs)):kvs.length<=sizeLine/\(a == FQ)=false /\
  ∃xs,KT H kvs xs/\h.DictOfH (LQ (Bq P w)) a xs:=Sy ok (.inl e)
end
def O7(H:Hp)(a:BJ)(y:V)(r:Option V):Prop:=
 (∃kvs k,Rd H a (.dK kvs)/\y=kV k/\r=Ld kvs k)\/∃kvs k b,Rd H a (.dT kvs)/\y=.ref b/\H b=some (.tup (k.map kV))/\r=Ld kvs k
def bF(H:Hp)(a:BJ)(y v:V)(H':Hp):Prop:=
 (∃kvs k,H a=some (.dK kvs)/\y=kV k/\kvs.length<sizeLine/\H'=upd H a (.dK (putK kvs k v))) \/
 ∃kvs k b,H a=some (.dT kvs)/\y=.ref b/\H b=some (.tup (k.map kV))/\kvs.length<sizeLine/\H'=upd H a (.dT (putK kvs k v))
def O7.k{kvs:List (Key×V)}{k:Key}(e:H a=some (.dK kvs)):O7 H a (kV k) (Ld kvs k):=.inl ⟨kvs,k,.inl e,rfl,rfl⟩
def bF.k{kvs:List (Key×V)}{k:Key}{v:V}(e:H a=some (.dK kvs))(b:kvs.length<sizeLine):bF H a (kV k) v (upd H a (.dK (putK kvs k v))):=.inl ⟨kvs,k,e,rfl,b,rfl⟩
variable {A:C_}{pins:List (BJ×GD)}{o:Option V}{s:BK}{σ:St}{y:V}{r u:A_}{E:A_->BK->Prop}
variable {Q:A_->BK->Prop}{h':B_}
section
variable {v:V}
def Inv.big(I:Inv X pins σ H s):FQ<s.heap.objs.size:=by have h:HW<s.heap.objs.size:=(I.mod.glob.keeps I.bk).lt;exact cZ (by decide) h
def Xp(F:A.units+1<FN)(I:Inv X pins σ H s)(g:O7 H a y (some v))(C:RelV y u)(h:∀j B,Inv X pins σ H B->RelV v j->Q j B):
  BL (BV X.prog X.w) A (PB (.ref a) u) Q E s:=by
 rcases g with ⟨kvs,k,e,q,l⟩ | ⟨kvs,k,b,e,q,K,l⟩
 ·subst q;have⟨z,J,vs,rel,t⟩:=U9 I.hok e;have⟨j,m,i⟩:=J5.some_of (v:=v) (o:=HH vs k) (by rw[l];exact rel.val k);exact aC (X8 C) t.mapOf m (h j _ (I.tok _) i)
 ·subst q;cases(show u=Value.ref b from C);have⟨z,J,xs,rel,t⟩:=Sy I.hok e;have⟨j,m,i⟩:=J5.some_of (v:=v) (o:=(QX xs k).map (·.2)) (by rw[l];exact rel.val k);have⟨p,G,n⟩:=VR.mp m;refine WY (HJ F) (Rr I.hok K) t G ?_;rw[n];exact h j _ (I.tok _) i
def z9(t:A.units+1<FN)(I:Inv X pins σ H s)(g:O7 H a y o)(p:RelV y u)(h:∀n,Inv X pins σ H n->Q (.bool o.isSome) n):
  BL (BV X.prog X.w) A (CG .In u (.ref a)) Q E s:=by
 rcases g with ⟨kvs,k,e,j,l⟩ | ⟨kvs,k,b,e,j,B,l⟩
 ·subst j;have⟨z,i,vs,rel,m⟩:=U9 I.hok e;refine wpAny_in_of (X8 p) i m.mapOf ?_;rw[<-(rel.val k).isSome_eq,<-l];exact h _ (I.tok _)
 ·subst j;cases(show u=Value.ref b from p);have⟨z,i,xs,rel,m⟩:=Sy I.hok e;refine wpAny_in_heap (HJ t) (Rr I.hok B) i m ?_;have q:=(rel.val k).isSome_eq;rw[dO]at q;rw[<-q,<-l];exact h _ (I.tok _)
def kr3(t:A.units+1<FN)(I:Inv X pins σ H s)(g:O7 H a y o)(p:RelV y u)(h:∀n,Inv X pins σ H n->Q (.bool (!o.isSome)) n):
  BL (BV X.prog X.w) A (CG .NotIn u (.ref a)) Q E s:=by
 rcases g with ⟨kvs,k,e,j,l⟩ | ⟨kvs,k,b,e,j,B,l⟩
 ·subst j;have⟨z,i,vs,rel,m⟩:=U9 I.hok e;refine d9 (X8 p) i m.mapOf ?_;rw[<-(rel.val k).isSome_eq,<-l];exact h _ (I.tok _)
 ·subst j;cases(show u=Value.ref b from p);have⟨z,i,xs,rel,m⟩:=Sy I.hok e;refine wpAny_notIn_heap (HJ t) (Rr I.hok B) i m ?_;have q:=(rel.val k).isSome_eq;rw[dO]at q;rw[<-q,<-l];exact h _ (I.tok _)
def uT{t':Nat}{h:HO}(I:Inv X pins σ H s)(i:Mut (H a))(hs:Heap.SameBut a s.heap h')(j:∃q,h'.get? a=some q)(new:Cj X.prog X.w (upd H a h) h' a h):
  Inv X pins σ (upd H a h) {s with heap:=h',toks:=t'}:=
 I.write (x:=a) (e:=a) i (.inl rfl) (λb q l z=>(hs.2 b l).trans z) j new
def wg7{kvs:List (Key×V)}{vs:List (Key×A_)}(z:kvs.length<=sizeLine)(b:(a == FQ)=false)(rel:KV kvs vs)(dd:h'.DictOf (Bq P w) a vs):
  Cj P w H' h' a (.dK kvs):=⟨z,b,vs,rel,dd⟩
theorem Xq{Q:Unit->BK->Prop}(O:A.units+1<FN)(I:Inv X pins σ H s)(g:bF H a y v H')(J:RelV y u)(K:RelV v r)(h:∀G,Inv X pins σ H' G->Q () G):
  BL (BV X.prog X.w) A (setItem (.ref a) u r) Q E s:=by
 rcases g with ⟨kvs,k,e,B,l,C⟩ | ⟨kvs,k,b,e,B,M,l,C⟩
 ·subst B C;have⟨z,t,vs,rel,F⟩:=wt4 I.hok e;have m:vs.length<=sizeLine:=by rw[<-rel.length];exact z
  have p:(putK kvs k v).length<=sizeLine:=by have:=Th kvs k v;lia
  refine wpAny_setItem_pairs (hsz:=m) (X8 J) F λh' i n=>h _ ?_;have T:∃q,h'.get? a=some q:=let ⟨q,_,_,j,_⟩:=i; ⟨q,j⟩;exact uT I (by rw[e];exact True.intro) n T (wg7 p t (rel.put k K) i)
 ·subst B C;cases(show u=Value.ref b from J);have⟨z,t,xs,rel,F⟩:=wt5 I.hok e;have m:xs.length<=sizeLine:=by rw[<-Paired.length rel];exact z
  have p:(putK kvs k v).length<=sizeLine:=by have:=Th kvs k v;lia
  refine wpAny_setItem_heap (hsz:=m) (HJ O) (Rr I.hok M) F λh' i n=>h _ ?_;obtain⟨q,es,ep,j,h2,Z,Y,_,U⟩:=i;refine uT I (by rw[e];exact True.intro) n ⟨q,j⟩ ⟨p,t,_,(rel.put k M K).keeps λc ys L=>?_,q,es,ep,j,h2,Z,Y,U⟩;rw[Ac (ww5 L e (λz=>nomatch z))];exact L
end
def bC(i:BZ):Prop:=∀b e,QW i false b e=operate [b,e] (PB b e)
def nC{prog:BX}{env:GZ}{value slice:BZ}{pos:GP}{T t:String}
  (v:QB (.type T) "__getitem__" = pure (some (.builtin t)))(hs:bC slice)
  (h:BL (BV prog w) A (CP value env) (λo l=>BL (BV prog w) A (CP slice env) (λi b=>b.TypeIs o T/\BL (BV prog w) A (PB o i) Q E b) E l) E s):
  BL (BV prog w) A (CP (.Subscript value slice pos) env) Q E s:=by
 refine YQ (DP h (λo l p=>DP p (λi b e=>?_) λ_ _ x=>x) λ_ _ x=>x);obtain⟨q,e⟩:=e;unfold R_;refine CK ?_;rw[getitemInPython_of_ne q.not_modules];refine CK (wpAny_specialOf q v ?_);have m:BL (BV prog w) A (QW slice false o i) (λr j=>BL (BV prog w) A (letTemporaryGo value o r >>= λ_=>pure r) Q E j) E b:=by rw[hs o i];exact wpAny_operating (DP e (λr j n=>CK (wpAny_letTemporaryGo (FZ n))) λ_ _ x=>x)
 first
  |exact FZ (CK m)
  |exact CK (FZ (CK m))
  |exact CK m
def Sx(I:Inv X pins σ H s)(g:O7 H a y o):s.TypeIs (.ref a) "dict":=by
 rcases g with ⟨kvs,k,e,_,_⟩ | ⟨kvs,k,b,e,_,_,_⟩
 ·have⟨_,_,vs,_,h⟩:=U9 I.hok e;exact h.typeIs
 ·have⟨_,_,xs,_,h⟩:=Sy I.hok e;exact h.typeIs
def yb0(td ty:TE):TE:=λσ H Q=>td σ H λx e=>ty σ e λy b=>∃a v,x=.ref a/\O7 b a y (some v)/\Q v b
def kz9(ty td:TE):TE:=λσ H Q=>ty σ H λy e=>td σ e λx b=>∃a o,x=.ref a/\O7 b a y o/\Q (.bl (!o.isSome)) b
def ya1(td ty e:TE):TS:=λD σ H=>e σ H λv j=>td σ j λx i=>ty σ i λy h=>∃a b,x=.ref a/\bF h a y v b/\D.nx σ b
variable {e:BZ}{pos:GP}{td ty:TE}
section
variable {o i b:BZ}{j h:GP}{l:TE}
def kx6(G:X.A.units+1<FN)(J:PE X o td)(K:PE X i ty)(hs:bC i):PE X (.Subscript o i pos) (yb0 td ty):=by intro pins s σ H Q I h;refine nC PySem.F.slot_dict_getitem.lookup hs (thn (J pins s σ H _ I h) λu q ⟨x,T,M,z,C⟩=>thn (K pins q σ T _ M C) λiv Z m=>?_);obtain⟨y,O,p,t,a,v,ex,g,B⟩:=m;subst ex;obtain rfl:u=Value.ref a:=z;exact⟨Sx p g,Xp G p g t λU Y L n=>⟨v,O,L,n,B⟩⟩
def jz7(B:X.A.units+1<FN)(F:PE X i ty)(C:PE X o td):PC X .NotIn i o (kz9 ty td):=by intro pins s σ H Q I h;refine thn (F pins s σ H _ I h) λU n ⟨y,M,K,p,v⟩=>thn (C pins n σ M _ K v) λu T m=>?_;obtain⟨x,L,J,q,a,z,ex,g,t⟩:=m;subst ex;obtain rfl:u=Value.ref a:=q;exact kr3 B J g p λO G=>⟨.bl (!z.isSome),L,G,rfl,t⟩
def uB(G:X.A.units+1<FN)(J:PE X o td)(K:PE X i ty)(F:PE X b l)(hs:CW b (some (.Subscript o i j)) pos.line X.env=pure false):
  PS X (.Assign [.Subscript o i j] b pos) (ya1 td ty l):=by
 intro pins s σ H D I h;refine TJ (thn (F pins s σ H _ I h) λr n ⟨v,Z,T,t,C⟩=>thn (J pins n σ Z _ T C) λu m ⟨x,Y,O,q,B⟩=>thn (K pins m σ Y _ O B) λiv s3 ⟨y,H3,M,p,a,U,ex,g,z⟩=>?_) hs;subst ex;obtain rfl:u=Value.ref a:=q;exact Xq G M g p t λs4 L=>⟨σ,U,L,z⟩
end
def kd6(h:B_)(b:FQ<h.objs.size):Cj P w H (h.push {cls:=.type "dict",data:=.dict #[] }) h.objs.size (.dK []):=
 ⟨WQ _,beq_eq_false_iff_ne.mpr (Ne.symm (NK b)),[],.nil,Heap.DictOf.new h⟩
def wp4:TE:=λ_ H Q=>∀p,H p=none->Q (.ref p) (upd H p (.dK []))
def vK:PE X (.Dict [] [] pos) wp4:=λpins s σ H Q I h =>
 wpAny_Dict_empty ⟨.ref s.heap.objs.size,_,I.laid (a:=s.heap.objs.size) (o:=.dK []) (t':=s.toks) (λ_ _ q=>JK _ q) (H_ _) (kd6 s.heap I.big),rfl,h _ (I.hok.fresh (H_ _))⟩
structure M2(X:Cx)(o:BZ)(m:BP)(apos:GP)(e f:BZ)(cpos:GP):Prop where
 base:DG o m X.env (CP o X.env)=CP o X.env
 few:((GJ cpos (BR [e,f] X.env)).all (λx=>!x.1) && (GR cpos (E_ [] X.env)).all (λx=>x.1.isSome)
  && decide (([e,f]:List BZ).length+([]:List JF).length+(if([]:List JF).isEmpty then 0 else 1)<30))=true
 line:(apos.endLine == cpos.line)=true
 trees:GJ cpos (BR [e,f] X.env)=[(false,CP e X.env),(false,CP f X.env)]
def IsD(H:Hp)(a:BJ):Prop:=(∃kvs,Rd H a (.dK kvs))\/∃kvs,Rd H a (.dT kvs)
def lR(I:Inv X pins σ H s)(d:IsD H a):
  s.TypeIs (.ref a) "dict"/\(∀b,Value.ref a=.ref b->∃h,s.heap.get? b=some h/\h.dict=none)/\(a == FQ)=false:=by
 rcases d with ⟨kvs,e⟩ | ⟨kvs,e⟩
 ·have⟨_,j,vs,_,i⟩:=U9 I.hok e;refine⟨i.typeIs,λb q=>?_,j⟩;cases q;obtain⟨h,_,_,m,l,_⟩:=i;exact⟨h,m,l.2.1⟩
 ·have⟨_,j,xs,_,i⟩:=Sy I.hok e;refine⟨i.typeIs,λb q=>?_,j⟩;cases q;obtain⟨h,_,_,m,l,_⟩:=i;exact⟨h,m,l.2.1⟩
section
variable {d:V}
def wg4(v:A.units+1<FN)(I:Inv X pins σ H s)(g:O7 H a y o)(q:RelV y u)(t:RelV d r)(h:∀n p,Inv X pins σ H p->RelV (o.getD d) n->Q n p):
  BL (BV X.prog X.w) A (call (.builtin "dict.get") [.ref a,u,r]) Q E s:=by
 rcases g with ⟨kvs,k,e,m,l⟩ | ⟨kvs,k,b,e,m,B,l⟩
 ·subst m;have⟨z,j,vs,rel,i⟩:=U9 I.hok e;refine call_meetsIn PySem.F.slot_dict_get i.typeIs PySem.F.entry_dict_get (PySem.F.args_dict_get_3 _ _ _) (meets_dict_get_default (Bq X.prog X.w) a (X8 q) j r) ⟨_,i.mapOf,h _ _ (I.tok _) ?_⟩;rw[l];exact(rel.val k).getD t
 ·subst m;cases(show u=Value.ref b from q);have⟨z,j,xs,rel,i⟩:=Sy I.hok e;refine call_meetsIn PySem.F.slot_dict_get i.typeIs PySem.F.entry_dict_get (PySem.F.args_dict_get_3 _ _ _) (meetsH_dict_get_default (LQ (Bq X.prog X.w)) a b j r) ⟨HJ v,k,xs,Rr I.hok B,i,h _ _ (I.tok _) ?_⟩;rw[l];exact(rel.val k).getD t
end
def wp3(td ty tx:TE):TE:=λσ H Q=>td σ H λx h=>∃a,x=.ref a/\IsD h a/\ty σ h λy i=>tx σ i λz b=>∃o,O7 b a y o/\Q (o.getD z) b
section
variable {o f:BZ}{apos cpos:GP}{tx:TE}
def kj5(K:X.A.units+1<FN)(L:PE X o td)(O:PE X e ty)(M:PE X f tx)(m:M2 X o "get" apos e f cpos):PE X (.Call (.Attribute o "get" apos) [e,f] [] cpos) (wp3 td ty tx):=by
 intro pins s σ H Q I h;refine wpAny_Call_method m.base m.few m.line PySem.F.plainAttrs_dict PySem.F.slot_dict_get PySem.F.type_dict_get (thn (L pins s σ H _ I h) λu q b=>?_);obtain⟨x,H1,j,B,a,ex,d,J⟩:=b;subst ex;obtain rfl:u=Value.ref a:=B;have⟨n,l,_⟩:=lR j d;refine⟨n,l,?_⟩;rw[m.trees];refine Calls.callWith_builtin rfl (Calls.evalArgs_plain (Calls.spliced_cons (thn (O pins q σ H1 _ j J) λiv p ⟨y,H2,Y,v,G⟩ =>
  Calls.spliced_cons (thn (M pins p σ H2 _ Y G) λfv s3 ⟨z,Z,U,t,ov,g,C⟩=>Calls.spliced_nil ?_))))
 exact wg4 K U g v t λw' s4 T i=>⟨_,Z,T,i,C⟩
end
end L2
set_option maxHeartbeats 4000000
namespace PD
open PySem PySem.Spec PyProof.Rows L2
abbrev St:=L2.St
inductive D where
 |non |bl (b:Bool) |int (i:Int) |str (x:BP) |tup (xs:List D) |lst (xs:List D) |exc (c:BP) (ks:List D) (fs:List D)
def nr{e:Type}{a b:e}(h:a=b):a=b:=h
inductive R(α:Type) where
 |ok (a:α) |exc (e:D) |bad
def R.bind{h b:Type}:R h->(h->R b)->R b
 | .ok a,f=>f a
 | .exc e,_=>.exc e
 | .bad,_=>.bad
instance:Monad R where
 pure:=R.ok
 bind:=R.bind
@[simp] def R.ok_bind{b e:Type}(a:b)(f:b->R e):(R.ok a).bind f=f a:=nr rfl
def RQ{b:Type}(r:R b)(q:b->Prop)(e:D->Prop):Prop:=
 match r with
 | .ok a=>q a
 | .exc x=>e x
 | .bad=>False
def RQ.bind{h b:Type}{r:R h}{f:h->R b}{q:b->Prop}{e:D->Prop}:RQ (r.bind f) q e↔RQ r (λa=>RQ (f a) q e) e:=by cases r<;>exact Iff.rfl
variable {Z:D->Prop}
def RQ.mono{b:Type}{r:R b}{q f:b->Prop}{e:D->Prop}(h:RQ r q e)(i:∀a,q a->f a)(j:∀x,e x->Z x):RQ r f Z:=by
 cases r with
 |ok a=>exact i a h
 |exc x=>exact j x h
 |bad=>exact h
abbrev AS:=Option BJ->Prop
def fresh(H:Hp):AS:=λo=>∃a,o=some a/\H a=none
def AS.plus(S:AS)(H:Hp):AS:=λo=>S o\/fresh H o
def AS.but(S:AS)(a:BJ):AS:=λo=>S o/\o≠some a
def RoL(K:BW)(H:Hp)(a:BJ)(vs:List V):Prop:=
 (∃o,H a=some (.frz o (.lst vs))) \/
  ∃(o:GD)(its:Array A_)(n:Nat),K.lookup a=some o/\o.cls=.type "list"/\o.dict=none/\o.data=.seq its n/\its.size<=sizeLine/\Vals vs its.toList
def LsR(K:BW)(H:Hp)(S:AS)(a:BJ)(vs:List V):Prop:=(H a=some (.lst vs)/\S (some a))\/(RoL K H a vs/\S none)
variable {vs:List V}
def LsR.sq{K:BW}{H:Hp}{S:AS}{a:BJ}(h:LsR K H S a vs):SqL K H a vs:=by
 rcases h with ⟨h,_⟩ | ⟨⟨o,h⟩ |h,_⟩
 ·exact .inl (.inl h)
 ·exact .inl (.inr ⟨o,h⟩)
 ·exact .inr h
def SqL.ls{K:BW}{H:Hp}{a:BJ}{S:AS}(h:SqL K H a vs)(h1:S (some a))(b:S none):LsR K H S a vs:=by
 rcases h with (h | ⟨o,h⟩) |h
 ·exact .inl ⟨h,h1⟩
 ·exact .inr ⟨.inl ⟨o,h⟩,b⟩
 ·exact .inr ⟨.inr h,b⟩
def kyD:Key->D
 | .inl i=>.int i
 | .inr x=>.str x
def T7(H:Hp)(c:BP)(ks:List D)(a:BJ)(vs:List V):Prop:=
 (c = "dict"/\∃b:List (List Key),ks=b.map (λk=>D.tup (k.map kyD))/\b.length=vs.length/\b.Nodup/\∃o,H a=some (.frz o (.dT (b.zip vs)))) \/
  (c = "dictK"/\∃b:List Key,ks=b.map kyD/\b.length=vs.length/\b.Nodup/\∃o,H a=some (.frz o (.dK (b.zip vs))))
abbrev idn(a:BJ):BP:=⟨#[1114112+a]⟩
def dkN(c:BP):Bool:=decide (c = "Desk") ||c.cps.any (λk=>decide (1114112<=k))
def K6{c:BP}{a:BJ}(h:c = "Desk"\/c=idn a):dkN c=true:=by
 rcases h with rfl |rfl
 ·decide +kernel
 ·simp[dkN,idn]
def uL{a b:BJ}(h:idn a=idn b):a=b:=by have:=congrArg (λc:BP=>c.cps.toList) h;simpa[idn] using this
abbrev KD(c:BP):Prop:=c = "dictK"\/dkN c=true
structure EC(K:BW)(c:BP)(C W:BJ):Prop where
 at_:PySem.W.nsIn K PySem.mainGlobals c=some (some (.ref C))
 top:PySem.W.nsIn K PySem.mainGlobals "WebError" = some (some (.ref W))
 cls:∃cd,PySem.W.clsIn K C=some cd/\cd.name=c/\cd.hasDict=true/\cd.mro=[.ref C,.ref W,.type "ValueError",.type "Exception",.type "BaseException",.type "object"]
 wcl:∃cd,PySem.W.clsIn K W=some cd/\cd.name = "WebError"/\cd.mro=[.ref W,.type "ValueError",.type "Exception",.type "BaseException",.type "object"]
 gets:PySem.W.findIn K (.ref C) "__getattribute__" = some (some (.builtin "BaseException.__getattribute__"))
 geta:PySem.W.findIn K (.ref C) "__getattr__" = some none
 cla:PySem.W.findIn K (.ref C) "__class__" = some (some (.builtin "object.__class__"))
 nd:c ≠ "dict"/\¬ KD c
def Em(C a:BJ)(e:Option BJ):B_->Prop:=λh=>∃vs b,h.get? a=some ⟨.ref C,e,.fields vs,b⟩/\vs[2]? = some Value.none
def Us(K:BW)(H:Hp)(c:BP)(ks:List D)(a:BJ)(vs:List V):Prop:=∃C W,EC K c C W /\
 ((ks=[]/\vs=[]/\H a=some (.ext (Em C a none)))\/∃f v b,ks=[.str f]/\vs=[v]/\PySem.W.findIn K (.ref C) f=some none/\H a=some (.ext (Em C a (some b)))/\H b=some (.xd [(f,v)]))
def Us.same{K:BW}{H H':Hp}{c:BP}{ks:List D}{a:BJ}(e:Ab H H')(h:Us K H c ks a vs):Us K H' c ks a vs:=
 let ⟨C,W,i,b⟩:=h; ⟨C,W,i,b.imp (λ⟨x,y,z⟩=>⟨x,y,e _ _ z⟩) λ⟨f,v,j,x,y,n,z,t⟩=>⟨f,v,j,x,y,n,e _ _ z,e _ _ t⟩⟩
variable {o o':HO}
def Us.ne{K:BW}{H:Hp}{c:BP}{ks:List D}{a l:BJ}(j:H l=some o)(h1:∀e,o≠.ext e)(p:∀z,o≠.xd z)(h:Us K H c ks a vs):Us K (upd H l o') c ks a vs:=by
 revert h;refine Ce λC W U J=>?_;have i:∀{b e},H b=some (.ext e)->b≠l:=λq z=>by rw[z,j]at q;exact h1 _ (Option.some.inj q)
 have m:∀{b e},H b=some (.xd e)->b≠l:=λq z=>by rw[z,j]at q;exact p _ (Option.some.inj q)
 exact⟨C,W,U,J.imp (λ⟨x,y,z⟩=>⟨x,y,by rw[Ac (i z)];exact z⟩) λ⟨f,v,r,x,y,n,z,t⟩=>⟨f,v,r,x,y,n,by rw[Ac (i z)];exact z,by rw[Ac (m t)];exact t⟩⟩
def YC(K:BW)(H:Hp)(c:BP)(ks:List D)(a:BJ)(vs:List V):Prop:=
 (c = "Desk"\/c=idn a)/\∃C e q,∃b:List Key,W.nsIn K PySem.mainGlobals "Desk" = some (some (.ref C))/\ks=b.map kyD/\b.length=vs.length/\b.Nodup/\H a=some (.ins C e [("webs",.ref q)])/\H q=some (.dK (b.zip vs))
def YC.same{K:BW}{H H':Hp}{c:BP}{ks:List D}{a:BJ}(e:Ab H H')(h:YC K H c ks a vs):YC K H' c ks a vs:=
 let ⟨f,C,r,q,b,p,n,m,l,j,i⟩:=h; ⟨f,C,r,q,b,p,n,m,l,e _ _ j,e _ _ i⟩
def YC.ne{K:BW}{H:Hp}{c:BP}{ks:List D}{a l:BJ}(i:H l=some o)(h1:∀C f t,o≠.ins C f t)(n:∀z,o≠.dK z)(h:YC K H c ks a vs):YC K (upd H l o') c ks a vs:=
 let ⟨m,C,f,q,j,I,s,r,p,e,b⟩:=h; ⟨m,C,f,q,j,I,s,r,p,by rw[Ac (λz=>by rw[z,i]at e;exact h1 _ _ _ (Option.some.inj e))];exact e,by rw[Ac (λz=>by rw[z,i]at b;exact n _ (Option.some.inj b))];exact b⟩
def XAt(K:BW)(H:Hp)(S:AS)(c:BP)(ks:List D)(a:BJ)(vs:List V):Prop:=(T7 H c ks a vs/\S (some a))\/Us K H c ks a vs\/YC K H c ks a vs
def T7.same{H H':Hp}{c:BP}{ks:List D}{a:BJ}(e:Ab H H')(h:T7 H c ks a vs):T7 H' c ks a vs:=
 h.imp (λ⟨i,b,m,l,f,o,j⟩=>⟨i,b,m,l,f,o,e _ _ j⟩) λ⟨i,b,m,l,f,o,j⟩=>⟨i,b,m,l,f,o,e _ _ j⟩
def T7.has{H:Hp}{c:BP}{ks:List D}{a:BJ}(h:T7 H c ks a vs):∃o,H a=some o/\∀b,o≠.lst b:=by
 rcases h with ⟨_,e,_,_,_,_,h⟩ | ⟨_,e,_,_,_,_,h⟩
 ·exact⟨_,h,λb z=>by cases z⟩
 ·exact⟨_,h,λb z=>by cases z⟩
def T7.ne{H:Hp}{c:BP}{ks:List D}{a l:BJ}(n:l≠a)(h:T7 H c ks a vs):T7 (upd H l o) c ks a vs:=
 h.imp (λ⟨f,b,m,j,e,x,i⟩=>⟨f,b,m,j,e,x,by rw[Ac (Ne.symm n)];exact i⟩) λ⟨f,b,m,j,e,x,i⟩=>⟨f,b,m,j,e,x,by rw[Ac (Ne.symm n)];exact i⟩
variable {S':AS}
def XAt.same{K:BW}{H H':Hp}{S:AS}{c:BP}{ks:List D}{a:BJ}(e:Ab H H')(b:∀o,S o->S' o)(h:XAt K H S c ks a vs):XAt K H' S' c ks a vs:=h.imp (λh=>⟨h.1.same e,b _ h.2⟩) λh=>h.imp (λh=>h.same e) λh=>h.same e
variable {ws ys:List V}
def XAt.wr{K:BW}{H:Hp}{S:AS}{c:BP}{ks:List D}{a l:BJ}(b:H l=some (.lst ws))(h:XAt K H S c ks a vs):XAt K (upd H l (.lst ys)) S c ks a vs:=
 h.imp (λh=>⟨h.1.ne (λz=>by obtain⟨o,e,n⟩:=h.1.has;rw[<-z,b]at e;exact n ws (Option.some.inj e).symm),h.2⟩) λh=>h.imp (λh=>h.ne b (λ_ z=>by cases z) (λ_ z=>by cases z)) λh=>h.ne b (λ_ _ _ z=>by cases z) (λ_ z=>by cases z)
def XAt.wrD{K:BW}{H:Hp}{S:AS}{c:BP}{ks:List D}{a l:BJ}(b:H l=some o)(h1:∀e,o≠.ext e)(m:∀z,o≠.xd z)(j:∀C p n,o≠.ins C p n)(i:∀z,o≠.dK z)(f:¬ S (some l))(h:XAt K H S c ks a vs):XAt K (upd H l o') S c ks a vs:=
 h.imp (λh=>⟨h.1.ne (λz=>f (z ▸ h.2)),h.2⟩) λh=>h.imp (λh=>h.ne b h1 m) λh=>h.ne b j i
def XAt.avoid{K:BW}{H:Hp}{S:AS}{c:BP}{ks:List D}{a p:BJ}(b:H p=none)(h:XAt K H S c ks a vs):XAt K H (AS.but S p) c ks a vs:=
 h.imp (λh=>⟨h.1,h.2,λz=>by cases z;obtain⟨o,e,_⟩:=h.1.has;rw[b]at e;cases e⟩) λh=>h
def XAt.XX{K:BW}{H:Hp}{S:AS}{ks:List D}{a:BJ}(h:XAt K H S "dictK" ks a vs):T7 H "dictK" ks a vs/\S (some a):=h.resolve_right λh=>h.elim (λ⟨C,W,e,_⟩=>e.nd.2 (.inl rfl)) λh=>absurd (K6 h.1) (by decide +kernel)
def XAt.errC{K:BW}{H:Hp}{S:AS}{c:BP}{ks:List D}{a:BJ}(h:XAt K H S c ks a vs)(h1:c ≠ "dict")(b:¬ KD c):Us K H c ks a vs:=
 (h.resolve_left λ⟨q,_⟩=>q.elim (λz=>h1 z.1) λz=>b (.inl z.1)).resolve_right λh=>b (.inr (K6 h.1))
def XAt.dsk{K:BW}{H:Hp}{S:AS}{c:BP}{ks:List D}{a:BJ}(b:dkN c=true)(h:XAt K H S c ks a vs):YC K H c ks a vs:=
 (h.resolve_left λ⟨q,_⟩=>q.elim (λz=>by rw[z.1]at b;exact absurd b (by decide +kernel)) λz=>by rw[z.1]at b;exact absurd b (by decide +kernel)).resolve_left λ⟨C,W,e,_⟩=>e.nd.2 (.inr b)
def TpR(K:BW)(H:Hp)(a:BJ)(xs:List V):Prop:=H a=some (.tup xs) \/
  ∃(o:GD)(its:Array A_)(n:Nat),K.lookup a=some o/\o.cls=.type "tuple"/\o.data=.seq its n/\its.size<=sizeLine/\Vals xs its.toList
def TpR.of{K:BW}{H:Hp}{a:BJ}{xs:List V}(h:H a=some (.tup xs)):TpR K H a xs:=.inl h
def TpR.same{K:BW}{H H':Hp}{a:BJ}{xs:List V}(e:Ab H H')(h:TpR K H a xs):TpR K H' a xs:=h.imp (e _ _) id
def TpR.sq{K:BW}{H:Hp}{a:BJ}{xs:List V}(h:TpR K H a xs):SqT K H a xs:=h.imp .inl id
mutual
def Rep(K:BW)(H:Hp)(S:AS):D->V->Prop
 | .non,v=>v=.non
 | .bl b,v=>v=.bl b
 | .int i,v=>v=.int i
 | .str x,v=>v=.str x
 | .tup e,v=>∃a vs,v=.ref a/\TpR K H a vs/\Ak K H S e vs
 | .lst e,v=>∃a vs,v=.ref a/\LsR K H S a vs/\Ak K H S e vs
 | .exc c ks f,v=>∃a vs,v=.ref a/\XAt K H S c ks a vs/\Ak K H S f vs
def Ak(K:BW)(H:Hp)(S:AS):List D->List V->Prop
 | [],vs=>vs=[]
 |d::ds,vs=>∃v r,vs=v::r/\Rep K H S d v/\Ak K H S ds r
end
variable {H H':Hp}{K:BW}
variable {v:V}{ds:List D}
section
variable {H1 a:Hp}{S S':AS}
def Ab.sqT{a:BJ}{xs:List V}(e:Ab H H')(h:SqT K H a xs):SqT K H' a xs:=by
 rcases h with (h | ⟨o,h⟩) |h
 ·exact .inl (.inl (e _ _ h))
 ·exact .inl (.inr ⟨o,e _ _ h⟩)
 ·exact .inr h
def RoL.same{a:BJ}(e:Ab H H')(h:RoL K H a vs):RoL K H' a vs:=by
 rcases h with ⟨o,h⟩ |h
 ·exact .inl ⟨o,e _ _ h⟩
 ·exact .inr h
mutual
theorem Km(ht:∀a vs,TpR K H a vs->TpR K H' a vs)(f:∀a vs,LsR K H S a vs->LsR K H' S' a vs)(b:∀c ks a vs,XAt K H S c ks a vs->XAt K H' S' c ks a vs):∀(d:D)(v:V),Rep K H S d v->Rep K H' S' d v
 | .non,_,h=>h
 | .bl _,_,h=>h
 | .int _,_,h=>h
 | .str _,_,h=>h
 | .tup ds,v,h=>by revert h;refine Bh λa vs e q r=>?_;exact⟨a,vs,e,ht a vs q,Fb ht f b ds vs r⟩
 | .lst ds,v,h=>by revert h;refine Bh λa vs e q r=>?_;exact⟨a,vs,e,f a vs q,Fb ht f b ds vs r⟩
 | .exc c ks i,v,h=>by revert h;refine Bh λa vs e q r=>?_;exact⟨a,vs,e,b c ks a vs q,Fb ht f b i vs r⟩
theorem Fb(ht:∀a vs,TpR K H a vs->TpR K H' a vs)(f:∀a vs,LsR K H S a vs->LsR K H' S' a vs)(b:∀c ks a vs,XAt K H S c ks a vs->XAt K H' S' c ks a vs):∀(ds:List D)(vs:List V),Ak K H S ds vs->Ak K H' S' ds vs
 | [],_,h=>h
 |d::ds,vs,h=>by revert h;refine Bh λv r e j i=>?_;exact⟨v,r,e,Km ht f b d v j,Fb ht f b ds r i⟩
end
def LsR.same{a:BJ}(e:Ab H H')(b:∀o,S o->S' o)(h:LsR K H S a vs):LsR K H' S' a vs:=by
 rcases h with ⟨h,z⟩ | ⟨h,z⟩
 ·exact .inl ⟨e _ _ h,b _ z⟩
 ·exact .inr ⟨h.same e,b _ z⟩
def Rep.mono{d:D}(h:Rep K H S d v)(e:Ab H H')(b:∀o,S o->S' o):Rep K H' S' d v:=
 Km (λ_ _ q=>TpR.same e q) (λ_ _ q=>q.same e b) (λ_ _ _ _ q=>q.same e b) d v h
def Ak.mono(h:Ak K H S ds vs)(e:Ab H H')(b:∀o,S o->S' o):Ak K H' S' ds vs:=
 Fb (λ_ _ q=>TpR.same e q) (λ_ _ q=>q.same e b) (λ_ _ _ _ q=>q.same e b) ds vs h
def wo9{a l:BJ}(b:H l=some (.lst ws))(h:SqT K H a vs):SqT K (upd H l (.lst ys)) a vs:=by
 have ne:∀u,H a=some u->(∀z,u≠.lst z)->upd H l (.lst ys) a=some u:=λu e n=>by
  have:a≠l:=by rintro rfl;rw[b]at e;exact n ws (Option.some.inj e).symm
  rw[Ac this];exact e
 rcases h with (h | ⟨o,h⟩) |h
 ·exact .inl (.inl (ne _ h (λz q=>by cases q)))
 ·exact .inl (.inr ⟨o,ne _ h (λz q=>by cases q)⟩)
 ·exact .inr h
def rE{a l:BJ}(b:H l=some (.lst ws))(h:TpR K H a vs):TpR K (upd H l (.lst ys)) a vs:=
 h.imp (λh=>by rw[Ac (λz=>by rw[z,b]at h;cases h)];exact h) id
def LsR.wr{a l:BJ}(e:H l=some (.lst ws))(b:¬ S (some l))(h:LsR K H S a vs):LsR K (upd H l (.lst ys)) S a vs:=by
 rcases h with ⟨h,z⟩ | ⟨⟨o,h⟩ |h,z⟩
 ·have:a≠l:=by rintro rfl;exact b z
  exact .inl ⟨by rw[Ac this];exact h,z⟩
 ·have:a≠l:=by rintro rfl;rw[e]at h;cases h
  exact .inr ⟨.inl ⟨o,by rw[Ac this];exact h⟩,z⟩
 ·exact .inr ⟨.inr h,z⟩
def Rep.wr{d:D}{l:BJ}(h:Rep K H S d v)(b:H l=some (.lst ws))(e:¬ S (some l)):Rep K (upd H l (.lst ys)) S d v:=
 Km (λ_ _ q=>rE b q) (λ_ _ q=>q.wr b e) (λ_ _ _ _ q=>q.wr b) d v h
def Ak.wr{l:BJ}(h:Ak K H S ds vs)(b:H l=some (.lst ws))(e:¬ S (some l)):Ak K (upd H l (.lst ys)) S ds vs:=
 Fb (λ_ _ q=>rE b q) (λ_ _ q=>q.wr b e) (λ_ _ _ _ q=>q.wr b) ds vs h
def kz6{a l:BJ}(e:H l=some o)(f:∀z,o≠.tup z)(b:∀x z,o≠.frz x (.tup z))(h:SqT K H a vs):SqT K (upd H l o') a vs:=by
 rcases h with (h | ⟨x,h⟩) |h
 ·exact .inl (.inl (by rw[Ac (λz=>by rw[z,e]at h;exact f _ (Option.some.inj h))];exact h))
 ·exact .inl (.inr ⟨x,by rw[Ac (λz=>by rw[z,e]at h;exact b _ _ (Option.some.inj h))];exact h⟩)
 ·exact .inr h
def tQ{a l:BJ}(e:H l=some o)(b:∀z,o≠.tup z)(h:TpR K H a vs):TpR K (upd H l o') a vs:=
 h.imp (λh=>by rw[Ac (λz=>by rw[z,e]at h;exact b _ (Option.some.inj h))];exact h) id
def LsR.wrD{a l:BJ}(i:H l=some o)(b:∀x z,o≠.frz x (.lst z))(f:¬ S (some l))(h:LsR K H S a vs):LsR K (upd H l o') S a vs:=by
 rcases h with ⟨h,z⟩ | ⟨⟨x,h⟩ |h,z⟩
 ·exact .inl ⟨by rw[Ac (λ(e:a=l)=>f (e ▸ z))];exact h,z⟩
 ·exact .inr ⟨.inl ⟨x,by rw[Ac (λe=>by rw[e,i]at h;exact b _ _ (Option.some.inj h))];exact h⟩,z⟩
 ·exact .inr ⟨.inr h,z⟩
def W5:HO->Bool
 | .frz _ (.dT _)=>true
 | .frz _ (.dK _)=>true
 |_=>false
def Vm(h:W5 o=true):∀z,o≠.tup z:=λz e=>by subst e;cases h
def kg9(h:W5 o=true):∀x z,o≠.frz x (.tup z):=λx z e=>by subst e;cases h
def vQ(h:W5 o=true):∀z,o≠.ext z:=λz e=>by subst e;cases h
def uH(h:W5 o=true):∀z,o≠.xd z:=λz e=>by subst e;cases h
def Vl(h:W5 o=true):∀x z,o≠.frz x (.lst z):=λx z e=>by subst e;cases h
def vP(h:W5 o=true):∀C f b,o≠.ins C f b:=λ_ _ _ e=>by subst e;cases h
def uI(h:W5 o=true):∀z,o≠.dK z:=λz e=>by subst e;cases h
def Rep.wrD{d:D}{l:BJ}(h:Rep K H S d v)(e:H l=some o)(b:W5 o=true)(f:¬ S (some l)):Rep K (upd H l o') S d v:=
 Km (λ_ _ q=>tQ e (Vm b) q) (λ_ _ q=>q.wrD e (Vl b) f) (λ_ _ _ _ q=>q.wrD e (vQ b) (uH b) (vP b) (uI b) f) d v h
def Ak.wrD{l:BJ}(h:Ak K H S ds vs)(e:H l=some o)(b:W5 o=true)(f:¬ S (some l)):Ak K (upd H l o') S ds vs:=
 Fb (λ_ _ q=>tQ e (Vm b) q) (λ_ _ q=>q.wrD e (Vl b) f) (λ_ _ _ _ q=>q.wrD e (vQ b) (uH b) (vP b) (uI b) f) ds vs h
def LsR.avoid{a p:BJ}(b:H p=none)(h:LsR K H S a vs):LsR K H (AS.but S p) a vs:=by
 rcases h with ⟨h,z⟩ | ⟨h,z⟩
 ·exact .inl ⟨h,z,λe=>by cases e;rw[b]at h;cases h⟩
 ·exact .inr ⟨h,z,λe=>by cases e⟩
def Rep.avoid{d:D}{p:BJ}(h:Rep K H S d v)(b:H p=none):Rep K H (AS.but S p) d v:=
 Km (λ_ _ q=>q) (λ_ _ q=>q.avoid b) (λ_ _ _ _ q=>q.avoid b) d v h
def Ak.avoid{p:BJ}(h:Ak K H S ds vs)(b:H p=none):Ak K H (AS.but S p) ds vs:=
 Fb (λ_ _ q=>q) (λ_ _ q=>q.avoid b) (λ_ _ _ _ q=>q.avoid b) ds vs h
mutual
def D.imm:D->Bool
 | .lst _=>false
 | .tup ds=>Bf ds
 | .exc _ _ _=>false
 |_=>true
def Bf:List D->Bool
 | []=>true
 |d::ds=>d.imm && Bf ds
end
mutual
theorem Up:∀(d:D)(v:V),d.imm=true->Rep K H S d v->Rep K H S' d v
 | .non,_,_,h=>h
 | .bl _,_,_,h=>h
 | .int _,_,_,h=>h
 | .str _,_,_,h=>h
 | .tup ds,v,i,h=>by revert h;refine Bh λa vs e q r=>?_;exact⟨a,vs,e,q,V5 ds vs i r⟩
 | .lst ds,v,i,h=>by cases i
 | .exc c ks b,v,i,h=>by cases i
theorem V5:∀(ds:List D)(vs:List V),Bf ds=true->Ak K H S ds vs->Ak K H S' ds vs
 | [],_,_,h=>h
 |d::ds,vs,i,h=>by revert h;refine Bh λv r e j f=>?_;have b:(d.imm && Bf ds)=true:=i;rw[KN]at b;exact⟨v,r,e,Up d v b.1 j,V5 ds r b.2 f⟩
end
def Ak.length:∀{ds:List D}{vs:List V},Ak K H S ds vs->ds.length=vs.length
 | [],_,h=>by rw[show _=_ from h];rfl
 |d::ds,vs,h=>by revert h;refine Bh λv r b _ e=>?_;obtain rfl:=b;have:=Ak.length e;simp[this]
def Ak.nil:Ak K H S [] []:=rfl
def Ak.cons{d:D}{v:V}{ds:List D}{vs:List V}(h:Rep K H S d v)(r:Ak K H S ds vs):Ak K H S (d::ds) (v::vs):=⟨v,vs,rfl,h,r⟩
def Ak.append:∀{ds e:List D}{vs ws:List V},Ak K H S ds vs->Ak K H S e ws->Ak K H S (ds++e) (vs++ws)
 | [],_,_,_,h,r=>by rw[show _=_ from h];exact r
 |d::ds,_,_,_,h,r=>by revert h;refine Bh λv t b i f=>?_;obtain rfl:=b;exact⟨v,_,rfl,i,Ak.append f r⟩
def Ak.get:∀{ds:List D}{vs:List V}{i:Nat}{d:D},Ak K H S ds vs->ds[i]? = some d->∃v,vs[i]? = some v/\Rep K H S d v
 | [],_,_,_,_,e=>by simp at e
 |x::ds,_,0,d,h,e=>by revert h;refine Bh λv t f l j=>?_;obtain rfl:=f;simp at e;subst e;exact⟨v,by simp,l⟩
 |x::ds,_,i+1,d,h,e=>by revert h;refine Bh λv t b l j=>?_;obtain rfl:=b;refine An (λw U J=>?_) (Ak.get (i:=i) j (by simpa using e));exact⟨w,by simpa using U,J⟩
def Ak.take:∀(n:Nat){ds:List D}{vs:List V},Ak K H S ds vs->Ak K H S (ds.take n) (vs.take n)
 |0,_,_,_=>by simp;exact Ak.nil
 |n+1,[],_,h=>by rw[show _=_ from h];exact Ak.nil
 |n+1,d::ds,_,h=>by revert h;refine Bh λv t b f e=>?_;obtain rfl:=b;exact⟨v,_,rfl,f,Ak.take n e⟩
def Ak.drop:∀(n:Nat){ds:List D}{vs:List V},Ak K H S ds vs->Ak K H S (ds.drop n) (vs.drop n)
 |0,_,_,h=>h
 |n+1,[],_,h=>by rw[show _=_ from h];exact Ak.nil
 |n+1,d::ds,_,h=>by revert h;refine Bh λv t b f e=>?_;obtain rfl:=b;exact Ak.drop n e
def Ak.one{d:D}(h:Ak K H S [d] vs):∃v,vs=[v]/\Rep K H S d v:=by revert h;refine Bh λv r b f e=>?_;obtain rfl:=b;exact⟨v,by rw[show r=[] from e],f⟩
def Ak.two{d e:D}(h:Ak K H S [d,e] vs):∃v u,vs=[v,u]/\Rep K H S d v/\Rep K H S e u:=by revert h;refine Bh λv r f l j=>?_;obtain rfl:=f;refine An (λu b i=>?_) (j.one);obtain rfl:=b;exact⟨v,u,rfl,l,i⟩
end
abbrev Ev:=List (Option D)
structure DC where
 H0:Hp
 S0:AS
 O:List Nat
 Ex:D->V->Hp->Prop
 Z:List BJ
def DC.S(c:DC):AS:=λo=>c.S0 o\/∃a,o=some a/\c.H0 a=none/\a∉c.Z
def live(ρ:Ev)(i:Nat):Prop:=∃d,ρ[i]? = some (some d)
def owned(c:DC)(ρ:Ev)(b:St)(a:BJ):Prop:=∃i,i∈c.O/\live ρ i/\b[i]? = some (some (.ref a))
def DC.N(c:DC)(ρ:Ev)(b:St):AS:=λo=>c.S o/\∀a,o=some a->¬ owned c ρ b a
abbrev Hd:=Hp->AS->Prop
structure T8(P:Hd):Prop where
 mono:∀{H H':Hp}{S S':AS},Ab H H'->(∀o,S o->S' o)->P H S->P H' S'
 wr:∀{H:Hp}{S:AS}{l:BJ}{ws ys:List V},H l=some (.lst ws)->¬ S (some l)->P H S->P (upd H l (.lst ys)) S
 wrD:∀{H:Hp}{S:AS}{l:BJ}{o o':HO},H l=some o->W5 o=true->¬ S (some l)->P H S->P (upd H l o') S
 avoid:∀{H:Hp}{S:AS}{p:BJ},H p=none->P H S->P H (AS.but S p)
def Ey(K:BW)(H:Hp)(S:AS)(d:D)(a:BJ):Prop:=
 (∃vs ds,d=.lst ds/\H a=some (.lst vs)/\Ak K H S ds vs)\/∃vs e ks b,d=.exc e ks b/\T7 H e ks a vs/\Ak K H S b vs
def Ey.has{S:AS}{d:D}{a:BJ}(h:Ey K H S d a):∃o,H a=some o:=by
 rcases h with ⟨vs,ds,_,h,_⟩ | ⟨vs,f,ks,b,_,h,_⟩
 ·exact⟨_,h⟩
 ·obtain⟨o,e,_⟩:=h.has;exact⟨o,e⟩
def Ey.mono{S:AS}{d:D}{a:BJ}(h:Ey K H S d a)(e:Ab H H')(b:∀o,S o->S' o):Ey K H' S' d a:=
 h.imp (λ⟨vs,ds,U,J,C⟩=>⟨vs,ds,U,e _ _ J,C.mono e b⟩) λ⟨vs,i,ks,f,U,J,C⟩=>⟨vs,i,ks,f,U,J.same e,C.mono e b⟩
def Ey.avoid{S:AS}{d:D}{a p:BJ}(h:Ey K H S d a)(b:H p=none):Ey K H (AS.but S p) d a:=
 h.imp (λ⟨vs,ds,U,J,C⟩=>⟨vs,ds,U,J,C.avoid b⟩) λ⟨vs,f,ks,e,U,J,C⟩=>⟨vs,f,ks,e,U,J,C.avoid b⟩
def Ey.wr{S:AS}{d:D}{a l:BJ}(h:Ey K H S d a)(f:H l=some (.lst ws))(e:¬ S (some l))(b:a≠l):Ey K (upd H l (.lst ys)) S d a:=
 h.imp (λ⟨vs,ds,U,J,C⟩=>⟨vs,ds,U,by rw[Ac b];exact J,C.wr f e⟩) λ⟨vs,j,ks,i,U,J,C⟩=>⟨vs,j,ks,i,U,J.ne (Ne.symm b),C.wr f e⟩
def Ey.rep{S:AS}{d:D}{a:BJ}(h:Ey K H S d a)(b:S' (some a))(e:∀o,S o->S' o):Rep K H S' d (.ref a):=by
 rcases h with ⟨vs,ds,rfl,J,C⟩ | ⟨vs,i,ks,f,rfl,J,C⟩
 ·exact⟨a,vs,rfl,.inl ⟨J,b⟩,C.mono (Ab.refl _) e⟩
 ·exact⟨a,vs,rfl,.inl ⟨J,b⟩,C.mono (Ab.refl _) e⟩
def Ey.lst{K:BW}{H:Hp}{S:AS}{ds:List D}{a:BJ}(h:Ey K H S (.lst ds) a):∃vs,H a=some (.lst vs)/\Ak K H S ds vs:=by
 rcases h with ⟨vs,b,e,J,C⟩ | ⟨vs,i,ks,f,e,_⟩
 ·cases e;exact⟨vs,J,C⟩
 ·cases e
structure Al(K:BW)(c:DC)(hs:List Hd)(ρ:Ev)(σ:St)(H:Hp):Prop where
 same:Ab c.H0 H
 len:ρ.length=σ.length
 own:∀i d,i∈c.O->ρ[i]? = some (some d)->∃a,σ[i]? = some (some (.ref a))/\(c.H0 a=none/\a∉c.Z)/\Ey K H (c.N ρ σ) d a
 apart:∀i j a,i∈c.O->j∈c.O->live ρ i->live ρ j->σ[i]? = some (some (.ref a))->σ[j]? = some (some (.ref a))->i=j
 oth:∀i d,i∉c.O->ρ[i]? = some (some d)->∃v,σ[i]? = some (some v)/\Rep K H (c.N ρ σ) d v
 held:∀P∈hs,T8 P/\P H (c.N ρ σ)
 excl:∀a∈c.Z,H a≠none
variable {ρ:Ev}{hs:List Hd}{σ:St}
section
variable {c:DC}
def Al.mono(h:Al K c hs ρ σ H)(e:Ab H H'):Al K c hs ρ σ H' where
 same:=h.same.trans e
 len:=h.len
 own:=λi d hi hd=>by refine Jh (λa J Y e5=>?_) (h.own i d hi hd);exact⟨a,J,Y,e5.mono e λ_ q=>q⟩
 apart:=h.apart
 oth:=λi d hi hd=>by refine An (λv U J=>?_) (h.oth i d hi hd);exact⟨v,U,J.mono e λ_ q=>q⟩
 held:=λP hp=>⟨(h.held P hp).1,(h.held P hp).1.mono e (λ_ q=>q) (h.held P hp).2⟩
 excl:=λa ha z=>h.excl a ha (e.free z)
def Al.ownd(h:Al K c hs ρ σ H){a:BJ}(o:owned c ρ σ a):∃o,H a=some o:=by revert o;refine Jh λi f b e=>?_;obtain⟨d,j⟩:=b;refine Jh (λl J _ C=>?_) (h.own i d f j);rw[e]at J;cases J;exact C.has
def Al.ownL(h:Al K c hs ρ σ H)(i:Nat)(ds:List D)(e:i∈c.O)(f:ρ[i]? = some (some (.lst ds))):∃a vs b,D.lst ds=.lst b/\σ[i]? = some (some (.ref a))/\H a=some (.lst vs)/\(c.H0 a=none/\a∉c.Z)/\Ak K H (c.N ρ σ) b vs:=by refine Jh (λa J Y m=>?_) (h.own i _ e f);refine An (λvs l j=>?_) (m.lst);exact⟨a,vs,ds,rfl,J,l,Y,j⟩
def Al.freshN(h:Al K c hs ρ σ H){o:Option BJ}(q:fresh H o):c.N ρ σ o:=by revert q;refine An λa f e=>?_;obtain rfl:=f;refine⟨.inr ⟨a,rfl,h.same.free e,λi=>h.excl a i e⟩,λb l j=>?_⟩;cases l;have⟨vs,Z⟩:=h.ownd j;rw[e]at Z;cases Z
end
inductive Lv where
 |fr |no |any
def lvS(c:DC)(ρ:Ev)(σ:St)(H:Hp):Lv->AS
 | .fr=>fresh H
 | .no=>c.N ρ σ
 | .any=>c.S
def Lv.le:Lv->Lv->Bool
 | .fr,_=>true
 | .no,.fr=>false
 | .no,_=>true
 | .any,.any=>true
 | .any,_=>false
section
variable {c:DC}
def Jv(h:Al K c hs ρ σ H){l l':Lv}(a:l.le l'=true){o:Option BJ}(q:lvS c ρ σ H l o):lvS c ρ σ H l' o:=by
 cases l with
 |fr =>
  cases l' with
  |fr=>exact q
  |no=>exact h.freshN q
  |any=>exact(h.freshN q).1
 |no =>
  cases l' with
  |fr=>cases a
  |no=>exact q
  |any=>exact q.1
 |any =>
  cases l' with
  |fr=>cases a
  |no=>cases a
  |any=>exact q
def Bw(e:Ab H H'){l:Lv}{o:Option BJ}(q:lvS c ρ σ H' l o):lvS c ρ σ H l o:=by
 cases l with
 |fr=>obtain⟨a,rfl,z⟩:=q;exact⟨a,rfl,e.free z⟩
 |no=>exact q
 |any=>exact q
def Kh(h:Al K c hs ρ σ H){l:Lv}{o:Option BJ}(q:fresh H o):lvS c ρ σ H l o:=Jv h (l:=.fr) (by cases l<;>rfl) q
def Fv(h:Al K c hs ρ σ H)(e:Ab H H'){l:Lv}{o:Option BJ}(q:AS.plus (lvS c ρ σ H l) H' o):lvS c ρ σ H l o:=by
 rcases q with q | ⟨a,rfl,z⟩
 ·exact q
 ·exact Kh h ⟨a,rfl,e.free z⟩
end
section
variable (K:BW)(c:DC)
def tD(l:Lv)(f:Ev->R D):TE:=λσ H Q=>∃hs ρ,Al K c hs ρ σ H/\RQ (f ρ) (λd=>∀v H',Ab H H'->Rep K H' (lvS c ρ σ H l) d v->Q v H') (λe=>∀v H',Ab H H'->Rep K H' (lvS c ρ σ H .any) e v->c.Ex e v H')
def tF(l:Lv)(f:Ev->R D):TE:=λσ H Q=>∃hs ρ,Al K c hs ρ σ H/\RQ (f ρ) (λd=>∀a vs ds H',d=.lst ds->Ab H H'->H a=none->H' a=some (.lst vs)->Ak K H' (AS.but (lvS c ρ σ H l) a) ds vs->Q (.ref a) H') (λe=>∀v H',Ab H H'->Rep K H' (lvS c ρ σ H .any) e v->c.Ex e v H')
def tDT(f:Ev->R Bool):TT:=λσ H Q=>∃hs ρ,Al K c hs ρ σ H/\RQ (f ρ) (λb=>∀H',Ab H H'->Q b H') (λe=>∀v H',Ab H H'->Rep K H' (lvS c ρ σ H .any) e v->c.Ex e v H')
def tDA(n:Nat)(l:Lv)(f:Ev->R (List D)):TA:=λσ H Q=>∃hs ρ,Al K c hs ρ σ H/\RQ (f ρ) (λds=>∀vs H',Ab H H'->Ak K H' (lvS c ρ σ H l) ds vs->ds.length=n->Q vs H') (λe=>∀v H',Ab H H'->Rep K H' (lvS c ρ σ H .any) e v->c.Ex e v H')
end
inductive Fl where
 |nx (ρ:Ev) |rt (d:D) |bk (ρ:Ev) |ct (ρ:Ev)
def Fl.ends(K:BW)(c:DC)(hs:List Hd)(E:Ends):Fl->Prop
 | .nx ρ=>∀a H',Al K c hs ρ a H'->E.nx a H'
 | .bk ρ=>∀a H',Al K c hs ρ a H'->E.bk a H'
 | .ct ρ=>∀a H',Al K c hs ρ a H'->E.ct a H'
 | .rt d=>∀v H',Ab c.H0 H'->Rep K H' c.S d v->E.rt v H'
def Nz(K:BW)(c:DC)(e:D):Prop:=∀v H',Ab c.H0 H'->Rep K H' c.S e v->c.Ex e v H'
def tDS(K:BW)(c:DC)(g:Ev->R Fl):TS:=λE σ H=>∃hs ρ,Al K c hs ρ σ H/\RQ (g ρ) (Fl.ends K c hs E) (Nz K c)
abbrev PEd(X:Cx)(c:DC)(l:Lv)(e:BZ)(f:Ev->R D):Prop:=PE X e (tD X.K c l f)
abbrev PEf(X:Cx)(c:DC)(l:Lv)(e:BZ)(f:Ev->R D):Prop:=PE X e (tF X.K c l f)
abbrev PTd(X:Cx)(c:DC)(e:BZ)(f:Ev->R Bool):Prop:=PT X e (tDT X.K c f)
abbrev PAd(X:Cx)(c:DC)(l:Lv)(a:List BZ)(f:Ev->R (List D)):Prop:=PA X a (tDA X.K c a.length l f)
abbrev PSd(X:Cx)(c:DC)(st:CQ)(g:Ev->R Fl):Prop:=PS X st (tDS X.K c g)
abbrev Om(X:Cx)(c:DC)(a:List CQ)(g:Ev->R Fl):Prop:=PSs X a (tDS X.K c g)
def PE.imp{X:Cx}{e:BZ}{t t':TE}(h:PE X e t)(i:∀σ H Q,t' σ H Q->t σ H Q):PE X e t':=λa s σ H Q I q=>h a s σ H Q I (i σ H Q q)
def PT.imp{X:Cx}{e:BZ}{t t':TT}(h:PT X e t)(i:∀σ H Q,t' σ H Q->t σ H Q):PT X e t':=λa s σ H Q I q=>h a s σ H Q I (i σ H Q q)
def PW.imp{X:Cx}{e:BZ}{t t':TT}(h:PW X e t)(i:∀σ H Q,t' σ H Q->t σ H Q):PW X e t':=λb a s σ H Q I q=>h b a s σ H Q I (i σ H Q q)
def PA.imp{X:Cx}{b:List BZ}{t t':TA}(h:PA X b t)(i:∀σ H Q,t' σ H Q->t σ H Q):PA X b t':=λpos a s σ H Q I q=>h pos a s σ H Q I (i σ H Q q)
variable {st:CQ}
def PS.imp{X:Cx}{t t':TS}(h:PS X st t)(i:∀E σ H,t' E σ H->t E σ H):PS X st t':=λa s σ H E I q=>h a s σ H E I (i E σ H q)
def PSs.imp{X:Cx}{st:List CQ}{t t':TS}(h:PSs X st t)(i:∀E σ H,t' E σ H->t E σ H):PSs X st t':=λa s σ H E I q=>h a s σ H E I (i E σ H q)
variable {l:Lv}
variable {f:Ev->R D}{Q:List V->Hp->Prop}
section
variable {c:DC}
def Az{e:D}{a:Hp}(h:∀v H',Ab H H'->Rep K H' (lvS c ρ σ H .any) e v->c.Ex e v H')(s:Ab H a):∀v H',Ab a H'->Rep K H' (lvS c ρ σ a .any) e v->c.Ex e v H':=
 λv H' b r=>h v H' (s.trans b) r
def Ag{Q:VK}(E:Al K c hs ρ σ H)
  (h:RQ (f ρ) (λd=>∀v H',Ab H H'->Al K c hs ρ σ H'->Rep K H' (lvS c ρ σ H l) d v->Q v H') (λe=>∀v H',Ab H H'->Rep K H' (lvS c ρ σ H .any) e v->c.Ex e v H')):tD K c l f σ H Q:=
 ⟨hs,ρ,E,h.mono (λd q v H' s r=>q v H' s (E.mono s) r) λ_ q=>q⟩
def Fz{n:Nat}{f:Ev->R (List D)}(E:Al K c hs ρ σ H)
  (h:RQ (f ρ) (λds=>∀vs H',Ab H H'->Al K c hs ρ σ H'->Ak K H' (lvS c ρ σ H l) ds vs->ds.length=n->Q vs H') (λe=>∀v H',Ab H H'->Rep K H' (lvS c ρ σ H .any) e v->c.Ex e v H')):tDA K c n l f σ H Q:=
 ⟨hs,ρ,E,h.mono (λd q v H' s r a=>q v H' s (E.mono s) r a) λ_ q=>q⟩
def Ga{f:Ev->R Bool}{Q:Bool->Hp->Prop}(E:Al K c hs ρ σ H)
  (h:RQ (f ρ) (λb=>∀H',Ab H H'->Al K c hs ρ σ H'->Q b H') (λe=>∀v H',Ab H H'->Rep K H' (lvS c ρ σ H .any) e v->c.Ex e v H')):tDT K c f σ H Q:=
 ⟨hs,ρ,E,h.mono (λd q H' s=>q H' s (E.mono s)) λ_ q=>q⟩
end
def R.of{b:Type}:Option b->R b
 |some a=>.ok a
 |none=>.bad
@[simp] def R.of_some{b:Type}(a:b):R.of (some a)=.ok a:=nr rfl
def RQ.of{b:Type}{o:Option b}{q:b->Prop}{e:D->Prop}(h:RQ (R.of o) q e):∃a,o=some a/\q a:=by
 cases o with
 |none=>exact h.elim
 |some a=>exact⟨a,rfl,h⟩
def Ba{i e:Type}{r:R i}{f:i->R e}{b:e}(h:r.bind f=.ok b):∃a,r=.ok a/\f a=.ok b:=by
 cases r with
 |ok a=>exact⟨a,rfl,h⟩
 |exc _=>cases h
 |bad=>cases h
def inv1{a:Type}{g:List D->Option a}{d:a}(e:g ds=some d)(h:g []=none)(b:∀x y l,g (x::y::l)=none):∃x,ds=[x]:=by
 cases ds with
 |nil=>exact nomatch h.symm.trans e
 |cons x l =>
  cases l with
  |nil=>exact⟨x,rfl⟩
  |cons y l=>exact nomatch (b x y l).symm.trans e
def inv2{a:Type}{g:List D->Option a}{d:a}(e:g ds=some d)(h:g []=none)(h1:∀x,g [x]=none)(b:∀x y z l,g (x::y::z::l)=none):∃x y,ds=[x,y]:=by
 cases ds with
 |nil=>exact nomatch h.symm.trans e
 |cons x l =>
  cases l with
  |nil=>exact nomatch (h1 x).symm.trans e
  |cons y l =>
   cases l with
   |nil=>exact⟨x,y,rfl⟩
   |cons z l=>exact nomatch (b x y z l).symm.trans e
def nos{a:Type}{d:a}{P:Prop}(h:(none:Option a)=some d):P:=nomatch h
def Ax{p:Prop}[Decidable p]{b:Type}{x y:b}(h:(if p then some x else none)=some y):p/\x=y:=by
 by_cases a:p
 ·rw[if_pos a]at h;exact⟨a,Option.some.inj h⟩
 ·rw[if_neg a]at h;cases h
def rD(K:BW)(g:D->D->Option D):R2:=λx y H Q=>∃S b a d,Rep K H S b x/\Rep K H S a y/\g b a=some d/\∀z H',Ab H H'->Rep K H' (AS.plus S H) d z->Q z H'
def rDF(K:BW)(g:D->D->Option D):R2:=λx y H Q=>∃S e b d,Rep K H S e x/\Rep K H S b y/\g e b=some d /\
 ∀a vs ds H',d=.lst ds->Ab H H'->H a=none->H' a=some (.lst vs)->Ak K H' (AS.but S a) ds vs->Q (.ref a) H'
def rU1(K:BW)(g:D->Option D):V->Hp->VK->Prop:=λx H Q=>∃S a d,Rep K H S a x/\g a=some d/\∀z H',Ab H H'->Rep K H' (AS.plus S H) d z->Q z H'
def b2(f1 f2:Ev->R D)(g:D->D->Option D):Ev->R D:=λρ=>(f1 ρ).bind λx=>(f2 ρ).bind λy=>R.of (g x y)
def b1(f1:Ev->R D)(g:D->Option D):Ev->R D:=λρ=>(f1 ρ).bind λx=>R.of (g x)
variable {I:D->Option D}
section
variable {c:DC}{f1 f2:Ev->R D}{g:D->D->Option D}{Q:VK}
def cI(h:tD K c l (b2 f1 f2 g) σ H Q):tOp (rD K g) (tD K c l f1) (tD K c l f2) σ H Q:=by revert h;refine Ce λhs ρ E q=>?_;have q:=RQ.bind.mp q;refine Ag E (q.mono (λu i x B a w p=>?_) λ_ z=>z);have i:=RQ.bind.mp i;refine Ag w (i.mono (λt s y A b C n=>?_) λe z=>Az z a);refine An (λd e r=>?_) (s.of);refine⟨lvS c ρ σ H l,u,t,d,p.mono b (λ_ z=>z),n.mono (Ab.refl _) (λ_ z=>Bw a z),e,λz H' j m=>?_⟩;exact r z H' ((a.trans b).trans j) (m.mono (Ab.refl _) λ_ z=>Fv E (a.trans b) z)
def ya6(h:tD K c l (b1 f1 I) σ H Q):tUn (rU1 K I) (tD K c l f1) σ H Q:=by revert h;refine Ce λhs ρ E q=>?_;have q:=RQ.bind.mp q;refine Ag E (q.mono (λp n x r a s j=>?_) λ_ z=>z);refine An (λd e m=>?_) (n.of);refine⟨lvS c ρ σ H l,p,d,j,e,λz H' b i=>?_⟩;exact m z H' (a.trans b) (i.mono (Ab.refl _) λ_ z=>Fv E a z)
def yb3(i:∀ρ d,f ρ=.ok d->∃ds,d=.lst ds)(h:tD K c l f σ H Q):tF K c l f σ H Q:=by
 revert h;refine Ce λhs ρ E q=>?_;refine⟨hs,ρ,E,?_⟩;cases e:f ρ with
 |ok d=>rw[e]at q;obtain⟨ds,rfl⟩:=i ρ d e;intro a vs n H' m s j b r;cases m;exact q (.ref a) H' s ⟨a,vs,rfl,.inl ⟨b,Kh E ⟨a,rfl,j⟩⟩,r.mono (Ab.refl _) λ_ z=>z.1⟩
 |exc Z=>rw[e]at q;exact q
 |bad=>rw[e]at q;exact q
end
variable {X:Cx}{a b:BZ}{l':Lv}{pos:GP}
variable {h:Int->Int->V}
section
variable {c:DC}{f f1 f2:Ev->R D}{g:D->D->Option D}
def a_(e:iT)(i:OpR X (FJ e) (rD X.K g))(m:PEd X c l a f1)(j:PEd X c l b f2):PEd X c l (.BinOp a e b pos) (b2 f1 f2 g):=PE.imp (wz5 i m j) λ_ _ _ h=>cI h
def cD{e:M_}(i:OpR X (CG e) (rD X.K g))(n:PEd X c l a f1)(m:PEd X c l b f2)(j:DX e b=false):PEd X c l (.Compare a [e] [b] pos) (b2 f1 f2 g):=PE.imp (kx5 i n m j) λ_ _ _ h=>cI h
def un_{e:UnaryOp}(i:UnR X (YZ e) (rU1 X.K I))(j:PEd X c l a f1):PEd X c l (.UnaryOp e a pos) (b1 f1 I):=PE.imp (wz7 i j) λ_ _ _ h=>ya6 h
def PEd.up(h:PEd X c l a f)(e:l.le l'=true:=by rfl):PEd X c l' a f:=PE.imp h λσ H Q ⟨hs,ρ,E,q⟩ =>
 ⟨hs,ρ,E,q.mono (λd q v H' s r=>q v H' s (r.mono (Ab.refl _) λ_ z=>Jv E e z)) λ_ z=>z⟩
def PEf.up(h:PEf X c l a f)(i:l.le l'=true:=by rfl):PEf X c l' a f:=PE.imp h λσ H Q ⟨hs,ρ,E,q⟩ =>
 ⟨hs,ρ,E,q.mono (λd q a vs ds H' m s j e r=>q a vs ds H' m s j e (r.mono (Ab.refl _) λ_ z=>⟨Jv E i z.1,z.2⟩)) λ_ z=>z⟩
def PEf.d(h:PEf X c l a f)(e:∀ρ d,f ρ=.ok d->∃ds,d=.lst ds):PEd X c l a f:=PE.imp h λ_ _ _ h=>yb3 e h
def gv(i:Nat):Ev->R D:=λρ=>match ρ[i]? with
 |some (some d)=>.ok d
 |_=>.bad
def wv6{i:Nat}{d:D}(h:ρ[i]? = some (some d)):gv i ρ=.ok d:=by unfold gv;rw[h]
theorem lW{i:Nat}{q:D->Prop}{e:D->Prop}(h:RQ (gv i ρ) q e):∃d,ρ[i]? = some (some d)/\q d:=by
 unfold gv at h;split at h
 ·rename_i d e;exact⟨d,e,h⟩
 ·exact h.elim
def yc1{i:Nat}(j:c.O.contains i=false){Q:VK}(h:tD K c .no (gv i) σ H Q):eO i σ H Q:=by revert h;refine Ce λhs ρ E q=>?_;refine An (λd e q=>?_) (lW q);refine An (λv U r=>?_) (E.oth i d (by simpa using j) e);exact⟨v,U,q v H (Ab.refl H) r⟩
def wq3{i:Nat}{Q:VK}(h:tD K c .any (gv i) σ H Q):eO i σ H Q:=by
 revert h;refine Ce λhs ρ E q=>?_;refine An (λd e q=>?_) (lW q);by_cases j:i∈c.O
 ·refine Jh (λp U C r=>?_) (E.own i d j e);exact⟨_,U,q (.ref p) H (Ab.refl H) (r.rep (.inr ⟨p,rfl,C.1,C.2⟩) λ_ z=>z.1)⟩
 ·refine An (λv U r=>?_) (E.oth i d j e);exact⟨v,U,q v H (Ab.refl H) (r.mono (Ab.refl _) λ_ z=>z.1)⟩
def nv(i:Nat){x:BP}(m:c.O.contains i=false:=by rfl)(p:X.N[i]? = some x:=by rfl)(j:Vis X.env.scope x:=by first |exact Or.inl rfl |exact Or.inr (Or.inl rfl) |exact Or.inr (Or.inr rfl))(n:Zd x:=by decide)
  (e:(x == ("__classdict__" : BP))=false:=by decide):PEd X c .no (.Name x pos) (gv i):=PE.imp (pv i p j n e) λ_ _ _ h=>yc1 m h
def av(i:Nat){x:BP}(n:X.N[i]? = some x:=by rfl)(j:Vis X.env.scope x:=by first |exact Or.inl rfl |exact Or.inr (Or.inl rfl) |exact Or.inr (Or.inr rfl))(m:Zd x:=by decide)
  (e:(x == ("__classdict__" : BP))=false:=by decide):PEd X c .any (.Name x pos) (gv i):=PE.imp (pv i n j m e) λ_ _ _ h=>wq3 h
def kd(d:D):Ev->R D:=λ_=>.ok d
def Ys{d:D}(e:∀H S,Rep K H S d v){Q:VK}(h:tD K c l (kd d) σ H Q):tC v σ H Q:=by revert h;refine Ce λhs ρ E q=>?_;exact q v H (Ab.refl H) (e _ _)
def ki{i:Int}{j}:PEd X c .fr (.Constant (.int i) j pos) (kd (.int i)):=PE.imp wm5 λ_ _ _ h=>Ys (d:=.int i) (v:=.int i) (λ_ _=>rfl) h
def kb{b:Bool}{j}:PEd X c .fr (.Constant (.bool b) j pos) (kd (.bl b)):=PE.imp wz4 λ_ _ _ h=>Ys (d:=.bl b) (v:=.bl b) (λ_ _=>rfl) h
def kn{j}:PEd X c .fr (.Constant .none j pos) (kd .non):=PE.imp wm6 λ_ _ _ h=>Ys (d:=.non) (v:=.non) (λ_ _=>rfl) h
def ks{x:BP}{j}:PEd X c .fr (.Constant (.str x) j pos) (kd (.str x)):=PE.imp Z7 λ_ _ _ h=>Ys (d:=.str x) (v:=.str x) (λ_ _=>rfl) h
def kg{x:BP}{i:Int}{t:Tok}(e:X.mg x=some (.int i t))(j:Gl X x:=by rfl)(m:Zd x:=by decide):PEd X c .fr (.Name x pos) (kd (.int i)):=
 PE.imp (Z5 (v:=.int i) j e ⟨t,rfl⟩ m) λ_ _ _ h=>Ys (d:=.int i) (v:=.int i) (λ_ _=>rfl) h
def pN:D->D->Option D
 | .int i,.int j=>some (.int (i+j))
 | .str x,.str y=>if x.length+y.length<=16777216 then some (.str (x++y)) else none
 | .tup e,.tup ys=>if e.length+ys.length<=16777216 then some (.tup (e++ys)) else none
 |_,_=>none
def ZF:D->D->Option D
 | .int i,.int j=>some (.int (i - j))
 |_,_=>none
def W6:D->D->Option D
 | .int i,.int j=>if(-(2 ^ 64)<i/\i<2 ^ 64)\/(-(2 ^ 64)<j/\j<2 ^ 64)\/(i.natAbs<2 ^ 2048/\j.natAbs<2 ^ 2048) then some (.int (i * j)) else none
 |_,_=>none
def Fo:D->D->Option D
 | .int i,.int j=>if 0<j/\j<4611686018427387904 then some (.int (i / j)) else none
 |_,_=>none
def Hc:D->D->Option D
 | .int i,.int j=>if 0<j then some (.int (i % j)) else none
 |_,_=>none
def aL:D->D->Option D
 | .int i,.int j=>if 0<=j/\j<=1000000/\i.natAbs<2 ^ 64 then some (.int (i ^ j.toNat)) else none
 |_,_=>none
def jR:D->D->Option D
 | .lst e,.lst ys=>if e.length+ys.length<=16777216 then some (.lst (e++ys)) else none
 |_,_=>none
def fH:D->Option D
 | .int i=>some (.int (-i))
 |_=>none
def Z3{f:A_->A_->Sem A_}{C:Int->Int->Prop}(F:OpR X f (rI C h))
  (G:∀p n d,g p n=some d->∃i j,p=.int i/\n=.int j/\C i j/\∀H S,Rep X.K H S d (h i j)):OpR X f (rD X.K g):=by
 rintro m s σ H x y v u Q I z w ⟨S,p,n,d,B,A,e,q⟩;refine Wz (λi j t r J E=>?_) (G p n d e);obtain rfl:=t;obtain rfl:=r;exact F m s σ H x y v u Q I z w ⟨i,j,B,A,J,q _ H (Ab.refl _) (E _ _)⟩
def uC{f:A_->A_->Sem A_}(E:OpR X f (rI0 h))
  (F:∀p n d,g p n=some d->∃i j,p=.int i/\n=.int j/\∀H S,Rep X.K H S d (h i j)):OpR X f (rD X.K g):=by
 rintro m s σ H x y v u Q I z w ⟨S,p,n,d,B,A,e,q⟩;refine Bh (λi j t r C=>?_) (F p n d e);obtain rfl:=t;obtain rfl:=r;exact E m s σ H x y v u Q I z w ⟨i,j,B,A,q _ H (Ab.refl _) (C _ _)⟩
def wy3:OpR X (FJ .Sub) (rD X.K ZF):=uC wm3 λj i d e=>by cases j<;>first |exact nos e | (cases i<;>first |exact nos e | (cases e;exact⟨_,_,rfl,rfl,λ_ _=>rfl⟩))
def kx3:OpR X (FJ .Mult) (rI (λi j=>(-(2 ^ 64)<i/\i<2 ^ 64)\/(-(2 ^ 64)<j/\j<2 ^ 64)\/(i.natAbs<2 ^ 2048/\j.natAbs<2 ^ 2048)) λi j=>.int (i * j)):=opI λi j _ _ _ _ _ e q=>mul_int q (by
 rcases e with h |h | ⟨n,m⟩
 ·exact .of_left (intBits_le_64 h.1 h.2)
 ·exact .of_right (intBits_le_64 h.1 h.2)
 ·exact IntMulOk.of_le (intBits_le_iff.mpr n) (intBits_le_iff.mpr m) (by decide))
def wx8:OpR X (FJ .Mult) (rD X.K W6):=Z3 kx3 λm j d e=>by cases m<;>first |exact nos e | (cases j<;>first |exact nos e | (obtain⟨i,rfl⟩:=Ax e;exact⟨_,_,rfl,rfl,i,λ_ _=>rfl⟩))
theorem kj3:OpR X (FJ .FloorDiv) (rI (λ_ j=>0<j/\j<4611686018427387904) λi j=>.int (i / j)):=opI λi j _ _ _ _ _ e q=>by
 have r:(0:Int)<j:=e.1;have p:j<4611686018427387904:=e.2;refine floordiv_int (by omega) (by rw[Int.fdiv_eq_ediv_of_nonneg i (by omega)];exact q) (.inl (PyProof.noPylong_of_log2 ?_));have m:j.natAbs<2 ^ 62:=by
  have:(2:Nat) ^ 62=4611686018427387904:=by decide
  omega
 have:=(nJ (n:=j.natAbs) (k:=62) (by omega)).mpr m;omega
def wl9:OpR X (FJ .FloorDiv) (rD X.K Fo):=Z3 kj3 λm j d e=>by cases m<;>first |exact nos e | (cases j<;>first |exact nos e | (obtain⟨i,rfl⟩:=Ax e;exact⟨_,_,rfl,rfl,i,λ_ _=>rfl⟩))
def wx7:OpR X (FJ .Mod) (rD X.K Hc):=Z3 wm1 λm j d e=>by cases m<;>first |exact nos e | (cases j<;>first |exact nos e | (obtain⟨i,rfl⟩:=Ax e;exact⟨_,_,rfl,rfl,i,λ_ _=>rfl⟩))
def wy2:OpR X (FJ .Pow) (rD X.K aL):=Z3 wm2 λm j d e=>by cases m<;>first |exact nos e | (cases j<;>first |exact nos e | (obtain⟨i,rfl⟩:=Ax e;exact⟨_,_,rfl,rfl,i,λ_ _=>rfl⟩))
def wy0:UnR X (YZ .USub) (rU1 X.K fH):=by rintro i s σ H x v Q I j ⟨S,n,d,m,e,q⟩;cases n<;>first |exact nos e | (cases e;exact wq5 i s σ H x v Q I j ⟨_,m,q _ H (Ab.refl _) rfl⟩)
end
def Ao{p:BJ}(h:H p=none)(o:HO):Ab H (upd H p o):=λb u e=>by rw[Ac (Aw e h)];exact e
section
variable {c:DC}{f f1 f2:Ev->R D}{g:D->D->Option D}
def Ju{n:Nat}(h:n<=16777216):n<=sizeLine:=by rw[CT];exact h
def kj2:OpR X (FJ .Add) (λx y H Q=>∃a b ys,x=.ref a/\y=.ref b/\SqT X.K H a []/\SqT X.K H b ys/\Q (.ref b) H):=by
 intro r s σ H x y v u Q I E C h;obtain⟨a,b,ys,rfl,rfl,P,O,q⟩:=h;cases E;cases C;have⟨M,G,p1,_⟩:=I.tuple P;have⟨e,U,J,_⟩:=I.tuple O;cases G;have⟨⟨cls,T,data,B⟩,t,z,n,w⟩:=id p1;have⟨⟨A,p,data2,m⟩,i,j,L,hd2⟩:=id J;simp only at z w j hd2;subst z w j hd2;exact QQ ⟨_,t,rfl⟩ ⟨_,i,rfl⟩ QT SJ PySem.F.slot_tuple_add PySem.F.entry_tuple_add (PySem.F.args_tuple_add_2 _ _)
   (tuple_addW0 a b ([]:List A_).toArray e.toArray n L T p B m (by simp)) ⟨t,i,⟨.ref b,H,I,rfl,q⟩⟩
theorem wx1:OpR X (FJ .Add) (rD X.K pN):=by
 rintro m s σ H x y v u Q I A w ⟨S,dx,J,d,t,n,e,q⟩;cases dx with
 |int i =>
  cases J with
  |int j=>cases e;exact wm0 m s σ H x y v u Q I A w ⟨i,j,t,n,q _ H (Ab.refl _) rfl⟩
  |_=>exact nos e
 |str p =>
  cases J with
  |str r=>obtain⟨L,rfl⟩:=Ax e;exact jn9 m s σ H x y v u Q I A w ⟨p,r,t,n,Ju L,q _ H (Ab.refl _) rfl⟩
  |_=>exact nos e
 |tup P =>
  cases J with
  |tup ys =>
   obtain⟨L,rfl⟩:=Ax e;revert t;refine Bh λa vs C G t=>?_;obtain rfl:=C;revert n;refine Bh λb ws B F n=>?_;obtain rfl:=B;have U:=t.length;have T:=n.length;by_cases O:vs=[]
   ·subst O;have hx:P=[]:=d8 U;subst hx;exact kj2 m s σ H _ _ v u Q I A w ⟨a,b,ws,rfl,rfl,(TpR.sq G),(TpR.sq F),q _ H (Ab.refl _) ⟨b,ws,rfl,F,n.mono (Ab.refl _) λ_ z=>.inl z⟩⟩
   ·refine kx2 m s σ H _ _ v u Q I A w ⟨a,b,vs,ws,rfl,rfl,(TpR.sq G),(TpR.sq F),O,Ju (by lia),λM=>?_,λM p E=>?_⟩
    ·subst M;have Y:ys=[]:=d8 T;subst Y;exact q _ H (Ab.refl _) ⟨a,vs,rfl,G,by rw[SM];exact t.mono (Ab.refl _) λ_ z=>.inl z⟩
    ·exact q _ _ (Ao E _) ⟨p,_,rfl,TpR.of Af,(t.mono (Ao E _) λ_ z=>.inl z).append (n.mono (Ao E _) λ_ z=>.inl z)⟩
  |_=>exact nos e
 |_=>exact nos e
theorem kx1:OpR X (FJ .Add) (λx y H Q=>∃l b z w,x=.ref l/\y=.ref b/\SqL X.K H l z/\SqL X.K H b w/\z.length+w.length<=sizeLine/\∀p,H p=none->Q (.ref p) (upd H p (.lst (z++w)))):=by
 intro G s σ H x y v u Q I U T h;obtain⟨l,b,z,w,rfl,rfl,hH,hB,hz,q⟩:=h;cases U;cases T;have⟨j,r,pl,_⟩:=I.list hH;have⟨i,E,B,_⟩:=I.list hB;obtain⟨⟨cls,dd,data,P⟩,J,M,n,L⟩:=pl.isList;obtain⟨⟨O,C,data2,A⟩,m,t,Y,hd2⟩:=B.isList;simp only at M L t hd2;subst M L t hd2;have hl:=r.length;have aa:=E.length;have e:j.toArray++i.toArray=(j++i).toArray:=by simp
 refine QQ ⟨_,J,rfl⟩ ⟨_,m,rfl⟩ noFill_list_add seq_list_add PySem.F.slot_list_add PySem.F.entry_list_add (PySem.F.args_list_add_2 _ _) (list_addW l b j.toArray i.toArray n Y dd C P A (by rw[O_,O_];lia)) ⟨J,m,?_⟩;rw[e];exact⟨.ref _,_,I.lnew (t':=s.toks) (r.append E) (by rw[PQ];lia),rfl,q _ I.fresh⟩
theorem wx2:OpR X (FJ .Add) (rDF X.K jR):=by
 rintro j s σ H x y v u Q I A w ⟨S,F,E,d,t,r,e,q⟩;cases F with
 |lst G =>
  cases E with
  |lst ys=>obtain⟨M,rfl⟩:=Ax e;revert t;refine Bh λa vs n C t=>?_;obtain rfl:=n;revert r;refine Bh λb ws m B r=>?_;obtain rfl:=m;have L:=t.length;have J:=r.length;refine kx1 j s σ H _ _ v u Q I A w ⟨a,b,vs,ws,rfl,rfl,C.sq,B.sq,Ju (by lia),λp i=>?_⟩;exact q p _ _ _ rfl (Ao i _) i Af (((t.avoid i).mono (Ao i _) λ_ z=>z).append ((r.avoid i).mono (Ao i _) λ_ z=>z))
  |_=>exact nos e
 |_=>exact nos e
def kr1{f1 f2:Ev->R D}{d:D}(h:b2 f1 f2 jR ρ=.ok d):∃ds,d=.lst ds:=by
 refine An (λx _ h=>?_) (Ba h);refine An (λy _ h=>?_) (Ba h);cases e:jR x y with
 |none=>rw[e]at h;cases h
 |some i=>rw[e]at h;cases h;cases x<;>first |exact nos e | (cases y<;>first |exact nos e | (obtain⟨_,rfl⟩:=Ax e;exact⟨_,rfl⟩))
def sub(i:PEd X c l a f1)(e:PEd X c l b f2):PEd X c l (.BinOp a .Sub b pos) (b2 f1 f2 ZF):=a_ .Sub wy3 i e
def mul(i:PEd X c l a f1)(e:PEd X c l b f2):PEd X c l (.BinOp a .Mult b pos) (b2 f1 f2 W6):=a_ .Mult wx8 i e
def fdiv(i:PEd X c l a f1)(e:PEd X c l b f2):PEd X c l (.BinOp a .FloorDiv b pos) (b2 f1 f2 Fo):=a_ .FloorDiv wl9 i e
def mod(i:PEd X c l a f1)(e:PEd X c l b f2):PEd X c l (.BinOp a .Mod b pos) (b2 f1 f2 Hc):=a_ .Mod wx7 i e
def pow(i:PEd X c l a f1)(e:PEd X c l b f2):PEd X c l (.BinOp a .Pow b pos) (b2 f1 f2 aL):=a_ .Pow wy2 i e
def neg(e:PEd X c l a f1):PEd X c l (.UnaryOp .USub a pos) (b1 f1 fH):=un_ wy0 e
end
mutual
def D.py:D->PyData
 | .non=>.none
 | .bl b=>.bool b
 | .int i=>.int i
 | .str x=>.str x
 | .tup e=>.tuple (Fx e)
 | .lst e=>.list (Fx e)
 | .exc _ _ _=>.none
def Fx:List D->List PyData
 | []=>[]
 |d::ds=>d.py::Fx ds
end
mutual
def D.cok:Nat->D->Bool
 |n,.tup e=>match n with |0=>false |n+1=>Dw n e
 |n,.lst e=>match n with |0=>false |n+1=>Dw n e
 |_,.str x=>PyData.strOk x
 |_,.exc _ _ _=>false
 |_,_=>true
def Dw:Nat->List D->Bool
 |_,[]=>true
 |n,d::ds=>d.cok n && Dw n ds
end
mutual
theorem Hs:∀(n:Nat)(d:D),d.cok n=true->d.py.canLay0=true/\d.py.depth<=n
 |n,.non,_=>by simp[D.py,PyData.canLay0,PyData.depth]
 |n,.bl _,_=>by simp[D.py,PyData.canLay0,PyData.depth]
 |n,.int _,_=>by simp[D.py,PyData.canLay0,PyData.depth]
 |n,.str x,h=>by
  have i:PyData.strOk x=true:=by simpa[D.cok] using h
  simp[D.py,PyData.canLay0,PyData.depth,i]
 |0,.tup e,h=>by simp[D.cok]at h
 |0,.lst e,h=>by simp[D.cok]at h
 |n+1,.tup e,h=>by
  have i:Dw n e=true:=by simpa[D.cok] using h
  have:=Eu n e i;simp only[D.py,PyData.canLay0,PyData.depth];exact⟨this.1,by lia⟩
 |n+1,.lst e,h=>by
  have i:Dw n e=true:=by simpa[D.cok] using h
  have:=Eu n e i;simp only[D.py,PyData.canLay0,PyData.depth];exact⟨this.1,by lia⟩
 |n,.exc _ _ _,h=>by simp[D.cok]at h
theorem Eu:∀(n:Nat)(ds:List D),Dw n ds=true->PyData.canLayAll0 (Fx ds)=true/\PyData.depthAll (Fx ds)<=n
 |n,[],_=>by simp[Fx,PyData.canLayAll0,PyData.depthAll]
 |n,d::ds,h=>by
  have e:d.cok n=true/\Dw n ds=true:=by simpa[Dw] using h
  have j:=Hs n d e.1;have i:=Eu n ds e.2;simp only[Fx,PyData.canLayAll0,PyData.depthAll,j.1,i.1,Bool.and_self,true_and];lia
end
variable {pins:List (BJ×GD)}{s:BK}
section
variable {S:AS}
mutual
theorem Di(I:Inv X pins σ H s):∀(n:Nat)(d:D)(v:V)(u:A_),d.cok n=true->Rep X.K H S d v->RelV v u->∃G,Reads s.heap u d.py G
 |n,.non,v,u,_,h,r=>by cases(show v=.non from h);cases(show u=Value.none from r);exact⟨_,by simp only[D.py];exact .none⟩
 |n,.bl b,v,u,_,h,r=>by cases(show v=.bl b from h);cases(show u=Value.bool b from r);exact⟨_,by simp only[D.py];exact .bool b⟩
 |n,.int i,v,u,_,h,r=>by cases(show v=.int i from h);have⟨t,e⟩:=(show ∃t,u=Value.int i t from r);cases e;exact⟨_,by simp only[D.py];exact .int i t⟩
 |n,.str x,v,u,_,h,r=>by cases(show v=.str x from h);have⟨t,e⟩:=(show ∃t,u=Value.str x t from r);cases e;exact⟨_,by simp only[D.py];exact .str x t⟩
 |0,.tup j,v,u,k,h,r=>by simp[D.cok]at k
 |0,.lst j,v,u,k,h,r=>by simp[D.cok]at k
 |n+1,.tup j,v,u,k,h,r=>by
  obtain⟨a,vs,rfl,q,z⟩:=h;cases(show u=Value.ref a from r);have⟨w,y,p,_⟩:=I.tuple (TpR.sq q);have B:Dw n j=true:=by simpa[D.cok] using k
  have⟨G,A⟩:=Mw I n j vs w B z y;obtain⟨o,C,F,m,E⟩:=p;exact⟨_,by simp only[D.py];exact .tuple C F E (by simpa using A)⟩
 |n+1,.lst j,v,u,k,h,r=>by
  obtain⟨a,vs,rfl,q,z⟩:=h;cases(show u=Value.ref a from r);have⟨w,y,p,_⟩:=I.list q.sq;have B:Dw n j=true:=by simpa[D.cok] using k
  have⟨G,A⟩:=Mw I n j vs w B z y;obtain⟨o,C,F,m,E⟩:=p.isList;exact⟨_,by simp only[D.py];exact .list C F E (by simpa using A)⟩
 |n,.exc _ _ _,v,u,k,h,r=>by simp[D.cok]at k
theorem Mw(I:Inv X pins σ H s):∀(n:Nat)(ds:List D)(vs:List V)(us:List A_),Dw n ds=true->Ak X.K H S ds vs->Vals vs us->∃m,ReadsAll s.heap us (Fx ds) m
 |n,[],vs,us,_,h,r=>by cases(show vs=[] from h);cases r;exact⟨_,by simp only[Fx];exact .nil⟩
 |n,d::ds,vs,us,k,h,r=>by
  revert h;refine Bh λv e i x w=>?_;obtain rfl:=i;cases r with
  |cons q p =>
   have j:d.cok n=true/\Dw n ds=true:=by simpa[Dw] using k
   have⟨m,u⟩:=Di I n d v _ j.1 x q;obtain⟨bs,t⟩:=Mw I n ds e _ j.2 w p;exact⟨_,by simp only[Fx];exact .cons u t⟩
end
end
def D.eqb(x y:D):Bool:=PyData.eqv x.py y.py
def eqD(x y:D):Option D:=if x.cok 60 && y.cok 60 then some (.bl (x.eqb y)) else none
def neD(x y:D):Option D:=if x.cok 60 && y.cok 60 then some (.bl (!x.eqb y)) else none
def inD:D->D->Option D
 |x,.lst ys=>if x.cok 60 && Dw 60 ys then some (.bl (ys.any λy=>y.eqb x)) else none
 |x,.tup ys=>if x.cok 60 && Dw 60 ys then some (.bl (ys.any λy=>y.eqb x)) else none
 |_,_=>none
def oW:D->D->Option D
 |x,.lst ys=>if x.cok 60 && Dw 60 ys then some (.bl (!ys.any λy=>y.eqb x)) else none
 |x,.tup ys=>if x.cok 60 && Dw 60 ys then some (.bl (!ys.any λy=>y.eqb x)) else none
 |_,_=>none
section
variable {c:DC}{f f1 f2:Ev->R D}
def U0(x:D):∀ys:List D,((Fx ys).any λy=>PyData.eqv y x.py)=ys.any λy=>y.eqb x
 | []=>by simp[Fx]
 |y::ys=>by simp only[Fx,bG,U0 x ys];rfl
theorem oU(C:X.A.units+70<FN):OpR X (CG .Eq) (rD X.K eqD):=by rintro pins s σ H x y v u Q I n m ⟨S,j,i,d,w,t,e,q⟩;obtain⟨h,rfl⟩:=Ax e;rw[KN]at h;have⟨E,r⟩:=Di I 60 j x v h.1 w n;have⟨bs,p⟩:=Di I 60 i y u h.2 t m;have B:=Hs 60 j h.1;have z:=Hs 60 i h.2;exact SeqAt.compareEq_reads r p B.1 z.1 (by lia) ⟨.bl _,H,I,rfl,q _ H (Ab.refl _) rfl⟩
theorem oO(C:X.A.units+70<FN):OpR X (CG .NotEq) (rD X.K neD):=by rintro pins s σ H x y v u Q I n m ⟨S,j,i,d,w,t,e,q⟩;obtain⟨h,rfl⟩:=Ax e;rw[KN]at h;have⟨E,r⟩:=Di I 60 j x v h.1 w n;have⟨bs,p⟩:=Di I 60 i y u h.2 t m;have B:=Hs 60 j h.1;have z:=Hs 60 i h.2;exact SeqAt.compareNe_reads r p B.1 z.1 (by lia) ⟨.bl _,H,I,rfl,q _ H (Ab.refl _) rfl⟩
theorem zJ(F:X.A.units+70<FN):OpR X (CG .In) (rD X.K inD):=by
 rintro pins s σ H x y v u Q I w t ⟨S,j,C,d,B,z,e,q⟩;cases C with
 |lst ys=>obtain⟨h,rfl⟩:=Ax e;rw[KN]at h;have r:(D.lst ys).cok 61=true:=h.2;have⟨E,m⟩:=Di I 60 j x v h.1 B w;have⟨bs,i⟩:=Di I 61 _ y u r z t;have p:=Hs 60 j h.1;have n:=Eu 60 ys h.2;simp only[D.py]at i;exact SeqAt.in_list_reads i m n.1 p.1 (by lia) ⟨.bl _,H,I,rfl,by rw[U0];exact q _ H (Ab.refl _) rfl⟩
 |tup ys=>obtain⟨h,rfl⟩:=Ax e;rw[KN]at h;have r:(D.tup ys).cok 61=true:=h.2;have⟨E,m⟩:=Di I 60 j x v h.1 B w;have⟨bs,i⟩:=Di I 61 _ y u r z t;have p:=Hs 60 j h.1;have n:=Eu 60 ys h.2;simp only[D.py]at i;exact SeqAt.in_tuple_reads i m n.1 p.1 (by lia) ⟨.bl _,H,I,rfl,by rw[U0];exact q _ H (Ab.refl _) rfl⟩
 |_=>exact nos e
theorem wy1(F:X.A.units+70<FN):OpR X (CG .NotIn) (rD X.K oW):=by
 rintro pins s σ H x y v u Q I w t ⟨S,j,C,d,B,z,e,q⟩;cases C with
 |lst ys=>obtain⟨h,rfl⟩:=Ax e;rw[KN]at h;have r:(D.lst ys).cok 61=true:=h.2;have⟨E,m⟩:=Di I 60 j x v h.1 B w;have⟨bs,i⟩:=Di I 61 _ y u r z t;have p:=Hs 60 j h.1;have n:=Eu 60 ys h.2;simp only[D.py]at i;exact SeqAt.notIn_list_reads i m n.1 p.1 (by lia) ⟨.bl _,H,I,rfl,by rw[U0];exact q _ H (Ab.refl _) rfl⟩
 |tup ys=>obtain⟨h,rfl⟩:=Ax e;rw[KN]at h;have r:(D.tup ys).cok 61=true:=h.2;have⟨E,m⟩:=Di I 60 j x v h.1 B w;have⟨bs,i⟩:=Di I 61 _ y u r z t;have p:=Hs 60 j h.1;have n:=Eu 60 ys h.2;simp only[D.py]at i;exact SeqAt.notIn_tuple_reads i m n.1 p.1 (by lia) ⟨.bl _,H,I,rfl,by rw[U0];exact q _ H (Ab.refl _) rfl⟩
 |_=>exact nos e
def aZ(p:Int->Int->Bool):D->D->Option D
 | .int i,.int j=>some (.bl (p i j))
 |_,_=>none
abbrev ltD:=aZ λi j=>decide (i<j)
abbrev leD:=aZ λi j=>decide (i<=j)
abbrev gtD:=aZ λi j=>decide (j<i)
abbrev geD:=aZ λi j=>decide (j<=i)
def Zz{m:M_}{p:Int->Int->Bool}(n:OpR X (CG m) (rI0 λi j=>.bl (p i j))):OpR X (CG m) (rD X.K (aZ p)):=uC n λr q d e=>by cases r<;>first |exact nos e | (cases q<;>first |exact nos e | (cases e;exact⟨_,_,rfl,rfl,λ_ _=>rfl⟩))
def bY:OpR X (CG .Lt) (rD X.K ltD):=Zz wy8
def Vw:OpR X (CG .LtE) (rD X.K leD):=Zz wy7
def oR:OpR X (CG .Gt) (rD X.K gtD):=Zz wy6
def zK:OpR X (CG .GtE) (rD X.K geD):=Zz wy5
def ixD:D->D->Option D
 | .lst e,.int i=>atI e i
 | .tup e,.int i=>atI e i
 | .str z,.int i=>if z.length<=16777216 then(atI z.cps.toList i).map λk=>.str ⟨#[k]⟩ else none
 |_,_=>none
def uW{S:AS}{i:Int}{d:D}(r:Ak K H S ds vs)(e:atI ds i=some d):∃v,atI vs i=some v/\Rep K H S d v:=by
 unfold atI at e ⊢;rw[<-r.length];cases k:ixN ds.length i with
 |none=>rw[k]at e;cases e
 |some j=>rw[k]at e;exact r.get e
def zH:IxR X (rD X.K ixD):=by
 rintro value slice pins s σ H x y v u Q I t r ⟨S,F,C,d,m,A,e,q⟩ hs;cases F with
 |lst E =>
  cases C with
  |int i=>revert m;refine Bh λa vs p B m=>?_;obtain rfl:=p;refine An (λw U j=>?_) (uW m e);exact Zv value slice pins s σ H _ y v u Q I t r ⟨a,vs,i,w,rfl,A,B.sq,U,q _ H (Ab.refl _) (j.mono (Ab.refl _) λ_ z=>.inl z)⟩ hs
  |_=>exact nos e
 |tup E =>
  cases C with
  |int i=>revert m;refine Bh λa vs n B m=>?_;obtain rfl:=n;refine An (λw U j=>?_) (uW m e);exact wj9 value slice pins s σ H _ y v u Q I t r ⟨a,vs,i,w,rfl,A,(TpR.sq B),U,q _ H (Ab.refl _) (j.mono (Ab.refl _) λ_ z=>.inl z)⟩ hs
  |_=>exact nos e
 |str z =>
  cases C with
  |int i =>
   obtain⟨h,e⟩:z.length<=16777216/\(atI z.cps.toList i).map (λk=>D.str ⟨#[k]⟩)=some d:=by
    have e:(if z.length<=16777216 then(atI z.cps.toList i).map (λk=>D.str ⟨#[k]⟩) else none)=some d:=e;by_cases h:z.length<=16777216
    ·rw[if_pos h]at e;exact⟨h,e⟩
    ·rw[if_neg h]at e;cases e
   cases k:atI z.cps.toList i with
   |none=>rw[k]at e;cases e
   |some ch=>rw[k]at e;cases e;exact wj8 value slice pins s σ H _ y v u Q I t r ⟨z,i,ch,m,A,Ju h,k,q _ H (Ab.refl _) rfl⟩ hs
  |_=>exact nos e
 |_=>exact nos e
def ix(i:PEd X c l a f1)(e:PEd X c l b f2)(hs:Ug b:=by exact λ_ _=>rfl):PEd X c l (.Subscript a b pos) (b2 f1 f2 ixD):=PE.imp (j5 zH i e hs) λ_ _ _ h=>cI h
def eq_(e:X.A.units+70<FN)(j:PEd X c l a f1)(i:PEd X c l b f2):PEd X c l (.Compare a [.Eq] [b] pos) (b2 f1 f2 eqD):=cD (oU e) j i (Mu _)
def ne_(e:X.A.units+70<FN)(j:PEd X c l a f1)(i:PEd X c l b f2):PEd X c l (.Compare a [.NotEq] [b] pos) (b2 f1 f2 neD):=cD (oO e) j i (Mu _)
def gt_(i:PEd X c l a f1)(e:PEd X c l b f2):PEd X c l (.Compare a [.Gt] [b] pos) (b2 f1 f2 gtD):=cD oR i e (Mu _)
end
def a0:Ev->R (List D):=λ_=>.ok []
def zv(f:Ev->R D)(i:Ev->R (List D)):Ev->R (List D):=λρ=>(f ρ).bind λx=>(i ρ).bind λe=>.ok (x::e)
def Dk(xs:List D):Option D:=if xs.length<=16777216 then some (.tup xs) else none
def Q3(xs:List D):Option D:=if xs.length<=16777216 then some (.lst xs) else none
def bA(i:Ev->R (List D))(g:List D->Option D):Ev->R D:=λρ=>(i ρ).bind λe=>R.of (g e)
def rC(K:BW)(g:List D->Option D):List V->Hp->VK->Prop:=λe H Q=>∃S ds d,Ak K H S ds e/\g ds=some d/\∀z H',Ab H H'->Rep K H' (AS.plus S H) d z->Q z H'
section
variable {c:DC}{f:Ev->R D}{fs:Ev->R (List D)}{g:List D->Option D}
def tA0(h:tDA K c 0 l a0 σ H Q):jA σ H Q:=by revert h;refine Ce λhs ρ E q=>?_;exact q [] H (Ab.refl _) Ak.nil rfl
def tA1{n:Nat}(h:tDA K c (n+1) l (zv f fs) σ H Q):pW (tD K c l f) (tDA K c n l fs) σ H Q:=by revert h;refine Ce λhs ρ E q=>?_;refine Ag E ((RQ.bind.mp q).mono (λB u x C i A r=>?_) λ_ z=>z);refine Fz A ((RQ.bind.mp u).mono (λds t m y j F p w=>?_) λe z=>Az z i);exact t (x::m) y (i.trans j) (.cons (r.mono j λ_ z=>z) (p.mono (Ab.refl _) λ_ z=>Bw i z)) (by simp[w])
def tAg{n:Nat}{Q:VK}(h:tD K c l (bA fs g) σ H Q):tCB (rC K g) (tDA K c n l fs) σ H Q:=by revert h;refine Ce λhs ρ E q=>?_;refine Fz E ((RQ.bind.mp q).mono (λds t u x i y p w=>?_) λ_ z=>z);refine An (λd e r=>?_) (t.of);exact⟨lvS c ρ σ H l,ds,d,p,e,λz H' j m=>r z H' (i.trans j) (m.mono (Ab.refl _) λ_ z=>Fv E i z)⟩
end
variable {e:BZ}{es:List BZ}
variable {g':D->D->Option D}
section
variable {c:DC}{d:BZ}{rest:List BZ}{f f1 f2 i:Ev->R D}{fs:Ev->R (List D)}{g:List D->Option D}
def an:PAd X c l [] a0:=PA.imp Jf λ_ _ _ h=>tA0 h
def ac(m:PEd X c l e f)(j:PAd X c l es fs)(hs:Zs X.env e es:=by rfl):PAd X c l (e::es) (zv f fs):=PA.imp (Cp m j hs) λ_ _ _ h=>tA1 h
def tup{x1}(h:PAd X c l es fs):PEd X c l (.Tuple es x1 pos) (bA fs Dk):=PE.imp (sG h) λσ H Q q=>by revert q;refine Ce λhs ρ E q=>?_;refine Fz E ((RQ.bind.mp q).mono (λds u n y r A j x=>?_) λ_ z=>z);refine An (λd e t=>?_) (u.of);obtain⟨w,rfl⟩:=Ax e;refine⟨Ju (by rw[<-j.length];exact w),λp m=>t _ _ (r.trans (Ao m _)) ⟨p,n,rfl,TpR.of Af,j.mono (Ao m _) λ_ z=>z⟩⟩
def fJ(h:PAd X c l es fs):PEf X c l (.List es pos) (bA fs Q3):=PE.imp (lJ h) λσ H Q q=>by revert q;refine Ce λhs ρ E q=>?_;refine Fz E ((RQ.bind.mp q).mono (λds u r y m A n x=>?_) λ_ z=>z);refine An (λd e t=>?_) (u.of);obtain⟨w,rfl⟩:=Ax e;exact⟨Ju (by rw[<-n.length];exact w),λp j=>t p r ds _ rfl (m.trans (Ao j _)) (m.free j) Af ((n.avoid j).mono (Ao j _) λ_ z=>z)⟩
theorem uF{d:D}(h:bA fs Q3 ρ=.ok d):∃ds,d=.lst ds:=by
 unfold bA at h;cases U:fs ρ<;>rw[U]at h<;>try cases h
 rename_i j;simp only[R.ok_bind,Q3]at h;split at h
 ·cases h;exact⟨_,rfl⟩
 ·cases h
def lst(h:PAd X c l es fs):PEd X c l (.List es pos) (bA fs Q3):=PEf.d (fJ h) λ_ _ h=>uF h
def Xk{x:BP}{p:GP}{n:String}(y:Ei X (.builtin n) (rC X.K g))(q:HQ x=some (.builtin n))(t:X.mg x=none)(z:PAd X c l (e::es) fs)(u:Gl X x:=by rfl)(r:x ≠ "__name__":=by decide)(m:Zd x:=by decide)
  (w:Zs X.env e es:=by rfl)(j:Zp X.env pos es:=by rfl):PEd X c l (.Call (.Name x p) (e::es) [] pos) (bA fs g):=
 PE.imp (vL y u t q z r m w j) λ_ _ _ h=>tAg h
def cY{x:BP}{p:GP}{T:String}(w:Ei X (.type T) (rC X.K g))(n:HQ x=some (.type T))(r:X.mg x=none)(y:PAd X c l (e::es) fs)(t:Gl X x:=by rfl)(q:x ≠ "__name__":=by decide)(m:Zd x:=by decide)
  (u:Zs X.env e es:=by rfl)(j:Zp X.env pos es:=by rfl):PEd X c l (.Call (.Name x p) (e::es) [] pos) (bA fs g):=
 PE.imp (jz8 w t r n y q m u j) λ_ _ _ h=>tAg h
def Eh:List D->Option D
 | [.lst j]=>some (.int j.length)
 | [.tup j]=>some (.int j.length)
 | [.str z]=>if z.length<=16777216 then some (.int z.length) else none
 |_=>none
def ws5:Ei X (.builtin "len") (rC X.K Eh):=by
 rintro pins s σ H y j Q I r ⟨S,ds,d,m,e,q⟩;obtain⟨t,rfl⟩:=inv1 e rfl (λx _ _=>by cases x<;>rfl);cases t with
 |lst ys=>cases e;obtain⟨v,rfl,a,vs,rfl,p,n⟩:=m.one;have:=n.length;exact Pz pins s σ H _ j Q I r ⟨a,vs,rfl,.inl p.sq,q _ H (Ab.refl _) (by rw[<-this];rfl)⟩
 |tup ys=>cases e;obtain⟨v,rfl,a,vs,rfl,p,n⟩:=m.one;have:=n.length;exact Pz pins s σ H _ j Q I r ⟨a,vs,rfl,.inr (TpR.sq p),q _ H (Ab.refl _) (by rw[<-this];rfl)⟩
 |str z=>obtain⟨w,rfl⟩:=Ax e;obtain⟨v,rfl,u⟩:=m.one;cases(show v=.str z from u);exact Yy pins s σ H _ j Q I r ⟨z,rfl,Ju w,q _ H (Ab.refl _) rfl⟩
 |_=>exact nos e
def M3:List D->Option D
 | [.lst j]=>some (.tup j)
 | [.tup j]=>some (.tup j)
 |_=>none
def kr0:Ei X (.type "tuple") (rC X.K M3):=by
 rintro pins s σ H y n Q I r ⟨S,ds,d,t,e,q⟩;obtain⟨w,rfl⟩:=inv1 e rfl (λx _ _=>by cases x<;>rfl);cases w with
 |lst ys=>cases e;obtain⟨v,rfl,a,vs,rfl,j,m⟩:=t.one;exact Nx pins s σ H _ n Q I r ⟨a,vs,rfl,.inl ⟨j.sq,λp u=>q _ _ (Ao u _) ⟨p,vs,rfl,TpR.of Af,m.mono (Ao u _) λ_ z=>.inl z⟩⟩⟩
 |tup ys=>cases e;obtain⟨v,rfl,a,vs,rfl,j,m⟩:=t.one;exact Nx pins s σ H _ n Q I r ⟨a,vs,rfl,.inr ⟨(TpR.sq j),q _ H (Ab.refl _) ⟨a,vs,rfl,j,m.mono (Ab.refl _) λ_ z=>.inl z⟩⟩⟩
 |_=>exact nos e
def minD:List D->Option D
 | [.int i,.int j]=>some (.int (if j<i then j else i))
 |_=>none
def maxD:List D->Option D
 | [.int i,.int j]=>some (.int (if j>i then j else i))
 |_=>none
def ws7(B:X.calm=true):Ei X (.builtin "min") (rC X.K minD):=by
 rintro pins s σ H C t Q I r ⟨S,ds,d,w,e,q⟩;obtain⟨p,n,rfl⟩:=inv2 e rfl (λx=>by cases x<;>rfl) (λx y _ _=>by cases x<;>first |rfl | (cases y<;>rfl));cases p with
 |int i =>
  cases n with
  |int j=>cases e;refine Bh (λv u m A z=>?_) (w.two);obtain rfl:=m;cases(show v=.int i from A);cases(show u=.int j from z);exact jv7 B pins s σ H _ t Q I r ⟨i,j,rfl,q _ H (Ab.refl _) rfl⟩
  |_=>exact nos e
 |_=>exact nos e
def ws6(B:X.calm=true):Ei X (.builtin "max") (rC X.K maxD):=by
 rintro pins s σ H C t Q I r ⟨S,ds,d,w,e,q⟩;obtain⟨p,n,rfl⟩:=inv2 e rfl (λx=>by cases x<;>rfl) (λx y _ _=>by cases x<;>first |rfl | (cases y<;>rfl));cases p with
 |int i =>
  cases n with
  |int j=>cases e;refine Bh (λv u m A z=>?_) (w.two);obtain rfl:=m;cases(show v=.int i from A);cases(show u=.int j from z);exact jv6 B pins s σ H _ t Q I r ⟨i,j,rfl,q _ H (Ab.refl _) rfl⟩
  |_=>exact nos e
 |_=>exact nos e
def intD:List D->Option D
 | [.int i]=>some (.int i)
 | [.bl k]=>some (.int (if k then 1 else 0))
 |_=>none
def ws4:Ei X (.type "int") (rC X.K intD):=by
 rintro pins s σ H w p Q I r ⟨S,ds,d,t,e,q⟩;obtain⟨u,rfl⟩:=inv1 e rfl (λx _ _=>by cases x<;>rfl);cases u with
 |int i=>cases e;refine An (λv m n=>?_) (t.one);obtain rfl:=m;cases(show v=.int i from n);exact Xl pins s σ H _ p Q I r (.inl ⟨i,rfl,q _ H (Ab.refl _) rfl⟩)
 |bl k=>cases e;refine An (λv j n=>?_) (t.one);obtain rfl:=j;cases(show v=.bl k from n);exact Xl pins s σ H _ p Q I r (.inr ⟨k,rfl,q _ H (Ab.refl _) rfl⟩)
 |_=>exact nos e
def Lw(m:X.mg "len" = none){p:GP}(r:PAd X c l (e::es) fs)(n:Gl X "len":=by rfl)(q:Zs X.env e es:=by rfl)(j:Zp X.env pos es:=by rfl):
  PEd X c l (.Call (.Name "len" p) (e::es) [] pos) (bA fs Eh):=Xk ws5 PySem.boot_len m r n (by decide) (by decide) q j
def eG:D->Option Bool
 | .bl k=>some k
 | .int i=>some (i != 0)
 | .non=>some false
 | .tup j=>some (!j.isEmpty)
 | .lst j=>some (!j.isEmpty)
 | .str x=>if x.length<=16777216 then some ((x.length:Int) != 0) else none
 | .exc _ _ _=>none
def Vk:D->Option Bool
 | .bl k=>some k
 |_=>none
def tt(f:Ev->R D):Ev->R Bool:=λρ=>(f ρ).bind λd=>R.of (eG d)
def tb(f:Ev->R D):Ev->R Bool:=λρ=>(f ρ).bind λd=>R.of (Vk d)
def Qz{S:AS}(r:Ak K H S ds vs):(!ds.isEmpty) = !vs.isEmpty:=by have:=r.length;cases ds<;>cases vs<;>simp at this ⊢
def tst(C:PEd X c l a f)(B:∀whole,T_ a X.env whole=(do let v <-whole;JW a.pos;JX [v] (truthy v)):=by intro _;rfl):PTd X c a (tt f):=PT.imp (kl3 C B) λσ H Q q=>by
 revert q;refine Ce λhs ρ E q=>?_;refine Ag E ((RQ.bind.mp q).mono (λF y x G u J j=>?_) λ_ z=>z);refine An (λk e w=>?_) (y.of);refine⟨k,?_,w G u⟩;cases F with
 |non=>cases(show x=.non from j);cases e;rfl
 |bl b=>cases(show x=.bl b from j);cases e;rfl
 |int i=>cases(show x=.int i from j);cases e;rfl
 |str z=>cases(show x=.str z from j);obtain⟨A,rfl⟩:=Ax e;exact⟨Ju A,rfl⟩
 |tup ys=>revert j;refine Bh λp vs n t r=>?_;obtain rfl:=n;cases e;exact .inr (.inl ⟨vs,(TpR.sq t),Qz r⟩)
 |lst ys=>revert j;refine Bh λp vs m t r=>?_;obtain rfl:=m;cases e;exact .inl ⟨vs,t.sq,Qz r⟩
 |exc _ _ _=>cases e
def pX{t:TE}{Q:Bool->Hp->Prop}(i:∀Q,tD K c l f σ H Q->t σ H Q)(h:tDT K c (tb f) σ H Q):t σ H λx H'=>∃k,x=.bl k/\Q k H':=by apply i;revert h;refine Ce λhs ρ E q=>?_;refine Ag E ((RQ.bind.mp q).mono (λr p x u j w m=>?_) λ_ z=>z);refine An (λk e n=>?_) (p.of);cases r<;>first | (cases e;exact⟨k,m,n u j⟩) |cases e
def ZD{j:M_}{g:D->D->Option D}(m:OpR X (CG j) (rD X.K g))(r:PEd X c l a f1)(p:PEd X c l b f2)(n:DX j b=false):PTd X c (.Compare a [j] [b] pos) (tb (b2 f1 f2 g)):=
 PT.imp (ky2 m r p n) λσ H Q q=>pX (λQ h=>cI h) q
def teq(j:X.A.units+70<FN)(n:PEd X c l a f1)(m:PEd X c l b f2):PTd X c (.Compare a [.Eq] [b] pos) (tb (b2 f1 f2 eqD)):=ZD (oU j) n m (Mu _)
def tne(j:X.A.units+70<FN)(n:PEd X c l a f1)(m:PEd X c l b f2):PTd X c (.Compare a [.NotEq] [b] pos) (tb (b2 f1 f2 neD)):=ZD (oO j) n m (Mu _)
def tlt(m:PEd X c l a f1)(j:PEd X c l b f2):PTd X c (.Compare a [.Lt] [b] pos) (tb (b2 f1 f2 ltD)):=ZD bY m j (Mu _)
def tgt(m:PEd X c l a f1)(j:PEd X c l b f2):PTd X c (.Compare a [.Gt] [b] pos) (tb (b2 f1 f2 gtD)):=ZD oR m j (Mu _)
def tge(m:PEd X c l a f1)(j:PEd X c l b f2):PTd X c (.Compare a [.GtE] [b] pos) (tb (b2 f1 f2 geD)):=ZD zK m j (Mu _)
def tin(j:X.A.units+70<FN)(p:PEd X c l a f1)(n:PEd X c l b f2)(m:DX .In b=false:=by with_unfolding_all rfl):PTd X c (.Compare a [.In] [b] pos) (tb (b2 f1 f2 inD)):=ZD (zJ j) p n m
def yG(j:X.A.units+70<FN)(p:PEd X c l a f1)(n:PEd X c l b f2)(m:DX .NotIn b=false:=by with_unfolding_all rfl):PTd X c (.Compare a [.NotIn] [b] pos) (tb (b2 f1 f2 oW)):=ZD (wy1 j) p n m
def ch(f1 f2 i:Ev->R D)(g g':D->D->Option D):Ev->R D:=λρ=>(f1 ρ).bind λx=>(f2 ρ).bind λy=>(R.of (g x y)).bind λz=>(R.of (Vk z)).bind λk=>if k then(i ρ).bind λw=>R.of (g' y w) else .ok (.bl false)
def rG{g:D->D->Option D}{Q:VK}(h:tD K c l (ch f1 f2 i g g') σ H Q):lC (rD K g) (rD K g') (tD K c l f1) (tD K c l f2) (tD K c l i) σ H Q:=by
 revert h;refine Ce λhs ρ E q=>?_;refine Ag E ((RQ.bind.mp q).mono (λdx q1 x H1 t E1 P=>?_) λ_ z=>z);refine Ag E1 ((RQ.bind.mp q1).mono (λB q2 y H2 u E2 O=>?_) λe z=>Az z t);refine An (λA e Y=>?_) ((RQ.bind.mp q2).of);refine An (λk J p=>?_) ((RQ.bind.mp Y).of);have n:=O.mono (Ab.refl _) (λ_ z=>Bw t z:∀o,lvS c ρ σ H1 l o->lvS c ρ σ H l o);refine⟨lvS c ρ σ H l,dx,B,A,P.mono u (λ_ z=>z),n,e,λz H3 m M=>?_⟩;cases A<;>try cases J
 refine⟨k,M,?_⟩;have j:=t.trans u;have E3:=E2.mono m;cases k with
 |false=>rw[if_neg (by decide)]at p ⊢;exact p _ H3 (j.trans m) rfl
 |true=>rw[if_pos rfl]at p ⊢;refine Ag E3 ((RQ.bind.mp p).mono (λdw U w H4 r E4 L=>?_) λe z=>Az z (j.trans m));refine An (λd C T=>?_) (U.of);refine⟨lvS c ρ σ H l,B,dw,d,n.mono (m.trans r) (λ_ z=>z),L.mono (Ab.refl _) (λ_ z=>Bw (j.trans m) z),C,λz H' F G=>?_⟩;exact T z H' (((j.trans m).trans r).trans F) (G.mono (Ab.refl _) λ_ z=>Fv E ((j.trans m).trans r) z)
def chain{m j:M_}{g:D->D->Option D}(p:OpR X (CG m) (rD X.K g))(n:OpR X (CG j) (rD X.K g'))(u:PEd X c l a f1)(t:PEd X c l b f2)(r:PEd X c l d i)
  (q:OJ [m,j] [b,d]=false:=by with_unfolding_all rfl):PEd X c l (.Compare a [m,j] [b,d] pos) (ch f1 f2 i g g'):=PE.imp (kj4 p n u t r q) λ_ _ _ h=>rG h
def Wm{m j:M_}{g:D->D->Option D}(p:OpR X (CG m) (rD X.K g))(n:OpR X (CG j) (rD X.K g'))(w:PEd X c l a f1)(u:PEd X c l b f2)(t:PEd X c l d i)
  (r:OJ [m,j] [b,d]=false:=by with_unfolding_all rfl):PTd X c (.Compare a [m,j] [b,d] pos) (tb (ch f1 f2 i g g')):=PT.imp (kl1 p n w u t r) λσ H Q q=>pX (λQ h=>rG h) q
def nt(f:Ev->R Bool):Ev->R Bool:=λρ=>(f ρ).bind λk=>.ok (!k)
def tan(f g:Ev->R Bool):Ev->R Bool:=λρ=>(f ρ).bind λk=>if k then g ρ else .ok false
def tor(f g:Ev->R Bool):Ev->R Bool:=λρ=>(f ρ).bind λk=>if k then .ok true else g ρ
variable {t u:Ev->R Bool}
abbrev PWd(X:Cx)(c:DC)(e:BZ)(f:Ev->R Bool):Prop:=PW X e (tDT X.K c f)
def Ue(n:PTd X c a t):PTd X c (.UnaryOp .Not a pos) (nt t):=PT.imp (wn2 n) λσ H Q q=>by revert q;refine Ce λhs ρ E q=>?_;exact Ga E ((RQ.bind.mp q).mono (λk m p j _=>m p j) λ_ z=>z)
def cH(j:PTd X c a t):PWd X c (.BoolOp .And [a] pos) t:=ky7 j
def i_(j:PTd X c a t):PWd X c (.BoolOp .Or [a] pos) t:=wn5 j
def bR(w:PTd X c a t)(r:PWd X c (.BoolOp .And (b::rest) pos) u):PWd X c (.BoolOp .And (a::b::rest) pos) (tan t u):=PW.imp (wn4 w r) λσ H Q q=>by
 revert q;refine Ce λhs ρ E q=>?_;refine Ga E ((RQ.bind.mp q).mono (λk m y j A=>?_) λ_ z=>z);cases k with
 |false=>rw[if_neg (by decide)];exact m y j
 |true=>rw[if_pos rfl];exact Ga A ((show RQ (u ρ) _ _ from m).mono (λk p x n _=>p x (j.trans n)) λe z=>Az z j)
def iZ(w:PTd X c a t)(r:PWd X c (.BoolOp .Or (b::rest) pos) u):PWd X c (.BoolOp .Or (a::b::rest) pos) (tor t u):=PW.imp (wz8 w r) λσ H Q q=>by
 revert q;refine Ce λhs ρ E q=>?_;refine Ga E ((RQ.bind.mp q).mono (λk m y j A=>?_) λ_ z=>z);cases k with
 |true=>rw[if_pos rfl];exact m y j
 |false=>rw[if_neg (by decide)];exact Ga A ((show RQ (u ρ) _ _ from m).mono (λk p x n _=>p x (j.trans n)) λe z=>Az z j)
def T6(h:PWd X c e t):PTd X c e t:=h.pt
def va(f g:Ev->R D):Ev->R D:=λρ=>(f ρ).bind λd=>(R.of (Vk d)).bind λk=>if k then g ρ else .ok (.bl false)
def vo(f g:Ev->R D):Ev->R D:=λρ=>(f ρ).bind λd=>(R.of (Vk d)).bind λk=>if k then .ok (.bl true) else g ρ
def v1{op}(h:PEd X c l a f):PEd X c l (.BoolOp op [a] pos) f:=wm7 h
def ZC(B:PEd X c l a f1)(A:PEd X c l (.BoolOp .And (b::rest) pos) f2):PEd X c l (.BoolOp .And (a::b::rest) pos) (va f1 f2):=PE.imp (wm4 B A) λσ H Q q=>by
 revert q;refine Ce λhs ρ E q=>?_;refine Ag E ((RQ.bind.mp q).mono (λC y x G j J r=>?_) λ_ z=>z);refine An (λk e m=>?_) ((RQ.bind.mp y).of);cases C<;>try cases e
 refine⟨k,r,?_⟩;cases k with
 |false=>rw[if_neg (by decide)]at m ⊢;exact m _ G j rfl
 |true=>rw[if_pos rfl]at m ⊢;exact Ag J (m.mono (λd w v F n L p=>w v F (j.trans n) (p.mono (Ab.refl _) λ_ z=>Bw j z)) λe z=>Az z j)
def vor(B:PEd X c l a f1)(A:PEd X c l (.BoolOp .Or (b::rest) pos) f2):PEd X c l (.BoolOp .Or (a::b::rest) pos) (vo f1 f2):=PE.imp (wz6 B A) λσ H Q q=>by
 revert q;refine Ce λhs ρ E q=>?_;refine Ag E ((RQ.bind.mp q).mono (λC y x G j J r=>?_) λ_ z=>z);refine An (λk e m=>?_) ((RQ.bind.mp y).of);cases C<;>try cases e
 refine⟨k,r,?_⟩;cases k with
 |true=>rw[if_pos rfl]at m ⊢;exact m _ G j rfl
 |false=>rw[if_neg (by decide)]at m ⊢;exact Ag J (m.mono (λd w v F n L p=>w v F (j.trans n) (p.mono (Ab.refl _) λ_ z=>Bw j z)) λe z=>Az z j)
def ife(t:Ev->R Bool)(f g:Ev->R D):Ev->R D:=λρ=>(t ρ).bind λk=>if k then f ρ else g ρ
def ifx{d:BZ}(y:PTd X c d t)(B:PEd X c l a f1)(A:PEd X c l b f2):PEd X c l (.IfExp d a b pos) (ife t f1 f2):=PE.imp (kj6 y B A) λσ H Q q=>by
 revert q;refine Ce λhs ρ E q=>?_;refine Ga E ((RQ.bind.mp q).mono (λk m F j x=>?_) λ_ z=>z);cases k with
 |true=>rw[if_pos rfl]at m ⊢;exact Ag x (m.mono (λd r v w n C p=>r v w (j.trans n) (p.mono (Ab.refl _) λ_ z=>Bw j z)) λe z=>Az z j)
 |false=>rw[if_neg (by decide)]at m ⊢;exact Ag x (m.mono (λd r v w n C p=>r v w (j.trans n) (p.mono (Ab.refl _) λ_ z=>Bw j z)) λe z=>Az z j)
end
def tDO(K:BW)(c:DC)(f:Ev->R (Option Int)):TO:=λσ H Q=>∃hs ρ,Al K c hs ρ σ H/\RQ (f ρ) (λo=>∀H',Ab H H'->Q o H') (λe=>∀v H',Ab H H'->Rep K H' (lvS c ρ σ H .any) e v->c.Ex e v H')
abbrev POd(X:Cx)(c:DC)(e:Option BZ)(f:Ev->R (Option Int)):Prop:=PO X e (tDO X.K c f)
def PO.imp{e:Option BZ}{t t':TO}(h:PO X e t)(i:∀σ H Q,t' σ H Q->t σ H Q):PO X e t':=λpins s σ H Q I q=>h pins s σ H Q I (i σ H Q q)
def p0:Ev->R (Option Int):=λ_=>.ok none
def isI:D->Option (Option Int)
 | .int i=>some (some i)
 |_=>none
def p1(f:Ev->R D):Ev->R (Option Int):=λρ=>(f ρ).bind λd=>R.of (isI d)
def cutD(xs:List D)(i j:Option Int):List D:=(xs.drop (HT.sIx xs.length 0 i)).take (HT.sIx xs.length xs.length j - HT.sIx xs.length 0 i)
def slL:D->Option Int->Option Int->Option D
 | .lst i,j,m=>some (.lst (cutD i j m))
 |_,_,_=>none
def bS(f:Ev->R D)(m n:Ev->R (Option Int))(g:D->Option Int->Option Int->Option D):Ev->R D:=λρ=>(f ρ).bind λx=>(m ρ).bind λi=>(n ρ).bind λj=>R.of (g x i j)
section
variable {c:DC}{lo hi:Option BZ}{f:Ev->R D}{m n:Ev->R (Option Int)}{t:GP}
def pn:POd X c none p0:=PO.imp kx9 λσ H Q ⟨hs,ρ,E,q⟩=>q H (Ab.refl _)
def ps(h:PEd X c l e f):POd X c (some e) (p1 f):=PO.imp (ky0 h) λσ H Q q=>by
 revert q;refine Ce λhs ρ E q=>?_;refine Ag E ((RQ.bind.mp q).mono (λu r x w i y j=>?_) λ_ z=>z);refine An (λk e p=>?_) (r.of);cases u<;>try cases e
 exact⟨_,j,p w i⟩
def Ak.cut{S:AS}(r:Ak K H S ds vs)(lo hi:Option Int):Ak K H S (cutD ds lo hi) (X_ vs lo hi):=by unfold cutD X_;rw[r.length];exact(r.drop _).take _
def Kr{i:Ev->R (Option Int)}{Q:Option Int->Hp->Prop}(E:Al K c hs ρ σ H)
  (h:RQ (i ρ) (λb=>∀H',Ab H H'->Al K c hs ρ σ H'->Q b H') (λe=>∀v H',Ab H H'->Rep K H' (lvS c ρ σ H .any) e v->c.Ex e v H')):tDO K c i σ H Q:=
 ⟨hs,ρ,E,h.mono (λd q H' s=>q H' s (E.mono s)) λ_ q=>q⟩
def wo7(U:PEd X c l e f)(P:POd X c lo m)(T:POd X c hi n):PEf X c l (.Subscript e (.Slice lo hi none t) pos) (bS f m n slL):=PE.imp (Vz tX U P T) λσ H Q q=>by
 revert q;refine Ce λhs ρ E q=>?_;refine Ag E ((RQ.bind.mp q).mono (λY M x H1 y E1 F=>?_) λ_ z=>z);refine Kr E1 ((RQ.bind.mp M).mono (λi L H2 u E2=>?_) λe z=>Az z y);refine Kr E2 ((RQ.bind.mp L).mono (λj J H3 w E3=>?_) λe z=>Az z (y.trans u));refine An (λd e G=>?_) (J.of);cases Y<;>try cases e
 revert F;refine Bh λp vs B O C=>?_;obtain rfl:=B;refine⟨p,vs,rfl,(O.same (u.trans w) λ_ z=>z).sq,λr A=>?_⟩;exact G r _ _ _ rfl (((y.trans u).trans w).trans (Ao A _)) (((y.trans u).trans w).free A) Af ((((C.mono (u.trans w) λ_ z=>z).cut i j).avoid A).mono (Ao A _) λ_ z=>z)
end
variable {i:Nat}
variable {P:Hd}{j:Nat}
section
variable {c:DC}{d:D}{v:V}
def Bt{o:Option D}(h:j≠i):live (ρ.set i o) j↔live ρ j:=by unfold live;rw[JR (Ne.symm h)]
def jz6(q:i∉c.O){o:Option D}{w:Option V}{a:BJ}:owned c (ρ.set i o) (σ.set i w) a↔owned c ρ σ a:=by
 unfold owned;constructor
 ·rintro⟨j,n,p,e⟩;have m:j≠i:=λz=>q (z ▸ n);rw[Bt m]at p;rw[JR (Ne.symm m)]at e;exact⟨j,n,p,e⟩
 ·rintro⟨j,n,p,e⟩;have m:j≠i:=λz=>q (z ▸ n);refine⟨j,n,(Bt m).mpr p,?_⟩;rw[JR (Ne.symm m)];exact e
def Ut(m:i∉c.O){o:Option D}{w:Option V}:c.N (ρ.set i o) (σ.set i w)=c.N ρ σ:=by funext x;unfold DC.N;simp only[jz6 m]
def Al.set(E:Al K c hs ρ σ H)(hi:i∉c.O)(r:Rep K H (c.N ρ σ) d v):Al K c hs (ρ.set i (some d)) (σ.set i (some v)) H where
 same:=E.same
 len:=by simp[E.len]
 own:=λj d' hj hd=>by have hne:j≠i:=λz=>hi (z ▸ hj);rw[JR (Ne.symm hne)]at hd ⊢;rw[Ut hi];exact E.own j d' hj hd
 apart:=λj k a hj hk lj lk U J=>by have hj':j≠i:=λz=>hi (z ▸ hj);have hk':k≠i:=λz=>hi (z ▸ hk);rw[JR (Ne.symm hj')]at U;rw[JR (Ne.symm hk')]at J;exact E.apart j k a hj hk ((Bt hj').mp lj) ((Bt hk').mp lk) U J
 oth:=λj d' hj hd=>by
  rw[Ut hi];by_cases hne:j=i
  ·subst hne;by_cases hlt:j<ρ.length
   ·rw[QD hlt]at hd;cases hd;exact⟨v,by rw[QD (by rw[<-E.len];exact hlt)],r⟩
   ·rw[YJ (by simpa using hlt)]at hd;cases hd
  ·rw[JR (Ne.symm hne)]at hd ⊢;exact E.oth j d' hj hd
 held:=λp hp=>by rw[Ut hi];exact E.held p hp
 excl:=E.excl
theorem Al.setW{a:BJ}{d:D}(E:Al K c hs ρ σ H)(M:i∈c.O)(s:Ab H H')(y:H a=none)(r:Ey K H' (AS.but (c.N ρ σ) a) d a):
  Al K c hs (ρ.set i (some d)) (σ.set i (some (.ref a))) H':=by
 have sub:∀o,AS.but (c.N ρ σ) a o->c.N (ρ.set i (some d)) (σ.set i (some (.ref a))) o:=λo ⟨⟨h1,h2⟩,T⟩=>by
  refine⟨h1,λb F ⟨j,q,A,e⟩=>?_⟩
  by_cases m:j=i
  ·subst m
   rw[xH]at e
   simp only[if_true]at e
   split at e
   ·cases e;exact T F
   ·cases e
  ·rw[JR (Ne.symm m)]at e
   exact h2 b F ⟨j,q,(Bt m).mp A,e⟩
 have conv:∀{u v},Rep K H (c.N ρ σ) u v->Rep K H' (c.N (ρ.set i (some d)) (σ.set i (some (.ref a)))) u v:=λh=>(h.avoid y).mono s sub
 refine⟨E.same.trans s,by simp[E.len],λj u q t=>?_,λj k b q G A lk U J=>?_,λj u q t=>?_,λP B=>⟨(E.held P B).1,(E.held P B).1.mono s sub ((E.held P B).1.avoid y (E.held P B).2)⟩,λb F z=>E.excl b F (s.free z)⟩
 ·by_cases m:j=i
  ·subst m
   by_cases x:j<ρ.length
   ·rw[QD x]at t
    cases t
    exact⟨a,by rw[QD (by rw[<-E.len];exact x)],⟨E.same.free y,λL=>E.excl a L y⟩,r.mono (Ab.refl _) sub⟩
   ·rw[YJ (by simpa using x)]at t
    cases t
  ·rw[JR (Ne.symm m)]at t ⊢
   refine Jh (λb J Y e5=>?_) (E.own j u q t)
   exact⟨b,J,Y,(e5.avoid y).mono s sub⟩
 ·have hold:∀j,j∈c.O->j≠i->live (ρ.set i (some d)) j->(σ.set i (some (.ref a)))[j]? = some (some (.ref b))->∃o,H b=some o:=λj q m A e=>by
   rw[JR (Ne.symm m)]at e
   have⟨u,t⟩:=(Bt m).mp A
   refine Jh (λb' J _ C=>?_) (E.own j u q t)
   rw[e]at J;cases J
   exact C.has
  have self:∀j,j=i->(σ.set i (some (.ref a)))[j]? = some (some (.ref b))->b=a:=λj m e=>by
   subst m
   rw[xH]at e
   simp only[if_true]at e
   split at e
   ·cases e;rfl
   ·cases e
  by_cases p:j=i
  ·by_cases n:k=i
   ·rw[p,n]
   ·have:=self j p U
    subst this
    have⟨ws,e⟩:=hold k G n lk J
    rw[y]at e;cases e
  ·by_cases n:k=i
   ·have:=self k n J
    subst this
    have⟨ws,e⟩:=hold j q p A U
    rw[y]at e;cases e
   ·rw[JR (Ne.symm p)]at U
    rw[JR (Ne.symm n)]at J
    exact E.apart j k b q G ((Bt p).mp A) ((Bt n).mp lk) U J
 ·have m:j≠i:=λz=>q (z ▸ M)
  rw[JR (Ne.symm m)]at t ⊢
  refine An (λw U J=>?_) (E.oth j u q t)
  exact⟨w,U,conv J⟩
def Al.setO{a:BJ}(E:Al K c hs ρ σ H)(n:i∈c.O)(s:Ab H H')(p:H a=none)(m:H' a=some (.lst vs))(r:Ak K H' (AS.but (c.N ρ σ) a) ds vs):
  Al K c hs (ρ.set i (some (.lst ds))) (σ.set i (some (.ref a))) H':=E.setW n s p (.inl ⟨vs,ds,rfl,m,r⟩)
def Al.writeW{a:BJ}{d d':D}(E:Al K c hs ρ σ H)(G:i∈c.O)(F:ρ[i]? = some (some d))(q:σ[i]? = some (some (.ref a)))
  (conv:∀d v,Rep K H (c.N ρ σ) d v->Rep K (upd H a o') (c.N ρ σ) d v)(A:∀d b,b≠a->Ey K H (c.N ρ σ) d b->Ey K (upd H a o') (c.N ρ σ) d b)(y:∀P,T8 P->P H (c.N ρ σ)->P (upd H a o') (c.N ρ σ))
  (r:Ey K (upd H a o') (c.N ρ σ) d' a):Al K c hs (ρ.set i (some d')) σ (upd H a o'):=by
 have aa:owned c ρ σ a:=⟨i,G,⟨_,F⟩,q⟩
 have C:i<ρ.length:=(MT.mp F).1
 have t:∀j,live (ρ.set i (some d')) j↔live ρ j:=λj=>by
  by_cases m:j=i
  ·subst m
   unfold live
   rw[QD C,F]
   exact⟨λ_=>⟨_,rfl⟩,λ_=>⟨_,rfl⟩⟩
  ·exact Bt m
 have eN:c.N (ρ.set i (some d')) σ=c.N ρ σ:=by
  funext x
  unfold DC.N owned
  simp only[t]
 have B:c.H0 a=none/\a∉c.Z:=by
  refine Jh (λb J Y _=>?_) (E.own i _ G F)
  rw[q]at J;cases J
  exact Y
 refine⟨λb o e=>?_,by simp[E.len],λj d' u n=>?_,λj k b u hk lj lk U J=>?_,λj d' u n=>?_,λp M=>?_,λb L z=>?_⟩
 ·rw[Ac (Aw e B.1)]
  exact E.same b o e
 ·rw[eN]
  by_cases m:j=i
  ·subst m
   rw[QD C]at n
   cases n
   exact⟨a,q,B,r⟩
  ·rw[JR (Ne.symm m)]at n
   refine Jh (λb J Y e5=>?_) (E.own j d' u n)
   have L:b≠a:=λz=>m (E.apart j i a u G ⟨_,n⟩ ⟨_,F⟩ (z ▸ J) q)
   exact⟨b,J,Y,A _ _ L e5⟩
 ·exact E.apart j k b u hk ((t j).mp lj) ((t k).mp lk) U J
 ·rw[eN]
  have m:j≠i:=λz=>u (z ▸ G)
  rw[JR (Ne.symm m)]at n
  refine An (λw U J=>?_) (E.oth j d' u n)
  exact⟨w,U,conv _ _ J⟩
 ·rw[eN]
  exact⟨(E.held p M).1,y p (E.held p M).1 (E.held p M).2⟩
 ·have T:b≠a:=λe=>B.2 (e ▸ L)
  rw[Ac T]at z
  exact E.excl b L z
def Al.notN{a:BJ}{d:D}(E:Al K c hs ρ σ H)(n:i∈c.O)(p:ρ[i]? = some (some d))(m:σ[i]? = some (some (.ref a))):¬ c.N ρ σ (some a):=λz=>z.2 a rfl ⟨i,n,⟨_,p⟩,m⟩
def Al.write{a:BJ}{es:List D}(E:Al K c hs ρ σ H)(q:i∈c.O)(t:ρ[i]? = some (some (.lst ds)))(m:σ[i]? = some (some (.ref a)))(p:H a=some (.lst vs))(r:Ak K H (c.N ρ σ) es ws):
  Al K c hs (ρ.set i (some (.lst es))) σ (upd H a (.lst ws)):=by
 have n:=E.notN q t m;exact E.writeW q t m (λ_ _ h=>h.wr p n) (λ_ _ u h=>h.wr p n u) (λ_ st h=>st.wr p n h) (.inl ⟨ws,es,rfl,Af,r.wr p n⟩)
def Al.hold(E:Al K c hs ρ σ H)(st:T8 P)(h:P H (c.N ρ σ)):Al K c (P::hs) ρ σ H:=
 ⟨E.same,E.len,E.own,E.apart,E.oth,λx m=>(I_.mp m).elim (λe=>by subst e;exact⟨st,h⟩) (E.held x),E.excl⟩
def Al.unhold(E:Al K c (P::hs) ρ σ H):Al K c hs ρ σ H:=
 ⟨E.same,E.len,E.own,E.apart,E.oth,λx m=>E.held x (KQ _ m),E.excl⟩
end
def sq(g n:Ev->R Fl):Ev->R Fl:=λρ=>(g ρ).bind λp=>match p with
 | .nx m=>n m
 |o=>.ok o
def nop:Ev->R Fl:=λρ=>.ok (.nx ρ)
def asg(i:Nat)(f:Ev->R D):Ev->R Fl:=λρ=>(f ρ).bind λd=>.ok (.nx (ρ.set i (some d)))
def Ew(f:Ev->R D):Ev->R Fl:=λρ=>(f ρ).bind λd=>.ok (.rt d)
def ifS(t:Ev->R Bool)(I m:Ev->R Fl):Ev->R Fl:=λρ=>(t ρ).bind λk=>if k then I ρ else m ρ
def drp(f:Ev->R D):Ev->R Fl:=λρ=>(f ρ).bind λ_=>.ok (.nx ρ)
def ZL(i:Nat)(f:Ev->R D):Ev->R Fl:=λρ=>match ρ[i]? with
 |some (some (.lst ds))=>(f ρ).bind λd=>if ds.length<16777216 then .ok (.nx (ρ.set i (some (.lst (ds++[d]))))) else .bad
 |_=>.bad
section
variable {c:DC}{st:CQ}{rest:List CQ}{f:Ev->R D}{g m n:Ev->R Fl}{t:Ev->R Bool}
def G9{c:DC}(E:Al K c hs ρ σ H){x:D}(h:Nz K c x):∀v H',Ab H H'->Rep K H' (lvS c ρ σ H .any) x v->c.Ex x v H':=
 λv H' s r=>h v H' (E.same.trans s) r
def sn:Om X c [] nop:=PSs.imp uA λD σ H ⟨hs,ρ,E,q⟩=>q σ H E
def sc(h1:PSd X c st m)(w:Om X c rest n):Om X c (st::rest) (sq m n):=PSs.imp (G6 h1 w) λD σ H q=>by
 revert q;refine Ce λhs ρ E q=>?_;refine⟨hs,ρ,E,(RQ.bind.mp q).mono (λx r=>?_) λ_ z=>z⟩;cases x with
 |nx p=>exact λu H' y=>⟨hs,p,y,r⟩
 |rt d=>exact r
 |bk p=>exact r
 |ct p=>exact r
def s1(h1:PSd X c st m):Om X c [st] m:=Fw h1
def Dj(i:Nat){x:BP}{pos':GP}(u:X.N.Nodup)(B:PEd X c .no e f)(y:c.O.contains i=false:=by rfl)(C:X.N[i]? = some x:=by rfl)(w:Loc X.env.scope x:=by first |exact Or.inl rfl |exact Or.inr rfl)(hs:CW e (some (.Name x pos')) pos.line X.env=pure false:=by rfl)
  (A:X.fn x=true\/X.env.scope.names.lookup x=some .local:=by first |exact .inl rfl |exact .inr rfl):PSd X c (.Assign [.Name x pos'] e pos) (asg i f):=PS.imp (O5 (i:=i) u C w B hs A) λD σ H q=>by
 revert q;refine Ce λhs ρ E q=>?_;refine Ag E ((RQ.bind.mp q).mono (λd r v F J G p=>?_) λx z=>G9 E z);exact r _ F (G.set (by simpa using y) p)
theorem j0(i:Nat){x:BP}{pos':GP}(u:X.N.Nodup)(C:PEf X c .no e f)(A:c.O.contains i=true:=by rfl)(G:X.N[i]? = some x:=by rfl)(w:Loc X.env.scope x:=by first |exact Or.inl rfl |exact Or.inr rfl)(hs:CW e (some (.Name x pos')) pos.line X.env=pure false:=by rfl)
  (B:X.fn x=true\/X.env.scope.names.lookup x=some .local:=by first |exact .inl rfl |exact .inr rfl)(z:∀ρ d,f ρ=.ok d->∃ds,d=.lst ds:=by intros;first |exact uF (by assumption) |exact kr1 (by assumption) |exact slL_lst (by assumption)):PSd X c (.Assign [.Name x pos'] e pos) (asg i f):=PS.imp (O5 (i:=i) u G w C hs B) λD σ H q=>by
 revert q;refine Ce λhs ρ E q=>?_;refine⟨hs,ρ,E,?_⟩;have q:=RQ.bind.mp q;cases p:f ρ with
 |ok d=>rw[p]at q;obtain⟨ds,rfl⟩:=z ρ d p;intro a vs L H' J s F y r;cases J;exact q _ H' (E.setO (by simpa using A) s F y r)
 |exc x=>rw[p]at q;exact G9 E q
 |bad=>rw[p]at q;exact q
def Bc(u:PEd X c .any e f):PSd X c (.Return (some e) pos) (Ew f):=PS.imp (gQ u) λD σ H q=>by revert q;refine Ce λhs ρ E q=>?_;refine Ag E ((RQ.bind.mp q).mono (λd r v w A y p=>?_) λx z=>G9 E z);exact r v w y.same p
def if_{d:BZ}{r bs:List CQ}(w:PTd X c d t)(A:Om X c r m)(y:Om X c bs n):PSd X c (.If d r bs pos) (ifS t m n):=PS.imp (j4 w A y) λD σ H q=>by
 revert q;refine Ce λhs ρ E q=>?_;refine Ga E ((RQ.bind.mp q).mono (λk p C B u=>?_) λx z=>G9 E z);cases k with
 |true=>rw[if_pos rfl]at p ⊢;exact⟨hs,ρ,u,p⟩
 |false=>rw[if_neg (by decide)]at p ⊢;exact⟨hs,ρ,u,p⟩
def ex_(r:PEd X c .any e f)(hs:CW e none pos.line X.env=pure false:=by rfl):PSd X c (.Expr e pos) (drp f):=PS.imp (Z9 r hs) λD σ H q=>by revert q;refine Ce λhs ρ E q=>?_;refine Ag E ((RQ.bind.mp q).mono (λd p v u y w A=>?_) λx z=>G9 E z);exact p σ u w
theorem jU(i:Nat){x:BP}{p apos u:GP}(he:PEd X c .no e f)(hi:c.O.contains i=true:=by rfl)(hN:X.N[i]? = some x:=by rfl)(hv:Vis X.env.scope x:=by first |exact Or.inl rfl |exact Or.inr (Or.inl rfl) |exact Or.inr (Or.inr rfl))(M:Zd x:=by decide)
  (aa:(x == ("__classdict__" : BP))=false:=by decide)(A:DG (.Name x p) "append" X.env (CP (.Name x p) X.env)=CP (.Name x p) X.env:=by rfl)
  (G:((GJ u (BR [e] X.env)).all (λx=>!x.1) && (GR u (E_ [] X.env)).all (λx=>x.1.isSome)
   && decide ([e].length+([]:List JF).length+(if([]:List JF).isEmpty then 0 else 1)<30))=true:=by rfl)
  (y:(apos.endLine == u.line)=true:=by rfl)(hs:BR [e] X.env=(false,CP e X.env)::BR [] X.env:=by rfl)(w:Zp X.env u []:=by rfl)
  (Y:CW (.Call (.Attribute (.Name x p) "append" apos) [e] [] u) none pos.line X.env=pure false:=by rfl):
  PSd X c (.Expr (.Call (.Attribute (.Name x p) "append" apos) [e] [] u) pos) (ZL i f):=
 PS.imp (Z9 (f9 PySem.F.plainAttrs_list PySem.F.slot_list_append PySem.F.type_list_append Ry (pv i hN hv M aa) (Cp he Jf hs) A G y hs w) Y) λD σ H q=>by
 revert q;refine Ce λhs ρ E q=>?_;have B:i∈c.O:=by simpa using hi
 unfold ZL at q;split at q
 ·rename_i ds M;refine pH (λa vs ab e0 U J C r=>?_) (E.ownL i _ B M);cases e0;refine⟨.ref a,U,.inl ⟨rfl,vs,SqL.of J⟩,?_⟩;refine Ag E ((RQ.bind.mp q).mono (λd L v H1 T E1 r1=>?_) λx z=>G9 E z);by_cases hz:ds.length<16777216
  ·rw[if_pos hz]at L;have l:=r.length;refine⟨a,vs,v,rfl,rfl,T _ _ J,by rw[CT];omega,?_⟩;exact L σ _ (E1.write B M U (T _ _ J) ((r.mono T λ_ z=>z).append (.cons r1 Ak.nil)))
  ·rw[if_neg hz]at L;exact L.elim
 ·exact q.elim
end
def tDG(K:BW)(c:DC)(g:D->Ev->R Ev):TG:=λv σ H Q=>∃hs ρ d,Al K c hs ρ σ H/\Rep K H (c.N ρ σ) d v/\RQ (g d ρ) (λn=>∀m,Al K c hs n m H->Q m H) (λ_=>False)
def yQ(K:BW)(c:DC)(g:List D->Ev->R Ev):TGs:=λvs σ H Q=>∃hs ρ ds,Al K c hs ρ σ H/\Ak K H (c.N ρ σ) ds vs/\RQ (g ds ρ) (λn=>∀m,Al K c hs n m H->Q m H) (λ_=>False)
abbrev PGd(X:Cx)(c:DC)(t:BZ)(g:D->Ev->R Ev):Prop:=PG X t (tDG X.K c g)
abbrev fU(X:Cx)(c:DC)(ts:List BZ)(g:List D->Ev->R Ev):Prop:=PGs X ts (yQ X.K c g)
def PG.imp{t t':TG}(h:PG X e t)(i:∀v σ H Q,t' v σ H Q->t v σ H Q):PG X e t':=λpins s σ H v u Q I r q=>h pins s σ H v u Q I r (i v σ H Q q)
variable {F:List Nat}
section
variable {c:DC}{f:Ev->R D}
def gN(i:Nat):D->Ev->R Ev:=λd ρ=>.ok (ρ.set i (some d))
def Fy:List Nat->List D->Ev->R Ev
 | [],[],ρ=>.ok ρ
 |i::F,d::ds,ρ=>Fy F ds (ρ.set i (some d))
 |_,_,_=>.bad
def gT(F:List Nat):D->Ev->R Ev:=λd ρ=>match d with
 | .tup ds=>Fy F ds ρ
 | .lst ds=>Fy F ds ρ
 |_=>.bad
def tn(i:Nat){x:BP}(m:X.N.Nodup)(p:c.O.contains i=false:=by rfl)(u:X.N[i]? = some x:=by rfl)(n:Loc X.env.scope x:=by first |exact Or.inl rfl |exact Or.inr rfl)(t:X.fn x=true\/X.env.scope.names.lookup x=some .local:=by first |exact .inl rfl |exact .inr rfl):
  PGd X c (.Name x pos) (gN i):=PG.imp (Z8 m u n t) λv σ H Q q=>by
 revert q;refine aW λhs ρ d E r q=>?_;exact q _ (E.set (by simpa using p) r)
def tsn:fU X c [] (Fy []):=λpins s σ H vs m Q I r q=>by
 revert q;refine aW λhs ρ ds E n q=>?_;cases ds with
 |nil=>refine kx8 pins s σ H vs m Q I r ⟨n,q σ E⟩
 |cons d ds=>exact q.elim
def tsc(i:Nat){x:BP}{p:GP}(B:X.N.Nodup)(M:fU X c es (Fy F))(G:c.O.contains i=false:=by rfl)(L:X.N[i]? = some x:=by rfl)(C:Loc X.env.scope x:=by first |exact Or.inl rfl |exact Or.inr rfl)(J:X.fn x=true\/X.env.scope.names.lookup x=some .local:=by first |exact .inl rfl |exact .inr rfl)
  (hs:(F_ (.Name x p::es) X.env).map (·.2)=RM (.Name x p) X.env::(F_ es X.env).map (·.2):=by rfl):fU X c (.Name x p::es) (Fy (i::F)):=λpins s σ H vs w Q I r q=>by
 revert q;refine aW λu ρ ds E A q=>?_;cases ds with
 |nil=>exact q.elim
 |cons d ds =>
  revert A;refine Bh λv m t z y=>?_;obtain rfl:=t;refine kk4 (Z8 B L C J) M hs pins s σ H _ w Q I r ⟨v,m,rfl,?_⟩;have n:i∉c.O:=by simpa using G
  exact⟨u,_,ds,E.set n z,by rw[Ut n];exact y,q⟩
def wv3(K:BW)(n:Nat)(t:TGs):TG:=λv σ H Q=>∃a m,v=.ref a/\(SqT K H a m\/SqL K H a m)/\m.length=n/\t m σ H Q
def kx7{k:Nat}{t:TGs}{n:Nat}(C:X.calm=true)(h:PGs X es t)
  (A:(F_ es X.env).length=n:=by rfl)(m:(F_ es X.env).findIdx? (·.1)=none:=by rfl):PG X (.Tuple es k pos) (wv3 X.K n t):=by
 intro pins s σ H v u Q I r w;revert w;refine Wz λa y U q B w=>?_;rcases q with q |q
 ·exact wm8 C h A m pins s σ H v u Q I r ⟨a,y,U,q,B,w⟩
 subst U;cases r;refine Jh (λx z p L=>?_) (I.list q);rw[assign_Tuple];refine CK (GC ?_);unfold unpack;rw[show(F_ es X.env).length=x.toArray.size by simp[A,<-B,z.length],m];refine CK (HS (W.kun_itemsOf (I.ok.hd C) p.isList λG E=>?_));have J:Inv X pins σ H {s with heap:=G}:=I.kept (t':=s.toks) λb o e=>E b o (NK (HD e)) e;exact h pins _ σ H y _ Q J (by simpa using z) w
def R3{Q:Ev->Prop}{e:D->Prop}:∀(F:List Nat)(ds:List D)(ρ:Ev)(q:RQ (Fy F ds ρ) Q e),F.length=ds.length
 | [],[],_,_=>rfl
 | [],_::_,_,q=>q.elim
 |_::_,[],_,q=>q.elim
 |i::F,d::ds,ρ,q=>by have:F.length=ds.length:=R3 F ds _ q;simp[this]
def tT{k n:Nat}(z:X.calm=true)(h:fU X c es (Fy F))(x:F.length=n:=by rfl)(y:(F_ es X.env).length=n:=by rfl)(u:(F_ es X.env).findIdx? (·.1)=none:=by rfl):PGd X c (.Tuple es k pos) (gT F):=
 PG.imp (kx7 (n:=n) z h y u) λv σ H Q q=>by
 revert q;refine aW λhs ρ d E r q=>?_;cases d with
 |tup ds=>revert r;refine Bh λa vs t w m=>?_;obtain rfl:=t;have:=R3 F ds ρ q;exact⟨a,vs,rfl,.inl (TpR.sq w),by rw[<-m.length,<-this,x],hs,ρ,ds,E,m,q⟩
 |lst ds=>revert r;refine Bh λa vs p w m=>?_;obtain rfl:=p;have:=R3 F ds ρ q;exact⟨a,vs,rfl,.inr w.sq,by rw[<-m.length,<-this,x],hs,ρ,ds,E,m,q⟩
 |_=>exact q.elim
def pM(g:D->Ev->R Ev)(f:Ev->R D):Ev->R Fl:=λρ=>(f ρ).bind λd=>(g d ρ).bind λm=>.ok (.nx m)
def RQ.noex{m:Type}{r:R m}{q:m->Prop}{e:D->Prop}(h:RQ r q e)(n:∀x,r≠.exc x):RQ r q Z:=by
 cases r with
 |ok a=>exact h
 |exc x=>exact absurd rfl (n x)
 |bad=>exact h
def Yo:∀(F:List Nat)(ds:List D)(ρ:Ev)(x:D),Fy F ds ρ≠.exc x
 | [],[],_,_=>by simp[Fy]
 |i::F,d::ds,ρ,x=>by rw[Fy];exact Yo F ds _ x
 | [],_::_,_,_=>by simp[Fy]
 |_::_,[],_,_=>by simp[Fy]
def lY(F:List Nat):∀(d:D)(ρ:Ev)(x:D),gT F d ρ≠.exc x:=λd ρ x=>by
 cases d<;>simp[gT]
 all_goals exact Yo F _ ρ x
def lZ(i:Nat):∀(d:D)(ρ:Ev)(x:D),gN i d ρ≠.exc x:=λd ρ x=>by simp[gN]
def ya3{m:BZ}{g:D->Ev->R Ev}(A:PGd X c m g)(B:PEd X c .no e f)(y:∀d ρ x,g d ρ≠.exc x:=by first |exact lY _ |exact lZ _)(hs:swapsWithSole [m] e pos.line X.env=pure false:=by rfl)(w:swappedStores [m] e X.env=pure none:=by rfl)
  (h1:(F_ [m] X.env).map (·.2)=[RM m X.env]:=by rfl):PSd X c (.Assign [m] e pos) (pM g f):=PS.imp (wn0 B A hs w h1) λD σ H q=>by
 revert q;refine Ce λhs ρ E q=>?_;refine Ag E ((RQ.bind.mp q).mono (λd u v C L G r=>?_) λx z=>G9 E z);exact⟨hs,ρ,d,G,r,((RQ.bind.mp u).mono (λp t n J=>t n C J) λ_ z=>z).noex (y d ρ)⟩
end
structure ItD(K:BW)(J:It)(ds:List D)(P:Hd):Prop where
 stab:T8 P
 go:∀(i:Nat)(H:Hp)(S:AS),i<ds.length->P H S->J.go i H
 yld:∀(i:Nat)(H:Hp)(S:AS)(x:V)(H':Hp),P H S->J.yld i H x H'->Ab H H'/\∀d,ds[i]? = some d->Rep K H' S d x
 stop:∀(i:Nat)(H:Hp)(S:AS),ds.length<=i->P H S->J.stop i H
def tDI(K:BW)(c:DC)(l:Lv)(f:Ev->R (List D)):TI:=λσ H Q=>∃hs ρ,Al K c hs ρ σ H/\RQ (f ρ) (λds=>∀J P H',Ab H H'->ItD K J ds P->P H' (lvS c ρ σ H l)->Q J H') (λe=>∀v H',Ab H H'->Rep K H' (lvS c ρ σ H .any) e v->c.Ex e v H')
abbrev PId(X:Cx)(c:DC)(l:Lv)(m e:BZ)(f:Ev->R (List D)):Prop:=PI X m e (tDI X.K c l f)
def PI.imp{m:BZ}{t t':TI}(h:PI X m e t)(i:∀σ H Q,t' σ H Q->t σ H Q):PI X m e t':=λpins s σ H Q I q=>h pins s σ H Q I (i σ H Q q)
def Lx:D->Option (List D)
 | .lst ds=>some ds
 | .tup ds=>some ds
 |_=>none
def itS(f:Ev->R D):Ev->R (List D):=λρ=>(f ρ).bind λd=>R.of (Lx d)
def cL:List D->Option (List D)
 | [.int j]=>if -(2 ^ 62)<=j/\j<2 ^ 62 then some ((List.range j.toNat).map λ(k:Nat)=>.int (0+(k:Int))) else none
 |_=>none
def itR(h:List D->Option (List D))(n:Ev->R (List D)):Ev->R (List D):=λρ=>(n ρ).bind λm=>R.of (h m)
variable {tg:BZ}
variable {p2:GP}
section
variable {c:DC}{f:Ev->R D}{fs:Ev->R (List D)}
def zT(K:BW)(p:TE):TI:=λσ H R=>p σ H λx m=>∃a,x=.ref a/\(((∃n,SqL K m a n)/\R (Itl K a) m)\/((∃n,SqT K m a n)/\R (Itt K a) m))
def sE{z:TE}(J:PE X e z):PI X tg e (zT X.K z):=by
 intro pins s σ H R I h;refine thG (J pins s σ H _ I h) λv m x A n E t=>?_;revert t;refine An λa u t=>?_;obtain rfl:=u;cases E;rcases t with ⟨⟨B,w⟩,q⟩ | ⟨⟨B,w⟩,q⟩
 ·refine Jh (λr C p G=>?_) (n.list w);refine JB p.isList ?_;refine⟨m.heap.objs.size,[m.heap.objs.size],_,_,A,rfl,n.kept (t':=m.toks) λb o e=>JK _ e,kb7 a _,⟨_,NP _ rfl,rfl,rfl⟩,λb y=>?_,q⟩;have e:b=m.heap.objs.size:=by simpa using y
  subst e;exact n.fpOk (H_ _) (n.hok.fresh (H_ _))
 ·refine Jh (λr C p G=>?_) (n.tuple w);refine wpAny_pyIter_tuple (show m.heap.IsTuple a r.toArray from p) ?_;refine⟨m.heap.objs.size,[m.heap.objs.size],_,_,A,rfl,n.kept (t':=m.toks) λb o e=>JK _ e,jp8 a _,⟨_,NP _ rfl,rfl,rfl⟩,λb y=>?_,q⟩;have e:b=m.heap.objs.size:=by simpa using y
  subst e;exact n.fpOk (H_ _) (n.hok.fresh (H_ _))
def Wi{a:BJ}:T8 λH S=>LsR K H S a vs/\Ak K H S ds vs:=
 ⟨λs r h=>⟨h.1.same s r,h.2.mono s r⟩,λn m h=>⟨h.1.wr n m,h.2.wr n m⟩,λn q m h=>⟨h.1.wrD n (Vl q) m,h.2.wrD n q m⟩,λp h=>⟨h.1.avoid p,h.2.avoid p⟩⟩
def Wj{a:BJ}:T8 λH S=>SqT K H a vs/\Ak K H S ds vs:=
 ⟨λs r h=>⟨Ab.sqT s h.1,h.2.mono s r⟩,λm p h=>⟨wo9 m h.1,h.2.wr m p⟩,λm n p h=>⟨kz6 m (Vm n) (kg9 n) h.1,h.2.wrD m n p⟩,λq h=>⟨h.1,h.2.avoid q⟩⟩
def ku3{a:BJ}:ItD K (Itl K a) ds λH S=>LsR K H S a vs/\Ak K H S ds vs where
 stab:=Wi
 go:=λi H S hi h=>by refine An (λv hv _=>?_) (h.2.get (MJ hi));exact⟨vs,v,h.1.sq,hv⟩
 yld:=λi H S x H' h y=>by obtain⟨rfl,y⟩:=y;refine⟨Ab.refl _,λd hd=>?_⟩;refine An (λv hv rv=>?_) (h.2.get hd);have:=y vs h.1.sq;rw[hv]at this;cases this;exact rv
 stop:=λi H S hi h=>⟨vs,h.1.sq,by rw[<-h.2.length];exact hi⟩
def ku6{a:BJ}:ItD K (Itt K a) ds λH S=>SqT K H a vs/\Ak K H S ds vs where
 stab:=Wj
 go:=λi H S hi h=>by refine An (λv hv _=>?_) (h.2.get (MJ hi));exact⟨vs,v,h.1,hv⟩
 yld:=λi H S x H' h y=>by obtain⟨rfl,y⟩:=y;refine⟨Ab.refl _,λd hd=>?_⟩;refine An (λv hv rv=>?_) (h.2.get hd);have:=y vs h.1;rw[hv]at this;cases this;exact rv
 stop:=λi H S hi h=>⟨vs,h.1,by rw[<-h.2.length];exact hi⟩
def ku4{lo:Int}{n:Nat}:ItD K (Itr lo n) ((List.range n).map λ(k:Nat)=>.int (lo+(k:Int))) λ_ _=>True where
 stab:=⟨λ_ _ h=>h,λ_ _ h=>h,λ_ _ _ h=>h,λ_ h=>h⟩
 go:=λi H S hi _=>by
  have this:i<n:=by simpa using hi
  exact this
 yld:=λi H S x H' _ y=>by
  obtain⟨rfl,rfl⟩:=y;refine⟨Ab.refl _,λd hd=>?_⟩;rw[QC]at hd;cases e:(List.range n)[i]? with
  |none=>rw[e]at hd;cases hd
  |some k=>rw[e]at hd;cases hd;have⟨h1,h2⟩:=MT.mp e;simp at h2;subst h2;rfl
 stop:=λi H S hi _=>by
  have this:n<=i:=by simpa using hi
  exact this
def Nj(B:PEd X c l e f):PId X c l tg e (itS f):=PI.imp (sE B) λσ H Q q=>by
 revert q;refine Ce λhs ρ E q=>?_;refine Ag E ((RQ.bind.mp q).mono (λd A v y u C w=>?_) λ_ z=>z);refine An (λds e x=>?_) (A.of);cases d with
 |lst t=>cases e;revert w;refine Bh λa vs n p r=>?_;obtain rfl:=n;exact⟨a,rfl,.inl ⟨⟨vs,p.sq⟩,x _ _ y u ku3 ⟨p,r⟩⟩⟩
 |tup t=>cases e;revert w;refine Bh λa vs m p r=>?_;obtain rfl:=m;exact⟨a,rfl,.inr ⟨⟨vs,(TpR.sq p)⟩,x _ _ y u ku6 ⟨(TpR.sq p),r⟩⟩⟩
 |_=>cases e
def j8{p:GP}(J:X.mg "range" = none)(L:PAd X c l [a] fs)(r:Gl X "range":=by rfl)(n:BR [a] X.env=[(false,CP a X.env)]:=by rfl):PId X c l tg (.Call (.Name "range" p) [a] [] p2) (itR cL fs):=
 PI.imp (ka0 r J L n) λσ H Q q=>by
 revert q;refine Ce λhs ρ E q=>?_;refine Fz E ((RQ.bind.mp q).mono (λds C vs M w O A G=>?_) λ_ z=>z);refine An (λes e B=>?_) (C.of);obtain⟨u,rfl⟩:=inv1 e rfl (λx _ _=>by cases x<;>rfl);cases u with
 |int j=>obtain⟨t,rfl⟩:=Ax e;refine An (λv m y=>?_) (A.one);obtain rfl:=m;cases(show v=.int j from y);exact⟨j,rfl,t.1,t.2,B _ _ M w ku4 trivial⟩
 |_=>exact nos e
end
def Bu:List D->(D->Ev->R Ev)->(Ev->R Fl)->Ev->R Fl
 | [],_,_,ρ=>.ok (.nx ρ)
 |d::ds,g,b,ρ=>(g d ρ).bind λn=>(b n).bind λp=>match p with
  | .nx m=>Bu ds g b m
  | .ct m=>Bu ds g b m
  | .bk m=>.ok (.nx m)
  | .rt d=>.ok (.rt d)
def jM(f:Ev->R (List D))(g:D->Ev->R Ev)(b:Ev->R Fl):Ev->R Fl:=λρ=>(f ρ).bind λds=>Bu ds g b ρ
section
variable {c:DC}{f:Ev->R (List D)}{g:D->Ev->R Ev}{b:Ev->R Fl}{n:List CQ}
theorem for_(hp:bL (BV X.prog X.w) X.A X.env X.xe)(hc:X.calm=true)(hg:PGd X c tg g)(he:PId X c .no tg e f)(hb:Om X c n b)(hn:∀d ρ x,g d ρ≠.exc x:=by first |exact lY _ |exact lZ _)
  (hs:∀x,DY e X.env x=pure x:=by intro _;rfl):PSd X c (.For tg e n [] pos) (jM f g b):=PS.imp (rY hp hc he hg hb hs) λD0 σ H q=>by
 revert q;refine Ce λhs ρ E q=>?_;refine⟨hs,ρ,E,(RQ.bind.mp q).mono (λds q1 J P H1 s1 T p1=>?_) λx z=>G9 E z⟩;have E1:=(E.mono s1).hold T.stab p1;refine⟨λi m σ H=>m=ds.length - i/\i<=ds.length/\∃ρ,Al X.K c (P::hs) ρ σ H/\RQ (Bu (ds.drop i) g b ρ) (Fl.ends X.K c hs D0) (Nz X.K c),⟨ds.length,by simp,WQ _,ρ,E1,q1⟩,?_⟩;rintro i m O M ⟨rfl,hi,C,E2,L⟩;have p2:=(E2.held P MF).2;by_cases u:i<ds.length
 ·refine .inr ⟨T.go i M _ u p2,λp H'=>∃t,Al X.K c (P::hs) t p H'/\RQ (Bu (ds.drop (i+1)) g b t) (Fl.ends X.K c hs D0) (Nz X.K c),λp H' ⟨t,B,q'⟩=>⟨ds.length - (i+1),by omega,rfl,u,t,B,q'⟩,λx H' y=>?_⟩;have⟨s3,Y⟩:=T.yld i M _ x H' p2 y;have Y:=Y ds[i] (MJ u);rw[iI u,Bu]at L;refine⟨P::hs,C,ds[i],E2.mono s3,Y,((RQ.bind.mp L).mono (λU q3 ab E3=>?_) λ_ z=>z).noex (hn ds[i] C)⟩;refine⟨P::hs,U,E3,(RQ.bind.mp q3).mono (λfl G=>?_) λ_ z=>z⟩;cases fl with
  |nx r=>exact λp H' B=>⟨r,B,G⟩
  |ct r=>exact λp H' B=>⟨r,B,G⟩
  |bk r=>exact λp H' B=>G p H' B.unhold
  |rt d=>exact G
 ·have aa:i=ds.length:=by omega
  subst aa;rw[dX (H_ _)]at L;exact .inl ⟨T.stop _ M _ (H_ _) p2,L O M E2.unhold⟩
end
def aU:R Fl->R D
 | .ok (.rt d)=>.ok d
 | .ok (.nx _)=>.ok .non
 | .ok _=>.bad
 | .exc e=>.exc e
 | .bad=>.bad
def Aa(n:Nat)(ds:List D):Ev:=ds.map some++List.replicate (n - ds.length) none
def Be(n:Nat)(g:Ev->R Fl)(ds:List D):R D:=aU (g (Aa n ds))
def sp0(K:BW)(n:Nat)(m:List D->R D):Sp:=λvs H Q _=>vs.length=n/\∃S ds,Ak K H S ds vs/\RQ (m ds) (λr=>∀v H',Ab H H'->Rep K H' (AS.plus S H) r v->Q v H') (λ_=>False)
def R.nox{m:Type}:R m->R m
 | .ok a=>.ok a
 |_=>.bad
@[simp] def R.nox_ok{m:Type}(a:m):(R.ok a).nox=.ok a:=nr rfl
def Dt:D->V->Hp->Prop:=λ_ _ _=>False
variable {w:CN}
variable {O:List Nat}
section
variable {P:BX}{mg:BP->Option A_}{base:B_}
theorem Kd{S:AS}{Ex:D->V->Hp->Prop}{N:List BP}(r:Ak K H S ds vs)(C:∀i∈O,vs.length<=i):Al K ⟨H,S,O,Ex,[]⟩ [] (Aa N.length ds) (L2.start N vs) H:=by
 have y:=r.length;have get:∀(i:Nat)(d:D),(Aa N.length ds)[i]? = some (some d)->ds[i]? = some d:=λi d h=>by
  unfold Aa at h;by_cases m:i<ds.length
  ·rw[dY (by simpa using m),QC]at h;cases e:ds[i]? with
   |none=>rw[e]at h;cases h
   |some a=>rw[e]at h;cases h;rfl
  ·rw[bK (by simpa using m),oH]at h;split at h<;>cases h
 have n:∀i,i∈O->¬ live (Aa N.length ds) i:=λi m ⟨d,p⟩=>by have E:=get i d p;have J:=(MT.mp E).1;have G:=C i m;lia
 refine⟨Ab.refl _,by simp[Aa,L2.start,y],λi d m p=>absurd ⟨d,p⟩ (n i m),λi j a m _ u=>absurd u (n i m),λi d m p=>?_,(λP x=>by cases x),(λa B=>by cases B)⟩;refine An (λv e q=>?_) (r.get (get i d p));refine⟨v,?_,q.mono (Ab.refl _) λo z=>⟨.inl z,λa _ ⟨j,A,t,_⟩=>n j A t⟩⟩;unfold L2.start;have m:i<vs.length:=(MT.mp e).1;rw[dY (by simpa using m),QC,e];rfl
theorem Cq{x qual:BP}{f:BJ}{u:CZ}{N ps:List BP}{k:Nat}{g:Ev->R Fl}(F:Fun K x qual st f u)(S:Br N ps (Ae st))(G:O.all (λi=>decide (ps.length<=i))=true)
  (p:∀(m:A_)(A:C_)(outer:List GZ)(s:BK)(H:Hp)(E:XK)(S0:AS),Dd k (A.deeper (envOfC qual (Ae st) s.heap.objs.size f m))->(A.deeper (envOfC qual (Ae st) s.heap.objs.size f m)).units+70<FN ->
   Om (Ls CX0 P w K mg base N qual (Ae st) f m A outer s H E).nox ⟨H,S0,O,Dt,[]⟩ (Bd st) g):
  Cw P w K mg base CX0 (k+1) f u ps (sp0 K ps.length (Be N.length g)):=by
 refine F.ok S (λvs H Q E h=>h.1) (λm A outer s H vs Q E t h=>?_);obtain⟨B,S0,ds,r,q⟩:=h;refine⟨_,p m A outer s H E S0 t (by have:=t.un;lia),[],Aa N.length ds,Kd r (λi C=>?_),?_⟩
 ·have:=SN.mp G i C;rw[B];exact of_decide_eq_true this
 ·have n:RQ (aU (g (Aa N.length ds))) _ _:=q;cases e:g (Aa N.length ds) with
  |ok L =>
   rw[e]at n;cases L with
   |nx ρ=>exact λy H' M=>n .non H' M.same rfl
   |rt d=>exact λv H' s r=>n v H' s (r.mono (Ab.refl _) λo z=>z.elim .inl λ⟨a,U,J,_⟩=>.inr ⟨a,U,J⟩)
   |bk ρ=>exact n.elim
   |ct ρ=>exact n.elim
  |exc x=>rw[e]at n;exact n.elim
  |bad=>rw[e]at n;exact n.elim
end
variable {n:Nat}{p:GP}{x:BP}
section
variable {c:DC}{fs:Ev->R (List D)}{k:Nat}{f:BJ}{fd:CZ}{ps:List BP}{m:List D->R D}
def cl(fs:Ev->R (List D))(m:List D->R D):Ev->R D:=λρ=>(fs ρ).bind λds=>(m ds).nox
def ws8(F:Cw X.prog X.w X.K X.mg X.base CX0 k f fd ps (sp0 X.K n m))(L:Dd k X.A)(U:X.mg x=some (.ref f))(hk:W.keepIn X.K (.ref f)=true)(hb:Binds X.K fd ps [])(ha:PAd X c l (e::es) fs)(T:(e::es).length=n:=by rfl)(M:ps.length=n:=by rfl)(hg:Gl X x:=by rfl)
  (y:Zd x:=by decide)(he:Zs X.env e es:=by rfl)(u:Zp X.env pos es:=by rfl):
  PEd X c l (.Call (.Name x p) (e::es) [] pos) (cl fs m):=PE.imp (Z4 F L hg U hk hb .nil wy9 ha y he u) λσ H Q q=>by
 revert q;refine Ce λhs ρ E q=>?_;refine Fz E ((RQ.bind.mp q).mono (λds r vs H1 B E1 C Y=>?_) λ_ z=>z);rw[SM];cases t:m ds with
 |ok d =>
  rw[t]at r;refine⟨?_,lvS c ρ σ H l,ds,C,?_⟩
  ·rw[<-C.length,Y,T]
  ·rw[t];exact λv H' G J=>r v H' (B.trans G) (J.mono (Ab.refl _) λ_ z=>Fv E B z)
 |exc x=>rw[t]at r;exact r.elim
 |bad=>rw[t]at r;exact r.elim
end
def Y0(env:GZ):List (BP×GF)->List (BP×BJ)->List (BP×BJ)
 | [],m=>m
 | (n,k)::r,m=>Y0 env r (if k == .free then(match env.cells.lookup n with |some a=>(n,a)::m |none=>m) else m)
def Ua(m:GX)(env:GZ):List (BP×BJ):=Y0 env m.names []
def Ww{m:GX}{env:GZ}(h:∀x∈m.names,x.2=.free->∃a,env.cells.lookup x.1=some a):YL m env=pure (Ua m env):=by
 have key:∀(l:List (BP×GF))(cs:List (BP×BJ)),(∀x∈l,x.2=.free->∃a,env.cells.lookup x.1=some a) ->
   (forIn l cs λ(x:BP×GF)(r:List (BP×BJ))=>if x.2 == .free then(do let a <-iQ env x.1;pure (ForInStep.yield ((x.1,a)::r))) else pure (ForInStep.yield r))=(pure (Y0 env l cs):Sem _):=by
  intro l;induction l with
  |nil=>intro cs _;rfl
  |cons y r u =>
   obtain⟨n,k⟩:=y;intro cs t;rw[dI];by_cases z:k=.free
   ·subst z;have⟨a,A⟩:=t (n,.free) MF rfl;have U:iQ env n=pure a:=by unfold iQ;rw[A]
    simp only[beq_self_eq_true,if_true,U,Y0,A];exact u _ λx q=>t x (KQ _ q)
   ·have B:(k == NameKind.free)=false:=by simpa using z
    simp only[B,n6,if_false,Y0];exact u _ λx q=>t x (KQ _ q)
 have e:YL m env=((forIn m.names [] λ(x:BP×GF)(r:List (BP×BJ))=>if x.2 == .free then(do let a <-iQ env x.1;pure (ForInStep.yield ((x.1,a)::r))) else pure (ForInStep.yield r)) >>= λcs=>pure cs):=rfl;rw[e,key m.names [] h];rfl
theorem tK{env:GZ}{x:BP}{a:BJ}:∀{l:List (BP×GF)}{cs:List (BP×BJ)},(x,a)∈Y0 env l cs->env.cells.lookup x=some a\/(x,a)∈cs
 | [],_,h=>.inr h
 | (n,k)::r,cs,h=>by
  rw[Y0]at h;rcases tK h with h |h
  ·exact .inl h
  ·split at h
   ·split at h
    ·rename_i b m;rcases I_.mp h with e |h
     ·cases e;exact .inl m
     ·exact .inr h
    ·exact .inr h
   ·exact .inr h
theorem J8{env:GZ}{x:BP}{a:BJ}(m:env.cells.lookup x=some a):∀{l:List (BP×GF)}{cs:List (BP×BJ)},((x,NameKind.free)∈l\/cs.lookup x=some a)->(Y0 env l cs).lookup x=some a
 | [],_,h=>by
  rcases h with h |h
  ·cases h
  ·exact h
 | (n,k)::r,cs,h=>by
  rw[Y0];by_cases q:x=n
  ·subst q;by_cases t:k=.free
   ·subst t;refine J8 m (.inr ?_);simp[m]
   ·have u:(k == NameKind.free)=false:=by simpa using t
    rw[u];refine J8 m ?_;rcases h with h |h
    ·rcases I_.mp h with e |h
     ·cases e;exact absurd rfl t
     ·exact .inl h
    ·exact .inr h
  ·refine J8 m ?_;have u:(x == n)=false:=by simpa using q
   rcases h with h |h
   ·rcases I_.mp h with e |h
    ·cases e;exact absurd rfl q
    ·exact .inl h
   ·refine .inr ?_;split
    ·split
     ·rw[WR,u];exact h
     ·exact h
    ·exact h
theorem mR{x:BP}{a:BJ}:∀{l:List (BP×GF)}{n:Nat}{acc:List (BP×BJ)},(x,a)∈D_ n l acc->n<=a\/(x,a)∈acc
 | [],_,_,h=>.inr h
 | (y,k)::r,n,acc,h=>by
  unfold D_ at h;split at h
  ·rcases mR h with h |h
   ·exact .inl (by lia)
   ·rcases I_.mp h with e |h
    ·cases e;exact .inl (H_ _)
    ·exact .inr h
  ·exact mR h
def mU{x y:BP}{a:BJ}:∀{l:List (BP×GF)}{n:Nat}{acc:List (BP×BJ)},(∀x y a,(x,a)∈acc->(y,a)∈acc->x=y)->(∀y∈acc,y.2<n)->(x,a)∈D_ n l acc->(y,a)∈D_ n l acc->x=y
 | [],_,_,h,_,t,m=>h _ _ _ t m
 | (z,k)::r,n,acc,h,A,t,m=>by
  unfold D_ at t m;by_cases C:(k == NameKind.cell)=true
  ·rw[if_pos C]at t m;refine mU (λu w b p q=>?_) (λy B=>?_) t m
   ·rcases I_.mp p with e |p<;>rcases I_.mp q with Z |q
    ·cases e;cases Z;rfl
    ·cases e;exact absurd (A _ q) (QL _)
    ·cases Z;exact absurd (A _ p) (QL _)
    ·exact h u w b p q
   ·rcases I_.mp B with e |B
    ·cases e;exact dM _
    ·exact ZW (A y B)
  ·rw[if_neg C]at t m;exact mU h A t m
def mQ{x:BP}{a:BJ}{t:Nat}:∀{l:List (BP×GF)}{n:Nat}{acc:List (BP×BJ)},t<=n->(l.lookup x=some .cell\/∀a,acc.lookup x=some a->t<=a)->(D_ n l acc).lookup x=some a->t<=a
 | [],_,_,_,h,e=>by
  rcases h with h |h
  ·cases h
  ·exact h a e
 | (z,k)::r,n,acc,u,h,e=>by
  unfold D_ at e;by_cases y:(k == NameKind.cell)=true
  ·rw[if_pos y]at e;refine mQ (Nat.le_succ_of_le u) ?_ e;cases m:x == z with
   |true=>refine .inr λb q=>?_;rw[WR,m]at q;cases q;exact u
   |false =>
    rcases h with h |h
    ·rw[WR,m]at h;exact .inl h
    ·refine .inr λb q=>?_;rw[WR,m]at q;exact h b q
  ·rw[if_neg y]at e;refine mQ u ?_ e;rcases h with h |h
   ·cases m:x == z with
    |true=>rw[WR,m]at h;cases h;exact absurd rfl y
    |false=>rw[WR,m]at h;exact .inl h
   ·exact .inr h
def U6{x:BP}:∀{l:List (BP×GF)}{n:Nat}{acc:List (BP×BJ)},(x,NameKind.cell)∉l->(D_ n l acc).lookup x=acc.lookup x
 | [],_,_,_=>rfl
 | (z,k)::r,n,acc,h=>by
  unfold D_;by_cases m:(k == NameKind.cell)=true
  ·rw[if_pos m,U6 λq=>h (KQ _ q),WR];have t:(x == z)=false:=by
    cases u:x == z with
    |false=>rfl
    |true =>
     have U:x=z:=by simpa using u
     have J:k=.cell:=by simpa using m
     subst U;subst J;exact absurd MF h
   rw[t]
  ·rw[if_neg m];exact U6 λq=>h (KQ _ q)
def Yz{x:BP}{a:BJ}:∀{l:List (BP×GF)}{h:B_}{acc:List (BP×BJ)},(x,a)∈D_ h.objs.size l acc->(x,a)∈acc\/(LR h l).IsCell a none
 | [],_,_,q=>.inl q
 | (z,k)::r,h,acc,q=>by
  unfold D_ at q;unfold LR;by_cases m:(k == NameKind.cell)=true
  ·rw[if_pos m]at q ⊢;have t:(x,a)∈D_ (h.push {cls:=.type "cell",data:=.cell none}).objs.size r ((z,h.objs.size)::acc):=by rw[RW];exact q
   rcases Yz t with q |q
   ·rcases I_.mp q with e |q
    ·cases e;exact .inr ⟨_,JQ r _ _ _ (NP _ rfl),rfl⟩
    ·exact .inl q
   ·exact .inr q
  ·rw[if_neg m]at q ⊢;exact Yz q
def La{m:GX}{env:GZ}:∀{k:GF},(QK m env).names.lookup x=some k->(m.names.lookup x=some k)\/(k=.cell/\m.names.lookup x=some .free):=by
 intro k h;have key:∀l:List (BP×GF),(l.map λ(n,k)=>if(k == NameKind.free && env.scope.kind == .function && env.kindOf n == some .cell) then(n,NameKind.cell) else(n,k)).lookup x=some k->(l.lookup x=some k)\/(k=.cell/\l.lookup x=some .free):=by
  intro l;induction l with
  |nil=>intro h;cases h
  |cons y r z =>
   obtain⟨n,t⟩:=y;intro h;have h:List.lookup x ((if(t == NameKind.free && env.scope.kind == .function && env.kindOf n == some .cell)=true then(n,NameKind.cell) else(n,t))::(r.map λ(n,k)=>if(k == NameKind.free && env.scope.kind == .function && env.kindOf n == some .cell) then(n,NameKind.cell) else(n,k)))=some k:=h;by_cases u:(t == NameKind.free && env.scope.kind == .function && env.kindOf n == some .cell)=true
   ·rw[if_pos u]at h;rw[WR]at h ⊢;cases q:x == n with
    |true =>
     rw[q]at h;cases h;have:t=.free:=by simp only[KN,beq_iff_eq]at u;exact u.1.1
     exact .inr ⟨rfl,by rw[this]⟩
    |false=>rw[q]at h;exact z h
   ·rw[if_neg u]at h;rw[WR]at h ⊢;cases q:x == n with
    |true=>rw[q]at h;exact .inl h
    |false=>rw[q]at h;exact z h
 exact key m.names h
def b8(scope:GX)(C:BJ)(env:GZ):GZ:={scope:=QK scope env,locals:=C,globals:=env.globals,cells:=D_ (C+1) scope.names (Ua scope env),qual:=env.qual,func:=none,code:=env.code,frame:=env.frame,builtins:=env.builtins}
def cxB(X:Cx)(N:List BP)(m:GX)(C:BJ)(s:BK)(H:Hp)(ex:List BJ):Cx:=
 {X with N:=N,s₀:=s,H₀:=H,env:=b8 m C X.env,outer:=X.stack,ex:=ex,fn:=λx=>m.names.lookup x == some .cell,pn:=[],xe:=λ_ _=>False}
variable {A:C_}{E:A_->BK->Prop}
section
variable {M:JV}
def uD{m:GX}{env:GZ}{cl:List (BP×BJ)}{Q:GZ->BK->Prop}
  (r:Q (newEnv m s.heap.objs.size env.globals (D_ (s.heap.objs.size+1) m.names cl) env.qual none .none (some env) RL) {s with heap:=LR (s.heap.push {cls:=.type "dict",data:=.dict #[] }) m.names}):
  BL M A (eY m env.globals cl [] env.qual none .none (some env)) Q E s:=by
 simp only[eY,xN,if_true];refine CK (wpAny_alloc ?_);refine CK (wpAny_layCells _ (λname kind cells=>by cases q:kind == NameKind.cell<;>simp[q]) _ _ _ _ ?_);rw[show({s with heap:=s.heap.push {cls:=.type "dict",data:=.dict #[] } }:BK).heap.objs.size=s.heap.objs.size+1 from RW ..];exact CK (FZ (FZ r))
end
structure Hk(X:Cx)(scope:GX)(T:List BP)(caps:List Nat):Prop where
 kind:scope.kind=.function
 free:∀x∈scope.names,x.2=.free->X.env.kindOf x.1=some .cell\/X.env.kindOf x.1=some .free
 names:∀x∈scope.names,x.2=.local->scope.names.lookup x.1=some .local
 cap:∀j∈caps,∃x,X.N[j]? = some x/\scope.names.lookup x=some .free/\(x,NameKind.cell)∉scope.names/\(X.env.kindOf x=some .cell\/X.env.kindOf x=some .free)
def Mh(sc osc:GX)(N:List BP)(caps:List Nat):Bool:=
 (sc.kind == .function) && sc.names.all (λx=>x.2 != .free || (osc.names.lookup x.1 == some .cell ||osc.names.lookup x.1 == some .free)) && sc.names.all (λx=>x.2 != .local ||sc.names.lookup x.1 == some .local)
  && caps.all (λj=>match N[j]? with
   |some x=>sc.names.lookup x == some .free && !(sc.names.any λy=>y.1 == x && y.2 == .cell) && (osc.names.lookup x == some .cell ||osc.names.lookup x == some .free)
   |none=>false)
def Hk.of{m:GX}{T:List BP}{caps:List Nat}(h:Mh m X.env.scope X.N caps=true):Hk X m T caps:=by
 simp only[Mh,KN,SN,wR,beq_iff_eq,bne_iff_ne]at h;obtain⟨⟨⟨M,L⟩,J⟩,G⟩:=h;refine⟨M,λx q r=>?_,λx q r=>?_,λj C=>?_⟩
 ·rcases L x q with z |z
  ·exact absurd r z
  ·exact z
 ·rcases J x q with z |z
  ·exact absurd r z
  ·exact z
 ·have:=G j C;cases e:X.N[j]? with
  |none=>rw[e]at this;cases this
  |some x=>rw[e]at this;simp only[KN,wR,beq_iff_eq,dN,xJ]at this;obtain⟨⟨y,u⟩,t⟩:=this;exact⟨x,rfl,y,λB=>u _ B ⟨rfl,rfl⟩,t⟩
def En(X:Cx)(T:List BP)(caps:List Nat):List BP:=T++caps.map λj=>(X.N[j]?).getD (Str.ofString "")
def Mi(T:List BP)(caps:List Nat)(σ:St):St:=T.map (λ_=>none)++caps.map λj=>(σ[j]?).join
def Lr(n:Nat)(caps:List Nat)(ρ:Ev):Ev:=List.replicate n none++caps.map λj=>(ρ[j]?).join
variable {fp:List BJ}{caps:List Nat}{T:List BP}{scope:GX}
def Hk.clo(B:Hk X scope T caps)(I:Inv X pins σ H s):YL scope X.env=pure (Ua scope X.env):=Ww λx m q=>I.ok.has x.1 (B.free x m q)
theorem X7(B:Hk X scope T caps)(I:Inv X pins σ H s)(hf:∀b∈fp,Lz X pins H b)(hl:∀b∈fp,b<s.heap.objs.size):
  Inv (cxB X (En X T caps) scope s.heap.objs.size s H fp) [] (Mi T caps σ) H {s with heap:=LR (s.heap.push {cls:=.type "dict",data:=.dict #[] }) scope.names}:=by
 have keep:∀b o,s.heap.get? b=some o->(LR (s.heap.push {cls:=.type "dict",data:=.dict #[] }) scope.names).get? b=some o:=λb o e=>JQ _ _ b o (JK _ e);have clX:∀{x a},(x,a)∈Ua scope X.env->X.env.cells.lookup x=some a:=λh=>(tK h).elim id λz=>by cases z
 have cut:∀{x a},(D_ (s.heap.objs.size+1) scope.names (Ua scope X.env)).lookup x=some a->s.heap.objs.size+1<=a\/X.env.cells.lookup x=some a:=λh=>(mR (PySem.mem_of_lookup h)).elim .inl λz=>.inr (clX z);have M:∀{x a},X.env.cells.lookup x=some a->a<s.heap.objs.size:=λh=>by have⟨v,z⟩:=I.cell _ _ h;exact z.lt
 refine⟨⟨I.ok.mod,B.kind,I.ok.glob,I.ok.blt,H_ _,λx y a h1 h2=>?_,λx hx=>?_,λx a hx h=>?_,I.ok.hd,I.ok.frames,.inl rfl,λb Y=>⟨NK (hl b Y),λx a h e=>?_⟩,I.bs,RJ I.ok.bsz I.sz,λb o e Y=>?_,λb Y hx=>?_,I.stack,I.stkFree⟩,
  rfl,I.bare,Un.kept keep,⟨λ_=>none,(Heap.Ns.new s.heap (.type "dict")).keeps (JQ _ _),λi x v h1 h2 h3=>?_⟩,λx a h=>?_,I.hok.fresh (H_ _),λx a h=>?_,λp hp=>absurd (show p∈([]:List (BJ×GD)) from hp) (by simp),I.hok.kept keep,?_⟩
 ·refine mU (λu w b p q=>I.ok.inj u w b (clX p) (clX q)) (λy hy=>?_) (PySem.mem_of_lookup h1) (PySem.mem_of_lookup h2);exact ZW (M (clX hy))
 ·have aa:(QK scope X.env).names.lookup x=some .cell\/(QK scope X.env).names.lookup x=some .free:=hx;have hk:scope.names.lookup x=some .cell\/scope.names.lookup x=some .free:=by
   rcases aa with h |h
   ·rcases La h with h | ⟨_,h⟩
    ·exact .inl h
    ·exact .inr h
   ·rcases La h with h | ⟨z,_⟩
    ·exact .inr h
    ·cases z
  rcases hk with h |h
  ·exact iD.mp (W.cellsFrom_some scope.names _ _ (.inl h))
  ·have⟨a,ha⟩:=I.ok.has x (B.free (x,.free) (PySem.mem_of_lookup h) rfl);have:=J8 (cs:=[]) ha (.inl (PySem.mem_of_lookup h));exact iD.mp (W.cellsFrom_some scope.names _ _ (.inr (by unfold Ua;rw[this];rfl)))
 ·have aa:(scope.names.lookup x == some NameKind.cell)=true:=hx;exact xG (mQ (H_ _) (.inl (by simpa using aa)) h)
 ·rcases cut h with z |z
  ·exact absurd (NZ (hl b Y) (e ▸ xG z)) (QL _)
  ·exact(hf b Y).2.2.2.2.1 x a z e
 ·rcases(hf b Y).2.2.2.1 with z |z
  ·exact I.ok.noex b o e z
  ·have h1:=HD e;have h2:=I.ok.bsz;exact absurd (NZ h1 (RJ h2 z)) (QL _)
 ·rcases I_.mp (I.stkSub b hx) with z |z
  ·exact(hf b Y).2.1 z
  ·exact(hf b Y).2.2.1 z
 ·have hi:T.length<=i:=by
   by_cases hi:T.length<=i
   ·exact hi
   ·exfalso;have G:(Mi T caps σ)[i]? = some (some v):=h2;unfold Mi at G;rw[dY (by simp;lia),QC]at G;cases e:T[i]? with
    |none=>rw[e]at G;cases G
    |some t=>rw[e]at G;cases G
  have G:(Mi T caps σ)[i]? = some (some v):=h2;have L:(En X T caps)[i]? = some x:=h1;unfold Mi at G;unfold En at L;rw[bK (by simpa using hi),HN,QC]at G;rw[bK hi,QC]at L;cases ej:caps[i - T.length]? with
  |none=>rw[ej]at G;cases G
  |some j =>
   rw[ej]at L G;refine fO (λy hy m1 m2 m3=>?_) (B.cap j (ZZ ej));have L:some ((X.N[j]?).getD (Str.ofString ""))=some x:=L;rw[hy]at L;have U:y=x:=Option.some.inj L;subst U;have J:(σ[j]?).join=some v:=Option.some.inj G;have C:σ[j]? = some (some v):=by
    cases q:σ[j]? with
    |none=>rw[q]at J;cases J
    |some o=>rw[q]at J;cases o with
     |none=>cases J
     |some w=>cases J;rfl
   refine An (λm hn ae=>?_) (I.loc);have ab:Vis X.env.scope y:=by rcases m3 with z |z;exact .inr (.inl z);exact .inr (.inr z)
   refine An (λu r lk=>?_) (ae j y v hy C ab);refine⟨u,r,.inr ⟨?_,?_⟩⟩
   ·have af:(QK scope X.env).names.lookup y=some .local\/(QK scope X.env).names.lookup y=some .cell\/(QK scope X.env).names.lookup y=some .free:=h3;rcases af with z |z |z
    ·exfalso;rcases La z with z | ⟨z,_⟩
     ·rw[m1]at z;cases z
     ·cases z
    ·exact .inl z
    ·exact .inr z
   ·rcases lk with ⟨k,_⟩ | ⟨k,a,ha,hc⟩
    ·rcases m3 with w |w<;>(have k':X.env.kindOf y=some .local:=k;rw[w]at k';cases k')
    ·refine⟨a,?_,hc.keeps keep⟩;show(D_ (s.heap.objs.size+1) scope.names (Ua scope X.env)).lookup y=some a;rw[U6 m2];exact J8 ha (.inl (PySem.mem_of_lookup m1))
 ·have h':(x,a)∈D_ (s.heap.push {cls:=.type "dict",data:=.dict #[] }).objs.size scope.names (Ua scope X.env):=by rw[RW];exact PySem.mem_of_lookup h
  rcases Yz h' with z |z
  ·have⟨v,q⟩:=I.cell x a (clX z);exact⟨v,q.keeps keep⟩
  ·exact⟨none,z⟩
 ·rcases cut h with z |z
  ·exact I.hok.fresh (by lia)
  ·exact I.freeC x a z
 ·show(Mi T caps σ).length=(En X T caps).length;simp[Mi,En]
def O1{N:List BP}{C:BJ}{q:BK}{t:St}(I:Inv X pins σ H s)(y:C=s.heap.objs.size)(r:∀b∈fp,Lz X pins H b)(J:Inv (cxB X N scope C s H fp) [] t H' q)(h':B_)(hs:Heap.SameBut C q.heap h'):
  Inv X pins σ H' {q with heap:=h'}:=by
 have z:Inv X pins σ H' q:=I.call' (ch:=fp) J.os J.base J.hok J.bare λb m=>⟨(r b m).2.2.2.1,(r b m).2.1,(r b m).2.2.2.2.1,(r b m).2.2.2.2.2⟩;have u:s.heap.objs.size<=C:=nM y.symm;have F:=I.fpOk (H':=H') u J.free;have:=z.turned (t':=q.toks) (h':=h') (it:=C) (λb o m e=>(hs.2 b m).trans e) J.free F.2.1 F.2.2.2.1 F.2.2.2.2.1 F.2.2.2.2.2;exact this
variable {prog:BX}
section
variable {R:UL->BK->Prop}
def cNo:A_->BK->Prop:=λ_ _=>False
def thc{m:Type}{t:Sem m}{Q q:m->BK->Prop}{M:JV}(h:BL M A t Q cNo s)(r:∀a s,Q a s->q a s):BL M A t q E s:=DP h r λ_ _ z=>z.elim
def thx{m:Type}{t:Sem m}{Q q:m->BK->Prop}{M:JV}{y:A_->BK->Prop}(r:E=cNo)(h:BL M A t Q E s)(u:∀a s,Q a s->q a s):BL M A t q y s:=by subst r;exact thc h u
def nn{p:Prop}(h:(p->False)->False):p:=yC h
def ct3(M:JV)(A:C_)(elt:BZ)(acc:A_)(env:GZ)(I:Nat->BK->Prop)(n:Nat)(ok:Bool)(s:BK):Prop:=
 if ok=true then BL M A (CP elt env) (λx r=>BL M A (call (.builtin "list.append") [acc,x]) (λ_ q=>∃m,m<n/\I m q) cNo r) cNo s else ∃m,m<n/\I m s
def ct2(M:JV)(A:C_)(ifs:List BZ)(env:GZ)(Q:Bool->BK->Prop)(_:Unit)(s:BK):Prop:=
 BL M A (forIn ifs true λc r=>if r=true then do let ok <-T_ c env (CP c env);pure (ForInStep.yield ok) else pure (ForInStep.yield r)) Q cNo s
def ct1(M:JV)(A:C_)(target:BZ)(env:GZ)(v:A_)(Q:Unit->BK->Prop)(_:Unit)(s:BK):Prop:=BL M A (RM target env v) Q cNo s
def ct0(M:JV)(A:C_)(target:BZ)(it:A_)(env:GZ)(N:BK->Prop)(Q:Unit->BK->Prop)(r:Option A_)(s:BK):Prop:=
 r.elim (N s) λv=>BL M A (MP target it v) (ct1 M A target env v Q) cNo s
def jc8{elt target L:BZ}{ifs:List BZ}{scope:GX}{it acc:A_}{env:GZ}(I:Nat->BK->Prop)
  (turn:∀n s,I n s->BL (BV prog w) A (LC it) (ct0 (BV prog w) A target it env (R (.ok .next)) (ct2 (BV prog w) A ifs env (ct3 (BV prog w) A elt acc env I n))) cNo s)
  (n:Nat)(h:I n s):
  JD (BV prog w) A (.compLoop (.ListComp elt [⟨target,L,ifs,0⟩] scope pos) 0 it acc env) R s:=by
 refine codeAny_loop rfl I (λn s M=>?_) n h;show BL _ A ((compTurn (.ListComp elt [⟨target,L,ifs,0⟩] scope pos) 0 it acc env).onRaise (λx=>do GK x env;HR x)) _ _ s;refine wpAny_noted ?_;rw[compTurn_list];refine CK (GC (CK (thc (turn n s M) λr t m=>?_)));cases r with
 |none=>exact FZ m
 |some v =>
  refine CK (thc m λ_ t m=>CK (thc m λ_ J z=>CK (thc z λok G q=>?_)));cases ok with
  |false=>exact FZ ⟨rfl,q⟩
  |true=>exact CK (CK (thc q λx C y=>CK (thc y λ_ B u=>FZ (FZ ⟨rfl,u⟩))))
end
def TsD(X:Cx)(c:DC)(ifs:List BZ)(t:Ev->R Bool):Prop:=
 ∀(pins:List (BJ×GD))(s:BK)(σ:St)(H:Hp)(Q:Bool->Hp->Prop),Inv X pins σ H s->tDT X.K c t σ H Q ->
  BL (BV X.prog X.w) X.A (forIn ifs true λc r=>if r=true then do let ok <-T_ c X.env (CP c X.env);pure (ForInStep.yield ok) else pure (ForInStep.yield r)) (TP X pins σ Q) X.xe s
def yes:Ev->R Bool:=λ_=>.ok true
def ti0{c:DC}:TsD X c [] yes:=λpins s σ H Q I q=>by revert q;refine Ce λhs ρ E q=>?_;rw[dD];exact FZ ⟨H,I,q H (Ab.refl _)⟩
variable {t:Ev->R Bool}
def ti1{c:DC}(h:PTd X c e t):TsD X c [e] t:=λpins s σ H Q I q=>by rw[dI];simp only[if_true];refine CK (CK (thn (h pins s σ H Q I q) λk r m=>FZ ?_));show BL _ _ (forIn [] k _) _ _ _;rw[dD];exact FZ m
def Dl(g:D->Ev->R Ev)(t:Ev->R Bool)(f:Ev->R D)(ρ:Ev):List D->R (List D)
 | []=>.ok []
 |d::ds=>(g d ρ).bind λm=>(t m).bind λk=>if k then(f m).bind λy=>(Dl g t f ρ ds).bind λys=>.ok (y::ys) else Dl g t f ρ ds
def Dc(it:Ev->R (List D))(n:Nat)(caps:List Nat)(g:D->Ev->R Ev)(t:Ev->R Bool)(f:Ev->R D):Ev->R D:=λρ=>(it ρ).bind λds=>((Dl g t f (Lr n caps ρ) ds).bind λm=>if m.length<=16777216 then .ok (.lst m) else .bad).nox
variable {it:Ev->R (List D)}
theorem jw0{g:D->Ev->R Ev}{d:D}(h:Dc it n caps g t f ρ=.ok d):∃ds,d=.lst ds:=by
 unfold Dc at h;cases U:it ρ<;>rw[U]at h<;>try cases h
 rename_i m;simp only[R.ok_bind]at h;cases J:Dl g t f (Lr n caps ρ) m with
 |ok ys =>
  rw[J]at h;simp only[R.ok_bind]at h;split at h
  ·cases h;exact⟨_,rfl⟩
  ·cases h
 |exc _=>rw[J]at h;cases h
 |bad=>rw[J]at h;cases h
def RQ.nox{m:Type}{r:R m}{q:m->Prop}{e:D->Prop}(h:RQ r.nox q e):∃a,r=.ok a/\q a:=by
 cases r with
 |ok a=>exact⟨a,rfl,h⟩
 |exc _=>exact h.elim
 |bad=>exact h.elim
def Al.forget{c:DC}{m:Ev}(E:Al K c hs ρ σ H)(y:c.O=[])(z:m.length=ρ.length)(h:∀(i:Nat) d,m[i]? = some (some d)->ρ[i]? = some (some d)):Al K c hs m σ H:=by
 have u:∀r:Ev,c.N r σ=λo=>c.S o/\∀a:BJ,o=some a->True:=λr=>by funext o;unfold DC.N owned;rw[y];simp
 refine⟨E.same,z.trans E.len,(λi d q=>by rw[y]at q;cases q),(λi j a q=>by rw[y]at q;cases q),λi d q B=>?_,λP C=>?_,E.excl⟩
 ·rw[u,<-u ρ];exact E.oth i d q (h i d B)
 ·rw[u,<-u ρ];exact E.held P C
def Al.wrZ{c:DC}{a:BJ}(E:Al K c hs ρ σ H)(B:c.O=[])(M:c.H0 a=none)(C:¬ c.S (some a))(y:H a=some (.lst vs)):Al K c hs ρ σ (upd H a (.lst ws)):=by
 have q:¬ c.N ρ σ (some a):=λz=>C z.1;refine⟨λb o e=>?_,E.len,(λi d m=>by rw[B]at m;cases m),(λi j a m=>by rw[B]at m;cases m),λi d m G=>?_,λP u=>⟨(E.held P u).1,(E.held P u).1.wr y q (E.held P u).2⟩,λb L z=>?_⟩
 ·rw[Ac (Aw e M)];exact E.same b o e
 ·refine An (λv U J=>?_) (E.oth i d m G);exact⟨v,U,J.wr y q⟩
 ·by_cases r:b=a
  ·subst r;rw[Af]at z;cases z
  ·rw[Ac r]at z;exact E.excl b L z
def Qa(O:List Nat)(l:Lv)(caps:List Nat):Bool:=match l with
 | .any=>true
 | .no=>caps.all λj=>!O.contains j
 | .fr=>caps.isEmpty
def u_{c:DC}(E:Al K c hs ρ σ H)(h:Qa c.O l caps=true)(u:j∈caps){d:D}(q:ρ[j]? = some (some d)):
  ∃v,σ[j]? = some (some v)/\Rep K H (lvS c ρ σ H l) d v:=by
 cases l with
 |any =>
  by_cases m:j∈c.O
  ·refine Jh (λp U C r=>?_) (E.own j d m q);exact⟨_,U,r.rep (.inr ⟨p,rfl,C.1,C.2⟩) λ_ z=>z.1⟩
  ·refine An (λv U r=>?_) (E.oth j d m q);exact⟨v,U,r.mono (Ab.refl _) λ_ z=>z.1⟩
 |no =>
  have:=SN.mp h j u;have m:j∉c.O:=by simpa using this
  exact E.oth j d m q
 |fr =>
  have:caps=[]:=by simpa[Qa] using h
  subst this;cases u
def wH(n:Nat)(caps:List Nat)(ρ:Ev):(Lr n caps ρ).length=n+caps.length:=by simp[Lr]
def wF(T:List BP)(caps:List Nat)(σ:St):(Mi T caps σ).length=T.length+caps.length:=by simp[Mi]
theorem Py{d:D}(h:(Lr n caps ρ)[i]? = some (some d)):n<=i/\∃j,caps[i - n]? = some j/\ρ[j]? = some (some d):=by
 unfold Lr at h;by_cases r:n<=i
 ·refine⟨r,?_⟩;rw[bK (by simpa using r),xW,QC]at h;cases e:caps[i - n]? with
  |none=>rw[e]at h;cases h
  |some j =>
   rw[e]at h;refine⟨j,rfl,?_⟩;have m:(ρ[j]?).join=some d:=Option.some.inj h;cases q:ρ[j]? with
   |none=>rw[q]at m;cases m
   |some o =>
    rw[q]at m;cases o with
    |none=>cases m
    |some u=>cases m;rfl
 ·rw[dY (by simp;omega),oH]at h;split at h<;>cases h
def wG(r:T.length<=i)(q:caps[i - T.length]? = some j)(m:σ[j]? = some (some v)):(Mi T caps σ)[i]? = some (some v):=by unfold Mi;rw[bK (by simpa using r),HN,QC,q];show some (σ[j]?).join=_;rw[m];rfl
variable {elt L:BZ}{ifs:List BZ}
variable {xs:List D}{hs':List Hd}
section
variable {c:DC}{u:Ev->R (List D)}{g:D->Ev->R Ev}{t:Ev->R Bool}{f:Ev->R D}
inductive CI(Y:Cx)(c':DC)(P:Hd)(tn:Nat->B_->Prop)(fp:List BJ)(a:BJ)(ρ₀:Ev)(ds xs:List D)(L:List D->R (List D))(k:Nat)(s:BK):Prop
 |mk (i:Nat) (σ:St) (H:Hp) (acc:List D) (vs:List V) (ys:List D) (I:Inv Y [] σ H s) (st:tn i s.heap) (fr:∀b∈fp,H b=none) (hk:k=ds.length - i) (hi:i<=ds.length) (E:Al Y.K c' [P] ρ₀ σ H)
   (hv:H a=some (.lst vs))(r:Ak Y.K H c'.S acc vs)(ec:L (ds.drop i)=.ok ys)(ea:acc++ys=xs):CI Y c' P tn fp a ρ₀ ds xs L k s
theorem jw1{Y:Cx}{c':DC}{tn:Nat->B_->Prop}{J:It}{it a:BJ}{m:Ev}{ab:St}{aa:Hp}{Rn:UL->BK->Prop}(hx:Y.xe=cNo)(hc:Y.calm=true)
  (hg:PGd Y c' tg g)(ht:TsD Y c' ifs t)(he:PEd Y c' .any elt f)(bu:∀d au,g d m=.ok au->au.length=m.length/\∀(i:Nat) d',m[i]? = some (some d')->au[i]? = m[i]?)
  (af:∀{H':Hp}{az:St}{bp:BK},Inv Y [] az H' bp->(∀b∈fp,H' b=none)->∀b∈fp,Lz Y [] H' b)
  (hO:c'.O=[])(h0:c'.H0 a=none)(hn:¬ c'.S (some a))
  (Tn:Turn Y.prog Y.w Y.K tg J fp it tn)(TD:ItD Y.K J ds P)(ex:Dl g t f m ds=.ok xs)(hz:xs.length<=16777216)
  (bw:∀s H σ vs,Inv Y [] σ H s->Al Y.K c' [P] m σ H->H a=some (.lst vs)->Ak Y.K H c'.S xs vs->Rn (.ok .next) s)
  (E0:Al Y.K c' [P] m ab aa)(ha:aa a=some (.lst []))(f0:∀b∈fp,aa b=none){s4:BK}(J4:Inv Y [] ab aa s4)(bo:tn 0 s4.heap):
  JD (BV Y.prog Y.w) Y.A (.compLoop (.ListComp elt [⟨tg,L,ifs,0⟩] scope pos) 0 (.ref it) (.ref a) Y.env) Rn s4:=by
 refine jc8 (CI Y c' P tn fp a m ds xs (Dl g t f m)) ?_ ds.length
  (.mk 0 _ _ [] [] xs J4 bo f0 rfl (WQ _) E0 ha Ak.nil ex rfl)
 intro n s5 q;refine nn λhG=>?_;obtain⟨i,aj,H5,acc,vs,ys,I5,bb,bg,hk,cc,E5,ay,r5,G,ea⟩:=q;have p5:=(E5.held P MF).2;by_cases C:i<ds.length
 ·rw[iI C,Dl]at G;refine An (λak eg G=>?_) (Ba G);refine An (λk et G=>?_) (Ba G);have keep:=bu _ _ eg;have forget:∀{ae:St}{H':Hp},Al Y.K c' [P] ak ae H'->Al Y.K c' [P] m ae H':=λE'=>E'.forget hO keep.1.symm λj d hd=>(keep.2 j d hd).trans hd;refine hG (thx (E:=cNo) rfl (Tn.item Y rfl rfl rfl hc i [] s5 aj H5 cNo I5 (af I5 bg) bb (TD.go i H5 _ C p5)) λr s6 q=>?_);clear hG;revert q;refine An λu hr h6=>?_;subst hr;refine thn h6 λ_ s7 q=>?_;refine nn λhG=>?_;revert q;refine pI λx H7 I7 r7 y7 ao bf=>?_;have⟨ar,U⟩:=TD.yld i H5 _ x H7 p5 y7;have U:=U ds[i] (MJ C);have bh:=I7.pinned (af I7 bf) (Tn.obj _ _ ao);have ah:∀{ae:St}{H':Hp}{s':BK},Inv Y ([]++Rz fp s7.heap) ae H' s'->tn (i+1) s'.heap/\∀b∈fp,H' b=none:=λ{ae H' s'} J=>by refine⟨Tn.keep _ _ _ ao λb hb o e=>(J.pin (b,o) (RZ _ (RZ _ (Gm hb e)))).1,λb hb=>?_⟩;refine An (λo e _=>?_) (Tn.obj _ _ ao b hb);exact(J.pin (b,o) (RZ _ (RZ _ (Gm hb e)))).2.1
  refine hG (thx hx (hg _ s7 aj H7 x u (λB H8=>H8=H7/\Al Y.K c' [P] ak B H8) bh r7 ⟨[P],m,ds[i],E5.mono ar,U,by rw[eg];exact λB E8=>⟨rfl,E8⟩⟩) λ_ s8 q=>?_);clear hG;clear bh U y7 r7 ao bf I7 keep;revert q;refine Bh λB _ I8 bt E8=>?_;obtain rfl:=bt;refine thx hx (ht _ s8 B _ (λk' H9=>k'=k/\Ab _ H9) I8 ⟨[P],ak,E8,by rw[et];exact λH9 s9=>⟨rfl,s9⟩⟩) λk' s9 q=>?_;revert q;refine Jh λH9 I9 br aq=>?_;obtain rfl:=br;have bc:=aq _ _ (ar _ _ ay);have r9:=r5.mono (ar.trans aq) λ_ z=>z;have E9:=E8.mono aq;clear I8 E8 aq ar r5 ay I5 E5 p5;cases k' with
  |false=>rw[if_neg TY]at G;have⟨q1,q2⟩:=ah I9;exact⟨ds.length - (i+1),hk ▸ oA _ _ C,.mk (i+1) B H9 acc vs ys I9.unpinned q1 q2 rfl C (forget E9) bc r9 G ea⟩
  |true =>
   rw[if_pos rfl]at G;refine An (λdy ef G=>?_) (Ba G);refine An (λba ey G=>?_) (Ba G);cases G;refine thx hx (he _ s9 B H9 (λy M=>Ab H9 M/\Rep Y.K M c'.S dy y) I9 ⟨[P],ak,E9,by rw[ef];exact λy M aw ax=>⟨aw,ax⟩⟩) λw aw q=>?_;refine nn λhG=>?_;revert q;refine Wz λy M bx ax ag ry=>?_;have ai:M a=some (.lst vs):=ag _ _ bc;have hl:=r9.length;have cb:xs.length=acc.length+(ba.length+1):=by rw[<-ea];simp
   refine hG (thx hx (Ry _ aw B M (.ref a) [y] (.ref a) [w] (λ_ H'=>H'=upd M a (.lst (vs++[y]))) bx rfl (.cons ax .nil) ⟨a,vs,y,rfl,rfl,ai,by rw[CT];lia,rfl⟩) λ_ bz q=>?_);clear hG;revert q;refine Bh λ_ _ bj _ bq=>?_;obtain rfl:=bq;have⟨q1,q2⟩:=ah bj;exact⟨ds.length - (i+1),hk ▸ oA _ _ C,.mk (i+1) B _ (acc++[dy]) (vs++[y]) ba bj.unpinned q1 q2 rfl C (forget ((E9.mono ag).wrZ hO h0 hn ai)) Af (((r9.mono ag λ_ z=>z).append (.cons ry Ak.nil)).wr ai hn) ey (by rw[<-ea,xF];rfl)⟩
 ·have e:ds.drop i=[]:=dX (by lia);rw[e,Dl]at G;cases G;rw[SM]at ea;subst ea;refine hG (thx (E:=cNo) rfl (Tn.done Y rfl rfl rfl hc i [] s5 aj H5 cNo I5 (af I5 bg) bb (TD.stop i H5 _ (by lia) p5)) λr s6 q=>?_);obtain⟨rfl,I6⟩:=q;exact bw s6 H5 aj vs I6 E5 ay r5
def Tb(H H':Hp):Prop:=∀b ps,H b=some (.tbl ps)->H' b=some (.tbl ps)
theorem Xn(B:Hk X scope T caps)(hc:X.calm=true)(hi:PId X c l tg L u)
  (hg:∀(C:BJ)(s:BK)(H:Hp)(ex:List BJ)(H0:Hp)(S0:AS)(Z:List BJ),Tb c.H0 H0->PGd (cxB X (En X T caps) scope C s H ex) ⟨H0,S0,[],Dt,Z⟩ tg g)
  (ht:∀(C:BJ)(s:BK)(H:Hp)(ex:List BJ)(H0:Hp)(S0:AS)(Z:List BJ),Tb c.H0 H0->TsD (cxB X (En X T caps) scope C s H ex) ⟨H0,S0,[],Dt,Z⟩ ifs t)
  (he:∀(C:BJ)(s:BK)(H:Hp)(ex:List BJ)(H0:Hp)(S0:AS)(Z:List BJ),Tb c.H0 H0->PEd (cxB X (En X T caps) scope C s H ex) ⟨H0,S0,[],Dt,Z⟩ .any elt f)
  (ah:∀d ρ r,g d ρ=.ok r->r.length=ρ.length/\∀i,T.length<=i->r[i]? = ρ[i]?)(ai:Qa c.O l caps=true){af:GP}{use:Option (A_->Sem Unit)}{Q':A_->BK->Prop}(hs:∀x,DY L X.env x=pure x)
  (I:Inv X pins σ H s)(E:Al X.K c hs' ρ σ H)(au:u ρ=.ok ds)(ex:Dl g t f (Lr T.length caps ρ) ds=.ok xs)(hz:xs.length<=16777216)
  (ar:∀(a:BJ)(vs:List V)(s3 s':BK)(H3 H':Hp)(fp:List BJ)(ak:St),Inv X pins σ H3 s3->(∀b∈fp,Lz X pins H3 b)->Inv (cxB X (En X T caps) scope s3.heap.objs.size s3 H3 fp) [] ak H' s'->Ab H H'->H a=none->H' a=some (.lst vs) ->
   Ak X.K H' (AS.but (lvS c ρ σ H l) a) xs vs->RK (BV X.prog X.w) X.A X.xe use Q' (.ref a) s3.heap.objs.size (.ok .next) s'):
  BL (BV X.prog X.w) X.A (PX (.ListComp elt [⟨tg,L,ifs,0⟩] scope pos) scope X.env af (Y_ []) false (CP L X.env) use) Q' X.xe s:=by
 refine IV (cl:=Ua scope X.env) rfl hs (B.clo I) B.kind B.names ?_;have hR:=hi pins s σ H (λJ y=>∃P,Ab H y/\ItD X.K J ds P/\P y (lvS c ρ σ H l)) I ⟨hs',ρ,E,by rw[au];exact λJ P H' s1 T1 p1=>⟨P,s1,T1,p1⟩⟩;refine thn hR λv s1 h1=>thn h1 λaw q h2=>?_;refine nn λhG=>?_;obtain⟨it,fp,tn,J,y,rfl,I2,Tn,ab,f2,P,sm,TD,p2⟩:=h2;refine hG (CV ?_);clear hG;have M:y q.heap.objs.size=none:=I2.fresh;have I3:=I2.lnew (t':=q.toks) (ys:=[]) (its:=[]) .nil (WQ _);generalize hD:q.heap.objs.size=a at M I3;refine uD ?_;have U:∀b∈fp,b<q.heap.objs.size:=λb m=>by have⟨o,e,_⟩:=Tn.obj 0 _ ab b m;exact HD e
 have f3:∀b∈fp,Lz X pins (upd y a (.lst [])) b:=λb m=>by have⟨z0,z⟩:=f2 b m;refine⟨?_,z⟩;rw[Ac (by rw[<-hD];exact NK (U b m))];exact z0
 have aa:Ab y (upd y a (.lst [])):=Ao M _;have Ha:H a=none:=sm.free M;have ag:∀b∈fp,b<(q.heap.push {cls:=.type "list",data:=.seq ([]:List A_).toArray}).objs.size:=λb m=>by rw[RW];exact ZW (U b m)
 have J0:=X7 B I3 f3 ag;let c':DC:=⟨y,AS.but (lvS c ρ σ H l) a,[],Dt,[a]⟩;have tb:Tb c.H0 c'.H0:=λb ps e=>sm _ _ (E.same _ _ e);have ae:¬ c'.S (some a):=by
  rintro(z | ⟨b,e,_,m⟩)
  ·exact z.2 rfl
  ·cases e;exact m (NT.mpr rfl)
 have E0:Al X.K c' [P] (Lr T.length caps ρ) (Mi T caps σ) (upd y a (.lst [])):=by
  have sub:∀o,AS.but (lvS c ρ σ H l) a o->c'.N (Lr T.length caps ρ) (Mi T caps σ) o:=λo z=>⟨.inl z,λb _ ⟨j,hj,_⟩=>by cases hj⟩;refine⟨aa,by rw[wH,wF],(λi d hi=>by cases hi),(λi j a hi=>by cases hi),λi d hi hd=>?_,λP' aq=>?_,λb m=>?_⟩
  ·have⟨hn,j,ej,ed⟩:=Py hd;have⟨v,ev,rv⟩:=u_ E ai (ZZ ej) ed;exact⟨v,wG hn ej ev,(rv.avoid Ha).mono (sm.trans aa) sub⟩
  ·have:P'=P:=by simpa using aq
   subst this;exact⟨TD.stab,TD.stab.mono aa sub (TD.stab.avoid M p2)⟩
  ·have:b=a:=NT.mp m;subst this;rw[Af];intro z;cases z
 have G:tn 0 (LR ((q.heap.push {cls:=.type "list",data:=.seq ([]:List A_).toArray}).push {cls:=.type "dict",data:=.dict #[] }) scope.names):=Tn.keep _ _ _ ab λb m o e=>JQ _ _ b o (JK _ (JK _ e));have loop:∀s4,Inv (cxB X (En X T caps) scope (q.heap.push {cls:=.type "list",data:=.seq ([]:List A_).toArray}).objs.size {q with heap:=q.heap.push {cls:=.type "list",data:=.seq ([]:List A_).toArray} } (upd y a (.lst [])) fp) [] (Mi T caps σ) (upd y a (.lst [])) s4->tn 0 s4.heap->JD (BV X.prog X.w) X.A (.compLoop (.ListComp elt [⟨tg,L,ifs,0⟩] scope pos) 0 (.ref it) (.ref a) (b8 scope (q.heap.push {cls:=.type "list",data:=.seq ([]:List A_).toArray}).objs.size X.env)) (RK (BV X.prog X.w) X.A X.xe use Q' (.ref a) (q.heap.push {cls:=.type "list",data:=.seq ([]:List A_).toArray}).objs.size) s4:=by
  intro s4 J0 G;refine jw1 (Y:=cxB X (En X T caps) scope (q.heap.push {cls:=.type "list",data:=.seq ([]:List A_).toArray}).objs.size {q with heap:=q.heap.push {cls:=.type "list",data:=.seq ([]:List A_).toArray} } (upd y a (.lst [])) fp) (c':=c') rfl hc (hg _ _ _ _ _ _ _ tb) (ht _ _ _ _ _ _ _ tb) (he _ _ _ _ _ _ _ tb) (λd r e=>⟨(ah d _ r e).1,λj d' hd=>(ah d _ r e).2 j (Py hd).1⟩) (λJ hn b m=>?_) rfl M ae Tn TD ex hz (λs6 H5 aj vs I6 E5 ao r5=>?_) E0 Af (λb m=>(f3 b m).1) J0 G
  ·exact⟨hn b m,(J.ok.exf b m).1,J.ok.exfs b m,.inl m,(J.ok.exf b m).2,λp hp=>absurd (show p∈([]:List (BJ×GD)) from hp) (by simp)⟩
  ·refine ar a vs _ s6 _ H5 fp aj I3 f3 I6 (sm.trans E5.same) Ha ao (r5.mono (Ab.refl _) λo z=>?_);rcases z with z | ⟨b,rfl,m,hz⟩
   ·exact z
   ·refine⟨Kh E ⟨b,rfl,sm.free m⟩,λe=>?_⟩;cases e;exact hz (NT.mpr rfl)
 exact UJ (loop _ J0 G) (Tn.self _ 0 _ _ _ G (loop _ J0 G))
theorem Fq(h:i<n):∀d ρ m,gN i d ρ=.ok m->m.length=ρ.length/\∀j,n<=j->m[j]? = ρ[j]?:=λd ρ m e=>by cases e;exact⟨by simp,λj q=>JR (by lia)⟩
theorem We{n:Nat}:∀{F:List Nat},(F.all λi=>decide (i<n))=true->∀ds ρ m,Fy F ds ρ=.ok m->m.length=ρ.length/\∀j,n<=j->m[j]? = ρ[j]?
 | [],_,ds,ρ,m,e=>by
  cases ds with
  |nil=>cases e;exact⟨rfl,λ_ _=>rfl⟩
  |cons _ _=>cases e
 |i::F,h,ds,ρ,m,e=>by
  cases ds with
  |nil=>cases e
  |cons d ds=>rw[Fy]at e;rw[YD,KN]at h;have z:=of_decide_eq_true h.1;obtain⟨y,r⟩:=We h.2 ds _ m e;exact⟨by rw[y];simp,λj q=>by rw[r j q];exact JR (by lia)⟩
def Ql(h:(F.all λi=>decide (i<n))=true):∀d ρ m,gT F d ρ=.ok m->m.length=ρ.length/\∀j,n<=j->m[j]? = ρ[j]?:=λd ρ m e=>by cases d<;>first |exact We h _ ρ m e |cases e
def wg3(ab:Mh scope X.env.scope X.N caps=true)(hc:X.calm=true)(hi:PId X c l tg L u)
  (hg:∀(C:BJ)(s:BK)(H:Hp)(ex:List BJ)(H0:Hp)(S0:AS)(Z:List BJ),Tb c.H0 H0->PGd (cxB X (En X T caps) scope C s H ex) ⟨H0,S0,[],Dt,Z⟩ tg g)
  (ht:∀(C:BJ)(s:BK)(H:Hp)(ex:List BJ)(H0:Hp)(S0:AS)(Z:List BJ),Tb c.H0 H0->TsD (cxB X (En X T caps) scope C s H ex) ⟨H0,S0,[],Dt,Z⟩ ifs t)
  (he:∀(C:BJ)(s:BK)(H:Hp)(ex:List BJ)(H0:Hp)(S0:AS)(Z:List BJ),Tb c.H0 H0->PEd (cxB X (En X T caps) scope C s H ex) ⟨H0,S0,[],Dt,Z⟩ .any elt f)
  (aa:∀d ρ G,g d ρ=.ok G->G.length=ρ.length/\∀i,T.length<=i->G[i]? = ρ[i]?)(U:Qa c.O l caps=true:=by rfl)(hs:∀x,DY L X.env x=pure x:=by intro _;rfl):
  PEf X c l (.ListComp elt [⟨tg,L,ifs,0⟩] scope pos) (Dc u T.length caps g t f):=λpins s σ H Q I q=>by
 revert q;refine Ce λhs' ρ E q=>?_;have B:Hk X scope T caps:=.of ab;rw[eval_ListComp];show BL (BV X.prog X.w) X.A (PX (.ListComp elt [⟨tg,L,ifs,0⟩] scope pos) scope X.env (UG [⟨tg,L,ifs,0⟩] pos) (Y_ []) false (CP L X.env) none) (EP X pins σ Q) X.xe s;have q:=RQ.bind.mp q;cases y:u ρ with
 |ok ds =>
  rw[y]at q;refine An (λd M q=>?_) (RQ.nox q);refine An (λxs ex M=>?_) (Ba M);by_cases Y:xs.length<=16777216
  ·rw[if_pos Y]at M;cases M;refine Xn B hc hi hg ht he aa U hs I E y ex Y λa vs s3 s' H3 H' fp ae I3 f3 J sm Ha hv r=>?_;refine An (λm hn _=>?_) (J.loc);exact⟨m,hn,λh' hb=>⟨.ref a,H',O1 I3 rfl f3 J h' hb,rfl,q a vs xs H' rfl sm Ha hv r⟩⟩
  ·rw[if_neg Y]at M;cases M
 |exc x=>rw[y]at q;refine IV (cl:=Ua scope X.env) rfl hs (B.clo I) B.kind B.names ?_;refine thn (hi pins s σ H (λ_ _=>False) I ⟨hs',ρ,E,by rw[y];exact q⟩) λv s1 h1=>thn h1 λaf s2 h2=>?_;refine nn λhG=>?_;clear hG;revert h2;refine jQ λ_ _ _ _ _ _ _ _ _ _ z=>?_;exact z.elim
 |bad=>rw[y]at q;exact q.elim
def ws9(y:Mh scope X.env.scope X.N caps=true)(J:X.calm=true)(z:PId X c l tg L u)
  (B:∀(C:BJ)(s:BK)(H:Hp)(ex:List BJ)(H0:Hp)(S0:AS)(Z:List BJ),PGd (cxB X (En X T caps) scope C s H ex) ⟨H0,S0,[],Dt,Z⟩ tg g)
  (ht:∀(C:BJ)(s:BK)(H:Hp)(ex:List BJ)(H0:Hp)(S0:AS)(Z:List BJ),TsD (cxB X (En X T caps) scope C s H ex) ⟨H0,S0,[],Dt,Z⟩ ifs t)
  (G:∀(C:BJ)(s:BK)(H:Hp)(ex:List BJ)(H0:Hp)(S0:AS)(Z:List BJ),PEd (cxB X (En X T caps) scope C s H ex) ⟨H0,S0,[],Dt,Z⟩ .any elt f)
  (r:∀d ρ m,g d ρ=.ok m->m.length=ρ.length/\∀i,T.length<=i->m[i]? = ρ[i]?)(q:Qa c.O l caps=true:=by rfl)(hs:∀x,DY L X.env x=pure x:=by intro _;rfl):
  PEf X c l (.ListComp elt [⟨tg,L,ifs,0⟩] scope pos) (Dc u T.length caps g t f):=wg3 y J z (λC s H ex H0 S0 Z _=>B C s H ex H0 S0 Z) (λC s H ex H0 S0 Z _=>ht C s H ex H0 S0 Z) (λC s H ex H0 S0 Z _=>G C s H ex H0 S0 Z) r q hs
def comp(y:Mh scope X.env.scope X.N caps=true)(J:X.calm=true)(z:PId X c l tg L u)
  (B:∀(C:BJ)(s:BK)(H:Hp)(ex:List BJ)(H0:Hp)(S0:AS)(Z:List BJ),PGd (cxB X (En X T caps) scope C s H ex) ⟨H0,S0,[],Dt,Z⟩ tg g)
  (ht:∀(C:BJ)(s:BK)(H:Hp)(ex:List BJ)(H0:Hp)(S0:AS)(Z:List BJ),TsD (cxB X (En X T caps) scope C s H ex) ⟨H0,S0,[],Dt,Z⟩ ifs t)
  (G:∀(C:BJ)(s:BK)(H:Hp)(ex:List BJ)(H0:Hp)(S0:AS)(Z:List BJ),PEd (cxB X (En X T caps) scope C s H ex) ⟨H0,S0,[],Dt,Z⟩ .any elt f)
  (r:∀d ρ m,g d ρ=.ok m->m.length=ρ.length/\∀i,T.length<=i->m[i]? = ρ[i]?)(q:Qa c.O l caps=true:=by rfl)(hs:∀x,DY L X.env x=pure x:=by intro _;rfl):
  PEd X c l (.ListComp elt [⟨tg,L,ifs,0⟩] scope pos) (Dc u T.length caps g t f):=PEf.d (ws9 y J z B ht G r q hs) λ_ _ h=>jw0 h
end
variable {U J C Y:BZ}{g'':D->D->Option D}
section
variable {c:DC}{q:BZ}{f f1 f2 r m:Ev->R D}{fs:Ev->R (List D)}{g:D->D->Option D}
def PEd.sc(h:PEd X c l a f)(hs:∀ρ d,f ρ=.ok d->d.imm=true):PEd X c .fr a f:=PE.imp h λσ H Q ⟨hs',ρ,E,q⟩=>by
 refine⟨hs',ρ,E,?_⟩;cases e:f ρ with
 |ok d=>rw[e]at q;exact λv H' s r=>q v H' s (Up d v (hs ρ d e) r)
 |exc x=>rw[e]at q;exact q
 |bad=>rw[e]at q;exact q
def Bg(u:∀x y d,g x y=some d->d.imm=true):∀ρ d,b2 f1 f2 g ρ=.ok d->d.imm=true:=λρ d h=>by
 refine An (λx _ h=>?_) (Ba h);refine An (λy _ h=>?_) (Ba h);cases e:g x y with
 |none=>rw[e]at h;cases h
 |some z=>rw[e]at h;cases h;exact u x y _ e
def Bo{g:List D->Option D}(u:∀xs d,g xs=some d->d.imm=true):∀ρ d,bA fs g ρ=.ok d->d.imm=true:=λρ d h=>by
 refine An (λx _ h=>?_) (Ba h);cases e:g x with
 |none=>rw[e]at h;cases h
 |some y=>rw[e]at h;cases h;exact u x _ e
def vU{p:Int->Int->Bool}:∀x y d,aZ p x y=some d->d.imm=true:=λx y d h=>by cases x<;>first |exact nos h | (cases y<;>first |exact nos h | (cases h;rfl))
def kt3:∀x y d,ltD x y=some d->d.imm=true:=vU
def uJ:∀x y d,gtD x y=some d->d.imm=true:=vU
def Qt:∀x y d,eqD x y=some d->d.imm=true:=λx y d h=>by obtain⟨_,rfl⟩:=Ax h;rfl
def kt4:∀x y d,neD x y=some d->d.imm=true:=λx y d h=>by obtain⟨_,rfl⟩:=Ax h;rfl
def Qx:∀x y d,ZF x y=some d->d.imm=true:=λx y d h=>by cases x<;>first |exact nos h | (cases y<;>first |exact nos h | (cases h;rfl))
def Qv:∀x y d,W6 x y=some d->d.imm=true:=λx y d h=>by cases x<;>first |exact nos h | (cases y<;>first |exact nos h | (obtain⟨_,rfl⟩:=Ax h;rfl))
def Dh:∀x y d,Fo x y=some d->d.imm=true:=λx y d h=>by cases x<;>first |exact nos h | (cases y<;>first |exact nos h | (obtain⟨_,rfl⟩:=Ax h;rfl))
def Er:∀x y d,Hc x y=some d->d.imm=true:=λx y d h=>by cases x<;>first |exact nos h | (cases y<;>first |exact nos h | (obtain⟨_,rfl⟩:=Ax h;rfl))
def Cv:∀xs d,Eh xs=some d->d.imm=true:=λxs d h=>by
 obtain⟨u,rfl⟩:=inv1 h rfl (λx _ _=>by cases x<;>rfl);cases u with
 |lst _=>cases h;rfl
 |tup _=>cases h;rfl
 |str _=>obtain⟨_,rfl⟩:=Ax h;rfl
 |_=>exact nos h
def Zq:∀xs d,minD xs=some d->d.imm=true:=λxs d h=>by
 obtain⟨z,u,rfl⟩:=inv2 h rfl (λx=>by cases x<;>rfl) (λx y _ _=>by cases x<;>first |rfl | (cases y<;>rfl));cases z with
 |int _ =>
  cases u with
  |int _=>cases h;rfl
  |_=>exact nos h
 |_=>exact nos h
def Zo:∀xs d,maxD xs=some d->d.imm=true:=λxs d h=>by
 obtain⟨z,u,rfl⟩:=inv2 h rfl (λx=>by cases x<;>rfl) (λx y _ _=>by cases x<;>first |rfl | (cases y<;>rfl));cases z with
 |int _ =>
  cases u with
  |int _=>cases h;rfl
  |_=>exact nos h
 |_=>exact nos h
def Bj:D->D->Option D
 | .lst xs,.lst ys=>if xs.length+ys.length<=16777216 then some (.lst (xs++ys)) else none
 |x,y=>pN x y
def wl8:OpR X (FJ .Add) (rD X.K Bj):=by
 rintro pins s σ H x y v u Q I rx ry ⟨S,dx,M,d,r1,r2,e,q⟩;by_cases h:∃xs ys,dx=.lst xs/\M=.lst ys
 ·revert h;refine Ce λxs ys G B=>?_;obtain rfl:=G;obtain rfl:=B;obtain⟨hz,rfl⟩:=Ax e;refine wx2 pins s σ H x y v u Q I rx ry ⟨S,_,_,.lst (xs++ys),r1,r2,if_pos hz,λa vs ds H' ed s' ha hv r=>?_⟩;cases ed;exact q _ H' s' ⟨a,vs,rfl,.inl ⟨hv,.inr ⟨a,rfl,ha⟩⟩,r.mono (Ab.refl _) λ_ z=>.inl z.1⟩
 ·refine wx1 pins s σ H x y v u Q I rx ry ⟨S,dx,M,d,r1,r2,?_,q⟩;cases dx<;>first |exact e | (cases M<;>first |exact e |exact absurd ⟨_,_,rfl,rfl⟩ h)
def Ge(y:PEd X c l a f1)(u:PEd X c l b f2):PEd X c l (.BinOp a .Add b pos) (b2 f1 f2 Bj):=a_ .Add wl8 y u
def slA:D->Option Int->Option Int->Option D
 | .lst xs,u,y=>some (.lst (cutD xs u y))
 | .tup xs,u,y=>if HT.sIx xs.length 0 u=0/\HT.sIx xs.length xs.length y=xs.length then none else some (.tup (cutD xs u y))
 |_,_,_=>none
def Hf{lo hi:Option BZ}{fl fh:Ev->R (Option Int)}(he:PEd X c l e f)(hl:POd X c lo fl)(hh:POd X c hi fh):PEd X c l (.Subscript e (.Slice lo hi none p2) pos) (bS f fl fh slA):=PE.imp (Vz (SlR.or tX wo6) he hl hh) λσ H Q q=>by
 revert q;refine Ce λhs ρ E q=>?_;refine Ag E ((RQ.bind.mp q).mono (λdx q1 x H1 G E1 r1=>?_) λ_ z=>z);refine Kr E1 ((RQ.bind.mp q1).mono (λi q2 H2 u E2=>?_) λe z=>Az z G);refine Kr E2 ((RQ.bind.mp q2).mono (λj q3 H3 y E3=>?_) λe z=>Az z (G.trans u));refine An (λd e q4=>?_) (q3.of);cases dx<;>try cases e
 ·rename_i xs;revert r1;refine Bh λp vs ab hp rr=>?_;obtain rfl:=ab;have M:=rr.length;have e:(if HT.sIx xs.length 0 i=0/\HT.sIx xs.length xs.length j=xs.length then none else some (D.tup (cutD xs i j)))=some d:=e;by_cases hw:HT.sIx xs.length 0 i=0/\HT.sIx xs.length xs.length j=xs.length
  ·rw[if_pos hw]at e;cases e
  ·rw[if_neg hw]at e;cases e;rw[M]at hw;refine .inr ⟨p,vs,rfl,Ab.sqT (u.trans y) (TpR.sq hp),hw,λr B=>?_⟩;exact q4 _ _ (((G.trans u).trans y).trans (Ao B _)) ⟨r,_,rfl,TpR.of Af,((rr.mono (u.trans y) λ_ z=>z).cut i j).mono (Ao B _) λ_ z=>z⟩
 ·revert r1;refine Bh λp vs aa hp rr=>?_;obtain rfl:=aa;refine .inl ⟨p,vs,rfl,(hp.same (u.trans y) λ_ z=>z).sq,λr B=>?_⟩;exact q4 _ _ (((G.trans u).trans y).trans (Ao B _)) ⟨r,_,rfl,.inl ⟨Af,Kh E ⟨r,rfl,((G.trans u).trans y).free B⟩⟩,((rr.mono (u.trans y) λ_ z=>z).cut i j).mono (Ao B _) λ_ z=>z⟩
def ch3(f1 f2 r m:Ev->R D)(g g' g'':D->D->Option D):Ev->R D:=λρ=>(f1 ρ).bind λx=>(f2 ρ).bind λy=>(R.of (g x y)).bind λz=>(R.of (Vk z)).bind λk =>
 if k then(r ρ).bind λw=>(R.of (g' y w)).bind λB=>(R.of (Vk B)).bind λG=>if G then(m ρ).bind λu=>R.of (g'' w u) else .ok (.bl false) else .ok (.bl false)
def tU(r r' B:R2)(ta tb tc td:TE):TE:=λσ H Q=>ta σ H λx H1=>tb σ H1 λy H2=>r x y H2 λz H3=>∃k,z=.bl k /\
 (if k=true then tc σ H3 λw H4=>r' y w H4 λz' M=>∃G,z'=.bl G/\(if G=true then td σ M λu H6=>B w u H6 Q else Q (.bl false) M) else Q (.bl false) H3)
def jz9{op M B:M_}{r r' aa:R2}{ta tb tc td:TE}(ho:OpR X (CG op) r)(ae:OpR X (CG M) r')(ab:OpR X (CG B) aa)(ha:PE X U ta)(hb:PE X J tb)(hc:PE X C tc)(hd:PE X Y td)
  (hm:OJ [op,M,B] [J,C,Y]=false:=by with_unfolding_all rfl):PE X (.Compare U [op,M,B] [J,C,Y] pos) (tU r r' aa ta tb tc td):=by
 intro pins s σ H Q I h;refine Compare_chain (thG (ha pins s σ H _ I h) λv s1 x H1 I1 r1 q1=>YM (thn (hb pins s1 σ H1 _ I1 q1) λu s2 ⟨y,H2,I2,r2,q2⟩ =>
  thn (ho pins s2 σ H2 x y v u _ I2 r1 r2 q2) λd s3 ⟨z,H3,I3,r3,k,e,q3⟩=>?_)) hm
 subst e;cases r3;refine DR ?_;cases k with
 |false=>exact iK ⟨.bl false,H3,I3,rfl,q3⟩
 |true =>
  refine iJ (YM (thG (hc pins s3 σ H3 _ I3 q3) λw' s4 z' H4 I4 r4 q4=>thG (ae pins s4 σ H4 y z' u w' _ I4 r2 r4 q4) λd' s5 z2 H5 I5 r5 G=>?_));obtain⟨k2,J,q5⟩:=G;subst J;cases r5;refine DR ?_;cases k2 with
  |false=>exact iK ⟨.bl false,H5,I5,rfl,q5⟩
  |true=>exact iJ (chain_last (thG (hd pins s5 σ H5 _ I5 q5) λw2 s6 z3 H6 I6 r6 q6=>ab pins s6 σ H6 z' z3 w' w2 Q I6 r4 r6 q6))
def wa2{g:D->D->Option D}{Q:VK}(h:tD K c l (ch3 f1 f2 r m g g' g'') σ H Q):tU (rD K g) (rD K g') (rD K g'') (tD K c l f1) (tD K c l f2) (tD K c l r) (tD K c l m) σ H Q:=by
 revert h;refine Ce λhs ρ E q=>?_;refine Ag E ((RQ.bind.mp q).mono (λdx q1 x H1 s1 E1 r1=>?_) λ_ z=>z);refine Ag E1 ((RQ.bind.mp q1).mono (λdy q2 y H2 s2 E2 r2=>?_) λe z=>Az z s1);refine An (λdz e q3=>?_) ((RQ.bind.mp q2).of);refine An (λk J q4=>?_) ((RQ.bind.mp q3).of);have aa:=r2.mono (Ab.refl _) (λ_ z=>Bw s1 z:∀o,lvS c ρ σ H1 l o->lvS c ρ σ H l o);refine⟨lvS c ρ σ H l,dx,dy,dz,r1.mono s2 (λ_ z=>z),aa,e,λz H3 s3 r3=>?_⟩;cases dz<;>try cases J
 refine⟨k,r3,?_⟩;have af:=s1.trans s2;have G:=af.trans s3;have E3:=E2.mono s3;cases k with
 |false=>rw[if_neg (by decide)]at q4 ⊢;exact q4 _ H3 G rfl
 |true =>
  rw[if_pos rfl]at q4 ⊢;refine Ag E3 ((RQ.bind.mp q4).mono (λdw q5 w H4 s4 E4 r4=>?_) λe z=>Az z G);have ae:=G.trans s4;refine An (λab C q6=>?_) ((RQ.bind.mp q5).of);refine An (λk' Y q7=>?_) ((RQ.bind.mp q6).of);have M:=r4.mono (Ab.refl _) (λ_ z=>Bw G z:∀o,lvS c ρ σ H3 l o->lvS c ρ σ H l o);refine⟨lvS c ρ σ H l,dy,dw,ab,aa.mono (s3.trans s4) (λ_ z=>z),M,C,λz' H5 s5 r5=>?_⟩;cases ab<;>try cases Y
  refine⟨k',r5,?_⟩;have B:=ae.trans s5;have E5:=E4.mono s5;cases k' with
  |false=>rw[if_neg (by decide)]at q7 ⊢;exact q7 _ H5 B rfl
  |true=>rw[if_pos rfl]at q7 ⊢;refine Ag E5 ((RQ.bind.mp q7).mono (λdu q8 u H6 s6 E6 r6=>?_) λe z=>Az z B);refine An (λd e5 q9=>?_) (q8.of);refine⟨lvS c ρ σ H l,dw,du,d,M.mono (s5.trans s6) (λ_ z=>z),r6.mono (Ab.refl _) (λ_ z=>Bw B z),e5,λz H' s7 r7=>?_⟩;exact q9 z H' ((B.trans s6).trans s7) (r7.mono (Ab.refl _) λ_ z=>Fv E (B.trans s6) z)
def wg1{B y u:M_}{g:D->D->Option D}(M:OpR X (CG B) (rD X.K g))(G:OpR X (CG y) (rD X.K g'))(z:OpR X (CG u) (rD X.K g''))(ha:PEd X c l U f1)(hb:PEd X c l J f2)(hd:PEd X c l C r)(he:PEd X c l Y m)
  (hm:OJ [B,y,u] [J,C,Y]=false:=by with_unfolding_all rfl):PEd X c l (.Compare U [B,y,u] [J,C,Y] pos) (ch3 f1 f2 r m g g' g''):=PE.imp (jz9 M G z ha hb hd he hm) λ_ _ _ h=>wa2 h
end
def FnC(P:BX)(w:CN)(K:BW)(q:BP->Option A_)(base:B_)(k:Nat)(x:BP)(ps:List BP)(n:Nat)(m:List D->R D):Prop:=
 ∃(f:BJ)(r:CZ),Cw P w K q base CX0 k f r ps (sp0 K n m)/\q x=some (.ref f)/\W.keepIn K (.ref f)=true/\Binds K r ps []
section
variable {c:DC}{f:Ev->R D}{fs:Ev->R (List D)}{k:Nat}{ps:List BP}{m:List D->R D}
def callC(F:FnC X.prog X.w X.K X.mg X.base k x ps n m)(y:Dd k X.A)(ha:PAd X c l (e::es) fs)(z:(e::es).length=n:=by rfl)(q:ps.length=n:=by rfl)(M:Gl X x:=by rfl)
  (u:Zd x:=by decide)(he:Zs X.env e es:=by rfl)(r:Zp X.env pos es:=by rfl):
  PEd X c l (.Call (.Name x p) (e::es) [] pos) (cl fs m):=by
 revert F;refine Wz λf fd F B G hb=>?_;exact ws8 F y B G hb ha z q M u he r
def PId.up(h:PId X c l tg e fs)(r:l.le l'=true:=by rfl):PId X c l' tg e fs:=PI.imp h λσ H Q ⟨hs,ρ,E,q⟩ =>
 ⟨hs,ρ,E,q.mono (λds q J P H' s T p=>q J P H' s T (T.stab.mono (Ab.refl _) (λ_ z=>Jv E r z) p)) λ_ z=>z⟩
def R6(r:X.mg "tuple" = none)(z:PAd X c l (e::es) fs)(u:Gl X "tuple":=by rfl)(y:Zs X.env e es:=by rfl)(q:Zp X.env pos es:=by rfl):
  PEd X c l (.Call (.Name "tuple" p) (e::es) [] pos) (bA fs M3):=cY kr0 PyProof.Rows.boot_tuple r z u (by decide) (by decide) y q
def int_(r:X.mg "int" = none)(z:PAd X c l (e::es) fs)(u:Gl X "int":=by rfl)(y:Zs X.env e es:=by rfl)(q:Zp X.env pos es:=by rfl):
  PEd X c l (.Call (.Name "int" p) (e::es) [] pos) (bA fs intD):=cY ws4 PyProof.Rows.boot_int r z u (by decide) (by decide) y q
def jF(z:X.calm=true)(r:X.mg "min" = none)(B:PAd X c l (e::es) fs)(u:Gl X "min":=by rfl)(y:Zs X.env e es:=by rfl)(q:Zp X.env pos es:=by rfl):
  PEd X c l (.Call (.Name "min" p) (e::es) [] pos) (bA fs minD):=Xk (ws7 z) PyProof.Rows.boot_min r B u (by decide) (by decide) y q
def jG(z:X.calm=true)(r:X.mg "max" = none)(B:PAd X c l (e::es) fs)(u:Gl X "max":=by rfl)(y:Zs X.env e es:=by rfl)(q:Zp X.env pos es:=by rfl):
  PEd X c l (.Call (.Name "max" p) (e::es) [] pos) (bA fs maxD):=Xk (ws6 z) PyProof.Rows.boot_max r B u (by decide) (by decide) y q
end
def tyN:D->Option String
 | .non=>some "NoneType"
 | .bl _=>some "bool"
 | .int _=>some "int"
 | .str _=>some "str"
 | .tup _=>some "tuple"
 | .lst _=>some "list"
 | .exc _ _ _=>none
def aN(T:String)(t:String):Bool:=t == T || (t == "bool" && T == "int")
def ZG(T:String)(d:D):Option D:=(tyN d).map λt=>.bl (aN T t)
def kv1{T t:String}(m:T∈["int","bool","tuple","list","str"])(ht:t∈["NoneType","bool","int","str","tuple","list"]):W.kitOne K (.type t) (.type T)=some (aN T t):=by simp only[I_,NT,RC,or_false]at m ht;rcases m with rfl |rfl |rfl |rfl |rfl<;>rcases ht with rfl |rfl |rfl |rfl |rfl |rfl<;>rfl
section
variable {S:AS}{Q:A_->BK->Prop}
def ku1{d:D}{u:A_}{T t:String}(I:Inv X pins σ H s)(r:Rep X.K H S d v)(m:RelV v u)(e:tyN d=some t)(k:W.kitOne X.K (.type t) (.type T)=some (aN T t))(h:∀y,Q (.bool (aN T t)) {s with toks:=y}):
  BL (BV X.prog X.w) A (call (.builtin "isinstance") [u,.type T]) Q E s:=by
 cases d with
 |non=>cases e;cases(show v=.non from r);cases(show u=Value.none from m);exact W.kia_one W.kitx_none I.KJ True.intro k (λz=>nomatch z) h
 |bl b=>cases e;cases(show v=.bl b from r);cases(show u=Value.bool b from m);exact W.kia_one W.kitx_bool I.KJ True.intro k (λz=>nomatch z) h
 |int i=>cases e;cases(show v=.int i from r);have⟨y,z⟩:=(show ∃t,u=Value.int i t from m);cases z;exact W.kia_one W.kitx_int I.KJ True.intro k (λz=>nomatch z) h
 |str x=>cases e;cases(show v=.str x from r);have⟨y,z⟩:=(show ∃t,u=Value.str x t from m);cases z;exact W.kia_one W.kitx_str I.KJ True.intro k (λz=>nomatch z) h
 |tup xs=>cases e;revert r;refine Bh λa vs M q _=>?_;obtain rfl:=M;cases(show u=Value.ref a from m);refine Jh (λB _ p _=>?_) (I.tuple (TpR.sq q));revert p;refine Jh λo h1 h2 _=>?_;exact W.kia_one W.kitx_tuple I.KJ ⟨o,h1,h2⟩ k (λz=>nomatch z) h
 |lst xs=>cases e;revert r;refine Bh λa vs G q _=>?_;obtain rfl:=G;cases(show u=Value.ref a from m);refine Jh (λB _ p _=>?_) (I.list q.sq);refine Jh (λo h1 h2 _=>?_) (p.isList);exact W.kia_one W.kitx_list I.KJ ⟨o,h1,h2⟩ k (λz=>nomatch z) h
 |exc _ _ _=>cases e
end
def wa4{d:D}{t:String}(h:tyN d=some t):t∈["NoneType","bool","int","str","tuple","list"]:=by cases d<;>first | (cases h;decide) |cases h
section
variable {c:DC}{f:Ev->R D}{fs:Ev->R (List D)}{m:GP}
def isi(T:String)(x:BP)(hT:T∈["int","bool","tuple","list","str"])(hv:HQ x=some (.type T))(hm:X.mg "isinstance" = none)(ab:X.mg x=none)(ha:PEd X c l e f)(hg:Gl X "isinstance":=by rfl)(ae:Gl X x:=by rfl)(aa:x ≠ "__name__":=by decide)(ag:Zd x:=by decide)
  (he:BR [e,.Name x m] X.env=(false,CP e X.env)::BR [.Name x m] X.env:=by rfl)(af:BR [.Name x m] X.env=(false,CP (.Name x m) X.env)::BR [] X.env:=by rfl)(M:Zp X.env pos [.Name x m]:=by rfl):
  PEd X c .fr (.Call (.Name "isinstance" p) [e,.Name x m] [] pos) (b1 f (ZG T)):=
 PE.imp (vL (r:=λxs H Q=>∃S d v t,xs=[v,.ty T]/\Rep X.K H S d v/\tyN d=some t/\Q (.bl (aN T t)) H) (λpins s σ H xs us Q I r h=>by
   revert h;refine XS λS d v t G rv u q=>?_;obtain rfl:=G;refine Bh (λu1 u2 B y r2=>?_) (r.two);obtain rfl:=B;cases(show u2=Value.type T from r2);exact ku1 I rv y u (kv1 hT (wa4 u)) λtk=>⟨.bl (aN T t),H,I.tok _,rfl,q⟩) hg hm PyProof.Rows.boot_isinstance (Cp ha (Cp (kx4 (v:=.ty T) ae ab hv rfl aa ag) Jf af) he) (by decide) (by decide) he M) λσ H Q q=>by
 revert q;refine Ce λhs ρ E q=>?_;refine Ag (l:=l) E ((RQ.bind.mp q).mono (λd q1 v H1 s1 E1 y=>?_) λ_ z=>z);refine An (λd' Z q2=>?_) (q1.of);unfold ZG at Z;cases u:tyN d with
 |none=>rw[u]at Z;cases Z
 |some t=>rw[u]at Z;cases Z;exact⟨lvS c ρ σ H l,d,v,t,rfl,y,u,q2 _ H1 s1 rfl⟩
def T9:List D->Option (List Bool)
 | []=>some []
 | .bl b::r=>(T9 r).map (b::·)
 |_::_=>none
def YB:List D->Option D
 | [.lst xs]=>(T9 xs).map λbs=>.bl (bs.all id)
 |_=>none
def tL{K:BW}{H:Hp}{S:AS}:∀{ds:List D}{vs:List V}{us:List A_}{bs:List Bool},Ak K H S ds vs->Vals vs us->T9 ds=some bs->us=bs.map Value.bool
 | [],vs,us,bs,h,r,e=>by cases(show vs=[] from h);cases r;cases e;rfl
 |d::ds,vs,us,bs,h,r,e=>by
  revert h;refine Bh λv u q G B=>?_;obtain rfl:=q;cases r with
  |cons z y =>
   cases d with
   |bl b =>
    cases(show v=.bl b from G);cases(show _=Value.bool b from z);have e:(T9 ds).map (b::·)=some bs:=e;cases J:T9 ds with
    |none=>rw[J]at e;cases e
    |some M=>rw[J]at e;cases e;rw[tL B y J];rfl
   |_=>cases e
def wr9(hc:X.calm=true):Ei X (.builtin "all") (rC X.K YB):=by
 rintro pins s σ H xs us Q I r ⟨S,ds,d,rs,e,q⟩;obtain⟨x',rfl⟩:=inv1 e rfl (λx _ _=>by cases x<;>rfl);cases x' with
 |lst ys =>
  obtain⟨v,rfl,a,vs,rfl,ha,rr⟩:=rs.one;have e:(T9 ys).map (λbs=>D.bl (bs.all id))=some d:=e;cases eb:T9 ys with
  |none=>rw[eb]at e;cases e
  |some bs =>
   rw[eb]at e;cases e;obtain⟨u,rfl,ru⟩:=vals1 r;cases ru;have⟨B,rv,pl,hz⟩:=I.list ha.sq;have ei:=tL rr rv eb;have hl:=pl.isList;have M:a<s.heap.objs.size:=by obtain⟨_,z,_⟩:=hl;exact HD z
   refine call_all_walk (JB hl ?_);refine⟨s.heap.objs.size,[s.heap.objs.size,a],[s.heap.objs.size],B.toArray.size,_,_,λi=>(bs[i]?).getD true,rfl,Walks.list (A:=X.A.in1) (I.ok.hd hc) _ a (NK M) B.toArray,
    ⟨⟨_,NP _ rfl,rfl,rfl⟩,hl.push _⟩,λi v s' Q' E' hP hQ=>?_,λh' tk hk=>?_⟩
   ·have y:B[i]? = some v:=by simpa using hP
    rw[ei,QC]at y;cases eg:bs[i]? with
    |none=>rw[eg]at y;cases y
    |some b=>rw[eg]at y;cases y;simp only[eg,h_]at hQ;exact DR hQ
   ·have e:((List.range B.toArray.size).all λi=>(bs[i]?).getD true)=bs.all id:=by
     rw[O_,ei,HN];rw[bI];simp only[SN,dF,id];constructor
     ·intro h b hb;have⟨i,G,e⟩:=List.mem_iff_getElem.mp hb;have:=h i G;rw[MJ G,h_,e]at this;exact this
     ·intro h i G;rw[MJ G,h_];exact h _ (dJ G)
    rw[e];exact⟨.bl _,H,I.kept (λb x z=>hk b x (λhm=>by rw[NT.mp hm]at z;exact QL _ (HD z)) (JK _ z)),rfl,q _ H (Ab.refl _) rfl⟩
 |_=>exact nos e
def fQ(z:X.calm=true)(r:X.mg "all" = none)(B:PAd X c l (e::es) fs)(u:Gl X "all":=by rfl)(y:Zs X.env e es:=by rfl)(q:Zp X.env pos es:=by rfl):
  PEd X c l (.Call (.Name "all" p) (e::es) [] pos) (bA fs YB):=Xk (wr9 z) PyProof.Rows.boot_all r B u (by decide) (by decide) y q
def Uk:∀xs d,YB xs=some d->d.imm=true:=λxs d h=>by
 obtain⟨q,rfl⟩:=inv1 h rfl (λx _ _=>by cases x<;>rfl);cases q with
 |lst ys =>
  have h:(T9 ys).map (λbs=>D.bl (bs.all id))=some d:=h;cases e:T9 ys with
  |none=>rw[e]at h;cases h
  |some bs=>rw[e]at h;cases h;rfl
 |_=>exact nos h
end
variable {t':Nat}
section
variable {h':B_}
def Kg(I:Inv X pins σ H s)(M:∀b∈fp,Lz X pins H b)(k:∀b o,b∉fp->s.heap.get? b=some o->h'.get? b=some o):Inv X pins σ H {s with heap:=h',toks:=t'}:=by
 refine I.step (g':=s.gens) (d':=s.drawn) (ch:=fp) (λb hb=>?_) (λb o _ _ B e _=>k b o B e) (λb o _ _ B e _=>⟨o.slots,k b o B e⟩) (λ_ _ _ _ n=>n)
  (λb o B e=>⟨o,k b o B e⟩) (λ_ _ e=>e) (λ_ _ _ e=>e) (λb ps e=>⟨#[],by rw[e];simp⟩) (λm hm=>?_) (λb u e=>?_) I.bare
 ·refine pJ (λf0 f1 f2 f3 f4 f5=>?_) (M b hb);exact⟨f3,f1,f4,f5⟩
 ·revert hm;refine ZK λo es ep ho r=>?_;exact⟨o,es,ep,k _ o (λz=>(M _ z).2.1 rfl) ho,r⟩
 ·refine(I.hok b u e).stay (λc v B q=>k c v (λz=>?_) q) (λ_ q=>q) λ_ _ q=>q;have G:=(M c z).1;rcases B with y |y
  ·rw[y,e]at G;cases G
  ·rw[y]at G;cases G
def Jc{a:BJ}{ob:HO}(I:Inv X pins σ H s)(hf:∀b∈fp,Lz X pins H b)(k:∀b o,b∉fp->s.heap.get? b=some o->h'.get? b=some o)(hp:s.heap.objs.size<=a)(new:Cj X.prog X.w (upd H a ob) h' a ob):
  Inv X pins σ (upd H a ob) {s with heap:=h',toks:=t'}:=by
 have B:H a=none:=I.hok.fresh hp;have ne:∀{b:BJ}{o:GD},s.heap.get? b=some o->b≠a:=λe z=>by have:=HD e;rw[z]at this;exact absurd (NZ this hp) (QL _)
 refine I.step (g':=s.gens) (d':=s.drawn) (ch:=fp) (λb M=>?_) (λb o _ _ G e _=>k b o G e) (λb o _ _ G e _=>⟨o.slots,k b o G e⟩) (λb o _ e n=>by rw[Ac (ne e)];exact n)
  (λb o G e=>⟨o,k b o G e⟩) (λb xs e=>by rw[Ac (Aw e B)];exact e) (λb o u e=>by rw[Ac (Aw e B)];exact e) (λb ps e=>⟨#[],by rw[Ac (Aw e B),e];simp⟩) (λm hm=>?_) (λb u e=>?_) I.bare
 ·refine pJ (λf0 f1 f2 f3 f4 f5=>?_) (hf b M);exact⟨f3,f1,f4,f5⟩
 ·revert hm;refine ZK λo es ep ho r=>?_;exact⟨o,es,ep,k _ o (λz=>(hf _ z).2.1 rfl) ho,r⟩
 ·by_cases M:b=a
  ·subst M;rw[Af]at e;cases e;exact new
  ·rw[Ac M]at e;refine(I.hok b u e).stay (λc v G q=>k c v (λz=>?_) q) (λc q=>by rw[Ac (Aw q B)];exact q) λc xs q=>by rw[Ac (Aw q B)];exact q
   have B:=(hf c z).1;rcases G with y |y
   ·rw[y,e]at B;cases B
   ·rw[y]at B;cases B
end
def Iel(K:BW)(a:BJ):It:=
 ⟨λi H=>∃xs x,SqL K H a xs/\xs[i]? = some x,λi H x H'=>∃t v,x=.ref t/\H t=none/\H'=upd H t (.tup [.int (i:Int),v])/\∀xs,SqL K H a xs->xs[i]? = some v,λi H=>∃xs,SqL K H a xs/\xs.length<=i⟩
theorem kb6{P:BX}{elts:List BZ}{k:Nat}(a e it:BJ)(hne:e≠it):
  Turn P w K (.Tuple elts k pos) (Iel K a) [e,it] e (λi h=>(∃old,iV h e it (i:Int) old)/\h.IsListIter it a i) where
 mem:=by simp
 obj:=λi h st b hb=>by
  obtain⟨⟨old,he⟩,o,ho,hc,hd⟩:=st;have hb':b=e\/b=it:=by simpa using hb
  rcases hb' with rfl |rfl
  ·exact⟨_,he,λv z=>by cases z⟩
  ·exact⟨o,ho,λv z=>by rw[hd]at z;cases z⟩
 keep:=λi h h' st kp=>⟨st.1.imp λold he=>kp e (by simp) _ he,st.2.at λo q=>kp it (by simp) o q⟩
 item:=by
  intro X hP hw hK hc i pins s σ H E I hf st hg;subst hP hw hK;obtain⟨xs,x,hq,hx⟩:=hg;have⟨its,rv,p,hz⟩:=I.list hq;have⟨u,hu,ru⟩:=rv.get hx;obtain⟨⟨old,he⟩,hit⟩:=st;refine wpAny_pyNext_enum_item he hit p.isList (x:=u) (by simpa using hu) hne λh1 heo hit1 ht1 hz1 hk1=>⟨_,rfl,?_⟩;refine RG heo λh2 he2 hs2=>?_;have hT:s.heap.objs.size≠e:=VM (HD he);have ht2:h2.get? s.heap.objs.size=some {cls:=.type "tuple",data:=.seq #[.int i s.toks,u] }:=(hs2.2 _ hT).trans ht1;have I2:Inv X pins σ (upd H s.heap.objs.size (.tup [.int (i:Int),x])) {s with heap:=h2,toks:=s.toks+1}:=
   Jc (t':=s.toks+1) I hf (λb o hb q=>by
    have hb':b≠e/\b≠it:=by simpa using hb
    exact(hs2.2 b hb'.1).trans (hk1 b o hb'.1 hb'.2 q)) (H_ _)
    (show Cj X.prog X.w _ h2 _ (.tup [.int (i:Int),x]) from⟨by show 2<=sizeLine;rw[CT];lia,[.int i s.toks,u],.cons ⟨_,rfl⟩ (.cons ru .nil),⟨_,ht2,rfl,_,rfl⟩⟩)
  refine⟨.ref s.heap.objs.size,_,I2,rfl,⟨_,x,rfl,I.hok.fresh (H_ _),rfl,λys hy=>by rw[I.list_inj hy hq];exact hx⟩,⟨⟨u,by simpa using he2⟩,?_⟩,λb hb=>?_⟩
  ·exact hit1.at λo q=>(hs2.2 it (Ne.symm hne)).trans q
  ·have hlt:b<s.heap.objs.size:=by
    have⟨oi,hoi,_⟩:=id hit;have hb':b=e\/b=it:=by simpa using hb
    rcases hb' with rfl |rfl
    ·exact HD he
    ·exact HD hoi
   rw[Ac (NK hlt)];exact(hf b hb).1
 done:=by intro X hP hw hK hc i pins s σ H E I hf st hg;subst hP hw hK;obtain⟨xs,hq,hx⟩:=hg;have⟨its,rv,p,hz⟩:=I.list hq;obtain⟨⟨old,he⟩,hit⟩:=st;have hl:=rv.length;exact wpAny_pyNext_enum_end (I.ok.hd hc) he hit p.isList (by simp;lia) λh' eb=>⟨rfl,Kg (t':=s.toks) I hf λb o hb q=>eb b o (λz=>hb (by simp[z])) q⟩
 self:=λA i s Q E st h=>by obtain⟨⟨old,he⟩,_⟩:=st;exact KR he h
def Lh(ds:List D):List D:=(List.range ds.length).zipWith (λ(i:Nat) d=>.tup [.int (i:Int),d]) ds
def Nf(ds:List D):(Lh ds).length=ds.length:=by simp[Lh]
def Xw{d:D}(h:(Lh ds)[i]? = some d):∃e,ds[i]? = some e/\d=.tup [.int (i:Int),e]:=by
 unfold Lh at h;rw[List.getElem?_zipWith]at h;cases U:(List.range ds.length)[i]? with
 |none=>rw[U]at h;cases h
 |some j =>
  cases J:ds[i]? with
  |none=>rw[U,J]at h;cases h
  |some e=>rw[U,J]at h;cases h;have:=(MT.mp U);obtain⟨q,m⟩:=this;simp at m;subst m;exact⟨e,rfl,rfl⟩
def kh0{a:BJ}:ItD K (Iel K a) (Lh ds) λH S=>LsR K H S a vs/\Ak K H S ds vs where
 stab:=Wi
 go:=λi H S hi h=>by rw[Nf]at hi;refine An (λv hv _=>?_) (h.2.get (MJ hi));exact⟨vs,v,h.1.sq,hv⟩
 yld:=λi H S x H' h y=>by revert y;refine Wz λt v hz5 ht hz6 y=>?_;obtain rfl:=hz5;obtain rfl:=hz6;refine⟨Ao ht _,λd hd=>?_⟩;refine An (λe he hz7=>?_) (Xw hd);obtain rfl:=hz7;refine An (λw hw rw'=>?_) (h.2.get he);have ev:v=w:=Option.some.inj ((y vs h.1.sq).symm.trans hw);subst ev;exact⟨t,_,rfl,TpR.of Af,.int (i:Int),[v],rfl,rfl,v,[],rfl,rw'.mono (Ao ht _) (λ_ z=>z),rfl⟩
 stop:=λi H S hi h=>⟨vs,h.1.sq,by rw[<-h.2.length];rw[Nf]at hi;exact hi⟩
open PySem PySem.Spec PyProof.Rows L2 PySem.W
def Gf:List D->Option (List Int)
 | []=>some []
 | .int i::r=>(Gf r).map (i::·)
 |_::_=>none
section
variable {a:BJ}
def kt8{vs:List A_}{m:List Int}(h:PL vs m)(q:i<vs.length):∃t,vs.getD i .none=.int (m.getD i 0) t:=by have⟨t,e⟩:=IntsAre.int_at h i vs[i] (MJ q);exact⟨t,by rw[<-e];simp[q]⟩
end
def ints_of{K:BW}{H:Hp}{S:AS}:∀{ds:List D}{vs:List V}{us:List A_}{m:List Int},Ak K H S ds vs->Vals vs us->Gf ds=some m->PL us m
 | [],vs,us,m,h,r,e=>by cases(show vs=[] from h);cases r;cases e;exact .nil
 |d::ds,vs,us,m,h,r,e=>by
  revert h;refine Bh λv u q G B=>?_;obtain rfl:=q;cases r with
  |cons z y =>
   cases d with
   |int i =>
    cases(show v=.int i from G);have⟨t,U⟩:=(show ∃t,_=Value.int i t from z);subst U;cases J:Gf ds with
    |none=>simp[Gf,J]at e
    |some M=>simp[Gf,J]at e;subst e;exact .cons i t (ints_of B y J)
   |_=>cases e
def X5:∀{xs:List D}{m:List Int},Gf xs=some m->m.length=xs.length
 | [],m,h=>by cases h;rfl
 |d::xs,m,h=>by
  cases d with
  |int i =>
   cases e:Gf xs with
   |none=>simp[Gf,e]at h
   |some q=>simp[Gf,e]at h;subst h;simp[X5 e]
  |_=>cases h
def Yj{K:BW}{H:Hp}{S:AS}:∀q:List Int,Ak K H S (q.map .int) (q.map V.int)
 | []=>Ak.nil
 |m::q=>.cons rfl (Yj q)
variable {r:Ev}{o0 o1 o2 o3 o4 o5 o6:Option D}
section
variable {f f1 f2 B z:Ev->R D}{fs:Ev->R (List D)}{m y:Ev->R Fl}{t u q:Ev->R Bool}
@[simp] def J3{g:D->D->Option D}:b2 f1 f2 g ρ=(f1 ρ).bind λx=>(f2 ρ).bind λy=>R.of (g x y):=nr rfl
@[simp] def yj7{g:D->Option D}:b1 f g ρ=(f ρ).bind λx=>R.of (g x):=nr rfl
@[simp] def Ji{d:D}:kd d ρ=.ok d:=nr rfl
@[simp] def pG:a0 ρ=.ok []:=nr rfl
@[simp] def Dp:zv f fs ρ=(f ρ).bind λx=>(fs ρ).bind λxs=>.ok (x::xs):=nr rfl
@[simp] def Rk{g:List D->Option D}:bA fs g ρ=(fs ρ).bind λxs=>R.of (g xs):=nr rfl
@[simp] def b_:sq m y ρ=(m ρ).bind λM=>match M with | .nx G=>y G |o=>.ok o:=nr rfl
@[simp] def wu0:asg i f ρ=(f ρ).bind λd=>.ok (.nx (ρ.set i (some d))):=nr rfl
@[simp] def mF:Ew f ρ=(f ρ).bind λd=>.ok (.rt d):=nr rfl
@[simp] def qT:ifS t m y ρ=(t ρ).bind λk=>if k then m ρ else y ρ:=nr rfl
@[simp] def gF:drp f ρ=(f ρ).bind λ_=>.ok (.nx ρ):=nr rfl
@[simp] def jP:tt f ρ=(f ρ).bind λd=>R.of (eG d):=nr rfl
@[simp] def Vb:tb f ρ=(f ρ).bind λd=>R.of (Vk d):=nr rfl
@[simp] def Zg:nt t ρ=(t ρ).bind λk=>.ok (!k):=nr rfl
@[simp] def Va:tan u q ρ=(u ρ).bind λk=>if k then q ρ else .ok false:=nr rfl
@[simp] def wu7:tor u q ρ=(u ρ).bind λk=>if k then .ok true else q ρ:=nr rfl
@[simp] def yk3:va f1 f2 ρ=(f1 ρ).bind λd=>(R.of (Vk d)).bind λk=>if k then f2 ρ else .ok (.bl false):=nr rfl
@[simp] def yk4:vo f1 f2 ρ=(f1 ρ).bind λd=>(R.of (Vk d)).bind λk=>if k then .ok (.bl true) else f2 ρ:=nr rfl
@[simp] def cW:ife t f1 f2 ρ=(t ρ).bind λk=>if k then f1 ρ else f2 ρ:=nr rfl
@[simp] def ZJ{m:List D->R D}:cl fs m ρ=(fs ρ).bind λds=>(m ds).nox:=nr rfl
@[simp] def yj1:itS f ρ=(f ρ).bind λd=>R.of (Lx d):=nr rfl
@[simp] def qQ{h:List D->Option (List D)}:itR h fs ρ=(fs ρ).bind λxs=>R.of (h xs):=nr rfl
@[simp] def wh2{g:D->Ev->R Ev}:jM it g m ρ=(it ρ).bind λds=>Bu ds g m ρ:=nr rfl
@[simp] def pA:p0 ρ=.ok none:=nr rfl
@[simp] def o_:p1 f ρ=(f ρ).bind λd=>R.of (isI d):=nr rfl
@[simp] def pF{G M:Ev->R (Option Int)}{g:D->Option Int->Option Int->Option D}:bS f G M g ρ=(f ρ).bind λx=>(G ρ).bind λi=>(M ρ).bind λj=>R.of (g x i j):=nr rfl
@[simp] def ye1{g:D->Ev->R Ev}:pM g f ρ=(f ρ).bind λd=>(g d ρ).bind λG=>.ok (.nx G):=nr rfl
@[simp] def cB{d:D}:gN i d ρ=.ok (ρ.set i (some d)):=nr rfl
@[simp] def yj8:gT F (.tup ds) ρ=Fy F ds ρ:=nr rfl
@[simp] def yc9:Fy [] [] ρ=.ok ρ:=nr rfl
@[simp] def yd0{d:D}:Fy (i::F) (d::ds) ρ=Fy F ds (ρ.set i (some d)):=nr rfl
@[simp] def gv0{d:D}:gv 0 (some d::r)=.ok d:=nr rfl
@[simp] def XR{d:D}:gv 1 (o0::some d::r)=.ok d:=nr rfl
@[simp] def oZ{d:D}:gv 2 (o0::o1::some d::r)=.ok d:=nr rfl
@[simp] def aO{d:D}:gv 3 (o0::o1::o2::some d::r)=.ok d:=nr rfl
@[simp] def yk5{d:D}:gv 4 (o0::o1::o2::o3::some d::r)=.ok d:=nr rfl
@[simp] def oY{d:D}:gv 5 (o0::o1::o2::o3::o4::some d::r)=.ok d:=nr rfl
@[simp] def yk6{d:D}:gv 6 (o0::o1::o2::o3::o4::o5::some d::r)=.ok d:=nr rfl
@[simp] def yk7{d:D}:gv 7 (o0::o1::o2::o3::o4::o5::o6::some d::r)=.ok d:=nr rfl
@[simp] def yk8{o7:Option D}{d:D}:gv 8 (o0::o1::o2::o3::o4::o5::o6::o7::some d::r)=.ok d:=nr rfl
def kO{x:D}(h:ρ[i]? = some (some (.lst ds)))(M:f ρ=.ok x)(G:ds.length<16777216):ZL i f ρ=.ok (.nx (ρ.set i (some (.lst (ds++[x]))))):=by unfold ZL;rw[h];simp[M,G]
@[simp] def mK{a b:Int}:Bj (.int a) (.int b)=some (.int (a+b)):=nr rfl
@[simp] def yj3{a b:Int}:ZF (.int a) (.int b)=some (.int (a - b)):=nr rfl
@[simp] def yk2{a b:Int}:ltD (.int a) (.int b)=some (.bl (decide (a<b))):=nr rfl
@[simp] def yk1{a b:Int}:leD (.int a) (.int b)=some (.bl (decide (a<=b))):=nr rfl
@[simp] def yk0{a b:Int}:gtD (.int a) (.int b)=some (.bl (decide (b<a))):=nr rfl
@[simp] def yj9{a b:Int}:geD (.int a) (.int b)=some (.bl (decide (b<=a))):=nr rfl
@[simp] def ye2{k:Bool}:Vk (.bl k)=some k:=nr rfl
@[simp] def qR{a:Int}:isI (.int a)=some (some a):=nr rfl
@[simp] def ye8{k:Bool}:eG (.bl k)=some k:=nr rfl
@[simp] def wh4:Eh [.lst xs]=some (.int xs.length):=nr rfl
@[simp] def ye3:Eh [.tup xs]=some (.int xs.length):=nr rfl
@[simp] def ye6:Lx (.lst xs)=some xs:=nr rfl
@[simp] def ye7:Lx (.tup xs)=some xs:=nr rfl
@[simp] def wu8:M3 [.lst xs]=some (.tup xs):=nr rfl
@[simp] theorem ye5{a b:Int}:minD [.int a,.int b]=some (.int (min a b)):=by show some (D.int (if b<a then b else a))=_;congr 2;split<;>lia
@[simp] theorem ye4{a b:Int}:maxD [.int a,.int b]=some (.int (max a b)):=by show some (D.int (if b>a then b else a))=_;congr 2;split<;>lia
@[simp] def G8:Be n m ds=aU (m (Aa n ds)):=nr rfl
@[simp] def Rm:aU (.ok (.nx ρ))=.ok .non:=nr rfl
end
variable {g2:Ev->R Fl}
def Ad{I:Ev->R Fl}{ρ1:Ev}{r:R Fl}(h:I ρ=.ok (.nx ρ1))(m:g2 ρ1=r):sq I g2 ρ=r:=by rw[b_,h];exact m
def Jg{I:Ev->R Fl}{d:D}(h:I ρ=.ok (.rt d)):sq I g2 ρ=.ok (.rt d):=by rw[b_,h];rfl
def Ai{d:D}(h:f ρ=.ok d):asg i f ρ=.ok (.nx (ρ.set i (some d))):=by rw[wu0,h];rfl
def Am{d:D}(h:f ρ=.ok d):Ew f ρ=.ok (.rt d):=by rw[mF,h];rfl
def Fe{I:Ev->R Fl}(h:t ρ=.ok true):ifS t I g2 ρ=I ρ:=by rw[qT,h];rfl
def Bm{I:Ev->R Fl}(h:t ρ=.ok false):ifS t I g2 ρ=g2 ρ:=by rw[qT,h];rfl
def Jb{g:D->Ev->R Ev}{b:Ev->R Fl}{r:R Fl}(h:it ρ=.ok ds)(m:Bu ds g b ρ=r):jM it g b ρ=r:=by rw[wh2,h];exact m
def Av{g:Ev->R Fl}{d:D}(h:g (Aa n ds)=.ok (.rt d)):Be n g ds=.ok d:=by rw[G8,h];rfl
def K7{a b:Int}(h:0<b)(m:b<4611686018427387904):Fo (.int a) (.int b)=some (.int (a / b)):=by show(if _ then _ else _)=_;rw[if_pos ⟨h,m⟩]
def Lg{a b:Int}(h:0<b):Hc (.int a) (.int b)=some (.int (a % b)):=by show(if _ then _ else _)=_;rw[if_pos h]
def wh5{a b:Int}(h:-(2 ^ 64)<a)(m:a<2 ^ 64):W6 (.int a) (.int b)=some (.int (a * b)):=by show(if _ then _ else _)=_;rw[if_pos (.inl ⟨h,m⟩)]
def Ze{ys:List D}(h:xs.length+ys.length<=16777216):Bj (.tup xs) (.tup ys)=some (.tup (xs++ys)):=by show(if _ then _ else _)=_;rw[if_pos h]
def mJ{ys:List D}(h:xs.length+ys.length<=16777216):Bj (.lst xs) (.lst ys)=some (.lst (xs++ys)):=by show(if _ then _ else _)=_;rw[if_pos h]
def Ep(h:xs.length<=16777216):Dk xs=some (.tup xs):=by unfold Dk;rw[if_pos h]
def Qk(h:xs.length<=16777216):Q3 xs=some (.lst xs):=by unfold Q3;rw[if_pos h]
theorem cV{d:D}(h:xs[i]? = some d):ixD (.tup xs) (.int (i:Int))=some d:=by have m:i<xs.length:=(MT.mp h).1;show atI xs (i:Int)=some d;unfold L2.atI L2.ixN;rw[if_pos (by lia),if_pos (by lia)];simpa using h
theorem S5{d:D}(h:xs[i]? = some d):ixD (.lst xs) (.int (i:Int))=some d:=by have m:i<xs.length:=(MT.mp h).1;show atI xs (i:Int)=some d;unfold L2.atI L2.ixN;rw[if_pos (by lia),if_pos (by lia)];simpa using h
@[simp] def Bp{x:D}:ixD (.tup (x::xs)) (.int 0)=some x:=cV (i:=0) rfl
variable {y:D}
@[simp] def Ds{x:D}:ixD (.tup (x::y::xs)) (.int 1)=some y:=cV (i:=1) rfl
@[simp] def Ro{x:D}:ixD (.lst (x::xs)) (.int 0)=some x:=S5 (i:=0) rfl
@[simp] def mH{x:D}:ixD (.lst (x::y::xs)) (.int 1)=some y:=S5 (i:=1) rfl
def wu6{a b:Int}(h:0<=b/\b<=1000000/\a.natAbs<2 ^ 64):aL (.int a) (.int b)=some (.int (a ^ b.toNat)):=by dsimp only[aL];rw[if_pos h]
def Lj(l:List Nat):List D:=l.map λ(x:Nat)=>.int (x:Int)
def Yg(l:List Nat):(Lj l).length=l.length:=by simp[Lj]
def Ye{l:List Nat}:(Lj l)[i]? = (l[i]?).map λ(x:Nat)=>D.int (x:Int):=by simp[Lj]
theorem mD(h:n<2 ^ 62):cL [.int (n:Int)]=some (Lj (List.range n)):=by
 have m:-(2 ^ 62)<=(n:Int)/\(n:Int)<2 ^ 62:=by lia
 dsimp only[cL];rw[if_pos m,VP];simp[Lj]
theorem Mt{g:D->Ev->R Ev}{b:Ev->R Fl}(I:Nat->Ev->Prop):∀(ds:List D)(k:Nat)(ρ:Ev),I k ρ->(∀i d ρ,ds[i]? = some d->I (k+i) ρ->∃q m,g d ρ=.ok q/\(b q=.ok (.nx m)\/b q=.ok (.ct m))/\I (k+i+1) m) ->
  ∃u,Bu ds g b ρ=.ok (.nx u)/\I (k+ds.length) u
 | [],k,ρ,h,_=>⟨ρ,rfl,h⟩
 |d::ds,k,ρ,h,st=>by
  refine Bh (λq m U J M=>?_) (st 0 d ρ rfl h);obtain⟨u,C,G⟩:=Mt I ds (k+1) m M λi d ρ B z=>by have:=st (i+1) d ρ (by simpa using B) (by rw[show k+(i+1)=k+1+i by lia];exact z);rwa [show k+(i+1)+1=k+1+i+1 by lia]at this
  refine⟨u,?_,by rw[L_,show k+(ds.length+1)=k+1+ds.length by lia];exact G⟩;rw[Bu,U];rcases J with J |J<;>simp[J,C]
def Fj{g:D->Ev->R Ev}(h1:it ρ=.ok ds)(q:Dl g t f (Lr n caps ρ) ds=.ok xs)(m:xs.length<=16777216):Dc it n caps g t f ρ=.ok (.lst xs):=by unfold Dc;simp[h1,q,m,R.nox]
mutual
def D.pl:Nat->D->Bool
 |_,.int _=>true
 |_,.non=>true
 |n,.tup xs=>match n with |0=>false |n+1=>Kl n xs
 |n,.lst xs=>match n with |0=>false |n+1=>Kl n xs
 |_,_=>false
def Kl:Nat->List D->Bool
 |_,[]=>true
 |n,d::ds=>d.pl n && Kl n ds
end
mutual
theorem uQ:∀(n:Nat)(x y:D),x.pl n=true->y.pl n=true->(PyData.eqv x.py y.py=true↔x=y)
 |n,.int i,.int j,_,_=>by simp[D.py,PyData.eqv]
 |n,.int i,.non,_,_=>by simp[D.py,PyData.eqv]
 |n,.non,.int j,_,_=>by simp[D.py,PyData.eqv]
 |n,.non,.non,_,_=>by simp[D.py,PyData.eqv]
 |n,.int i,.tup ys,_,_=>by simp[D.py,PyData.eqv]
 |n,.int i,.lst ys,_,_=>by simp[D.py,PyData.eqv]
 |n,.non,.tup ys,_,_=>by simp[D.py,PyData.eqv]
 |n,.non,.lst ys,_,_=>by simp[D.py,PyData.eqv]
 |n,.tup xs,.int j,_,_=>by simp[D.py,PyData.eqv]
 |n,.tup xs,.non,_,_=>by simp[D.py,PyData.eqv]
 |n,.tup xs,.lst ys,_,_=>by simp[D.py,PyData.eqv]
 |n,.lst xs,.int j,_,_=>by simp[D.py,PyData.eqv]
 |n,.lst xs,.non,_,_=>by simp[D.py,PyData.eqv]
 |n,.lst xs,.tup ys,_,_=>by simp[D.py,PyData.eqv]
 |0,.tup xs,.tup ys,h,_=>by simp[D.pl]at h
 |0,.lst xs,.lst ys,h,_=>by simp[D.pl]at h
 |n+1,.tup xs,.tup ys,z,u=>by
  have q:Kl n xs=true:=by simpa[D.pl] using z
  have m:Kl n ys=true:=by simpa[D.pl] using u
  simp only[D.py,PyData.eqv,D.tup.injEq];exact Ou n xs ys q m
 |n+1,.lst xs,.lst ys,z,u=>by
  have q:Kl n xs=true:=by simpa[D.pl] using z
  have m:Kl n ys=true:=by simpa[D.pl] using u
  simp only[D.py,PyData.eqv,D.lst.injEq];exact Ou n xs ys q m
 |n,.bl _,_,h,_=>by simp[D.pl]at h
 |n,.str _,_,h,_=>by simp[D.pl]at h
 |n,.exc _ _ _,_,h,_=>by simp[D.pl]at h
 |n,_,.bl _,_,h=>by simp[D.pl]at h
 |n,_,.str _,_,h=>by simp[D.pl]at h
 |n,_,.exc _ _ _,_,h=>by simp[D.pl]at h
theorem Ou:∀(n:Nat)(xs ys:List D),Kl n xs=true->Kl n ys=true->(PyData.eqvAll (Fx xs) (Fx ys)=true↔xs=ys)
 |n,[],[],_,_=>by simp[Fx,PyData.eqvAll]
 |n,[],y::ys,_,_=>by simp[Fx,PyData.eqvAll]
 |n,x::xs,[],_,_=>by simp[Fx,PyData.eqvAll]
 |n,x::xs,y::ys,z,u=>by
  have q:x.pl n=true/\Kl n xs=true:=by simpa[Kl] using z
  have m:y.pl n=true/\Kl n ys=true:=by simpa[Kl] using u
  simp only[Fx,PyData.eqvAll,KN,List.cons.injEq];rw[uQ n x y q.1 m.1,Ou n xs ys q.2 m.2]
end
def D.eqb_true{x:D}(q:x.pl n=true)(m:y.pl n=true):x.eqb y=true↔x=y:=uQ n x y q m
@[simp] def yj0{a b:Int}:eqD (.int a) (.int b)=some (.bl (decide (a=b))):=by
 show(if _ then _ else _)=_;rw[if_pos (by simp[D.cok])];have e:(D.int a).eqb (D.int b)=decide (a=b):=by rw[bI,D.eqb_true (n:=0) rfl rfl,decide_eq_true_eq,D.int.injEq]
 rw[e]
@[simp] def yj2{a b:Int}:neD (.int a) (.int b)=some (.bl (decide (a≠b))):=by
 show(if _ then _ else _)=_;rw[if_pos (by simp[D.cok])];have e:(!(D.int a).eqb (D.int b))=decide (a≠b):=by rw[bI,dN,decide_eq_true_eq,<-Bool.not_eq_true,D.eqb_true (n:=0) rfl rfl,D.int.injEq]
 rw[e]
def uU:∀bs:List Bool,T9 (bs.map .bl)=some bs
 | []=>rfl
 |b::bs=>by rw[KH,T9,uU bs];rfl
def tM(bs:List Bool):YB [.lst (bs.map .bl)]=some (.bl (bs.all id)):=by show(T9 (bs.map .bl)).map _=_;rw[uU];rfl
section
variable {c:DC}{apos u:GP}{G:Ev->R (List D)}{g:D->Ev->R Ev}{t:Ev->R Bool}{f:Ev->R D}
def kb0(i:Nat)(nd:X.N.Nodup)(ak:Mh scope X.env.scope X.N caps=true)(hc:X.calm=true)(hi:PId X c l tg L G)
  (hg:∀(C:BJ)(s:BK)(H:Hp)(ex:List BJ)(H0:Hp)(S0:AS)(Z:List BJ),Tb c.H0 H0->PGd (cxB X (En X T caps) scope C s H ex) ⟨H0,S0,[],Dt,Z⟩ tg g)
  (ht:∀(C:BJ)(s:BK)(H:Hp)(ex:List BJ)(H0:Hp)(S0:AS)(Z:List BJ),Tb c.H0 H0->TsD (cxB X (En X T caps) scope C s H ex) ⟨H0,S0,[],Dt,Z⟩ ifs t)
  (he:∀(C:BJ)(s:BK)(H:Hp)(ex:List BJ)(H0:Hp)(S0:AS)(Z:List BJ),Tb c.H0 H0->PEd (cxB X (En X T caps) scope C s H ex) ⟨H0,S0,[],Dt,Z⟩ .any elt f)
  (aj:∀d ρ aa,g d ρ=.ok aa->aa.length=ρ.length/\∀i,T.length<=i->aa[i]? = ρ[i]?)(ae:Qa c.O l caps=true)(hs:∀x,DY L X.env x=pure x)
  (hN:X.N[i]? = some x)(hx:Loc X.env.scope x)(af:CW (.ListComp elt [⟨tg,L,ifs,0⟩] scope pos) (some (.Name x u)) apos.line X.env=pure true)(hf:X.fn x=true\/X.env.scope.names.lookup x=some .local)
  {D:Ends}(I:Inv X pins σ H s)(E:Al X.K c hs' ρ σ H)
  (q:RQ (Dc G T.length caps g t f ρ) (λd=>∀a vs ds H',d=.lst ds->Ab H H'->H a=none->H' a=some (.lst vs)->Ak X.K H' (AS.but (lvS c ρ σ H l) a) ds vs->D.nx (σ.set i (some (.ref a))) H') (λe=>∀v H',Ab H H'->Rep X.K H' (lvS c ρ σ H .any) e v->c.Ex e v H')):
  BL (BV X.prog X.w) X.A (exec (.Assign [.Name x u] (.ListComp elt [⟨tg,L,ifs,0⟩] scope pos) apos) X.env) (SP X pins D) X.xe s:=by
 have B:Hk X scope T caps:=.of ak;rw[exec_Assign_Name_used x u _ apos af];refine CK (GC (CK ?_));rw[arm_evalThenUse_ListComp];refine CK ?_;show BL (BV X.prog X.w) X.A (PX (.ListComp elt [⟨tg,L,ifs,0⟩] scope pos) scope X.env (UG [⟨tg,L,ifs,0⟩] pos) (Y_ []) false (CP L X.env) (some (RM (.Name x u) X.env))) _ _ _;have q:=RQ.bind.mp q;cases M:G ρ with
 |ok ds =>
  rw[M]at q;refine An (λd ed q=>?_) (RQ.nox q);refine An (λxs ex ed=>?_) (Ba ed);by_cases hz:xs.length<=16777216
  ·rw[if_pos hz]at ed;cases ed;refine Xn B hc hi hg ht he aj ae hs I E M ex hz λa vs s3 s' H3 H' fp aq I3 f3 J sm Ha hv r=>?_;have I1:Inv X pins σ H' s':=I3.call' (ch:=fp) J.os J.base J.hok J.bare λb hb=>⟨(f3 b hb).2.2.2.1,(f3 b hb).2.1,(f3 b hb).2.2.2.2.1,(f3 b hb).2.2.2.2.2⟩;have F:=I3.fpOk (H':=H') (H_ s3.heap.objs.size) J.free;refine YT ?_
   ·refine Yp (v:=.ref a) I1 nd hN hx rfl (λab I2 ag=>?_) hf;revert ag;refine An λb sb hb=>?_;refine An (λm hn _=>?_) (J.loc);have ah:s3.heap.objs.size≠b:=by
     rcases hb with rfl |hb
     ·exact F.2.1
     ·exact(F.2.2.2.2.1 x b hb).symm
    have ai:ab.heap.Ns s3.heap.objs.size m:=by revert hn;refine ZK λo es ep ho rr=>?_;exact⟨o,es,ep,(sb.2 _ ah).trans ho,rr⟩
    refine⟨m,ai,λh' ao=>?_⟩;refine FZ (FZ ⟨σ.set i (some (.ref a)),H',?_,q a vs xs H' rfl sm Ha hv r⟩);exact I2.turned (t':=ab.toks) (h':=h') (it:=s3.heap.objs.size) (λb o hb e=>(ao.2 b hb).trans e) J.free F.2.1 F.2.2.2.1 F.2.2.2.2.1 F.2.2.2.2.2
  ·rw[if_neg hz]at ed;cases ed
 |exc y=>rw[M]at q;refine IV (cl:=Ua scope X.env) rfl hs (B.clo I) B.kind B.names ?_;refine thn (hi pins s σ H (λ_ _=>False) I ⟨hs',ρ,E,by rw[M];exact q⟩) λv s1 h1=>thn h1 λar s2 h2=>?_;revert h2;refine jQ λ_ _ _ _ _ _ _ _ _ _ z=>?_;exact z.elim
 |bad=>rw[M]at q;exact q.elim
def setC(i:Nat)(nd:X.N.Nodup)(ae:Mh scope X.env.scope X.N caps=true)(hc:X.calm=true)(hi:PId X c l tg L G)
  (hg:∀(C:BJ)(s:BK)(H:Hp)(ex:List BJ)(H0:Hp)(S0:AS)(Z:List BJ),PGd (cxB X (En X T caps) scope C s H ex) ⟨H0,S0,[],Dt,Z⟩ tg g)
  (ht:∀(C:BJ)(s:BK)(H:Hp)(ex:List BJ)(H0:Hp)(S0:AS)(Z:List BJ),TsD (cxB X (En X T caps) scope C s H ex) ⟨H0,S0,[],Dt,Z⟩ ifs t)
  (he:∀(C:BJ)(s:BK)(H:Hp)(ex:List BJ)(H0:Hp)(S0:AS)(Z:List BJ),PEd (cxB X (En X T caps) scope C s H ex) ⟨H0,S0,[],Dt,Z⟩ .any elt f)
  (ab:∀d ρ m,g d ρ=.ok m->m.length=ρ.length/\∀i,T.length<=i->m[i]? = ρ[i]?)(B:Qa c.O l caps=true:=by rfl)(hs:∀x,DY L X.env x=pure x:=by intro _;rfl)
  (hl:l.le .no=true:=by rfl)(aa:c.O.contains i=false:=by rfl)(hN:X.N[i]? = some x:=by rfl)(hx:Loc X.env.scope x:=by first |exact Or.inl rfl |exact Or.inr rfl)(M:CW (.ListComp elt [⟨tg,L,ifs,0⟩] scope pos) (some (.Name x u)) apos.line X.env=pure true:=by rfl)
  (hf:X.fn x=true\/X.env.scope.names.lookup x=some .local:=by first |exact .inl rfl |exact .inr rfl):
  PSd X c (.Assign [.Name x u] (.ListComp elt [⟨tg,L,ifs,0⟩] scope pos) apos) (asg i (Dc G T.length caps g t f)):=λpins s σ H D I q=>by
 revert q;refine Ce λhs' ρ E q=>?_;refine kb0 i nd ae hc hi (λC s H ex H0 S0 Z _=>hg C s H ex H0 S0 Z) (λC s H ex H0 S0 Z _=>ht C s H ex H0 S0 Z) (λC s H ex H0 S0 Z _=>he C s H ex H0 S0 Z) ab B hs hN hx M hf I E ((RQ.bind.mp q).mono (λd q1 a vs ds H' ed s1 ha hv r=>?_) λy z=>G9 E z);subst ed;refine q1 _ H' ((E.mono s1).set (by simpa using aa) ⟨a,vs,rfl,.inl ⟨hv,?_⟩,r.mono (Ab.refl _) λo z=>?_⟩)
 ·exact E.freshN ⟨a,rfl,ha⟩
 ·exact Jv E hl z.1
end
def nA{c:DC}(E:Al K c hs ρ σ H)
  (h:RQ (f ρ) (λd=>∀v H',Ab H H'->Al K c hs ρ σ H'->Rep K H' (lvS c ρ σ H l) d v->Q [v] H') (λe=>∀v H',Ab H H'->Rep K H' (lvS c ρ σ H .any) e v->c.Ex e v H')):tDA K c 1 l (zv f a0) σ H Q:=by
 refine⟨hs,ρ,E,RQ.bind.mpr (h.mono (λd q=>?_) λ_ z=>z)⟩;intro vs H' u r G;refine An (λv m B=>?_) (Ak.one r);obtain rfl:=m;exact q v H' u (E.mono u) B
end PD
namespace PySem
open Sem (wp)
open AutoSeq1 (wpAny_loadPart')
open PyProof.Rows
variable {A:C_}{P:BX}{s:BK}{X:A_->BK->Prop}{w:CN}
variable {it t:BJ}{i:Nat}{items:Array A_}{Q:A_->BK->Prop}
def Lk{x:A_}(a:PyProof.Rows.IsTupIter s.heap it t i)(ht:PyProof.Rows.IsTup s.heap t items)(l:items[i]? = some x)
  (n:∀j,PyProof.Rows.IsTupIter j it t (i+1)->Heap.SameBut it s.heap j->Q x {s with heap:=j}):BL (BV P w) A (Builtin.SmallTypes.nextOf (.ref it)) Q X s:=by
 have⟨o,e,m,b⟩:=id a;obtain⟨p,f,_,q,h⟩:=ht;unfold Builtin.SmallTypes.nextOf;refine CK (EY (name:=Str.ofString "__next__") a.typeIs JT (FP JT a.typeIs V_ ?_ (WW _)));show BL _ _ (SX (.ref it) 0 >>= _) _ _ s;refine CK (CJ e b (x:=.ref t) rfl ?_);show BL _ _ (if(Value.ref t == Value.none)=true then _ else _) _ _ s;rw[if_neg (show ¬ ((Value.ref t == Value.none)=true) from TY)];show BL _ _ (SX (.ref it) 1 >>= _) _ _ s;refine CK (CJ e b (x:=.int i 0) rfl ?_);show BL _ _ (aF (.ref t) >>= _) _ _ s;refine CK (GQ f h ?_);simp only[VP,l];refine CK (DW e b (by simp) (FZ ⟨x,rfl,FZ (n _ ?_ (Heap.SameBut.update ..))⟩));exact⟨_,WT _ e (Obj.isFreed_of_fields (Obj.data_mapFields b _)),(Obj.cls_mapFields ..).trans m,by rw[Obj.data_mapFields b];simp[FW]⟩
theorem Jd(p:A.handled=none)(b:PyProof.Rows.IsTupIter s.heap it t i)(ht:PyProof.Rows.IsTup s.heap t items)(q:items[i]? = none)
  (r:∀n e,nH it s.heap n->(∃o,n.get? e=some o/\o.cls=.type "StopIteration")->X (.ref e) {s with heap:=n}):BL (BV P w) A (Builtin.SmallTypes.nextOf (.ref it)) Q X s:=by
 have⟨o,h,y,l⟩:=id b;obtain⟨u,f,_,v,j⟩:=ht;unfold Builtin.SmallTypes.nextOf;refine CK (EY (name:=Str.ofString "__next__") b.typeIs JT (FP JT b.typeIs V_ ?_ (WW _)));show BL _ _ (SX (.ref it) 0 >>= _) _ _ s;refine CK (CJ h l (x:=.ref t) rfl ?_);show BL _ _ (if(Value.ref t == Value.none)=true then _ else _) _ _ s;rw[if_neg (show ¬ ((Value.ref t == Value.none)=true) from TY)];show BL _ _ (SX (.ref it) 1 >>= _) _ _ s;refine CK (CJ h l (x:=.int i 0) rfl ?_);show BL _ _ (aF (.ref t) >>= _) _ _ s;refine CK (GQ f j ?_);simp only[VP,q];refine CK (WX (CK (DW h l (by simp) ?_)));show BL _ _ (eZ (.type "StopIteration") [] >>= _) _ _ _;refine CK ?_;simp only[eZ,newTuple];refine CK (CV ?_ (by size_fits));refine CK (m:=N_ _ _) (wpAny_of_eq (a:=Value.none) (by first |rfl | (simp only[N_];rfl)) ?_);refine CV ?_ (by size_fits);simp only[raiseNew];refine CK (wpAny_handled ?_)
 first |rw[show A.in1.handled=none from p] |rw[p]
 refine CK (FZ (VG ?_));exact r _ _ (((Heap.SameBut.update ..).extBut.push _).push _) ⟨_,NP _ rfl,rfl⟩
def jw5(hh:A.handled=none)(hne:t≠it):Draws P w A it [it,t] items.size (λi x=>items[i]? = some x) (λi h=>QV h it t i/\QZ h t items) where
 live:=λi h ⟨⟨o,ho,_⟩,_⟩=>⟨o,ho⟩
 frame:=λi h h' ⟨⟨o,ho,r⟩,o2,ho2,r2⟩ k=>⟨⟨o,k it (by simp) o ho,r⟩,o2,k t (by simp) o2 ho2,r2⟩
 item:=λi s Q E hi ⟨hit,ht⟩ hQ=>by refine Lk hit ht (iH hi) λh' h1 h2=>hQ _ h' s.toks (iH hi) ⟨h1,?_⟩ h2;revert ht;refine An λo ho r=>?_;exact⟨o,(h2.2 t hne).trans ho,r⟩
 done:=λs Q E ⟨hit,ht⟩ hE=>Jd hh hit ht (by simp) hE
theorem Vt(l:BJ)(items:Array A_)(n:Nat)(b:Option BJ)(m:Array (Option A_)):Meets (MK.«enumerate.__new__» ⟨[.type "enumerate",.ref l],[]⟩) (λ_ R s=>s.heap.get? l=some {cls:=.type "tuple",dict:=b,data:=.seq items n,slots:=m} /\
   R (.ok (.ret (.ref (s.heap.push {cls:=.type "tuple_iterator",data:=.fields #[.ref l,.int 0 0] }).objs.size))) {s with heap:=(s.heap.push {cls:=.type "tuple_iterator",data:=.fields #[.ref l,.int 0 0] }).push {cls:=.type "enumerate",data:=.fields #[.none,.bool false,.ref s.heap.objs.size,FW 0,.none,.none] } }):=
 .of_wp λprog w A R s h=>by
  obtain⟨p,g,d,j,o⟩:=s;obtain⟨a,h⟩:=h;have e:=sub_enumerate;have f:QZ (Shared.heap ⟨p,g,d,j,o⟩) l items:=⟨_,a,rfl,n,rfl⟩
  wp_walk using MN a
  refine wpAny_stack_any λq=>FZ ?_;split
  ·rename_i c _ _ _ _ _;cases(c == Value.type "enumerate")<;>(wp_walk using MN a,YK f;exact⟨_,rfl,h⟩)
  ·wp_walk using MN a,YK f;exact⟨_,rfl,h⟩
def Wv{l:BJ}(u:QZ s.heap l items)
  (h:∀a,iV a (s.heap.objs.size+1) s.heap.objs.size 0 .none->QV a s.heap.objs.size l 0->a.objs.size=s.heap.objs.size+2->(∀b o,s.heap.get? b=some o->a.get? b=some o)->Q (.ref (s.heap.objs.size+1)) {s with heap:=a}):BL (BV P w) A (call (.type "enumerate") [.ref l]) Q X s:=by
 obtain⟨⟨c,m,v,q⟩,r,j,n,f⟩:=u
 replace j:c=.type "tuple":=j;replace f:v=.seq items n:=f
 subst j f;refine callType_new F.called_enumerate (by decide) (F.typeCall_enumerate_1 _) (F.newCall_enumerate_1 _) (λobj=>F.args_object_init_2 obj _) F.entry_enumerate_new (Vt l items n m q) ⟨r,?_⟩;have e:(s.heap.push {cls:=.type "tuple_iterator",data:=.fields #[.ref l,.int 0 0] }).objs.size=s.heap.objs.size+1:=RW ..;show _/\_;rw[e];have p:iV ((s.heap.push {cls:=.type "tuple_iterator",data:=.fields #[.ref l,.int 0 0] }).push {cls:=.type "enumerate",data:=.fields #[.none,.bool false,.ref s.heap.objs.size,FW 0,.none,.none] }) (s.heap.objs.size+1) s.heap.objs.size 0 .none:=by have z:=NP (s.heap.push {cls:=.type "tuple_iterator",data:=.fields #[.ref l,.int 0 0] }) (o:={cls:=.type "enumerate",data:=.fields #[.none,.bool false,.ref s.heap.objs.size,FW 0,.none,.none] }) rfl;rw[e]at z;exact z
 exact⟨⟨_,p,rfl⟩,h _ p ⟨_,JK _ (NP _ rfl),rfl,rfl⟩ (by rw[RW,e]) λb o x=>JK _ (JK _ x)⟩
end PySem
namespace PD
open PySem PySem.Spec PyProof.Rows L2
variable {P:BX}{w:CN}
theorem jw4{A:C_}{items:Array A_}(hh:A.handled=none){t it:BJ}{n:Nat}(hn:items[n]? = none):Draws P w A it [it,t] n (λ_ _=>True) (λj h=>(QV h it t j/\QZ h t items)/\j=n) where
 live:=λi h ⟨⟨⟨o,ho,_⟩,_⟩,_⟩=>⟨o,ho⟩
 frame:=λi h h' ⟨⟨⟨o,ho,r⟩,o2,ho2,r2⟩,e⟩ k=>⟨⟨⟨o,k it (by simp) o ho,r⟩,o2,k t (by simp) o2 ho2,r2⟩,e⟩
 item:=λi s Q E hi ⟨_,e⟩ hQ=>absurd hi (by lia)
 done:=λs Q E ⟨⟨hit,ht⟩,_⟩ hE=>Jd hh hit ht hn hE
def Iet(K:BW)(a:BJ):It:=
 ⟨λi H=>∃b x,SqT K H a b/\b[i]? = some x,λi H x e=>∃t v,x=.ref t/\H t=none/\e=upd H t (.tup [.int (i:Int),v])/\∀b,SqT K H a b->b[i]? = some v,λi H=>∃b,SqT K H a b/\b.length<=i⟩
variable {K:BW}
theorem jp5{elts:List BZ}{k:Nat}{pos:GP}(a e it:BJ)(hne:e≠it)(hai:a≠it)(hea:e≠a):
  Turn P w K (.Tuple elts k pos) (Iet K a) [e,it] e (λi h=>(∃old,iV h e it (i:Int) old)/\QV h it a i) where
 mem:=by simp
 obj:=λi h st b hb=>by
  obtain⟨⟨old,he⟩,o,ho,hc,hd⟩:=st;have hb':b=e\/b=it:=by simpa using hb
  rcases hb' with rfl |rfl
  ·exact⟨_,he,λv z=>by cases z⟩
  ·exact⟨o,ho,λv z=>by rw[hd]at z;cases z⟩
 keep:=λi h h' st kp=>⟨st.1.imp λold he=>kp e (by simp) _ he,let ⟨o,q,r⟩:=st.2; ⟨o,kp it (by simp) o q,r⟩⟩
 item:=by
  intro X hP hw hK hc i pins s σ H E I hf st hg;subst hP hw hK;obtain⟨xs,x,hq,hx⟩:=hg;have⟨its,rv,p,hz⟩:=I.tuple hq;have⟨u,hu,ru⟩:=rv.get hx;obtain⟨⟨old,he⟩,hit⟩:=st;have hD:=jw5 (P:=X.prog) (w:=X.w) (A:=X.A.in1) (items:=its.toArray) (by simpa using I.ok.hd hc) hai;have hlt:i<its.toArray.size:=by have:=(MT.mp hu).1;simpa using this
  refine wpAny_pyNext_enum_itemD hD he ⟨hit,p⟩ hlt hne (by simp[hne,hea]) λx' h1 tk hx' heo hst ht1 hz1 hk1=>⟨_,rfl,?_⟩;have hxu:x'=u:=by
   have:its.toArray[i]? = some u:=by simpa using hu
   exact Option.some.inj (hx'.symm.trans this)
  subst hxu;refine RG heo λh2 he2 hs2=>?_;have hT:s.heap.objs.size≠e:=VM (HD he);have ht2:h2.get? s.heap.objs.size=some {cls:=.type "tuple",data:=.seq #[.int i tk,x'] }:=(hs2.2 _ hT).trans ht1;have I2:Inv X pins σ (upd H s.heap.objs.size (.tup [.int (i:Int),x])) {s with heap:=h2,toks:=tk+1}:=
   Jc (t':=tk+1) I hf (λb o hb q=>by
    have hb':b≠e/\b≠it:=by simpa using hb
    exact(hs2.2 b hb'.1).trans (hk1 b o hb'.1 hb'.2 q)) (H_ _)
    (show Cj X.prog X.w _ h2 _ (.tup [.int (i:Int),x]) from⟨by show 2<=sizeLine;rw[CT];lia,[.int i tk,x'],.cons ⟨_,rfl⟩ (.cons ru .nil),⟨_,ht2,rfl,_,rfl⟩⟩)
  refine⟨.ref s.heap.objs.size,_,I2,rfl,⟨_,x,rfl,I.hok.fresh (H_ _),rfl,λys hy=>by rw[I.tuple_inj hy hq];exact hx⟩,⟨⟨x',by simpa using he2⟩,?_⟩,λb hb=>?_⟩
  ·obtain⟨o,q,r⟩:=hst.1;exact⟨o,(hs2.2 it (Ne.symm hne)).trans q,r⟩
  ·have hlt:b<s.heap.objs.size:=by
    have⟨oi,hoi,_⟩:=id hit;have hb':b=e\/b=it:=by simpa using hb
    rcases hb' with rfl |rfl
    ·exact HD he
    ·exact HD hoi
   rw[Ac (NK hlt)];exact(hf b hb).1
 done:=by intro X hP hw hK hc i pins s σ H E I hf st hg;subst hP hw hK;obtain⟨xs,hq,hx⟩:=hg;have⟨its,rv,p,hz⟩:=I.tuple hq;obtain⟨⟨old,he⟩,hit⟩:=st;have hl:=rv.length;exact wpAny_pyNext_enum_endD (jw4 (by simpa using I.ok.hd hc) (items:=its.toArray) (n:=i) (t:=a) (by simp;lia)) he ⟨⟨hit,p⟩,rfl⟩ λh' eb=>⟨rfl,Kg (t':=s.toks) I hf λb o hb q=>eb b o (λz=>hb (by simp[z])) q⟩
 self:=λA i s Q E st h=>by obtain⟨⟨old,he⟩,_⟩:=st;exact KR he h
variable {ds:List D}
def jy0{a:BJ}{vs:List V}:ItD K (Iet K a) (Lh ds) λH S=>SqT K H a vs/\Ak K H S ds vs where
 stab:=Wj
 go:=λi H S hi h=>by rw[Nf]at hi;refine An (λv hv _=>?_) (h.2.get (MJ hi));exact⟨vs,v,h.1,hv⟩
 yld:=λi H S x H' h y=>by revert y;refine Wz λt v hz5 ht hz6 y=>?_;obtain rfl:=hz5;obtain rfl:=hz6;refine⟨Ao ht _,λd hd=>?_⟩;refine An (λe he hz7=>?_) (Xw hd);obtain rfl:=hz7;refine An (λw hw rw'=>?_) (h.2.get he);have ev:v=w:=Option.some.inj ((y vs h.1).symm.trans hw);subst ev;exact⟨t,_,rfl,TpR.of Af,.int (i:Int),[v],rfl,rfl,v,[],rfl,rw'.mono (Ao ht _) (λ_ z=>z),rfl⟩
 stop:=λi H S hi h=>⟨vs,h.1,by rw[<-h.2.length];rw[Nf]at hi;exact hi⟩
def fL(f:Ev->R D):Ev->R (List D):=λa=>(f a).bind λd=>match d with
 | .lst ds=>.ok (Lh ds)
 | .tup ds=>.ok (Lh ds)
 |_=>.bad
variable {X:Cx}{e:BZ}{l:Lv}{pos:GP}
section
variable {c:DC}{f:Ev->R D}{p j:GP}{i:List BZ}{k:Nat}
def wj4(hm:X.mg "enumerate" = none)(he:PEd X c l e f)(ae:Gl X "enumerate":=by rfl)(G:BR [e] X.env=[(false,CP e X.env)]:=by rfl):
  PId X c l (.Tuple i k pos) (.Call (.Name "enumerate" p) [e] [] j) (fL f):=by
 intro r s σ H R I h;refine Call_ (Rw I ae hm boot_enumerate (PyProof.Rows.callWith_type1 (thG ((Cp he Jf G:PA X [e] _) j r s σ H (λt n=>∃a,t=[.ref a]/\(((∃A,SqL X.K n a A)/\R (Iel X.K a) n)\/((∃A,SqT X.K n a A)/\R (Iet X.K a) n))) I ?_) λus m t n y T B=>?_) G rfl))
 ·revert h;refine Ce λhs ρ E q=>?_;refine Ag E ((RQ.bind.mp q).mono (λd B v n m E1 T=>?_) λ_ z=>z);cases d with
  |lst ds=>revert T;refine Bh λa t aa M U=>?_;obtain rfl:=aa;exact⟨a,rfl,.inl ⟨⟨t,M.sq⟩,B _ _ n m kh0 ⟨M,U⟩⟩⟩
  |tup ds=>revert T;refine Bh λa t Z M U=>?_;obtain rfl:=Z;exact⟨a,rfl,.inr ⟨⟨t,(TpR.sq M)⟩,B _ _ n m jy0 ⟨(TpR.sq M),U⟩⟩⟩
  |_=>exact B.elim
 ·revert B;refine An λa F q=>?_;obtain rfl:=F;refine An (λu C ru=>?_) (vals1 T);obtain rfl:=C;cases ru;have Q:∀(h':B_),(∀b o,m.heap.get? b=some o->h'.get? b=some o)->(∀b,b∈[m.heap.objs.size+1,m.heap.objs.size]->Lz X r n b):=λh' x b hb=>by
   have af:b=m.heap.objs.size+1\/b=m.heap.objs.size:=by simpa using hb
   have L:m.heap.objs.size<=b:=by
    rcases af with rfl |rfl
    ·exact ZQ _
    ·exact H_ _
   exact y.fpOk L (y.hok.fresh L)
  rcases q with ⟨⟨A,hq⟩,q⟩ | ⟨⟨A,hq⟩,q⟩
  ·refine Jh (λY rv pl hz=>?_) (y.list hq);refine call_enumerate_list pl.isList λh' O hI ab x=>?_;refine KR O ?_;exact⟨m.heap.objs.size+1,[m.heap.objs.size+1,m.heap.objs.size],_,_,n,rfl,y.kept (t':=m.toks) x,kb6 a _ _ (wY _),⟨⟨.none,by simpa using O⟩,hI⟩,Q h' x,q⟩
  ·refine Jh (λY rv pl hz=>?_) (y.tuple hq);have J:a<m.heap.objs.size:=let ⟨o,ho,_⟩:=pl;HD ho;refine Wv pl λh' O hI ab x=>?_;refine KR O ?_;exact⟨m.heap.objs.size+1,[m.heap.objs.size+1,m.heap.objs.size],_,_,n,rfl,y.kept (t':=m.toks) x,jp5 a _ _ (wY _) (NK J) (VM (ZW J)),⟨⟨.none,by simpa using O⟩,hI⟩,Q h' x,q⟩
end
def wh3{f:Ev->R D}{ρ:Ev}(h:f ρ=.ok (.lst ds)):fL f ρ=.ok (Lh ds):=by unfold fL;rw[h];rfl
def XH(a:List Int):Int:=a.getD (argBest (λi j=>decide (a.getD i 0>a.getD j 0)) (a.length - 1)) 0
def XN(a:List Int):Int:=a.getD (argBest (λi j=>decide (a.getD i 0<a.getD j 0)) (a.length - 1)) 0
def cR:List D->Option D
 | [.lst a]=>if a.isEmpty then none else(Gf a).map λb=>.int (XH b)
 |_=>none
def cQ:List D->Option D
 | [.lst a]=>if a.isEmpty then none else(Gf a).map λb=>.int (XN b)
 |_=>none
def Uo{g:List Int->Int}{ys:List D}{d:D}(e:(if ys.isEmpty then none else(Gf ys).map λb=>D.int (g b))=some d):∃b,Gf ys=some b/\0<b.length/\d=.int (g b):=by
 by_cases h:ys.isEmpty=true
 ·rw[if_pos h]at e;cases e
 ·rw[if_neg h]at e;cases f:Gf ys with
  |none=>rw[f]at e;cases e
  |some b =>
   rw[f]at e;cases e;refine⟨b,rfl,?_,rfl⟩;rw[X5 f];cases ys with
   |nil=>exact absurd rfl h
   |cons a l=>exact Nat.succ_pos _
def kg3:∀a d,cR a=some d->d.imm=true:=λa d h=>by
 obtain⟨b,rfl⟩:=inv1 h rfl (λx _ _=>by cases x<;>rfl);cases b with
 |lst f=>obtain⟨_,_,_,rfl⟩:=Uo (g:=XH) h;rfl
 |_=>exact nos h
def kg4:∀a d,cQ a=some d->d.imm=true:=λa d h=>by
 obtain⟨b,rfl⟩:=inv1 h rfl (λx _ _=>by cases x<;>rfl);cases b with
 |lst f=>obtain⟨_,_,_,rfl⟩:=Uo (g:=XN) h;rfl
 |_=>exact nos h
variable {p:GP}
section
variable {c:DC}{es:List BZ}{fs:Ev->R (List D)}
def Qy{its:List A_}{b:List Int}(m:PL its b)(i:Nat)(v:A_)(j:its.toArray[i]? = some v):∃t,v=.int (b.getD i 0) t:=by
 have a:its[i]? = some v:=by simpa using j
 have⟨h,n⟩:=MT.mp a;have⟨t,f⟩:=kt8 m h;rw[List.getD_eq_getElem?_getD,a,h_]at f;exact⟨t,f⟩
theorem wf4(T:X.calm=true):Ei X (.builtin "max") (rC X.K cR):=by
 rintro B s σ H xs us Q I r ⟨S,ds,d,J,e,q⟩;obtain⟨E,rfl⟩:=inv1 e rfl (λx _ _=>by cases x<;>rfl);cases E with
 |lst ys =>
  obtain⟨v,rfl,a,vs,rfl,Y,L⟩:=J.one;obtain⟨m,eb,C,rfl⟩:=Uo (g:=XH) e;obtain⟨u,rfl,G⟩:=vals1 r;cases G;have⟨f,F,pl,hz⟩:=I.list Y.sq;have y:=ints_of L F eb;have n:=pl.isList;have h:a<s.heap.objs.size:=by obtain⟨_,z,_⟩:=n;exact HD z
  have j:f.length=m.length:=IntsAre.length y;refine call_max_walk (JB n ?_);refine⟨s.heap.objs.size,[s.heap.objs.size,a],[s.heap.objs.size],f.toArray.size,_,_,_,rfl,Walks.list (A:=X.A.in1) (I.ok.hd T) _ a (NK h) f.toArray,
   ⟨⟨_,NP _ rfl,rfl,rfl⟩,n.push _⟩,λb U=>?_,by rw[O_];lia,CmpOf.ints_gt (λi=>m.getD i 0) (Qy y),λv h' tk Z O=>?_⟩
  ·have o:b=s.heap.objs.size\/b=a:=by simpa using U
   rw[RW];rcases o with rfl |rfl
   ·exact dM _
   ·exact ZW h
  ·obtain⟨t,rfl⟩:=Qy y _ v Z;refine⟨.int (XH m),H,I.kept (λb x z=>O b x (λM=>by rw[NT.mp M]at z;exact QL _ (HD z)) (JK _ z)),(show ∃t,_=Value.int (XH m) t from⟨t,?_⟩),q _ H (Ab.refl _) rfl⟩;unfold XH;rw[O_,j]
 |_=>exact nos e
theorem wf5(T:X.calm=true):Ei X (.builtin "min") (rC X.K cQ):=by
 rintro B s σ H xs us Q I r ⟨S,ds,d,J,e,q⟩;obtain⟨E,rfl⟩:=inv1 e rfl (λx _ _=>by cases x<;>rfl);cases E with
 |lst ys =>
  obtain⟨v,rfl,a,vs,rfl,Y,L⟩:=J.one;obtain⟨m,eb,C,rfl⟩:=Uo (g:=XN) e;obtain⟨u,rfl,G⟩:=vals1 r;cases G;have⟨f,F,pl,hz⟩:=I.list Y.sq;have y:=ints_of L F eb;have n:=pl.isList;have h:a<s.heap.objs.size:=by obtain⟨_,z,_⟩:=n;exact HD z
  have j:f.length=m.length:=IntsAre.length y;refine call_min_walk (JB n ?_);refine⟨s.heap.objs.size,[s.heap.objs.size,a],[s.heap.objs.size],f.toArray.size,_,_,_,rfl,Walks.list (A:=X.A.in1) (I.ok.hd T) _ a (NK h) f.toArray,
   ⟨⟨_,NP _ rfl,rfl,rfl⟩,n.push _⟩,λb U=>?_,by rw[O_];lia,CmpOf.ints_lt (λi=>m.getD i 0) (Qy y),λv h' tk Z O=>?_⟩
  ·have o:b=s.heap.objs.size\/b=a:=by simpa using U
   rw[RW];rcases o with rfl |rfl
   ·exact dM _
   ·exact ZW h
  ·obtain⟨t,rfl⟩:=Qy y _ v Z;refine⟨.int (XN m),H,I.kept (λb x z=>O b x (λM=>by rw[NT.mp M]at z;exact QL _ (HD z)) (JK _ z)),(show ∃t,_=Value.int (XN m) t from⟨t,?_⟩),q _ H (Ab.refl _) rfl⟩;unfold XN;rw[O_,j]
 |_=>exact nos e
def ww1(i:X.calm=true)(b:X.mg "max" = none)(j:PAd X c l (e::es) fs)(f:Gl X "max":=by rfl)(h:Zs X.env e es:=by rfl)(a:Zp X.env pos es:=by rfl):
  PEd X c l (.Call (.Name "max" p) (e::es) [] pos) (bA fs cR):=Xk (wf4 i) PyProof.Rows.boot_max b j f (by decide) (by decide) h a
def ww2(i:X.calm=true)(b:X.mg "min" = none)(j:PAd X c l (e::es) fs)(f:Gl X "min":=by rfl)(h:Zs X.env e es:=by rfl)(a:Zp X.env pos es:=by rfl):
  PEd X c l (.Call (.Name "min" p) (e::es) [] pos) (bA fs cQ):=Xk (wf5 i) PyProof.Rows.boot_min b j f (by decide) (by decide) h a
end
open PySem PySem.Spec PyProof.Rows L2
variable {X:Cx}
variable {u v:HO}
section
variable {pins:List (BJ×GD)}{σ:St}{H:Hp}{s:BK}{a:BJ}{o:GD}{u:HO}
def m9{H:Hp}{a:BJ}:upd (upd H a u) a v=upd H a v:=by
 funext b;by_cases h:b=a
 ·subst h;rw[Af,Af]
 ·rw[Ac h,Ac h,Ac h]
def kf9{P:BX}{w:CN}{h:B_}(ok:HOk P w H h)(f:H a=some u)(A:∀z,u≠.own z)(t:∀z,u≠.tup z)(r:∀x z,u≠.frz x (.own z))(new:Cj P w H h a v):HOk P w (upd H a v) h:=λb x q=>by
 have m:∀b o y,H b=some (.frz o (.own y))->upd H a v b=some (.frz o (.own y)):=λb o y e=>by rw[Ac (λz=>by rw[z,f]at e;exact r _ _ (Option.some.inj e))];exact e
 have j:∀b y,H b=some (.own y)->upd H a v b=some (.own y):=λb y e=>by rw[Ac (λz=>by rw[z,f]at e;exact A _ (Option.some.inj e))];exact e
 have i:∀b y,H b=some (.tup y)->upd H a v b=some (.tup y):=λb y e=>by rw[Ac (λz=>by rw[z,f]at e;exact t _ (Option.some.inj e))];exact e
 by_cases n:b=a
 ·subst n;rw[Af]at q;cases q;exact new.stay (λ_ _ _ e=>e) (λc e=>j c _ e) i m
 ·rw[Ac n]at q;exact(ok b x q).stay (λ_ _ _ e=>e) (λc e=>j c _ e) i m
def Inv.swap(I:Inv X pins σ H s)(h:H a=some u)(t:∀z,u≠.own z)(i:∀z,u≠.tup z)(r:∀z,u≠.tbl z)(f:(∀x z,u≠.frz x z)\/X.H₀ a=none)(new:Cj X.prog X.w H s.heap a v)(m:∀x z,u≠.frz x (.own z):=by intro _ _ z;cases z):Inv X pins σ (upd H a v) s:=by
 have ne:∀b,H b=none->upd H a v b=none:=λb e=>by rw[Ac (λz=>by rw[z,h]at e;cases e)];exact e
 refine⟨I.ok,I.os,I.bare,⟨I.base.keep,I.base.slot,λb x q n A=>ne b (I.base.free b x q n A),I.base.there,λb j q=>?_,λb x y q=>?_,λb ps q=>?_⟩,I.loc,I.cell,ne _ I.free,λx c e=>ne _ (I.freeC x c e),λp B=>?_,kf9 I.hok h t i m new,I.len⟩
 ·have e:=I.base.tups b j q;rw[Ac (λz=>by rw[z,h]at e;exact i _ (Option.some.inj e))];exact e
 ·have e:=I.base.frzs b x y q;rw[Ac (λz=>by
   rcases f with f |f
   ·rw[z,h]at e;exact f _ _ (Option.some.inj e)
   ·rw[z,f]at q;cases q)];exact e
 ·have⟨more,e⟩:=I.base.tbls b ps q;exact⟨more,by rw[Ac (λz=>by rw[z,h]at e;exact r _ (Option.some.inj e))];exact e⟩
 ·refine aX (λF E C=>?_) (I.pin p B);exact⟨F,ne _ E,C⟩
def Inv.thaw{o:GD}(I:Inv X pins σ H s)(b:H a=some (.frz o v))(h:X.H₀ a=none)(f:∀z,v≠.own z:=by intro _ z;cases z):Inv X pins σ (upd H a v) s:=
 Inv.swap I b (λ_ z=>by cases z) (λ_ z=>by cases z) (λ_ z=>by cases z) (.inr h) (I.hok a _ b).2 λx z e=>by cases e;exact f _ rfl
end
def Vy{a b:Type}{F:a->b->Prop}:∀{l:List a}{m:List b}{i:Nat}{x:a},RP F l m->l[i]? = some x->∃y,m[i]? = some y/\F x y
 |_,_,i,x,.nil,h=>by simp at h
 |_,_,0,x,.cons r t,h=>by simp at h;subst h;exact⟨_,by simp,r⟩
 |_,_,i+1,x,.cons r t,h=>by refine An (λy e q=>?_) (Vy (i:=i) t (by simpa using h));exact⟨y,by simpa using e,q⟩
def Gg:List D->Option (List Key)
 | []=>some []
 | .int i::r=>(Gg r).map λk=>Sum.inl i::k
 | .str x::r=>(Gg r).map λk=>Sum.inr x::k
 |_=>none
def Ru:∀k:List Key,Gg (k.map kyD)=some k
 | []=>rfl
 | .inl i::r=>by rw[KH];show(Gg (r.map kyD)).map _=_;rw[Ru r];rfl
 | .inr x::r=>by rw[KH];show(Gg (r.map kyD)).map _=_;rw[Ru r];rfl
def Rt:∀{l:List D}{k:List Key},Gg l=some k->l=k.map kyD
 | [],k,h=>by cases h;rfl
 | .int i::r,k,h=>by
  cases e:Gg r with
  |none=>simp[Gg,e]at h
  |some a=>simp[Gg,e]at h;subst h;rw[Rt e];rfl
 | .str x::r,k,h=>by
  cases e:Gg r with
  |none=>simp[Gg,e]at h
  |some a=>simp[Gg,e]at h;subst h;rw[Rt e];rfl
 | .non::r,k,h=>by simp[Gg]at h
 | .bl _::r,k,h=>by simp[Gg]at h
 | .tup _::r,k,h=>by simp[Gg]at h
 | .lst _::r,k,h=>by simp[Gg]at h
 | .exc _ _ _::r,k,h=>by simp[Gg]at h
def Vp{K:BW}{H:Hp}{S:AS}:∀{k:List Key}{vs:List V},Ak K H S (k.map kyD) vs->vs=k.map kV
 | [],vs,h=>h
 | .inl i::r,vs,h=>by revert h;refine Bh λv t b j f=>?_;obtain rfl:=b;rw[Vp f];cases(show v=.int i from j);rfl
 | .inr x::r,vs,h=>by revert h;refine Bh λv t a j f=>?_;obtain rfl:=a;rw[Vp f];cases(show v=.str x from j);rfl
def cC:D->Option (List Key)
 | .tup l=>Gg l
 |_=>none
def Qh:List D->List D->List Key->Option D
 |kd::ks,f::fs,k=>if cC kd=some k then some f else Qh ks fs k
 |_,_,_=>none
def v9(k:List Key):cC (.tup (k.map kyD))=some k:=Ru k
def Xr{K:BW}{H:Hp}{S:AS}(k:List Key):∀{a:List (List Key)}{b:List D}{vs:List V},a.length=vs.length->Ak K H S b vs ->
  (Ld (a.zip vs) k=none/\Qh (a.map λk=>D.tup (k.map kyD)) b k=none)\/∃v f,Ld (a.zip vs) k=some v/\Qh (a.map λk=>D.tup (k.map kyD)) b k=some f/\Rep K H S f v
 | [],b,vs,i,r=>by
  have:vs=[]:=by cases vs<;>simp at i ⊢
  subst this;exact .inl ⟨rfl,by simp[Qh]⟩
 |q::a,b,[],i,r=>by simp at i
 |q::a,b,v::vs,i,r=>by
  have j:a.length=vs.length:=by simpa using i
  cases b with
  |nil=>cases(show v::vs=[] from r)
  |cons f b =>
   revert r;refine Bh λs m e o n=>?_;cases e;rw[ZX,KH];by_cases h:q=k
   ·exact .inr ⟨v,f,M5 h,by rw[Qh,if_pos (by rw[v9,h])],o⟩
   ·rw[M4 h,Qh,if_neg (by rw[v9];intro z;exact h (Option.some.inj z))];exact Xr k j n
section
variable {c:DC}{a:BZ}{f:Ev->R D}
def u1(h:PEd X c .fr a f):PEd X c .no a f:=h.up
def u2(h:PEd X c .fr a f):PEd X c .any a f:=h.up
def u3(h:PEd X c .no a f):PEd X c .any a f:=h.up
end
def ll0{a:Type}{P:List a->Prop}(h:P []):∀b:List a,b.length=0->P b
 | [],_=>h
def ll1{b:Type}{P:List b->Prop}(h:∀a,P [a])(us:List b)(e:us.length=1):P us:=by
 cases us with
 |nil=>cases e
 |cons a us=>exact ll0 (P:=λu=>P (a::u)) (h a) us (Nat.succ.inj e)
def ll2{f:Type}{P:List f->Prop}(h:∀a b,P [a,b])(us:List f)(e:us.length=2):P us:=by
 cases us with
 |nil=>cases e
 |cons a us=>exact ll1 (P:=λu=>P (a::u)) (h a) us (Nat.succ.inj e)
def ll3{f:Type}{P:List f->Prop}(h:∀a b c,P [a,b,c])(us:List f)(e:us.length=3):P us:=by
 cases us with
 |nil=>cases e
 |cons a us=>exact ll2 (P:=λu=>P (a::u)) (h a) us (Nat.succ.inj e)
def ll4{f:Type}{P:List f->Prop}(h:∀a b c d,P [a,b,c,d])(us:List f)(e:us.length=4):P us:=by
 cases us with
 |nil=>cases e
 |cons a us=>exact ll3 (P:=λu=>P (a::u)) (h a) us (Nat.succ.inj e)
def FI(K:BW)(x:BP)(st:CQ):Prop:=∃(f:BJ)(a:CZ),W.nsIn K PySem.mainGlobals x=some (some (.ref f))/\Fun K x x st f a/\W.keepIn K (.ref f)=true
section
variable {P:BX}{w:CN}{K:BW}{h:B_}{mg:BP->Option A_}{base:B_}{x:BP}{st:CQ}{k n:Nat}{ps:List BP}{m:List D->R D}
def Bk{f:BJ}{r:A_}{q an:Option BJ}{i:Array (Option A_)}{kV j o b ct:A_}(a:W.nsIn K PySem.mainGlobals x=some (some (.ref f)))(l:K.lookup f=some ⟨r,q,.func (W.fnOf x x (Cm st) (Bd st) (Ae st) .none kV j o an b ct),i⟩)
  (c:W.codeIn K b x=true)(k:W.keepIn K (.ref f)=true):FI K x st:=⟨f,_,a,Zj l c k,k⟩
def By(P:BX)(w:CN)(base:B_)(X:K.In h)(G:h.Ns PySem.mainGlobals mg)(I:FI K x st)(i:∀a b,Fun K x x st a b->Cw P w K mg base CX0 k a b ps (sp0 K n m))
  (s:∀(kV j q:A_)(an:Option BJ)(o ct:A_)(us:List A_),us.length=ps.length->KC (W.fnOf x x (Cm st) (Bd st) (Ae st) .none kV j q an o ct) ⟨us,[]⟩=pure (ps.zip us)):FnC P w K mg base k x ps n m:=by
 revert I;refine Bh λf b a F r=>?_;exact⟨f,b,i f b F,W.mg_of X G a,r,F.binds s⟩
end
end PD
namespace PySem
open Sem (wp)
open PyProof.Rows
def Itr(h:B_)(b:Bool)(it l:BJ)(k:Nat):Prop:=match b with
 |true=>h.IsListIter it l k
 |false=>QV h it l k
def Sqc(h:B_)(b:Bool)(l:BJ)(xs:Array A_):Prop:=match b with
 |true=>h.IsList l xs
 |false=>QZ h l xs
variable {A:C_}{xs:Array A_}{P:BX}{s:BK}{X:A_->BK->Prop}{w:CN}
variable {x:A_}{Q:A_->BK->Prop}
section
variable {h h':B_}{b:Bool}{it l:BJ}{k:Nat}
def Itr.up(x:Itr h b it l k)(e:∀o,h.get? it=some o->h'.get? it=some o):Itr h' b it l k:=by
 cases b with
 |true=>exact Heap.IsListIter.at x e
 |false=>obtain⟨o,a,r⟩:=x;exact⟨o,e o a,r⟩
def Sqc.up(x:Sqc h b l xs)(e:∀o,h.get? l=some o->h'.get? l=some o):Sqc h' b l xs:=by
 cases b with
 |true=>exact Heap.IsList.at x e
 |false=>obtain⟨o,a,r⟩:=x;exact⟨o,e o a,r⟩
def Itr.lv(x:Itr h b it l k):∃o,h.get? it=some o/\∀v,o.data≠.cell v:=by
 cases b with
 |true=>obtain⟨o,a,_,e⟩:=x;exact⟨o,a,λv z=>by rw[e]at z;cases z⟩
 |false=>obtain⟨o,a,_,e⟩:=x;exact⟨o,a,λv z=>by rw[e]at z;cases z⟩
def Itr.nx(e:Itr s.heap b it l k)(hs:Sqc s.heap b l xs)(a:xs[k]? = some x)(f:∀h',Itr h' b it l (k+1)->Heap.SameBut it s.heap h'->Q x {s with heap:=h'}):BL (BV P w) A (Builtin.SmallTypes.nextOf (.ref it)) Q X s:=by
 cases b with
 |true=>exact wpAny_nextOf_list_item e hs a f
 |false=>exact Lk e hs a f
def Itr.fin(i:A.handled=none)(f:Itr s.heap b it l k)(hs:Sqc s.heap b l xs)(a:xs[k]? = none)(j:∀h' e,nH it s.heap h'->(∃o,h'.get? e=some o/\o.cls=.type "StopIteration")->X (.ref e) {s with heap:=h'}):BL (BV P w) A (Builtin.SmallTypes.nextOf (.ref it)) Q X s:=by
 cases b with
 |true=>exact wpAny_nextOf_list_end i f hs a j
 |false=>exact Jd i f hs a j
end
structure Xf(h:B_)(z TI TO i1 i2 l1 l2:BJ)(b1 b2:Bool)(k:Nat):Prop where
 zp:QR h z TI TO .none
 ti:JS h TI (.ref i1) (.ref i2)
 to_:∃a b,JS h TO a b
 j1:Itr h b1 i1 l1 k
 j2:Itr h b2 i2 l2 k
variable {y:A_}
section
variable {z TI TO i1 i2 l1 l2:BJ}{b1 b2:Bool}{k:Nat}{ys:Array A_}
def kb9(D:RN z TI TO i1 i2 l1 l2)(S:Xf s.heap z TI TO i1 i2 l1 l2 b1 b2 k)(m1:Sqc s.heap b1 l1 xs)(m2:Sqc s.heap b2 l2 ys)(hx:xs[k]? = some x)(hy:ys[k]? = some y)
  (hQ:∀t,QR t z TI TO (FW s.heap.objs.size)->JS t TI (.ref i1) (.ref i2)->JS t TO x y->Itr t b1 i1 l1 (k+1)->Itr t b2 i2 l2 (k+1)->JS t s.heap.objs.size x y->(∀c o,c∉[z,TI,TO,i1,i2]->s.heap.get? c=some o->t.get? c=some o)->Q (.ref s.heap.objs.size) {s with heap:=t}):
  BL (BV P w) A (MK.«zip.__next__» ⟨[.ref z],[]⟩) (λaf s'=>∃v,af=.done (.ret v)/\Q v s') X s:=by
 obtain⟨G,ti,⟨a,b,aa⟩,j1,j2⟩:=S;show BL _ _ (SX (.ref z) 2 >>= _) _ _ _;refine CK (CJ G rfl (x:=.bool false) rfl ?_);show BL _ _ (SX (.ref z) 3 >>= _) _ _ _;refine CK (CJ G rfl (x:=.ref TI) rfl (CK (GQ ti rfl ?_)));show BL _ _ (Builtin.SmallTypes.ownedTupleIsFree (.ref z) >>= _) _ _ _;refine CK ?_;unfold Builtin.SmallTypes.ownedTupleIsFree;refine CK (CJ G rfl (x:=.none) rfl (FZ ?_));simp only[if_true];refine CK (WX (CK (CJ G rfl (x:=.ref TO) rfl (CK (HF G (by simp) λr B m=>?_)))))
 replace B:QR r z TI TO .ellipsis:=B;have n1:=m.1;replace m:=m.extBut
 refine CK ?_;simp only[wX,wQ,dI,dD];refine CK (CK (KZ ?_));show BL _ _ (Builtin.SmallTypes.nextOf (.ref i1) >>= _) _ _ _;refine CK (Itr.nx (s:={s with heap:=r}) (j1.up λo=>m _ o D.i1z) (m1.up λo=>m _ o D.l1z) hx λT ae p=>FZ ?_);have n2:=p.1;replace p:=p.extBut;have to2:JS T TO a b:=p _ _ D.TOi1 (m _ _ D.TOz aa);refine CK (GQ to2 rfl (CK (NQ to2 λq to3 n=>?_)))
 replace to3:JS q TO x b:=to3;have n3:=n.1;replace n:=n.extBut
 refine CK (VH (FZ ?_));refine CK (CK (KZ ?_));show BL _ _ (Builtin.SmallTypes.nextOf (.ref i2) >>= _) _ _ _;refine CK (Itr.nx (s:={s with heap:=q}) (j2.up λo z1=>n _ o D.TOi2.symm (p _ o D.i12.symm (m _ o D.i2z z1))) (m2.up λo z1=>n _ o D.l2TO (p _ o D.l2i1 (m _ o D.l2z z1))) hy λO ab E=>FZ ?_);have n4:=E.1;replace E:=E.extBut;have J:JS O TO x b:=E _ _ D.TOi2 to3;refine CK (GQ J rfl (CK (NQ J λf l C=>?_)))
 replace l:JS f TO x y:=l
 refine CK (VH (FZ (FZ ?_)));refine CK (GQ l rfl (CK (wpAny_newTuple ?_)));have n5:=C.1;replace C:=C.extBut;have U:f.objs.size=s.heap.objs.size:=by rw[n5,n4,n3,n2,n1]
 have I:∀c o,c≠z->c≠TO->c≠i1->c≠i2->s.heap.get? c=some o->f.get? c=some o:=λc o Z c2 c3 c4 e=>C _ _ c2 (E _ _ c4 (n _ _ c2 (p _ _ c3 (m _ _ Z e))));have F:QR f z TI TO .ellipsis:=C _ _ D.TOz.symm (E _ _ D.i2z.symm (n _ _ D.TOz.symm (p _ _ D.i1z.symm B)));have L:Itr f b1 i1 l1 (k+1):=ae.up λo e=>C _ _ D.TOi1.symm (E _ _ D.i12 (n _ _ D.TOi1.symm e));have K:Itr f b2 i2 l2 (k+1):=ab.up λo e=>C _ _ D.TOi2.symm e;have H:z<f.objs.size:=HD F;show BL _ _ (Builtin.SmallTypes.ownedTupleHandOut (.ref z) (.ref f.objs.size) >>= _) _ _ _;refine CK ?_;unfold Builtin.SmallTypes.ownedTupleHandOut;refine CK (HF (show QR (f.push {cls:=.type "tuple",data:=.seq #[x,y] }) z TI TO .ellipsis from JK _ F) (by simp) λM u q7=>?_)
 replace u:QR M z TI TO (FW f.objs.size):=u
 refine HF u (by simp) λh j q8=>?_
 replace j:QR h z TI TO (FW f.objs.size):=j
 have i:∀c o,c≠z->f.get? c=some o->h.get? c=some o:=λc o Z e=>q8.extBut _ _ Z (q7.extBut _ _ Z (JK _ e));have pr:JS h f.objs.size x y:=q8.extBut _ _ (VM H) (q7.extBut _ _ (VM H) (NP _ rfl));rw[U]at j pr;refine FZ ⟨_,rfl,?_⟩;show Q (.ref f.objs.size) _;rw[U];exact hQ h j (i _ _ D.TIz (I _ _ D.TIz D.TITO D.TIi1 D.TIi2 ti)) (i _ _ D.TOz l) (L.up λo e=>i _ o D.i1z e) (K.up λo e=>i _ o D.i2z e) pr λc o Y e=>i c o (λx=>Y (by simp[x])) (I c o (λx=>Y (by simp[x])) (λx=>Y (by simp[x])) (λx=>Y (by simp[x])) (λx=>Y (by simp[x])) e)
def kp9{Q:Fin->BK->Prop}(T:A.handled=none)(D:RN z TI TO i1 i2 l1 l2)(S:Xf s.heap z TI TO i1 i2 l1 l2 b1 b2 k)(m1:Sqc s.heap b1 l1 xs)(m2:Sqc s.heap b2 l2 ys)(G:xs[k]? = none\/ys[k]? = none)
  (U:∀L e,(∀c o,c∉[z,TI,TO,i1,i2]->s.heap.get? c=some o->L.get? c=some o)->(∃o,L.get? e=some o/\o.cls=.type "StopIteration")->X (.ref e) {s with heap:=L}):BL (BV P w) A (MK.«zip.__next__» ⟨[.ref z],[]⟩) Q X s:=by
 obtain⟨C,ti,⟨a,b,H⟩,j1,j2⟩:=S;show BL _ _ (SX (.ref z) 2 >>= _) _ _ _;refine CK (CJ C rfl (x:=.bool false) rfl ?_);show BL _ _ (SX (.ref z) 3 >>= _) _ _ _;refine CK (CJ C rfl (x:=.ref TI) rfl (CK (GQ ti rfl ?_)));show BL _ _ (Builtin.SmallTypes.ownedTupleIsFree (.ref z) >>= _) _ _ _;refine CK ?_;unfold Builtin.SmallTypes.ownedTupleIsFree;refine CK (CJ C rfl (x:=.none) rfl (FZ ?_));simp only[if_true];refine CK (WX (CK (CJ C rfl (x:=.ref TO) rfl (CK (HF C (by simp) λf n r=>?_)))))
 replace n:QR f z TI TO .ellipsis:=n;replace r:=r.extBut
 refine CK ?_;simp only[wX,wQ,dI,dD];refine CK (CK (KZ ?_));show BL _ _ (Builtin.SmallTypes.nextOf (.ref i1) >>= _) _ _ _;have Z:Itr f b1 i1 l1 k:=j1.up λo=>r _ o D.i1z;have Y:Sqc f b1 l1 xs:=m1.up λo=>r _ o D.l1z;cases J:xs[k]? with
 |none =>
  refine CK (Itr.fin (s:={s with heap:=f}) T Z Y J λj e m K=>?_);obtain⟨I,h,l⟩:=K;have B:QR j z TI TO .ellipsis:=m _ _ D.i1z.symm n;have t:e≠z:=λx=>by subst x;rw[B]at h;cases h;simp at l
  refine HF B (by simp) λi _ p=>U i e (λc o q x=>p.extBut _ _ (λx=>q (by simp[x])) (m _ _ (λx=>q (by simp[x])) (r _ _ (λx=>q (by simp[x])) x))) ⟨I,p.extBut _ _ t h,l⟩
 |some x =>
  have hy:ys[k]? = none:=G.resolve_left λu=>by rw[J]at u;cases u
  refine CK (Itr.nx (s:={s with heap:=f}) Z Y J λj aa m=>FZ ?_)
  replace m:=m.extBut
  have to2:JS j TO a b:=m _ _ D.TOi1 (r _ _ D.TOz H);refine CK (GQ to2 rfl (CK (NQ to2 λi to3 p=>?_)))
  replace p:=p.extBut
  refine CK (VH (FZ ?_));refine CK (CK (KZ ?_));show BL _ _ (Builtin.SmallTypes.nextOf (.ref i2) >>= _) _ _ _;refine CK (Itr.fin (s:={s with heap:=i}) T (j2.up λo u=>p _ o D.TOi2.symm (m _ o D.i12.symm (r _ o D.i2z u))) (m2.up λo u=>p _ o D.l2TO (m _ o D.l2i1 (r _ o D.l2z u))) hy λF e O K=>?_);obtain⟨I,h,l⟩:=K;have v:QR F z TI TO .ellipsis:=O _ _ D.i2z.symm (p _ _ D.TOz.symm (m _ _ D.i1z.symm n));have t:e≠z:=λx=>by subst x;rw[v]at h;cases h;simp at l
  refine HF v (by simp) λE _ M=>U E e (λc o q x=>M.extBut _ _ (λx=>q (by simp[x])) (O _ _ (λx=>q (by simp[x])) (p _ _ (λx=>q (by simp[x])) (m _ _ (λx=>q (by simp[x])) (r _ _ (λx=>q (by simp[x])) x))))) ⟨I,M.extBut _ _ t h,l⟩
def kc1{Q:Option A_->BK->Prop}(D:RN z TI TO i1 i2 l1 l2)(S:Xf s.heap z TI TO i1 i2 l1 l2 b1 b2 k)(f:Sqc s.heap b1 l1 xs)(e:Sqc s.heap b2 l2 ys)(i:xs[k]? = some x)(h:ys[k]? = some y)
  (j:∀a,QR a z TI TO (FW s.heap.objs.size)->JS a TI (.ref i1) (.ref i2)->JS a TO x y->Itr a b1 i1 l1 (k+1)->Itr a b2 i2 l2 (k+1)->JS a s.heap.objs.size x y->(∀c o,c∉[z,TI,TO,i1,i2]->s.heap.get? c=some o->a.get? c=some o)->Q (some (.ref s.heap.objs.size)) {s with heap:=a}):
  BL (BV P w) A (LC (.ref z)) Q X s:=by
 have b:s.TypeIs (.ref z) "zip":=⟨_,S.zp,rfl⟩;unfold LC;exact CK (K_ (EY (name:=Str.ofString "__next__") b F.slot_zip_next (FP F.slot_zip_next b F.entry_zip_next (kb9 D S f e i h λa t r q p n m l=>FZ (j a t r q p n m l)) (F.args_zip_next_1 _))))
def kq1{Q:Option A_->BK->Prop}(n:A.handled=none)(D:RN z TI TO i1 i2 l1 l2)(S:Xf s.heap z TI TO i1 i2 l1 l2 b1 b2 k)(j:Sqc s.heap b1 l1 xs)(i:Sqc s.heap b2 l2 ys)(a:xs[k]? = none\/ys[k]? = none)
  (r:∀f,(∀c o,c∉[z,TI,TO,i1,i2]->s.heap.get? c=some o->f.get? c=some o)->Q none {s with heap:=f}):BL (BV P w) A (LC (.ref z)) Q X s:=by
 have h:s.TypeIs (.ref z) "zip":=⟨_,S.zp,rfl⟩;unfold LC;refine CK (K_ (EY (name:=Str.ofString "__next__") h F.slot_zip_next (FP F.slot_zip_next h F.entry_zip_next (kp9 n D S j i a λf e m p=>?_) (F.args_zip_next_1 _))));revert p;refine An λo l q=>?_;exact CK (aB (T:="StopIteration") (b:=true) ⟨o,l,q⟩ iM (FZ (r _ m)))
end
abbrev O4(b:Bool)(l:BJ):GD:=match b with
 |true=>{cls:=.type "list_iterator",data:=.fields #[.ref l,.int 0 0] }
 |false=>{cls:=.type "tuple_iterator",data:=.fields #[.ref l,.int 0 0] }
abbrev zH1(h:B_)(b1:Bool)(a:BJ):B_:=h.push (O4 b1 a)
abbrev zH2(h:B_)(b1 b2:Bool)(b a:BJ):B_:=(zH1 h b1 b).push (O4 b2 a)
abbrev zH3(h:B_)(b1 b2:Bool)(a b:BJ):B_:=(zH2 h b1 b2 a b).push {cls:=.type "tuple",data:=.seq #[.ref h.objs.size,.ref (zH1 h b1 a).objs.size] }
abbrev zH4(h:B_)(b1 b2:Bool)(b a:BJ):B_:=(zH3 h b1 b2 b a).push {cls:=.type "tuple",data:=.seq #[.none,.none] }
abbrev zH5(h:B_)(b1 b2:Bool)(b a:BJ):B_:=(zH4 h b1 b2 b a).push {cls:=.type "zip",data:=.fields #[.none,.bool false,.bool false,.ref (zH2 h b1 b2 b a).objs.size,.ref (zH3 h b1 b2 b a).objs.size] }
def qM{b:Bool}{l:BJ}(h:Sqc s.heap b l xs)(q:Q (.ref s.heap.objs.size) {s with heap:=s.heap.push (O4 b l)}):BL (BV P w) A (XF (.ref l)) Q X s:=by
 cases b with
 |true=>exact JB h q
 |false=>exact YK h q
def jn5(b1 b2:Bool)(a b:BJ)(xs ys:Array A_):Meets (MK.«zip.__new__» ⟨[.type "zip",.ref a,.ref b],[]⟩) (λ_ R s=>Sqc s.heap b1 a xs/\Sqc s.heap b2 b ys/\R (.ok (.ret (.ref (zH4 s.heap b1 b2 a b).objs.size))) {s with heap:=zH5 s.heap b1 b2 a b}):=
 .of_wp λprog w A R s h=>by
  obtain⟨j,g,d,e,f⟩:=s;obtain⟨m,l,h⟩:=h;have i:=sub_zip;have n:Sqc (Shared.heap ⟨j,g,d,e,f⟩) b1 a xs:=m;have M2:Sqc (Shared.heap ⟨j.push (O4 b1 a),g,d,e,f⟩) b2 b ys:=l.up λo z=>JK _ z
  wp_walk using qM n,qM M2
  exact⟨_,rfl,h⟩
def jv8{b1 b2:Bool}{a f:BJ}{ys:Array A_}(C:Sqc s.heap b1 a xs)(B:Sqc s.heap b2 f ys)
  (h:∀n,Xf n (s.heap.objs.size+4) (s.heap.objs.size+2) (s.heap.objs.size+3) s.heap.objs.size (s.heap.objs.size+1) a f b1 b2 0->(∀c o,s.heap.get? c=some o->n.get? c=some o)->Q (.ref (s.heap.objs.size+4)) {s with heap:=n}):BL (BV P w) A (call (.type "zip") [.ref a,.ref f]) Q X s:=by
 refine callType_new F.called_zip (by decide) (F.typeCall_zip_2 _ _) (F.newCall_zip_2 _ _) (λobj=>F.args_object_init_3 obj _ _) F.entry_zip_new (jn5 b1 b2 a f xs ys) ⟨C,B,?_⟩;have m:(zH1 s.heap b1 a).objs.size=s.heap.objs.size+1:=RW ..;have j:(zH2 s.heap b1 b2 a f).objs.size=s.heap.objs.size+2:=by rw[RW,m]
 have i:(zH3 s.heap b1 b2 a f).objs.size=s.heap.objs.size+3:=by rw[RW,j]
 have q:(zH4 s.heap b1 b2 a f).objs.size=s.heap.objs.size+4:=by rw[RW,i]
 have p1:∀{g:B_}{o z:GD}{c:BJ},g.get? c=some o->(g.push z).get? c=some o:=λe=>JK _ e;have p:(zH5 s.heap b1 b2 a f).get? (zH4 s.heap b1 b2 a f).objs.size=some _:=NP _ rfl;have t:(zH5 s.heap b1 b2 a f).get? (zH3 s.heap b1 b2 a f).objs.size=some _:=p1 (NP _ rfl);have u:(zH5 s.heap b1 b2 a f).get? (zH2 s.heap b1 b2 a f).objs.size=some _:=p1 (p1 (NP _ rfl));have v:(zH5 s.heap b1 b2 a f).get? (zH1 s.heap b1 a).objs.size=some (O4 b2 f):=p1 (p1 (p1 (NP _ (by cases b2<;>rfl))));have E:(zH5 s.heap b1 b2 a f).get? s.heap.objs.size=some (O4 b1 a):=p1 (p1 (p1 (p1 (NP _ (by cases b1<;>rfl)))));have r:∀(b:Bool){g:B_}{c l:BJ},g.get? c=some (O4 b l)->Itr g b c l 0:=λb {g c l} e=>by
  cases b with
  |true=>exact⟨_,e,rfl,rfl⟩
  |false=>exact⟨_,e,rfl,rfl⟩
 show _/\_;rw[j,i,q]at p;rw[m,j]at u;rw[i]at t;rw[m]at v;rw[q];exact⟨⟨_,p,rfl⟩,h _ ⟨p,u,⟨_,_,t⟩,r b1 E,r b2 v⟩ λc o x=>p1 (p1 (p1 (p1 (p1 x))))⟩
end PySem
namespace PD
open PySem PySem.Spec PyProof.Rows L2
def SqB(K:BW)(H:Hp)(b:Bool)(a:BJ)(xs:List V):Prop:=match b with
 |true=>SqL K H a xs
 |false=>SqT K H a xs
variable {X:Cx}{pins:List (BJ×GD)}{σ:St}{H:Hp}{s:BK}{b:Bool}{a:BJ}{xs:List V}
def Ng(I:Inv X pins σ H s)(h:SqB X.K H b a xs):∃e:List A_,Vals xs e/\Sqc s.heap b a e.toArray:=by
 cases b with
 |true=>have⟨e,f,p,_⟩:=I.list h;exact⟨e,f,p.isList⟩
 |false=>have⟨e,f,p,_⟩:=I.tuple h;exact⟨e,f,p⟩
def Te{ys:List V}(I:Inv X pins σ H s)(h:SqB X.K H b a xs)(h':SqB X.K H b a ys):xs=ys:=by
 cases b with
 |true=>exact I.list_inj h h'
 |false=>exact I.tuple_inj h h'
def rK{h:B_}{xs:Array A_}(x:Sqc h b a xs):a<h.objs.size:=by
 cases b with
 |true=>obtain⟨o,e,_⟩:=x;exact HD e
 |false=>obtain⟨o,e,_⟩:=x;exact HD e
def Izp(K:BW)(b1 b2:Bool)(f m:BJ):It:=
 ⟨λi H=>∃xs e x y,SqB K H b1 f xs/\SqB K H b2 m e/\xs[i]? = some x/\e[i]? = some y,
  λi H x j=>∃t v1 h,x=.ref t/\H t=none/\j=upd H t (.tup [v1,h])/\(∀xs,SqB K H b1 f xs->xs[i]? = some v1)/\∀e,SqB K H b2 m e->e[i]? = some h,
  λi H=>∃xs e,SqB K H b1 f xs/\SqB K H b2 m e/\(xs.length<=i\/e.length<=i)⟩
variable {K:BW}{m:BJ}
theorem kp2{P:BX}{w:CN}{elts:List BZ}{k:Nat}{pos:GP}{z TI TO i1 i2 a1:BJ}{b1 b2:Bool}(D:RN z TI TO i1 i2 a1 m):
  Turn P w K (.Tuple elts k pos) (Izp K b1 b2 a1 m) [z,TI,TO,i1,i2] z (λi h=>Xf h z TI TO i1 i2 a1 m b1 b2 i) where
 mem:=by simp
 obj:=λi h st b hb=>by
  have hb':b=z\/b=TI\/b=TO\/b=i1\/b=i2:=by simpa using hb
  obtain⟨zp,ti,⟨u,v,to_⟩,j1,j2⟩:=st;rcases hb' with rfl |rfl |rfl |rfl |rfl
  ·exact⟨_,zp,λv z=>by cases z⟩
  ·exact⟨_,ti,λv z=>by cases z⟩
  ·exact⟨_,to_,λv z=>by cases z⟩
  ·exact j1.lv
  ·exact j2.lv
 keep:=λi h h' st kp=>by obtain⟨zp,ti,⟨u,v,to_⟩,j1,j2⟩:=st;exact⟨kp z (by simp) _ zp,kp TI (by simp) _ ti,⟨u,v,kp TO (by simp) _ to_⟩,j1.up (kp i1 (by simp)),j2.up (kp i2 (by simp))⟩
 item:=by
  intro X hP hw hK hc i pins s σ H E I hf st hg;subst hP hw hK;obtain⟨xs,ys,x,y,hq1,hq2,hx,hy⟩:=hg;have⟨its1,rv1,p1⟩:=Ng I hq1;have⟨its2,rv2,p2⟩:=Ng I hq2;have⟨u1,hu1,ru1⟩:=rv1.get hx;have⟨u2,hu2,ru2⟩:=rv2.get hy;have zlt:z<s.heap.objs.size:=HD st.zp;have lts:∀b∈[z,TI,TO,i1,i2],b<s.heap.objs.size:=λb hb=>by
   have hb':b=z\/b=TI\/b=TO\/b=i1\/b=i2:=by simpa using hb
   obtain⟨zp,ti,⟨u,v,to_⟩,j1,j2⟩:=st;rcases hb' with rfl |rfl |rfl |rfl |rfl
   ·exact HD zp
   ·exact HD ti
   ·exact HD to_
   ·obtain⟨o,ho,_⟩:=j1.lv;exact HD ho
   ·obtain⟨o,ho,_⟩:=j2.lv;exact HD ho
  refine kc1 D st p1 p2 (x:=u1) (y:=u2) (by simpa using hu1) (by simpa using hu2) λh1 c1 c2 c3 c4 c5 c6 c7=>⟨_,rfl,?_⟩;refine wpAny_letOwnedTupleGo_zip c1 λh2 d1 d2=>?_;have hT:s.heap.objs.size≠z:=VM zlt;have up2:∀c o,c≠z->h1.get? c=some o->h2.get? c=some o:=λc o hc e=>(d2.2 c hc).trans e;have ht2:h2.get? s.heap.objs.size=some {cls:=.type "tuple",data:=.seq #[u1,u2] }:=up2 _ _ hT c6;have I2:Inv X pins σ (upd H s.heap.objs.size (.tup [x,y])) {s with heap:=h2,toks:=s.toks}:=
   Jc (t':=s.toks) I hf (λb o hb q=>up2 b o (λe=>hb (by simp[e])) (c7 b o hb q)) (H_ _)
    (show Cj X.prog X.w _ h2 _ (.tup [x,y]) from⟨by show 2<=sizeLine;rw[CT];lia,[u1,u2],.cons ru1 (.cons ru2 .nil),⟨_,ht2,rfl,_,rfl⟩⟩)
  refine⟨.ref s.heap.objs.size,_,I2,rfl,⟨_,x,y,rfl,I.hok.fresh (H_ _),rfl,λws hy=>by rw[Te I hy hq1];exact hx,λws hy'=>by rw[Te I hy' hq2];exact hy⟩,?_,λb hb=>?_⟩
  ·exact⟨d1,up2 _ _ D.TIz c2,⟨_,_,up2 _ _ D.TOz c3⟩,c4.up λo e=>up2 _ o D.i1z e,c5.up λo e=>up2 _ o D.i2z e⟩
  ·rw[Ac (NK (lts b hb))];exact(hf b hb).1
 done:=by
  intro X hP hw hK hc i pins s σ H E I hf st hg;subst hP hw hK;obtain⟨xs,ys,hq1,hq2,hl⟩:=hg;have⟨its1,rv1,p1⟩:=Ng I hq1;have⟨its2,rv2,p2⟩:=Ng I hq2;have l1:=rv1.length;have l2:=rv2.length;refine kq1 (I.ok.hd hc) D st p1 p2 (hl.imp (λe=>?_) λe=>?_) λh' eb=>⟨rfl,Kg (t':=s.toks) I hf eb⟩
  ·simp;lia
  ·simp;lia
 self:=λA i s Q E st h=>Z_ st.zp h
def aJ(ds e:List D):List D:=(ds.zip e).map λp=>.tup [p.1,p.2]
def uX(ds e:List D):(aJ ds e).length=min ds.length e.length:=by unfold aJ;rw[HN,dH]
variable {ds es:List D}
def kq0{i:Nat}{d:D}(h:(aJ ds es)[i]? = some d):∃x y,ds[i]? = some x/\es[i]? = some y/\d=.tup [x,y]:=by
 unfold aJ at h;rw[QC]at h;cases e:(ds.zip es)[i]? with
 |none=>rw[e]at h;cases h
 |some p=>rw[e]at h;have⟨j,f⟩:=x_.mp e;exact⟨p.1,p.2,j,f,(Option.some.inj h).symm⟩
def SqR(K:BW)(b:Bool)(a:BJ)(vs:List V)(ds:List D):Hd:=match b with
 |true=>λH S=>LsR K H S a vs/\Ak K H S ds vs
 |false=>λH S=>SqT K H a vs/\Ak K H S ds vs
variable {vs:List V}
def SqR.sq{S:AS}(h:SqR K b a vs ds H S):SqB K H b a vs:=by
 cases b with
 |true=>exact h.1.sq
 |false=>exact h.1
def SqR.rp{S:AS}(h:SqR K b a vs ds H S):Ak K H S ds vs:=by
 cases b with
 |true=>exact h.2
 |false=>exact h.2
def SqR.stab:T8 (SqR K b a vs ds):=by
 cases b with
 |true=>exact Wi
 |false=>exact Wj
def T8.and{P Q:Hd}(h:T8 P)(k:T8 Q):T8 λH S=>P H S/\Q H S:=
 ⟨λs l z=>⟨h.mono s l z.1,k.mono s l z.2⟩,λf e z=>⟨h.wr f e z.1,k.wr f e z.2⟩,λf j e z=>⟨h.wrD f j e z.1,k.wrD f j e z.2⟩,λi z=>⟨h.avoid i z.1,k.avoid i z.2⟩⟩
theorem ku7{b1 b2:Bool}{a1:BJ}{ws:List V}:ItD K (Izp K b1 b2 a1 m) (aJ ds es) λH S=>SqR K b1 a1 vs ds H S/\SqR K b2 m ws es H S where
 stab:=T8.and SqR.stab SqR.stab
 go:=λi H S hi h=>by rw[uX]at hi;refine An (λv hv _=>?_) (h.1.rp.get (MJ (show i<ds.length by lia)));refine An (λw hw _=>?_) (h.2.rp.get (MJ (show i<es.length by lia)));exact⟨vs,ws,v,w,h.1.sq,h.2.sq,hv,hw⟩
 yld:=λi H S x H' h y=>by revert y;refine pH λt v1 v2 hz4 ht hz5 y1 y2=>?_;obtain rfl:=hz4;obtain rfl:=hz5;refine⟨Ao ht _,λd hd=>?_⟩;refine Bh (λp q hp hq hz6=>?_) (kq0 hd);obtain rfl:=hz6;refine An (λw1 hw1 rw1=>?_) (h.1.rp.get hp);refine An (λw2 hw2 rw2=>?_) (h.2.rp.get hq);have ev:v1=w1:=Option.some.inj ((y1 vs h.1.sq).symm.trans hw1);have ew:v2=w2:=Option.some.inj ((y2 ws h.2.sq).symm.trans hw2);subst ev ew;exact⟨t,_,rfl,TpR.of Af,v1,[v2],rfl,rw1.mono (Ao ht _) (λ_ z=>z),v2,[],rfl,rw2.mono (Ao ht _) (λ_ z=>z),rfl⟩
 stop:=λi H S hi h=>⟨vs,ws,h.1.sq,h.2.sq,by
  rw[uX]at hi;rw[<-h.1.rp.length,<-h.2.rp.length];lia⟩
def itZ(f:Ev->R (List D)):Ev->R (List D):=λe=>(f e).bind λxs=>match xs with
 | [x,y]=>match Lx x,Lx y with
  |some ds,some es=>.ok (aJ ds es)
  |_,_=>.bad
 |_=>.bad
def t8{S:AS}{d:D}{v:V}(r:Rep K H S d v)(h:Lx d=some ds):∃b a vs,v=.ref a/\SqR K b a vs ds H S:=by
 cases d with
 |lst es=>have e:es=ds:=Option.some.inj h;subst e;revert r;refine Bh λa vs j l f=>?_;obtain rfl:=j;exact⟨true,a,vs,rfl,l,f⟩
 |tup es=>have e:es=ds:=Option.some.inj h;subst e;revert r;refine Bh λa vs i l f=>?_;obtain rfl:=i;exact⟨false,a,vs,rfl,(TpR.sq l),f⟩
 |_=>cases h
section
variable {X:Cx}{c:DC}{l:Lv}{i f:BZ}{fs:Ev->R (List D)}{pos p j:GP}{e:List BZ}{k:Nat}
def zQ(hm:X.mg "zip" = none)(ha:PAd X c l [i,f] fs)(ag:Gl X "zip":=by rfl)(aa:BR [i,f] X.env=(false,CP i X.env)::BR [f] X.env:=by rfl)(af:Zp X.env j [f]:=by rfl):
  PId X c l (.Tuple e k pos) (.Call (.Name "zip" p) [i,f] [] j) (itZ fs):=by
 intro pins s σ H R I h;refine Call_ (Rw I ag hm boot_zip (PyProof.Rows.callWith_type1 (thG (ha j pins s σ H (λvs t=>∃u m b1 b2,vs=[.ref u,.ref m]/\(∃xs,SqB X.K t b1 u xs)/\(∃ys,SqB X.K t b2 m ys)/\R (Izp X.K b1 b2 u m) t) I ?_) λus n vs t O v o=>?_) aa af))
 ·revert h;refine Ce λhs ρ E q=>?_;refine⟨hs,ρ,E,(RQ.bind.mp q).mono (λds o vs t sm v r=>?_) λ_ z=>z⟩
  match ds,o,v,r with
  | [x,y],o,v,_ =>
   revert v;refine Bh λv1 aq Y rx r2=>?_;obtain rfl:=Y;revert r2;refine Bh λv2 Q L ry r3=>?_;obtain rfl:=L;cases P:Lx x with
   |none=>simp only[P]at o;exact o.elim
   |some ds =>
    cases Z:Lx y with
    |none=>simp only[P,Z]at o;exact o.elim
    |some es=>simp only[P,Z]at o;refine ZK (λb1 u ao J z1=>?_) (t8 rx P);obtain rfl:=J;refine ZK (λb2 m ak G z2=>?_) (t8 ry Z);obtain rfl:=G;have e3:Q=[]:=r3;subst e3;exact⟨u,m,b1,b2,rfl,⟨_,z1.sq⟩,⟨_,z2.sq⟩,o _ _ t sm ku7 ⟨z1,z2⟩⟩
  | [],o,_,r=>cases r
  | [_],o,_,r=>cases r
  |_::_::_::_,o,_,r=>cases r
 ·revert o;refine XS λu m b1 b2 F C B q=>?_;obtain rfl:=F;obtain⟨xs,ae⟩:=C;obtain⟨ys,ab⟩:=B;refine Bh (λu1 u2 A U T=>?_) (v.two);obtain rfl:=A;cases U;cases T;refine An (λaj au p1=>?_) (Ng O ae);refine An (λai ar w=>?_) (Ng O ab);refine jv8 p1 w λh' st hk=>Z_ st.zp ?_;refine⟨n.heap.objs.size+4,[n.heap.objs.size+4,n.heap.objs.size+2,n.heap.objs.size+3,n.heap.objs.size,n.heap.objs.size+1],_,_,t,rfl,O.kept (t':=n.toks) hk,kp2 (zipApart_new (rK p1) (rK w)),st,λb hb=>?_,q⟩;have M:n.heap.objs.size<=b:=by
   have ah:b=n.heap.objs.size+4\/b=n.heap.objs.size+2\/b=n.heap.objs.size+3\/b=n.heap.objs.size\/b=n.heap.objs.size+1:=by simpa using hb
   rcases ah with rfl |rfl |rfl |rfl |rfl
   ·exact g_ _ _
   ·exact g_ _ _
   ·exact g_ _ _
   ·exact H_ _
   ·exact g_ _ _
  exact O.fpOk M (O.hok.fresh M)
end
end PD
namespace PySem
open Sem (wp)
variable {od:GD}{f i:Nat}{Q:Option A_->BK->Prop}{it:BJ}
section
variable {P:BX}{w:CN}{A:C_}{E:A_->BK->Prop}{s:BK}
def jy7{d:BJ}{h:Array G_}{Q:A_->BK->Prop}(b:s.TypeIs (.ref d) "dict")(j:(d == FQ)=false)(e:s.heap.get? d=some od)(a:od.data=.dict h f)
  (l:Q (.ref s.heap.objs.size) {s with heap:=s.heap.push {cls:=.type "dict_keyiterator",data:=.fields #[.ref d,.int 0 0,.int h.size 0,.int f 0] } }):BL (BV P w) A (XF (.ref d)) Q E s:=by
 refine wpAny_pyIter_slot b F.slot_dict_iter (FP F.slot_dict_iter b F.entry_dict_iter ?_ (F.args_dict_iter_1 _));unfold MK.«dict.__iter__»;refine CK ?_;unfold Builtin.Dict.dictSlotNone;refine CK (wpAny_notOrdered_dict b ?_);show BL _ _ (pure (Value.ref d)) _ _ s;refine FZ ?_;show BL _ _ (Builtin.Dict.showsAll d >>= _) _ _ s;unfold Builtin.Dict.showsAll;rw[if_neg (by rw[j];exact TY)];refine CK (FZ (CK (QJ e a (CK (Q_ e a ?_)))));refine CK (CV (FZ ⟨_,rfl,"dict_keyiterator",_,⟨_,NP _ rfl,rfl⟩,F.slot_dict_keyiterator_next.lookup,?_⟩));simpa[FW] using l
theorem jy8{d:BJ}{n:Array G_}{e:G_}(l:s.heap.IsKeyIter it d i n.size f)(j:s.heap.get? d=some od)(m:od.data=.dict n f)(t:n[i]? = some e)
  (v:∀r,r.IsKeyIter it d (i+1) n.size f->Heap.SameBut it s.heap r->Q (some e.key) {s with heap:=r}):BL (BV P w) A (LC (.ref it)) Q E s:=by
 have⟨o,q,u,p⟩:=id l;have b:=l.typeIs;unfold LC;refine CK (K_ (EY (name:=Str.ofString "__next__") b F.slot_dict_keyiterator_next (FP F.slot_dict_keyiterator_next b F.entry_dict_keyiterator_next ?_ (F.args_dict_keyiterator_next_1 _))));refine CK (FZ ?_);refine CK ?_;refine CK ?_
 first | (refine CK (HB b (FZ ?_))) | (refine CK (IK b (FZ ?_)))
 refine CK (eE q p ?_);have h:Builtin.Dict_items.ownsTuple "dict_keyiterator" = false:=(by decide);simp only[h,n6,if_false];show BL _ _ (if(Value.ref d == Value.none)=true then _ else _) _ _ s;rw[if_neg (show ¬ ((Value.ref d == Value.none)=true) from TY)];refine CK (FZ ?_);refine CK (QJ j m ?_);rw[if_neg (by simp)];refine CK (FZ ?_);refine CK (Q_ j m ?_);rw[if_neg (by simp)];refine FZ ?_;simp only[show ¬ ((i:Int)<0) from(by lia),if_false,VP,t];refine CK ?_
 first | (refine CK (HB b (FZ ?_))) | (refine CK (IK b (FZ ?_)))
 refine CK (U_ b ?_);show BL _ _ (VL (.ref it) 1 (FW ((i:Int)+1)) >>= _) _ _ s;refine CK (DW q p (by simp) ?_);have a:(s.heap.update it (Obj.mapFields (·.setIfInBounds 1 (FW ((i:Int)+1))))).IsKeyIter it d (i+1) n.size f:=⟨_,WT _ q (Obj.isFreed_of_fields (Obj.data_mapFields p _)),(Obj.cls_mapFields ..).trans u,by rw[Obj.data_mapFields p];simp[FW]⟩;refine CK (HS (CK (U_ (s:={s with heap:=s.heap.update it (Obj.mapFields (·.setIfInBounds 1 (FW ((i:Int)+1))))}) a.typeIs ?_)));show BL _ _ (pure e.key) _ _ _;exact FZ (FZ ⟨_,rfl,FZ (v _ a (Heap.SameBut.update ..))⟩)
theorem jy6{d:BJ}{p:Array G_}(v:A.handled=none)(l:s.heap.IsKeyIter it d i p.size f)(j:s.heap.get? d=some od)(n:od.data=.dict p f)(u:p[i]? = none)
  (x:∀t,nH it s.heap t->Q none {s with heap:=t}):BL (BV P w) A (LC (.ref it)) Q E s:=by
 have⟨o,q,y,r⟩:=id l;have e:=l.typeIs;unfold LC;refine CK (K_ (EY (name:=Str.ofString "__next__") e F.slot_dict_keyiterator_next (FP F.slot_dict_keyiterator_next e F.entry_dict_keyiterator_next ?_ (F.args_dict_keyiterator_next_1 _))));refine CK (FZ ?_);refine CK ?_;refine CK ?_
 first | (refine CK (HB e (FZ ?_))) | (refine CK (IK e (FZ ?_)))
 refine CK (eE q r ?_);have h:Builtin.Dict_items.ownsTuple "dict_keyiterator" = false:=(by decide);simp only[h,n6,if_false];show BL _ _ (if(Value.ref d == Value.none)=true then _ else _) _ _ s;rw[if_neg (show ¬ ((Value.ref d == Value.none)=true) from TY)];refine CK (FZ ?_);refine CK (QJ j n ?_);rw[if_neg (by simp)];refine CK (FZ ?_);refine CK (Q_ j n ?_);rw[if_neg (by simp)];refine FZ ?_;simp only[show ¬ ((i:Int)<0) from(by lia),if_false,VP,u];refine CK ?_
 first | (refine CK (HB e (FZ ?_))) | (refine CK (IK e (FZ ?_)))
 show BL _ _ (VL (.ref it) 0 .none >>= _) _ _ s;refine CK (DW q r (by simp) ?_);show BL _ _ (eZ (.type "StopIteration") [] >>= _) _ _ _;refine CK ?_;simp only[eZ,newTuple];refine CK (CV ?_ (by size_fits));refine CK (m:=N_ _ _) (wpAny_of_eq (a:=Value.none) (by first |rfl | (simp only[N_];rfl)) ?_);refine CV ?_ (by size_fits);simp only[raiseNew];refine CK (wpAny_handled ?_);rw[show A.in1.handled=none from v];refine CK (FZ (VG ?_));refine CK (aB (T:="StopIteration") (b:=true) ⟨_,NP _ rfl,rfl⟩ iM (FZ (x _ (((Heap.SameBut.update ..).extBut.push _).push _))))
end
end PySem
namespace PD
open PySem PySem.Spec PyProof.Rows L2
variable {X:Cx}{pos:GP}
section
variable {c:DC}{l:Lv}{e a b:BZ}{f f1 f2:Ev->R D}{p:GP}{tg:BZ}
def kyO:D->Option Key
 | .int i=>some (.inl i)
 | .str x=>some (.inr x)
 |_=>none
def K9{d:D}{k:Key}(h:kyO d=some k):d=kyD k:=by
 cases d with
 |int i=>cases h;rfl
 |str x=>cases h;rfl
 |_=>cases h
def Vq(k:Key):kyO (kyD k)=some k:=by cases k<;>rfl
def Bv:List D->List D->Key->Option D
 |kd::ks,f::fs,k=>if kyO kd=some k then some f else Bv ks fs k
 |_,_,_=>none
def Ot:D->D->Option D
 | .exc c ks h,k=>if c = "dict" then(cC k).bind (Qh ks h) else if c = "dictK" then(kyO k).bind (Bv ks h) else none
 |_,_=>none
def Gk{K:BW}{H:Hp}{S:AS}(k:Key):∀{i:List Key}{j:List D}{vs:List V},i.length=vs.length->Ak K H S j vs ->
  (Ld (i.zip vs) k=none/\Bv (i.map kyD) j k=none)\/∃v f,Ld (i.zip vs) k=some v/\Bv (i.map kyD) j k=some f/\Rep K H S f v
 | [],j,vs,m,r=>by have:vs=[]:=d8 m.symm;subst this;exact .inl ⟨rfl,by simp[Bv]⟩
 |q::i,j,[],m,r=>by simp at m
 |q::i,j,v::vs,m,r=>by
  have n:i.length=vs.length:=by simpa using m
  cases j with
  |nil=>cases(show v::vs=[] from r)
  |cons f j =>
   revert r;refine Bh λu o e t s=>?_;cases e;rw[ZX,KH];by_cases h:q=k
   ·exact .inr ⟨v,f,M5 h,by rw[Bv,if_pos (by rw[Vq,h])],t⟩
   ·rw[M4 h,Bv,if_neg (by rw[Vq];intro z;exact h (Option.some.inj z))];exact Gk k n s
def wk4{i:List (BJ×GD)}{m:St}{H:Hp}{s:BK}{b:BJ}{k:List Key}(I:Inv X i m H s)(h:SqT X.K H b (k.map kV)):(LQ (Bq X.prog X.w)).is s.heap k b:=by have⟨j,q,⟨o,u,t,n,r⟩,_⟩:=I.tuple h;exact⟨o,j.toArray,n,u,t,r,by simpa using Rq q⟩
theorem dix(hu:X.A.units+70<FN)(ha:PEd X c l a f1)(hb:PEd X c l b f2)(hs:bC b:=by exact λ_ _=>rfl):PEd X c l (.Subscript a b pos) (b2 f1 f2 Ot):=by
 intro i s Y H Q I h;refine nC PySem.F.slot_dict_getitem.lookup hs (thG (ha i s Y H _ I (cI h)) λu s1 x H1 I1 rx q1=>thG (hb i s1 Y H1 _ I1 q1) λiv s2 y r q Z n=>?_);obtain⟨S,dx,B,d,r1,r2,e,q2⟩:=n;cases dx with
 |exc E ks K =>
  obtain⟨a,vs,rfl,t,rr⟩:=r1;have xd:T7 r E ks a vs:=by
   rcases t with t |t
   ·exact t.1
   ·have e0:(if E = "dict" then(cC B).bind (Qh ks K) else if E = "dictK" then(kyO B).bind (Bv ks K) else none)=some d:=e;have nd:E ≠ "dict"/\E ≠ "dictK":=t.elim (λ⟨C,W,ec,_⟩=>⟨ec.nd.1,λz=>ec.nd.2 (.inl z)⟩) λh=>⟨λz=>by have:=K6 h.1;rw[z]at this;exact absurd this (by decide +kernel),λz=>by have:=K6 h.1;rw[z]at this;exact absurd this (by decide +kernel)⟩;rw[if_neg nd.1,if_neg nd.2]at e0;cases e0
  obtain rfl:u=Value.ref a:=rx;rcases xd with ⟨rfl,kk,U,T,h3,o,J⟩ | ⟨rfl,kk,U,T,h3,o,J⟩
  ·have w:(cC B).bind (Qh ks K)=some d:=e;clear e;have⟨k,G,e⟩:=VV.mp w;clear w;cases B with
   |tup ds =>
    obtain⟨b',ws,rfl,hw,M⟩:=r2;have ev:=Vp (by rw[<-Rt G];exact M);subst ev;obtain rfl:iv=Value.ref b':=Z;have⟨t1,t2,aa⟩:=lR q (.inr ⟨_,.inr ⟨o,J⟩⟩);have⟨z,hd,ps,rel,dd⟩:=Sy q.hok (.inr ⟨o,J⟩);rw[U]at e;rcases Xr k T rr with ⟨_,j⟩ | ⟨v,f1,v1,j,L⟩
    ·rw[j]at e;cases e
    ·rw[j]at e;cases e;have⟨w',O,m⟩:=J5.some_of (v:=v) (o:=(QX ps k).map (·.2)) (by rw[<-v1];exact rel.val k);have⟨p,hp,P⟩:=VR.mp O;refine⟨t1,WY (HJ (by lia)) (wk4 q (TpR.sq hw)) dd hp ?_⟩;rw[P];exact⟨v,r,q.tok _,m,q2 v r (Ab.refl _) (L.mono (Ab.refl _) λ_ z=>.inl z)⟩
   |_=>cases G
  ·have w:(kyO B).bind (Bv ks K)=some d:=e;clear e;have⟨k,G,e⟩:=VV.mp w;clear w;have ek:=K9 G;subst ek;have ey:y=kV k:=by cases k<;>exact r2
   subst ey;rw[U]at e;rcases Gk k T rr with ⟨_,j⟩ | ⟨v,f1,v1,j,L⟩
   ·rw[j]at e;cases e
   ·rw[j]at e;cases e;have g:O7 r a (kV k) (some v):=.inl ⟨_,k,.inr ⟨o,J⟩,rfl,v1.symm⟩;exact⟨Sx q g,Xp (by lia) q g Z λw' s3 I3 m=>⟨v,r,I3,m,q2 v r (Ab.refl _) (L.mono (Ab.refl _) λ_ z=>.inl z)⟩⟩
 |_=>cases e
end
section
variable {pins:List (BJ×GD)}{σ:St}{H:Hp}{s:BK}{a:BJ}{o:GD}{u:HO}
def Inv.coldK{b:List (Key×V)}(I:Inv X pins σ H s)(h:H a=some (.dK b)):∃o,Inv X pins σ (upd H a (.frz o (.dK b))) s:=by have⟨z,y,i,r,f,j,l,e,c⟩:=(show Cj X.prog X.w H s.heap a (.dK b) from I.hok a _ h);exact⟨f,Inv.swap I h (λ_ z=>by cases z) (λ_ z=>by cases z) (λ_ z=>by cases z) (.inl λ_ _ z=>by cases z) ⟨e,z,y,i,r,f,j,l,e,c⟩⟩
end
section
variable {o i b f:BZ}{td ty j tx:TE}{e apos cpos:GP}
def Yi:PE X (.Dict [] [] pos) (λ_ H Q=>∀p,H p=none->∀l,Q (.ref p) (upd H p (.frz l (.dK [])))):=λa s t H Q I h=>by refine DP (vK a s t H (λv q=>∃p,v=.ref p/\H p=none/\q=upd H p (.dK [])) I λp m=>⟨p,rfl,m,rfl⟩) (λu y w=>?_) λ_ _ z=>z;obtain⟨v,q,x,r,p,rfl,m,rfl⟩:=w;have⟨l,n⟩:=Inv.coldK x Af;rw[m9]at n;exact⟨_,_,n,r,h p m l⟩
def ka4(Q:X.A.units+1<FN)(T:PE X o td)(Y:PE X i ty)(P:PE X b j)(hs:CW b (some (.Subscript o i e)) pos.line X.env=pure false):
  PS X (.Assign [.Subscript o i e] b pos) (λD m H=>j m H λv z=>td m z λx w=>ty m w λy t=>∃a B n k,x=.ref a/\t a=some (.frz B (.dK n))/\X.H₀ a=none/\y=kV k/\n.length<sizeLine/\∀p,D.nx m (upd t a (.frz p (.dK (putK n k v))))):=by
 intro l s m H D I h;refine TJ (thG (P l s m H _ I h) λr F v z I1 K O=>?_) hs;refine thG (T l F m z _ I1 O) λu E x w I2 J M=>?_;refine thG (Y l E m w _ I2 M) λiv s3 y t I3 G q=>?_;obtain⟨a,B,n,k,ex,Z,h0,ey,U,L⟩:=q;subst ex;subst ey;obtain rfl:u=Value.ref a:=J;refine Xq Q (Inv.thaw I3 Z h0) (bF.k (k:=k) Af U) G K λs4 I4=>?_;have⟨p,C⟩:=Inv.coldK I4 Af;rw[m9,m9]at C;exact⟨m,_,C,L p⟩
end
variable {u v:V}
def ky4{a:Type}[DecidableEq a]{q k:a}{r:List (a×V)}(h:q=k)(i:¬ k∈r.map (·.1)):putK ((q,u)::r) k v=(q,v)::r:=by
 have e:r.map (λb=>if b.1=k then(b.1,v) else b)=r:=by refine(dW λx f=>?_).trans (List.map_id r);rw[if_neg (λz=>i (TX.mpr ⟨x,f,z⟩))];rfl
 unfold putK;rw[if_pos (by simp[h]),KH,if_pos h,e]
def ky5{b:Type}[DecidableEq b]{q k:b}{r:List (b×V)}(h:¬ q=k):putK ((q,u)::r) k v=(q,u)::putK r k v:=by
 unfold putK;by_cases a:(r.any λe=>decide (e.1=k))=true
 ·rw[if_pos (by simp only[bG,a,Bool.or_true]),if_pos a,KH,if_neg h]
 ·rw[if_neg (by simp only[bG,decide_eq_false h,Bool.false_or];exact a),if_neg a,bJ]
def Cu:List D->List D->Key->D->List D×List D
 |kd::ks,f::fs,k,v=>if kyO kd=some k then(kd::ks,v::fs) else((kd::(Cu ks fs k v).1),(f::(Cu ks fs k v).2))
 |_,_,k,v=>([kyD k],[v])
theorem Rj{K:BW}{H:Hp}{S:AS}(k:Key){d:D}{v:V}(o:Rep K H S d v):∀{a:List Key}{i:List D}{vs:List V},a.length=vs.length->a.Nodup->Ak K H S i vs ->
  ∃(kk':List Key)(b:List V),putK (a.zip vs) k v=kk'.zip b/\kk'.length=b.length/\kk'.Nodup/\(∀x∈kk',x∈a\/x=k)/\(Cu (a.map kyD) i k d).1=kk'.map kyD/\Ak K H S (Cu (a.map kyD) i k d).2 b
 | [],i,vs,n,j,r=>by
  have G:vs=[]:=d8 n.symm;subst G;refine⟨[k],[v],rfl,rfl,by simp,by simp,?_,?_⟩
  ·simp[Cu]
  ·simp only[gU,Cu];exact .cons o Ak.nil
 |q::a,i,[],n,j,r=>by simp at n
 |q::a,i,w::vs,n,j,r=>by
  have m:a.length=vs.length:=by simpa using n
  rw[VB]at j;cases i with
  |nil=>cases(show w::vs=[] from r)
  |cons f i =>
   revert r;refine Bh λI b e y p=>?_;cases e;rw[ZX,KH,Cu];by_cases h:q=k
   ·have F:¬ k∈(a.zip vs).map (·.1):=by rw[List.map_fst_zip (by lia),<-h];exact j.1
    refine⟨q::a,v::vs,(ky4 h F).trans rfl,by simp[m],VB.mpr j,λx l=>.inl l,?_,?_⟩
    ·rw[if_pos (by rw[Vq,h])];rfl
    ·rw[if_pos (by rw[Vq,h])];exact .cons o p
   ·refine zY (λkk' t p1 E C s B A=>?_) (Rj k o m j.2 p);have c:¬ kyO (kyD q)=some k:=by rw[Vq];intro z;exact h (Option.some.inj z)
    refine⟨q::kk',w::t,by rw[ky5 h,p1];rfl,by simp[E],VB.mpr ⟨λz=>?_,C⟩,λx l=>?_,?_,?_⟩
    ·rcases s q z with z |z
     ·exact j.1 z
     ·exact h z
    ·rcases I_.mp l with rfl |l
     ·exact .inl MF
     ·exact(s x l).imp (λz=>KQ _ z) id
    ·rw[if_neg c,B];rfl
    ·rw[if_neg c];exact .cons y A
def XX(ks a:List D):D:=.exc "dictK" ks a
def Mr:D->Option (List D×List D)
 | .exc c ks a=>if c = "dictK" then some (ks,a) else none
 |_=>none
def O3{d:D}{p:List D×List D}(h:Mr d=some p):d=XX p.1 p.2:=by
 cases d with
 |exc c ks b=>obtain⟨a,rfl⟩:=Ax (show(if c = "dictK" then some (ks,b) else none)=some p from h);rw[a];rfl
 |_=>cases h
def O2(ks a:List D):Mr (XX ks a)=some (ks,a):=by unfold Mr XX;exact if_pos rfl
end PD
namespace PySem
open Sem (wp)
variable {vs:Array A_}{e L:BJ}{od:Option BJ}{sl:Array (Option A_)}
section
variable {M:JV}{A:C_}{E:A_->BK->Prop}{s:BK}
def Pj(h:B_)(e:BJ)(vs:Array A_):Prop:=(vs[1]? = some .none\/∃T b a,vs[1]? = some (.ref T)/\T≠e/\h.get? T=some b/\b.data=.fields a/\a[3]? = some .none)/\vs[2]? = some Value.none
def cxs{x:A_}(h:vs[2]? = some Value.none):(vs.setIfInBounds 1 x)[2]? = some Value.none:=by rw[Array.getElem?_setIfInBounds_ne (by decide)];exact h
def Pj.lt{h:B_}(t:Pj h e vs):1<vs.size:=by rcases t.1 with t | ⟨T,_,_,t,_⟩<;>exact(dZ.mp t).1
theorem entryE{base:B_}{env:GZ}{outer:List GZ}{c:A_}{head:A_}{r:Bool}{Q:Unit->BK->Prop}
  (J:A.frames=some (env::outer))(U:s.heap.FunFrames base (env::outer))(hf:env.frame=some L)(X:s.heap.get? e=some ⟨c,od,.fields vs,sl⟩)(hsz:1<vs.size)
  (h:∀F T P O,(∀b o,b≠e->b∉(env::outer).filterMap (·.frame)->s.heap.get? b=some o->F.get? b=some o)->(∀b o,s.heap.get? b=some o->b∈(env::outer).filterMap (·.frame)->∃sl,F.get? b=some {o with slots:=sl}) ->
   F.get? e=some ⟨c,od,.fields (vs.setIfInBounds 1 (.ref T)),sl⟩->s.heap.objs.size<=T->T≠e->F.get? T=some P->P.data=.fields O->O[3]? = some .none->Q () {s with heap:=F}):
  BL M A (do let a <-frameOf env;let pl <-entryPlaceOf L r;let b <-EntryCells.newEntry head a .none (FW L) .none pl;VL (.ref e) 1 b) (λ_ Y=>BL M A (J_ (.ref e) none) Q E Y) E s:=by
 have u:e∉(env::outer).filterMap (·.frame):=λZ=>by have⟨_,o,G,I⟩:=U.mem Z;rw[X]at G;injection G with G;subst G;exact I vs rfl
 refine CK (YS J U hf λi j=>?_);refine CK (W2 λpl C=>?_);unfold EntryCells.newEntry newFields;refine CK (CV ?_ (C.sizeOk5 _ _ _ _ _));have n:i.get? e=some ⟨c,od,.fields vs,sl⟩:=(j.2.1 e u).trans X;have m:=JK (h:=i) {cls:=.type "traceback",dict:=none,data:=.fields ([head,.ref L,.none,FW L,.none]++(if pl.isEmpty then List.replicate 6 Value.none else pl)).toArray} n;refine DW m rfl hsz ?_;have y:i.objs.size≠e:=VM (HD n);have p:=Obj.data_mapFields (o:=⟨c,od,.fields vs,sl⟩) rfl (·.setIfInBounds 1 (Value.ref i.objs.size));have l:=WT (Obj.mapFields (·.setIfInBounds 1 (Value.ref i.objs.size))) m (Obj.isFreed_of_fields p);have t:=(SQ (i.push {cls:=.type "traceback",dict:=none,data:=.fields ([head,.ref L,.none,FW L,.none]++(if pl.isEmpty then List.replicate 6 Value.none else pl)).toArray})
  (Obj.mapFields (·.setIfInBounds 1 (Value.ref i.objs.size))) (Ne.symm y)).trans (NP i rfl)
 unfold J_;refine CK (CJ l p (x:=.ref i.objs.size) (by simp[hsz]) ?_);rw[if_pos (show(Value.ref i.objs.size != Value.none)=true from by simp)];refine DW t rfl (by simp only[O_,PQ,L_,gZ]<;>omega) (h _ i.objs.size _ _ ?_ ?_ ?_ ?_ y (WT _ t (Obj.isFreed_of_fields (Obj.data_mapFields rfl _))) (Obj.data_mapFields rfl _) (by first | (simp;done) | (rcases C with rfl | ⟨_,_,_,_,_,_,_,rfl⟩<;>simp)))
 all_goals
  have keep:∀b o,b≠e->i.get? b=some o ->
    (((i.push {cls:=.type "traceback",dict:=none,data:=.fields ([head,.ref L,.none,FW L,.none]++(if pl.isEmpty then List.replicate 6 Value.none else pl)).toArray}).update e (Obj.mapFields (·.setIfInBounds 1 (Value.ref i.objs.size)))).update i.objs.size
     (Obj.mapFields (·.setIfInBounds 3 ((none:Option BJ).elim Value.none λf=>FW f)))).get? b=some o:=λb o w B=>by
   have K:i.objs.size≠b:=VM (HD B);rw[SQ _ _ K,SQ _ _ (Ne.symm w)];exact JK _ B
 ·intro b o w v B;exact keep b o w ((j.2.1 b v).trans B)
 ·intro b o B v;have⟨H,q⟩:=j.2.2 b o B;exact⟨H,keep b _ (λz=>u (z ▸ v)) q⟩
 ·rw[SQ _ _ y];exact l
 ·rw[<-j.1];exact H_ _
def p_{base:B_}{env:GZ}{outer:List GZ}{c:A_}{Q:Unit->BK->Prop}
  (v:A.frames=some (env::outer))(G:s.heap.FunFrames base (env::outer))(I:env.frame=some L)(x:s.heap.get? e=some ⟨c,od,.fields vs,sl⟩)(ht:Pj s.heap e vs)
  (h:∀h' j,(∀b o,b≠e->vs[1]? ≠ some (.ref b)->b∉(env::outer).filterMap (·.frame)->s.heap.get? b=some o->h'.get? b=some o)->(∀b o,s.heap.get? b=some o->b∈(env::outer).filterMap (·.frame)->∃sl,h'.get? b=some {o with slots:=sl}) ->
   h'.get? e=some ⟨c,od,.fields j,sl⟩->Pj h' e j->(∀T,j[1]? = some (.ref T)->s.heap.objs.size<=T)->(∃T,j[1]? = some (.ref T))->Q () {s with heap:=h'}):
  BL M A (GK (.ref e) env) (λ_ s'=>BL M A (J_ (.ref e) none) Q E s') E s:=by
 have n:=ht.lt;have w:∀(g h':B_) T m l,(∀b o,b≠e->vs[1]? ≠ some (.ref b)->s.heap.get? b=some o->g.get? b=some o)->g.objs.size=s.heap.objs.size->(∀b∈(env::outer).filterMap (·.frame),g.get? b=s.heap.get? b) ->
   (∀b o,b≠e->b∉(env::outer).filterMap (·.frame)->g.get? b=some o->h'.get? b=some o)->(∀b o,g.get? b=some o->b∈(env::outer).filterMap (·.frame)->∃sl,h'.get? b=some {o with slots:=sl}) ->
   h'.get? e=some ⟨c,od,.fields (vs.setIfInBounds 1 (.ref T)),sl⟩->g.objs.size<=T->T≠e->h'.get? T=some m->m.data=.fields l->l[3]? = some .none->Q () {s with heap:=h'}:=by
  intro g h' T m l k0 k1 k2 t h2 y h4 h5 h6 h7 h8;have F:(vs.setIfInBounds 1 (.ref T))[1]? = some (.ref T):=by simp[n]
  refine h h' _ (λb o u r q3 q4=>t b o u q3 (k0 b o u r q4)) (λb o u r=>h2 b o ((k2 b r).trans u) r) y ⟨.inr ⟨T,m,l,F,h5,h6,h7,h8⟩,cxs ht.2⟩ (λT' q=>?_) ⟨T,F⟩;rw[F]at q;cases q;rw[<-k1];exact h4
 unfold GK;simp only[I];rcases ht.1 with t | ⟨T,m,l,t,J,K,p,y⟩
 ·refine CK (CJ x rfl t ?_);rw[if_neg (by decide)];exact entryE v G I x n λh' T m l a1 a2 Z Y X U P O=>w s.heap h' T m l (λ_ _ _ _ q=>q) rfl (λ_ _=>rfl) a1 a2 Z Y X U P O
 ·refine CK (CJ x rfl t ?_);rw[if_pos (show(Value.ref T != Value.none)=true from by simp)];refine CK (CJ K p y ?_);rw[if_neg (show ¬ ((Value.none == FW L)=true) from by simp[FW])];refine CK (DW K p (dZ.mp y).1 ?_);have other:∀b,b≠T->(s.heap.update T (Obj.mapFields (·.setIfInBounds 3 Value.none))).get? b=s.heap.get? b:=λb f=>SQ _ _ (Ne.symm f);have a:∀b o,s.heap.get? b=some o->(∀vs,o.data≠.fields vs)->b≠T:=λb o f i q=>by rw[q,K]at f;injection f with f;subst f;exact i l p
  have H:∀b∈(env::outer).filterMap (·.frame),b≠T:=λb f=>by have⟨_,o,ho,i⟩:=G.mem f;exact a b o ho i
  refine entryE (s:={s with heap:=s.heap.update T (Obj.mapFields (·.setIfInBounds 3 Value.none))}) v (G.of_keeps λb o f i=>⟨o,(other b (a b o f i)).trans f,rfl⟩) I ((other e (Ne.symm J)).trans x) n
   λh' T' C B a1 a2 Z Y X U P O=>w _ h' T' C B (λb o u r q=>(other b (λz=>r (by rw[t,z]))).trans q) (nY _ _ _) (λb f=>other b (H b f)) a1 a2 Z Y X U P O
def wk8{base:B_}{env:GZ}{outer:List GZ}{c:A_}{Q:Unit->BK->Prop}
  (i:A.frames=some (env::outer))(j:s.heap.FunFrames base (env::outer))(l:env.frame=some L)(m:s.heap.get? e=some ⟨c,od,.fields vs,sl⟩)(ht:Pj s.heap e vs)
  (h:∀f a,(∀b o,b≠e->vs[1]? ≠ some (.ref b)->b∉(env::outer).filterMap (·.frame)->s.heap.get? b=some o->f.get? b=some o)->(∀b o,s.heap.get? b=some o->b∈(env::outer).filterMap (·.frame)->∃sl,f.get? b=some {o with slots:=sl}) ->
   f.get? e=some ⟨c,od,.fields a,sl⟩->Pj f e a->(∀T,a[1]? = some (.ref T)->s.heap.objs.size<=T)->(∃T,a[1]? = some (.ref T))->Q () {s with heap:=f}):
  BL M A (TV env (.ref e)) Q E s:=by
 unfold TV;exact CK (p_ i j l m ht h)
def qL{c:A_}{Q:Unit->BK->Prop}(a:s.heap.get? e=some ⟨c,od,.fields vs,sl⟩)(ht:Pj s.heap e vs)
  (h:∀m,(∀b o,vs[1]? ≠ some (.ref b)->s.heap.get? b=some o->m.get? b=some o)->m.get? e=some ⟨c,od,.fields vs,sl⟩->Q () {s with heap:=m}):BL M A (J_ (.ref e) none) Q E s:=by
 unfold J_;rcases ht.1 with i | ⟨T,v,u,i,l,r,j,t⟩
 ·refine CK (CJ a rfl i ?_);rw[if_neg (by decide)];exact FZ (h s.heap (λ_ _ _ q=>q) a)
 ·refine CK (CJ a rfl i ?_);rw[if_pos (show(Value.ref T != Value.none)=true from by simp)];have other:∀b,b≠T->(s.heap.update T (Obj.mapFields (·.setIfInBounds 3 ((none:Option BJ).elim Value.none λf=>FW f)))).get? b=s.heap.get? b:=λb p=>SQ _ _ (Ne.symm p);exact DW r j (dZ.mp t).1 (h _ (λb o n q=>(other b (λz=>n (by rw[i,z]))).trans q) ((other e (Ne.symm l)).trans a))
end
end PySem
namespace L2
open PySem PySem.Spec PyProof.Rows
structure O8(P:BX)(w:CN)(outer:List GZ)(H:Hp)(s:BK)(a:BJ)(H':Hp)(s':BK):Prop where
 os:s'.os=s.os
 bare:JZ s'.gens
 un:Un (frs outer) [] H H' s.heap s'.heap
 hok:HOk P w H' s'.heap
 new:s.heap.get? a=none
 obj:∃C od vs sl,H' a=some (.ext (PD.Em C a od))/\s'.heap.get? a=some ⟨.ref C,od,.fields vs,sl⟩/\Pj s'.heap a vs/\∀T,vs[1]? = some (.ref T)->s.heap.get? T=none/\H' T=none
def CXE(P:BX)(w:CN):CXT:=λb H s E e h=>∃a f,e=.ref a/\O8 P w b H s a f h/\E e none f
def Zk{base h h':B_}{H H':Hp}{l:List GZ}(t:h.FunFrames base l)(w:∀b∈frs l,H b=none)(un:Un (frs l) [] H H' h h'):h'.FunFrames base l:=by
 have all:∀(r:List GZ),(∀b∈frs r,b∈frs l)->h.FunFrames base r->h'.FunFrames base r:=by
  intro r;induction r with
  |nil=>intro _ _;trivial
  |cons env r p=>intro m f;revert f;refine aX λu a f=>?_;revert a;refine Wz λL o i s q v=>?_;have n:L∈frs l:=m L (by unfold frs;rw[VD,i];exact MF);have⟨x,e⟩:=un.slot L o q (w L n) n (by simp);exact⟨u,⟨L,_,i,s,e,v⟩,p (λb j=>m b (by unfold frs;rw[VD,i];exact KQ _ j)) f⟩
 exact all l (λ_ j=>j) t
section
variable {P:BX}{w:CN}{outer:List GZ}{H H':Hp}{s s':BK}{a:BJ}{h':B_}
def O8.noted{C:BJ}{p:Option BJ}{vs h:Array A_}{j:Array (Option A_)}(F:O8 P w outer H s a H' s')(x:H' a=some (.ext (PD.Em C a p)))(L:s'.heap.get? a=some ⟨.ref C,p,.fields vs,j⟩)(I:∀T,vs[1]? = some (.ref T)->s.heap.get? T=none/\H' T=none)
  (v:∀b∈frs outer,H b=none)(t:∀b∈frs outer,∃o,s.heap.get? b=some o)
  (k1:∀b o,b≠a->vs[1]? ≠ some (.ref b)->b∉frs outer->s'.heap.get? b=some o->h'.get? b=some o)(k2:∀b o,s'.heap.get? b=some o->b∈frs outer->∃j,h'.get? b=some {o with slots:=j})
  (k3:h'.get? a=some ⟨.ref C,p,.fields h,j⟩)(E:Pj h' a h)(k5:∀T,h[1]? = some (.ref T)->(s.heap.get? T=none/\H' T=none)):O8 P w outer H s a H' {s' with heap:=h'}:=by
 have new:∀b o,s.heap.get? b=some o->b≠a:=λb o q z=>by rw[z,F.new]at q;cases q
 have noT:∀b o,s.heap.get? b=some o->vs[1]? ≠ some (.ref b):=λb o q z=>by rw[(I b z).1]at q;cases q
 have y:∀b∈frs outer,H' b=none:=λb f=>by have⟨o,q⟩:=t b f;exact F.un.free b o q (v b f) (by simp)
 refine⟨F.os,F.bare,⟨λb o q n f _=>k1 b o (new b o q) (noT b o q) f (F.un.keep b o q n f (by simp)),λb o q n f _=>?_,λb o q n _=>F.un.free b o q n (by simp),λb o q _=>?_,F.un.tups,F.un.frzs,F.un.tbls⟩,λc u q=>?_,F.new,C,p,h,j,x,k3,E,k5⟩
 ·have⟨K,r⟩:=F.un.slot b o q n f (by simp);have⟨l,A⟩:=k2 b _ r f;exact⟨l,A⟩
 ·have⟨B,r⟩:=F.un.there b o q (by simp);by_cases f:b∈frs outer
  ·have⟨l,A⟩:=k2 b _ r f;exact⟨_,A⟩
  ·exact⟨B,k1 b B (new b o q) (noT b o q) f r⟩
 ·have G:=F.hok c u q;by_cases m:c=a
  ·subst m;rw[x]at q;cases q;revert G;refine aX λ_ _ J=>?_;exact⟨⟨h,j,k3,E.2⟩,⟨_,k3⟩,J⟩
  ·refine G.stay (λb o f e=>?_) (λ_ z=>z) λ_ _ z=>z;have i:H' b≠none/\b≠a:=by
    rcases f with rfl |f
    ·exact⟨by rw[q];simp,m⟩
    ·exact⟨by rw[f];simp,λz=>by rw[z,x]at f;cases f⟩
   exact k1 b o i.2 (λz=>i.1 (I b z).2) (λz=>i.1 (y b z)) e
end
def wz1{P:BX}{w:CN}{K:BW}{mg:BP->Option A_}{base:B_}{N:List BP}{qual:BP}{h:GX}{f:BJ}{p:A_}{A:C_}{outer:List GZ}{i:BK}{H0:Hp}{E:XK}:
  Passes (CXE P w) (Ls (CXE P w) P w K mg base N qual h f p A outer i H0 E) E:=by
 intro Y σ H s e s' I hx;revert hx;refine Bh λa H' x F q=>?_;obtain rfl:=x;refine XS (λC Z U X hH ho ht hT=>?_) (F.obj);have J:∀b∈frs (envOfC qual h i.heap.objs.size f p::outer),∃o,s.heap.get? b=some o:=λb m=>let ⟨_,o,e,_⟩:=I.stack.mem m; ⟨o,e⟩;have M:∀b∈frs (envOfC qual h i.heap.objs.size f p::outer),H b=none:=I.stkFree;show BL _ _ _ _ _ _;refine wk8 (env:=envOfC qual h i.heap.objs.size f p) (outer:=outer) (base:=base) (L:=i.heap.objs.size) I.ok.frames (Zk I.stack I.stkFree F.un) rfl ho ht λh' aa k1 k2 k3 k4 k5 k6=>?_;have G:=F.noted (h':=h') hH ho hT M J k1 k2 k3 k4 λT z=>⟨?_,F.hok.fresh (k5 T z)⟩
 ·have v:∀b o,i.heap.get? b=some o->b∉frs outer->b∉frs (envOfC qual h i.heap.objs.size f p::outer):=λb o q m z=>by
   have B:b=i.heap.objs.size\/b∈frs outer:=by unfold frs at z;rw[VD,show(envOfC qual h i.heap.objs.size f p).frame=some i.heap.objs.size from rfl]at z;exact I_.mp z
   rcases B with rfl |B
   ·exact absurd (HD q) (QL _)
   ·exact m B
  have sub:∀b∈frs outer,b∈frs (envOfC qual h i.heap.objs.size f p::outer):=λb m=>by unfold frs;rw[VD,show(envOfC qual h i.heap.objs.size f p).frame=some i.heap.objs.size from rfl];exact KQ _ m
  have l:Un (frs outer) [] H0 H i.heap s.heap:=I.base;refine⟨a,H',rfl,⟨G.os.trans I.os,G.bare,⟨λb o q n m _=>?_,λb o q n m _=>?_,λb o q n _=>?_,λb o q _=>?_,λb Q q=>G.un.tups b Q (l.tups b Q q),λb o u q=>G.un.frzs b o u (l.frzs b o u q),λb ps q=>?_⟩,G.hok,?_,?_⟩,q⟩
  ·exact G.un.keep b o (l.keep b o q n m (by simp)) (l.free b o q n (by simp)) (v b o q m) (by simp)
  ·have⟨ab,j⟩:=l.slot b o q n m (by simp);have⟨t,O⟩:=G.un.slot b _ j (l.free b o q n (by simp)) (sub b m) (by simp);exact⟨t,O⟩
  ·have⟨r,j⟩:=l.there b o q (by simp);exact G.un.free b r j (l.free b o q n (by simp)) (by simp)
  ·have⟨r,j⟩:=l.there b o q (by simp);exact G.un.there b r j (by simp)
  ·have⟨m1,j⟩:=l.tbls b ps q;have⟨m2,O⟩:=G.un.tbls b _ j;exact⟨m1++m2,by rw[O,dU]⟩
  ·cases z:i.heap.get? a with
   |none=>rfl
   |some o=>have⟨r,j⟩:=l.there a o z (by simp);rw[F.new]at j;cases j
  ·refine XS (λC Z U X g1 g2 g3 g4=>?_) (G.obj);refine⟨C,Z,U,X,g1,g2,g3,λT z=>⟨?_,(g4 T z).2⟩⟩;cases y:i.heap.get? T with
   |none=>rfl
   |some o=>have⟨r,j⟩:=l.there T o y (by simp);rw[(g4 T z).1]at j;cases j
 ·cases y:s.heap.get? T with
  |none=>rfl
  |some o=>have⟨r,j⟩:=F.un.there T o y (by simp);exact absurd (NZ (HD j) (k5 T z)) (QL _)
end L2
namespace PD
open PySem PySem.Spec PyProof.Rows L2
def sp1(K:BW)(n:Nat)(m:List D->R D):Sp:=λb H Q E=>b.length=n/\∃S e,Ak K H S e b/\RQ (m e) (λr=>∀v a,Ab H a->Rep K a (AS.plus S H) r v->Q v a) (λx=>∀v u a,Ab H a->Rep K a (AS.plus S H) x v->RelV v u->E u none a)
def EX(E:XK):D->V->Hp->Prop:=λ_ v a=>∀u,RelV v u->E u none a
def pQ(c:DC):XK:=λu _ a=>∃d v,RelV v u/\c.Ex d v a
abbrev Ma(X:Cx)(c:DC):Prop:=Passes (CXE X.prog X.w) X (pQ c)
variable {f:BJ}{fd:CZ}
section
variable {P:BX}{w:CN}{K:BW}{mg:BP->Option A_}{base:B_}
theorem Fp{x qual:BP}{st:CQ}{N ps:List BP}{k:Nat}{O:List Nat}{g:Ev->R Fl}(F:Fun K x qual st f fd)(S:Br N ps (Ae st))(hO:O.all (λi=>decide (ps.length<=i))=true)
  (l:∀(b:A_)(A:C_)(outer:List GZ)(s:BK)(H:Hp)(E:XK)(S0:AS),Dd k (A.deeper (envOfC qual (Ae st) s.heap.objs.size f b))->(A.deeper (envOfC qual (Ae st) s.heap.objs.size f b)).units+70<FN ->
   Ma (Ls (CXE P w) P w K mg base N qual (Ae st) f b A outer s H E) ⟨H,S0,O,EX E,[]⟩ ->
   Om (Ls (CXE P w) P w K mg base N qual (Ae st) f b A outer s H E) ⟨H,S0,O,EX E,[]⟩ (Bd st) g):
  Cw P w K mg base (CXE P w) (k+1) f fd ps (sp1 K ps.length (Be N.length g)):=by
 obtain⟨oc,od,kV,aa,pm,an,b,ct,Z,rfl,lk,y⟩:=F.ex;refine j_ lk y S (λM H Q E h=>h.1) λA outer s H M Q E G h=>?_;obtain⟨hl,S0,B,r,q⟩:=h;refine⟨_,l b A outer s H E S0 G (by have:=G.un;lia) (λn L H1 T e U I hx=>wz1 n L H1 T e U I ?_),[],Aa N.length B,Kd r (λi hi=>?_),?_⟩
 ·obtain⟨a,m,t,p,d,v,X,e3⟩:=hx;exact⟨a,m,t,p,e3 _ X⟩
 ·have:=SN.mp hO i hi;rw[hl];exact of_decide_eq_true this
 ·have j:RQ (aU (g (Aa N.length B))) _ _:=q;cases e:g (Aa N.length B) with
  |ok fl =>
   rw[e]at j;cases fl with
   |nx C=>exact λJ m E'=>j .non m E'.same rfl
   |rt d=>exact λv m s r=>j v m s (r.mono (Ab.refl _) λo z=>z.elim .inl λ⟨a,t,p,_⟩=>.inr ⟨a,t,p⟩)
   |bk C=>exact j.elim
   |ct C=>exact j.elim
  |exc x=>rw[e]at j;exact λv m s r u Y=>j v u m s (r.mono (Ab.refl _) λo z=>z.elim .inl λ⟨a,t,p,_⟩=>.inr ⟨a,t,p⟩) Y
  |bad=>rw[e]at j;exact j.elim
def kE{ps:List BP}{k n:Nat}{m:List D->R D}(F:Cw P w K mg base (CXE P w) k f fd ps (sp1 K n m)):Cw P w K mg base CX0 k f fd ps (sp0 K n m):=by
 have up:∀a H Q E,sp0 K n m a H Q E->sp1 K n m a H Q (λ_ _ _=>False):=λa H Q E ⟨t,S,y,r,q⟩=>⟨t,S,y,r,q.mono (λ_ z=>z) λ_ z=>z.elim⟩;refine⟨λa H Q E h=>F.len a H Q _ (up a H Q E h),λA b s H args j a Q E p u v l o=>HY (F.run A b s H args j a Q _ p u v l (up a H Q E o)) λr B i=>?_⟩;cases r with
 |error e=>obtain⟨_,_,_,_,z⟩:=i;exact z
 |ok x=>cases x<;>exact i
end
section
variable {X:Cx}{c:DC}{l:Lv}{e:BZ}{es:List BZ}{fs:Ev->R (List D)}{pos p:GP}{x:BP}{k n:Nat}{f:BJ}{fd:CZ}{ps:List BP}{m:List D->R D}
def clX(fs:Ev->R (List D))(m:List D->R D):Ev->R D:=λa=>(fs a).bind m
def wf9(F:Cw X.prog X.w X.K X.mg X.base (CXE X.prog X.w) k f fd ps (sp1 X.K n m))(I:Ma X c)(C:Dd k X.A)(L:X.mg x=some (.ref f))(O:W.keepIn X.K (.ref f)=true)(U:Binds X.K fd ps [])(Y:PAd X c l (e::es) fs)(J:(e::es).length=n:=by rfl)(G:ps.length=n:=by rfl)(P:Gl X x:=by rfl)
  (j:Zd x:=by decide)(T:Zs X.env e es:=by rfl)(i:Zp X.env pos es:=by rfl):
  PEd X c l (.Call (.Name x p) (e::es) [] pos) (clX fs m):=PE.imp (Z4 F C P L O U .nil I Y j T i) λs H Q q=>by
 revert q;refine Ce λhs t E q=>?_;refine Fz E ((RQ.bind.mp q).mono (λZ B vs H1 a E1 r M=>?_) λ_ z=>z);rw[SM];refine⟨?_,lvS c t s H l,Z,r,B.mono (λd z v o b h=>z v o (a.trans b) (h.mono (Ab.refl _) λ_ z=>Fv E a z)) λd z v u o b h y=>⟨d,v,y,z v o (a.trans b) ?_⟩⟩
 ·rw[<-r.length,M,J]
 ·exact h.mono (Ab.refl _) λ_ z=>Jv E (by cases l<;>rfl) (Fv E a z)
end
end PD
namespace L2
open PySem PySem.Spec PyProof.Rows
variable {P:BX}{w:CN}{H:Hp}{h:B_}{a:BJ}
def Cj.has{o:HO}(x:Cj P w H h a o):∃u,h.get? a=some u:=by
 cases o with
 |lst i=>obtain⟨_,_,_,_,e⟩:=x;exact⟨_,e⟩
 |tup i=>obtain⟨_,_,_,_,e,_⟩:=x;exact⟨_,e⟩
 |dK b=>obtain⟨_,_,_,_,o,_,_,e,_⟩:=x;exact⟨_,e⟩
 |dT b=>obtain⟨_,_,_,_,o,_,_,e,_⟩:=x;exact⟨_,e⟩
 |set S n=>obtain⟨o,_,_,_,e,_⟩:=x;exact⟨_,e⟩
 |ins C r j=>obtain⟨_,_,_,e,_⟩:=x;exact⟨_,e⟩
 |own y=>exact x
 |xd j=>obtain⟨_,⟨_,_,_,e,_⟩,_⟩:=x;exact⟨_,e⟩
 |rng p q=>obtain⟨_,_,_,e⟩:=x;exact⟨_,e⟩
 |frz m u=>obtain⟨e,_⟩:=x;exact⟨_,e⟩
 |tbl ps=>obtain⟨_,e,_⟩:=x;exact⟨_,e⟩
 |met f y=>exact⟨_,(show h.get? a=some _ from x)⟩
 |ext l=>obtain⟨_,e,_⟩:=x;exact e
def HOk.none_of(x:HOk P w H h)(e:h.get? a=none):H a=none:=by
 cases q:H a with
 |none=>rfl
 |some u=>have⟨o,z⟩:=Cj.has (x a u q);rw[e]at z;cases z
variable {C:BJ}
def v8{b:Option BJ}:∀i f:B_,PD.Em C a b i->(∀o,i.get? a=some o->f.get? a=some o)->PD.Em C a b f:=λ_ _ ⟨j,l,e,z⟩ k=>⟨j,l,k _ e,z⟩
def ks8{X:Cx}{i:List (BJ×GD)}{r:St}{s:BK}{h':B_}{e:BJ}{us:List A_}{tk:Nat}(I:Inv X i r H s)(f:Heap.MadeExcOf s.heap h' e (.ref C) us):
  O8 X.prog X.w X.stack H s e (upd H e (.ext (PD.Em C e none))) {s with heap:=h',toks:=tk}:=by
 refine Jh (λt l y x=>?_) (f.there);have j:=I.hok.none_of f.new;have ne:∀b o,s.heap.get? b=some o->b≠e:=λb o q z=>by rw[z,f.new]at q;cases q
 refine⟨rfl,I.bare,⟨λb o q _ _ _=>f.keeps b o q,λb o q _ _ _=>⟨o.slots,f.keeps b o q⟩,λb o q n _=>by rw[Ac (ne b o q)];exact n,λb o q _=>⟨o,f.keeps b o q⟩,λb m q=>by rw[Ac (Aw q j)];exact q,
  λb u m q=>by rw[Ac (Aw q j)];exact q,λb ps q=>⟨#[],by rw[Ac (Aw q j),q];simp⟩⟩,λb u q=>?_,f.new,C,none,_,_,Af,l,⟨.inl rfl,rfl⟩,λT z=>by cases z⟩
 by_cases p:b=e
 ·subst p;rw[Af]at q;cases q;exact⟨⟨_,_,l,rfl⟩,⟨_,l⟩,v8⟩
 ·rw[Ac p]at q;exact(I.hok b u q).stay (λc v _ z=>f.keeps c v z) (λc z=>by rw[Ac (Aw z j)];exact z) λc m z=>by rw[Ac (Aw z j)];exact z
end L2
namespace PD
open PySem PySem.Spec PyProof.Rows L2
def tW(K:BW)(c:DC)(n:Nat)(f:Ev->R Unit):TE:=λh H Q=>∃i b,Al K c i b h H/\RQ (f b) (λ_=>∀x a,Ab H a->x.length<=n->Q (.str x) a) (λe=>∀v a,Ab H a->Rep K a (lvS c b h H .any) e v->c.Ex e v a)
abbrev PXw(X:Cx)(c:DC)(n:Nat)(e:BZ)(f:Ev->R Unit):Prop:=PE X e (tW X.K c n f)
def YX:Ev->R Unit:=λ_=>.ok ()
def smI:D->R Unit
 | .int i=>if i.natAbs<2 ^ 200 then .ok () else .bad
 |_=>.bad
def jZ(f:Ev->R D):Ev->R Unit:=λa=>(f a).bind smI
def bO(f g:Ev->R Unit):Ev->R Unit:=λa=>(f a).bind λ_=>g a
variable {X:Cx}{e:BZ}{pos:GP}
variable {n:Nat}
section
variable {c:DC}{l:Lv}{es:List BZ}{f:Ev->R D}{g a:Ev->R Unit}
def wdk{x:BP}{j pos}(h:x.length<=2000:=by decide):PXw X c 2000 (.Constant (.str x) j pos) YX:=λb s i H Q I ⟨o,m,E,q⟩=>Z7 b s i H Q I (q x H (Ab.refl _) h)
theorem wdf(h:PEd X c l e f):PXw X c 2000 (.FormattedValue e (-1) none pos) (jZ f):=λj s B H Q I q=>by
 obtain⟨L,K,E,q⟩:=q;refine WD (thn (h j s B H (λv o=>∃i:Int,v=.int i/\i.natAbs<2 ^ 200/\∀x:BP,x.length<=2000->Q (.str x) o) I (Ag E ((RQ.bind.mp q).mono (λd r v o y M w=>?_) λ_ z=>z))) λu y F=>?_)
 ·cases d with
  |int i =>
   have p:RQ (if i.natAbs<2 ^ 200 then R.ok () else .bad) _ _:=r;by_cases m:i.natAbs<2 ^ 200
   ·rw[if_pos m]at p;exact⟨i,w,m,λx C=>p x o y C⟩
   ·rw[if_neg m]at p;exact p.elim
  |_=>exact r.elim
 ·obtain⟨v,o,J,w,i,G,m,r⟩:=F;subst G;obtain⟨t,rfl⟩:∃t,u=Value.int i t:=w;have b:i.natAbs.log2<1920:=by
   by_cases A:i.natAbs=0
   ·rw[A];decide
   ·exact cZ ((nJ A).mpr m) (by decide)
  refine VF b ⟨.str (toString i),o,(J.tok _).tok _,⟨_,rfl⟩,r _ ?_⟩;have:=int_text_length_le (a:=i) (k:=1920) (by decide) b;show(Str.ofString (toString i)).length<=2000;rw[PySem.ofString_length];lia
def PJ(X:Cx)(c:DC)(n:Nat)(es:List BZ)(f:Ev->R Unit):Prop:=∀(acc:BP)(b:List (BJ×GD))(s:BK)(i:St)(H:Hp)(Q:VK),acc.length+n<=sizeLine->Inv X b i H s ->
 (∃m j,Al X.K c m j i H/\RQ (f j) (λ_=>∀x h,Ab H h->x.length<=acc.length+n->Q (.str x) h) (λe=>∀v h,Ab H h->Rep X.K h (lvS c j i H .any) e v->c.Ex e v h))->BL (BV X.prog X.w) X.A (joinParts acc (JL es X.env)) (EP X b i Q) X.xe s
def bN:PJ X c 0 [] YX:=λacc b s i H Q h I ⟨m,j,E,q⟩=>joinParts_nil ⟨.str acc,H,I.tok _,⟨_,rfl⟩,q acc H (Ab.refl _) (H_ _)⟩ h
theorem RT(h:PXw X c 2000 e g)(O:PJ X c n es a)(P:JL (e::es) X.env=CP e X.env::JL es X.env:=by rfl):PJ X c (2000+n) (e::es) (bO g a):=λacc i s w H Q Z I q=>by obtain⟨F,m,E,q⟩:=q;rw[P];refine gJ (thG (h i s w H (λv p=>∃x:BP,v=.str x/\x.length<=2000/\Ab H p/\Al X.K c F m w p/\RQ (a m) (λ_=>∀x b,Ab H b->x.length<=acc.length+(2000+n)->Q (.str x) b) (λe=>∀v b,Ab H b->Rep X.K b (lvS c m w H .any) e v->c.Ex e v b)) I ⟨F,m,E,(RQ.bind.mp q).mono (λ_ C x p A J=>⟨x,rfl,J,A,E.mono A,C⟩) λ_ z=>z⟩) λu A v p U L o=>?_);obtain⟨x,T,J,j,Y,C⟩:=o;subst T;obtain⟨t,rfl⟩:∃t,u=Value.str x t:=L;have G:(acc++x).length=acc.length+x.length:=strLen_append _ _;refine⟨by rw[G];lia,O (acc++x) i A w p Q (by rw[G];lia) U ⟨F,m,Y,C.mono (λ_ z y b B M=>z y b (j.trans B) (by rw[G]at M;lia)) λ_ z v b B r=>z v b (j.trans B) (r.mono (Ab.refl _) λ_ y=>Bw j y)⟩⟩
theorem wdj{j i:BZ}(h:PJ X c n (j::i::es) g)(w:n<=sizeLine:=by decide)(u:JL (j::i::es) X.env=CP j X.env::CP i X.env::JL es X.env:=by rfl):PXw X c n (.JoinedStr (j::i::es) pos) g:=λb s m H Q I q=>by revert q;refine Ce λt o E q=>?_;refine iU ?_;rw[<-u];exact h Str.empty b s m H Q (by have:Str.empty.length=0:=rfl;rw[this];lia) I ⟨t,o,E,q.mono (λ_ z x v p r=>z x v p (by have:Str.empty.length=0:=rfl;rw[this]at r;lia)) λ_ z=>z⟩
end
abbrev VE:List A_:=[.type "ValueError",.type "Exception",.type "BaseException",.type "object"]
def aV(K:BW)(c:BP)(C W:BJ):Bool:=
 (match PySem.W.clsIn K C with |some a=>decide (a.name=c) && a.hasDict && a.mro == .ref C::.ref W::VE |none=>false) &&
 (match PySem.W.clsIn K W with |some a=>decide (a.name = "WebError") && a.mro == .ref W::VE |none=>false) &&
 PySem.W.findIn K (.ref C) "__getattribute__" == some (some (.builtin "BaseException.__getattribute__")) && PySem.W.findIn K (.ref C) "__getattr__" == some none && PySem.W.findIn K (.ref C) "__class__" == some (some (.builtin "object.__class__")) && decide (c ≠ "dict") && decide (¬ KD c)
variable {C W:BJ}
def kJ{K:BW}{c:BP}(a:PySem.W.nsIn K PySem.mainGlobals c=some (some (.ref C)))(b:PySem.W.nsIn K PySem.mainGlobals "WebError" = some (some (.ref W)))(q:aV K c C W=true):EC K c C W:=by
 unfold aV at q;simp only[KN,beq_iff_eq,decide_eq_true_eq]at q;obtain⟨⟨⟨⟨⟨⟨f,h⟩,p⟩,o⟩,j⟩,m⟩,l⟩:=q;refine⟨a,b,?_,?_,p,o,j,m,l⟩
 ·cases e:PySem.W.clsIn K C with
  |none=>rw[e]at f;cases f
  |some i=>rw[e]at f;simp only[KN,beq_iff_eq,decide_eq_true_eq]at f;exact⟨i,rfl,f.1.1,f.1.2,f.2⟩
 ·cases e:PySem.W.clsIn K W with
  |none=>rw[e]at h;cases h
  |some i=>rw[e]at h;simp only[KN,beq_iff_eq,decide_eq_true_eq]at h;exact⟨i,rfl,h.1,h.2⟩
def we8(K:BW)(C N:BJ)(bm:List A_):Prop:=∃nm q bs j sn sub m col l i h f b a,K.lookup C=some (KY nm q C N bs bm j sn sub m col l i h f b a "ValueError.__new__")
def Rp(K:BW)(C:BJ):Bool:=(K.lookup C).any λo=>o.cls == .type "type" && (PySem.W.clsIn K C).any (λa=>a.mro.head? == some (.ref C) && !a.hasDel && PySem.W.tailIn K VE a.mro.tail && PySem.W.nsOkIn K a.ns) &&
 decide (o.slots.size=6) && o.slots[4]? == some (some (.builtin "ValueError.__new__"))
theorem wo4{a:Array (Option A_)}{v:Option A_}(h:a.size=6)(f:a[4]? = some v):∃p o m l j,a = #[p,o,m,l,v,j]:=by
 have r:a[4]'(by rw[h];decide)=v:=by rw[iH (by rw[h];decide)]at f;exact Option.some.inj f
 refine⟨a[0]'(by rw[h];decide),a[1]'(by rw[h];decide),a[2]'(by rw[h];decide),a[3]'(by rw[h];decide),a[5]'(by rw[h];decide),?_⟩;apply Array.ext
 ·exact h
 ·intro i s q;have b:i<6:=q;rcases i with _ |_ |_ |_ |_ |_ |i
  ·rfl
  ·rfl
  ·rfl
  ·rfl
  ·exact r
  ·rfl
  ·exact absurd b (by omega)
def Zi{K:BW}(q:Rp K C=true):∃N h,we8 K C N h/\PySem.W.tailIn K VE h=true/\PySem.W.nsOkIn K N=true/\∃b,PySem.W.clsIn K C=some b/\b.ns=N:=by
 have⟨o,r,q⟩:=PySem.W.any_some q;simp only[KN,beq_iff_eq,decide_eq_true_eq]at q;obtain⟨⟨⟨t,f⟩,L⟩,J⟩:=q;have⟨b,a,f⟩:=PySem.W.any_some f;simp only[KN,beq_iff_eq,dN]at f;obtain⟨⟨⟨j,w⟩,v⟩,u⟩:=f;have⟨I,H,G,F,E,p⟩:=wo4 L J;have s:o.data=.cls b:=by unfold PySem.W.clsIn at a;rw[r]at a;obtain⟨A,l,x,y⟩:=o;cases x<;>first | (cases a;rfl) |cases a
 obtain⟨A,l,x,y⟩:=o;obtain⟨nm,bs,mro,B,z,i,sn,sub,M,col,del⟩:=b;dsimp only at t p s j w v u;subst t p s w;cases mro with
 |nil=>cases j
 |cons m h=>cases j;exact⟨B,h,⟨nm,z,bs,i,sn,sub,M,col,l,I,H,G,F,E,r⟩,v,u,_,a,rfl⟩
structure ER0(K:BW)(c:BP)(C W:BJ):Prop where
 ec:EC K c C W
 cl:Rp K C=true
 ni:∃cd,PySem.W.clsIn K C=some cd/\PySem.W.nsIn K cd.ns "__init__" = some none
def lU(K:BW)(C:BJ):Bool:=match PySem.W.clsIn K C with |some a=>PySem.W.nsIn K a.ns "__init__" == some none |none=>false
def wh7{K:BW}{c:BP}(a:PySem.W.nsIn K PySem.mainGlobals c=some (some (.ref C)))(b:PySem.W.nsIn K PySem.mainGlobals "WebError" = some (some (.ref W)))(q:aV K c C W=true)(h:Rp K C=true)(f:lU K C=true):ER0 K c C W:=by
 refine⟨kJ a b q,h,?_⟩;unfold lU at f;cases e:PySem.W.clsIn K C with
 |none=>rw[e]at f;cases f
 |some i=>rw[e]at f;exact⟨i,rfl,beq_iff_eq.mp f⟩
def Rep.err0{K:BW}{H:Hp}{S:AS}{nm:BP}{a:BJ}(b:EC K nm C W)(h:H a=some (.ext (Em C a none))):Rep K H S (.exc nm [] []) (.ref a):=⟨a,[],rfl,.inr (.inl ⟨C,W,b,.inl ⟨rfl,rfl,h⟩⟩),rfl⟩
def bW(nm:BP)(g:Ev->R Unit):Ev->R Fl:=λa=>(g a).bind λ_=>.exc (.exc nm [] [])
section
variable {c:DC}{f cpos:GP}{x:BP}{C W:BJ}{g:Ev->R Unit}{n:Nat}
def kl4(hp:Ma X c)(hc:X.calm=true)(hm:X.mg x=some (.ref C))(J:ER0 X.K x C W)(Z:PXw X c n e g)(hg:Gl X x:=by rfl)(B:Zd x:=by decide)
  (M:BR [e] X.env=[(false,CP e X.env)]:=by rfl):PSd X c (.Raise (some (.Call (.Name x f) [e] [] cpos)) none pos) (bW x g):=λh s L H D I q=>by
 obtain⟨hs,Q,E,q⟩:=q;have⟨N,bm,⟨nm,U,bs,hd,sn,sub,ab,col,dd,k0,k1,k2,k3,k5,hC⟩,hT,O,cd,G,A⟩:=Zi J.cl;obtain⟨aa,i,p⟩:=J.ni;rw[G]at i;cases i;rw[A]at p;have FB:=PySem.F.excBase_ValueError;have P:=PySem.W.tail_of_in (bmB:=VE) I.mod.kin hT;have N0:X.base.Ns N (X.base.nsMap N):=.of_isNs (PySem.W.isNs_of_in I.mod.kin O);have Y:X.base.nsMap N "__init__" = none:=PySem.W.nsMap_none_of_in I.mod.kin O p;refine wpAny_Raise_call_subT (C:=C) (nm:=nm) (q:=U) (N:=N) (bs:=bs) (bm:=bm) (hdct:=hd) (sn:=sn) (sub:=sub) (ab:=ab) (col:=col) (dd:=dd) (k0:=k0) (k1:=k1) (k2:=k2) (k3:=k3) (k5:=k5) FB (mN:=X.base.nsMap N) (P.hasType FB.hasBase) (I.ok.hd hc) (by rw[M];rfl) Y (Gy I hg hm ⟨rfl,?_⟩ B);rw[M];refine Calls.evalArgs_plain ?_;refine Calls.spliced_cons (thG (Z h s L H (λv t=>Ab H t/\Nz X.K c (.exc x [] [])) I ⟨hs,Q,E,(RQ.bind.mp q).mono (λ_ m y t w hy=>⟨w,m⟩) λz m=>G9 E m⟩) λu w v t l r1 j=>?_);obtain⟨T,m⟩:=j;refine Calls.spliced_nil ⟨rfl,show(1:Nat)<=sizeLine from by decide,l.KJ _ _ hC,N0.keeps l.bk,P.keeps l.bk,λh' a r=>?_⟩;have F:=ks8 (tk:=w.toks) l r;refine hp h L t w _ _ l ⟨a,_,rfl,F,_,.ref a,rfl,m (.ref a) _ ?_ (Rep.err0 J.ec Af)⟩;exact λb o z=>by have:t b=some o:=T _ _ (E.same _ _ z);rw[Ac (Aw this (l.hok.none_of r.new))];exact this
end
end PD
namespace PySem
open Sem (wp)
abbrev Q4(h:B_)(C:BJ):GD:={cls:=.ref C,data:=.fields #[.ref h.objs.size,.none,.none,.none,.bool false,.none] }
abbrev Dr(h:B_)(C:BJ)(rest:List A_):B_:=(h.push {cls:=.type "tuple",data:=.seq rest.toArray}).push (Q4 h C)
variable {Q:A_->BK->Prop}
section
variable {P:BX}{w:CN}{A:C_}{X:A_->BK->Prop}{h:B_}{f:Array iW}{dr:Drawn}{tk:Nat}{os:OsState}{C N fI:BJ}{bm bmB rest:List A_}{B newId a:String}
 {nm q:BP} {bs:List A_} {hdct:Bool} {sn:List BP} {sub:List A_} {ab:Bool} {col:Option Bool} {dd:Option BJ} {k0 k1 k2 k3 k5:Option A_}
def Wn(F:UT B newId a bmB)(T:OwnTail h bmB bm){Q:Fin->BK->Prop}(i:h.get? C=some (KY nm q C N bs bm hdct sn sub ab col dd k0 k1 k2 k3 k5 newId))(t:PySem.W.Looks (BV P w) h (QB (.ref C) "__init__") (some (.ref fI)))
  (u:PySem.W.Looks (BV P w) h (eQ (.ref fI)) (.type "function"))(e:rest.length<=sizeLine)
  (s:BL (BV P w) A (call (.ref fI) (.ref (h.objs.size+1)::rest)) (λr n=>r=.none/\Q (.done (.ret (.ref (h.objs.size+1)))) n) X ⟨Dr h C rest,f,dr,tk,os⟩):BL (BV P w) A (MK.«type.__call__» ⟨.ref C::rest,[]⟩) Q X ⟨h,f,dr,tk,os⟩:=by
 repeat (first |with_reducible refine wpAny_madeBy_exc i ?_ |with_reducible refine JC i ?_ |wp_step)
 refine codeAny_call_builtin_code (Code.quiet_builtin _ F.quiet) (wpAny_check_new_subT F T i (codeAny_exc_new_subT F T i ?_ e));show BL _ _ _ _ _ _;have up:∀{b:BJ}{o:GD},h.get? b=some o->(Dr h C rest).get? b=some o:=λz=>JK _ (JK _ z);have m:(Dr h C rest).get? (h.objs.size+1)=some (Q4 h C):=by unfold Dr Q4;heap_get
 have self:(Value.ref C::bm).contains (.ref C)=true:=by simp
 have j:=t.keeps (h':=Dr h C rest) λ_ _ z=>up z;have l:=u.keeps (h':=Dr h C rest) λ_ _ z=>up z;unfold isInstance
 repeat (first |with_reducible refine JC m ?_ | (with_reducible refine WK (up i) ?_;rw[self]) |wp_step)
 show BL _ _ (QB (.ref C) _) _ _ _;refine j _ _ _ _ (λ_ _ z=>z) ?_;refine HS (CK ?_);unfold bindSpecial;refine CK (l _ _ _ _ (λ_ _ z=>z) ?_);rw[if_pos (by decide)];refine FZ (CK (DP s (λr n p=>?_) λ_ _ x=>x));obtain⟨rfl,z⟩:=p;wp_walk;exact z
theorem jv5(F:UT B newId a bmB)(T:OwnTail h bmB bm)(e:h.get? C=some (KY nm q C N bs bm hdct sn sub ab col dd k0 k1 k2 k3 k5 newId))(l:PySem.W.Looks (BV P w) h (QB (.ref C) "__init__") (some (.ref fI)))
  (m:PySem.W.Looks (BV P w) h (eQ (.ref fI)) (.type "function"))(b:rest.length<=sizeLine)
  (j:BL (BV P w) (A.under (.builtin "type.__call__" ⟨.ref C::rest,[]⟩)) (call (.ref fI) (.ref (h.objs.size+1)::rest)) (λr i=>r=.none/\Q (.ref (h.objs.size+1)) i) X ⟨Dr h C rest,f,dr,tk,os⟩):BL (BV P w) A (call (.ref C) rest) Q X ⟨h,f,dr,tk,os⟩:=by
 have p:=tc_lookup;have o:=tc_bind (.ref C);have n:(⟨h,f,dr,tk,os⟩:BK).TypeIs (.ref C) "type":=⟨_,e,rfl⟩;refine JG (codeAny_of_tree ?_);show BL _ _ (callAny (.ref C) _) _ _ _
 repeat (any_goals (first |with_reducible refine JC e ?_ |assumption |wp_step))
 exact⟨rfl,codeAny_call_builtin_at (Code.quiet_builtin _ (by decide +kernel)) entry_typeCall (wpAny_check_type_call_sub e (Wn F T e l m b j))⟩
def jv1(F:UT B newId a bmB)(T:OwnTail h bmB bm){e j:BJ}{m:Option BJ}{l:Array (Option A_)}(p:h.get? C=some (KY nm q C N bs bm hdct sn sub ab col dd k0 k1 k2 k3 k5 newId))
  (i:h.get? e=some ⟨.ref C,m,.fields #[.ref j,.none,.none,.none,.bool false,.none],l⟩)(b:rest.length<=sizeLine)
  (n:Q .none ⟨(h.push {cls:=.type "tuple",data:=.seq rest.toArray}).update e (Obj.mapFields (·.setIfInBounds 0 (.ref h.objs.size))),f,dr,tk,os⟩):
  BL (BV P w) A (call (.builtin a) (.ref e::rest)) Q X ⟨h,f,dr,tk,os⟩:=by
 refine JG (OD F.init.plain F.initEntry (wpAny_check_init_subT F T p i rfl ?_));have o:=JK (h:=h) {cls:=.type "tuple",data:=.seq rest.toArray} i
 wp_walk
 exact n
end
open Sem (wp)
open Builtin Builtin.ObjectAttr
section
variable {prog:BX}{w:CN}{A:C_}{E:A_->BK->Prop}{s:BK}{K:BW}{x C W:BJ}{vs:Array A_}{sl:Array (Option A_)}{name:BP}{v:A_}{cd:ClassData}
theorem kz3{Q:Unit->BK->Prop}(Y:K.In s.heap)(n:s.heap.get? x=some ⟨.ref C,none,.fields vs,sl⟩)(hs:PySem.W.findIn K (.ref C) "__setattr__" = some (some (.builtin "object.__setattr__")))(H:PySem.W.clsIn K C=some cd)
  (u:cd.mro=.ref C::.ref W::PD.VE)(O:cd.hasDict=true)(ht:PySem.W.findIn K (.ref C) name=some none)
  (h:∀f p,(∀b o,b≠x->s.heap.get? b=some o->f.get? b=some o)->f.get? x=some ⟨.ref C,some s.heap.objs.size,.fields vs,sl⟩->f.Ns1 s.heap.objs.size (λy=>if y=name then some v else none)->Q () {s with heap:=f,toks:=p}):
  BL (BV prog w) A (setAttr (.ref x) name v) Q E s:=by
 have I:PySem.W.InstAt s.heap x ⟨.ref C,none,.fields vs,sl⟩ C none:=⟨n,rfl,rfl,True.intro⟩;refine PySem.W.set_plain Y I hs ?_;have m:=PySem.F.store_object;have sub:PySem.W.Looks (BV prog w) s.heap (isInstance (.ref x) (.type "object")) true:=I.type.andThen (PySem.W.looks_mroIn Y (by unfold PySem.W.mroIn;rw[H,wW,if_neg (by rw[u];exact TY),u];rfl));refine OD m.slot.plain m.entry (@PySem.W.check_slot (BV prog w) _ _ {s with toks:=s.toks+1} "object.__setattr__" "object" "__setattr__" (.ref x) [.str name s.toks,v] [] _ m.kind m.split sub (m.args (.ref x) (.str name s.toks) v) ?_);have t:PySem.W.Looks (BV prog w) s.heap (mroOf (.ref C)) cd.mro:=(PySem.W.looks_clsIn Y H).andThen .now;rw[PySem.W.osa_eq,refuse_eq];refine CK (CK (I.type.here (s:={s with toks:=s.toks+1}) (CK (t.here (s:={s with toks:=s.toks+1}) ?_))));rw[u,eV,eV,PySem.F.store_ValueError.passes];refine FZ (CK (I.type.here (s:={s with toks:=s.toks+1}) (CK ((PySem.W.looks_findIn Y ht).here (s:={s with toks:=s.toks+1}) (CK (FZ ?_))))));show BL _ _ (storeInOwnDict (.ref x) (.ref C) (.str name s.toks) name v _) _ _ _;refine CK (FZ (CK (CK (d_ n (CK ((PySem.W.looks_clsIn Y H).here (s:={s with toks:=s.toks+1}) ?_))))));rw[O];have a:(s.heap.push {cls:=.type "dict",data:=.dict #[] }).get? x=some ⟨.ref C,none,.fields vs,sl⟩:=JK _ n;have i:x≠s.heap.objs.size:=NK (HD n);refine CK (wpAny_alloc (CK (wpAny_update a ?_)));refine FZ ?_;have z:((s.heap.push {cls:=.type "dict",data:=.dict #[] }).update x λo=>{cls:=o.cls,dict:=some s.heap.objs.size,data:=o.data,slots:=o.slots}).get? s.heap.objs.size
   = some {cls:=.type "dict",data:=.dict #[] }:=(xQ _ _ _ _ i.symm).trans (Heap.get?_push_at rfl rfl)
 have r:((s.heap.push {cls:=.type "dict",data:=.dict #[] }).update x λo=>{cls:=o.cls,dict:=some s.heap.objs.size,data:=o.data,slots:=o.slots}).Ns s.heap.objs.size (λ_=>none):=
  ⟨_,#[],_,z,rfl,λe M=>absurd M (by simp),λ_=>rfl⟩
 show BL _ _ (storeInDict s.heap.objs.size (.str name s.toks) name v) _ _ _;unfold storeInDict newKeyGuard;refine CK (FZ (CK (wpAny_nsSet1 (Heap.Ns1.of_empty r) λf l j=>?_)));refine aW (λX P T q B G=>?_) (l.count (Within.cons name v Within.nil));refine CK (aA q (by rw[B];exact aG (RJ G (by rw[L_,gZ,CT];omega))) ?_);refine FZ (h f _ (λb U J L=>?_) ?_ l)
 ·exact(j.2 b (NK (HD L))).trans ((xQ _ _ _ _ J).trans (JK _ L))
 ·exact(j.2 x i).trans (WT _ a rfl)
end
open Sem (wp)
variable {s:BK}
section
variable {M:JV}{A:C_}{E:A_->BK->Prop}{env:GZ}
 {nm q:BP} {C N:BJ} {bs bm:List A_} {hdct:Bool} {sn:List BP} {sub:List A_} {ab:Bool} {col:Option Bool} {dd:Option BJ} {k0 k1 k2 k3 k5:Option A_} {newId:String}
def V1{x:Sem A_}{Q:Flow->BK->Prop}(b:bm.contains (.type "BaseException")=true)(n:A.handled=none)
  (h:BL M A x (λv a=>∃e l t j,v=.ref e/\a.heap.get? C=some (KY nm q C N bs bm hdct sn sub ab col dd k0 k1 k2 k3 k5 newId) /\
   a.heap.get? e=some ⟨.ref C,l,.fields #[.ref t,.none,.none,.none,.bool false,.none],j⟩/\E (.ref e) a) E s):
  BL M A (raiseStmt env (some x) none) Q E s:=by
 have i:(Value.ref C::bm).contains (.type "BaseException")=true:=by rw[List.contains_cons,b,Bool.or_true]
 unfold raiseStmt;refine CK (DP h (λv a f=>?_) λ_ _ x=>x);obtain⟨e,l,t,j,rfl,m,o,p⟩:=f;obtain⟨w,g,d,r,u⟩:=a
 repeat (first |with_reducible refine JC o ?_ |with_reducible refine JC m ?_ | (with_reducible refine WK m ?_;rw[i]) |wp_step)
 exact wpAny_raiseNew_none n p
def jl5{x:BZ}{pos:GP}{Q:Flow->BK->Prop}(f:bm.contains (.type "BaseException")=true)(j:A.handled=none)
  (h:BL M A (CP x env) (λv a=>∃e m t l,v=.ref e/\a.heap.get? C=some (KY nm q C N bs bm hdct sn sub ab col dd k0 k1 k2 k3 k5 newId) /\
   a.heap.get? e=some ⟨.ref C,m,.fields #[.ref t,.none,.none,.none,.bool false,.none],l⟩/\E (.ref e) a) E s):
  BL M A (exec (.Raise (some x) none pos) env) Q E s:=by
 rw[arm_exec_Raise]
 first
  |exact CK (GC (V1 (C:=C) (nm:=nm) (q:=q) (N:=N) (bs:=bs) (bm:=bm) (hdct:=hdct) (sn:=sn) (sub:=sub) (ab:=ab) (col:=col) (dd:=dd) (k0:=k0) (k1:=k1) (k2:=k2) (k3:=k3) (k5:=k5) (newId:=newId) f j (CK (DP h (λv i b=>CK (GC (FZ b))) λ_ _ x=>x))))
  | (simp only[evalOpt,Option.map];exact CK (GC (V1 (C:=C) (nm:=nm) (q:=q) (N:=N) (bs:=bs) (bm:=bm) (hdct:=hdct) (sn:=sn) (sub:=sub) (ab:=ab) (col:=col) (dd:=dd) (k0:=k0) (k1:=k1) (k2:=k2) (k3:=k3) (k5:=k5) (newId:=newId) f j (CK (DP h (λv i b=>CK (GC (FZ b))) λ_ _ x=>x)))))
end
end PySem
namespace PD
open PySem PySem.Spec PyProof.Rows L2
def Hv(C a:BJ)(e:Option BJ):B_->Prop:=λh=>∃t b,h.get? a=some ⟨.ref C,e,.fields #[.ref t,.none,.none,.none,.bool false,.none],b⟩
variable {a:BJ}{od:Option BJ}
def Vc{C:BJ}:∀f b:B_,Hv C a od f->(∀o,f.get? a=some o->b.get? a=some o)->Hv C a od b:=λ_ _ ⟨h,i,e⟩ k=>⟨h,i,k _ e⟩
structure ER1(K:BW)(c:BP)(C W fI:BJ)(fld:BP):Prop where
 ec:EC K c C W
 cl:Rp K C=true
 init:PySem.W.findIn K (.ref C) "__init__" = some (some (.ref fI))
 fn:PySem.W.typeIn K (.ref fI)=some (.type "function")
 seta:PySem.W.findIn K (.ref C) "__setattr__" = some (some (.builtin "object.__setattr__"))
 nf:PySem.W.findIn K (.ref C) fld=some none
 rd:PySem.W.readsIn K W (.type "type")=true
 wi:PySem.W.findCls K (.ref W) (.type "type") "__init__" = some (.val (.builtin "ValueError.__init__"))
 sp:PySem.W.specialIn K (.ref W) "__getattribute__" = some (some (.builtin "type.__getattribute__"))
 kp:PySem.W.keepIn K (.ref C)=true
def spI(C:BJ)(fld:BP):Sp:=λf H Q _=>∃e x v,f=[.ref e,.str x,v]/\H e=some (.ext (Hv C e none))/\∀b,H b=none->Q .non (upd (upd H b (.xd [(fld,v)])) e (.ext (Hv C e (some b))))
variable {H:Hp}
theorem wq6{o:HO}(h:H a=some o):upd H a o=H:=by
 funext b;unfold upd;split
 ·rename_i z;rw[z,h]
 ·rfl
def jc5{M:JV}{A:C_}{E:A_->BK->Prop}{s:BK}{env:GZ}{pos:GP}{i:String}{first:List A_}{Q:A_->BK->Prop}{e:BZ}{rest:List BZ}(h:BL M A (spliced (GJ pos (BR (e::rest) env))) (λj f=>True/\BL M A (call (.builtin i) (first++j)) Q E f) E s)
  (l:Zs env e rest)(b:Zp env pos rest):
  BL M A (JM pos (.builtin i) first (GJ pos (BR (e::rest) env)) []) Q E s:=by
 rw[l]at h ⊢;exact W.callWith_of (P:=λ_=>True) (by show((false || (GJ pos (BR rest env)).any (·.1)) ||false)=false;rw[b];rfl) (λ_ _=>⟨.machine,.inr (.inl rfl),.of_pure rfl⟩) (Calls.evalArgs_plain h)
variable {C W fI:BJ}{X:Cx}{fld x:BP}
variable {G u m j:GP}
def kj7{p1:GP}{pl:Sem Bool}(A:ER1 X.K x C W fI fld)(hm:X.mg "WebError" = some (.ref W))(h0:X.N[0]? = some ("self" : BP))(h1:X.N[1]? = some ("words" : BP))(Y:Vis X.env.scope "self")(v1:Vis X.env.scope "words")(hg:Gl X "WebError")
  (p:BR [.Name "self" u,.Name "words" m] X.env=(false,CP (.Name "self" u) X.env)::BR [.Name "words" m] X.env:=by rfl)(n:BR [.Name "words" m] X.env=(false,CP (.Name "words" m) X.env)::BR [] X.env:=by rfl)(E:Zp X.env j [.Name "words" m]:=by rfl)
  (ht:CP (.Call (.Attribute (.Name "WebError" p1) "__init__" G) [.Name "self" u,.Name "words" m] [] j) X.env=(do
   let P <-CP (.Name "WebError" p1) X.env
   JW G.atName
   let (f,first) <-JX [P] (HX P "__init__" pl)
   JM j f first (GJ j (BR [.Name "self" u,.Name "words" m] X.env)) (GR j (E_ [] X.env))):=by rfl):
  PE X (.Call (.Attribute (.Name "WebError" p1) "__init__" G) [.Name "self" u,.Name "words" m] [] j) (λv H Q=>∃e y,v[0]? = some (some (.ref e))/\v[1]? = some (some (.str y))/\H e=some (.ext (Hv C e none))/\Q .non H):=by
 intro l s v H Q I q;obtain⟨e,y,s0,s1,M,q⟩:=q;have⟨N,bm,⟨nm,qq,bs,hd,sn,sub,ab,col,dd,k0,k1,k2,k3,k5,hC⟩,hT,hN,cd,af,ae⟩:=Zi A.cl;refine PySem.W.methodCall_KW (pl:=pl) (Gy I hg hm ?_) ht;refine PySem.W.method_cls I.KJ A.sp (PySem.W.cls_value I.KJ A.rd A.wi rfl ?_);refine jc5 (first:=[]) (thn (Cp (V0 h0 Y) (Cp (V0 h1 v1) Jf n) p j l _ v H (λO H1=>O=[.ref e,.str y]/\H1=H) (I.tok _) ⟨_,s0,_,s1,rfl,rfl⟩) λZ s2 ⟨O,H2,t,r,ev,eH⟩=>⟨True.intro,?_⟩) p E;subst ev;subst eH;obtain⟨w,u1,rfl,ru⟩:∃w u1,Z=[w,u1]/\RelV (.ref e) w:=by
  cases r with
  |cons a b =>
   cases b with
   |cons c d=>cases d;exact⟨_,_,rfl,a⟩
 obtain rfl:w=Value.ref e:=ru;have⟨⟨t0,sl,T⟩,_,_⟩:=t.hok e _ M;obtain⟨i,g2,d2,B,aa⟩:=s2;have FB:=PySem.F.excBase_ValueError;refine jv1 (rest:=[u1]) FB ((PySem.W.tail_of_in (bmB:=VE) t.mod.kin hT).keeps t.bk) (t.KJ _ _ hC) T (show(1:Nat)<=sizeLine from by decide) ?_;have J:=JK (h:=i) {cls:=.type "tuple",data:=.seq [u1].toArray} T;have L:((i.push {cls:=.type "tuple",data:=.seq [u1].toArray}).update e (Obj.mapFields (·.setIfInBounds 0 (.ref i.objs.size)))).get? e=some ⟨.ref C,none,.fields #[.ref i.objs.size,.none,.none,.none,.bool false,.none],sl⟩:=WT _ J rfl;have U:=t.write (x:=e) (e:=e) (o:=.ext (Hv C e none)) (t':=B) (h':=(i.push {cls:=.type "tuple",data:=.seq [u1].toArray}).update e (Obj.mapFields (·.setIfInBounds 0 (.ref i.objs.size)))) (by rw[M];exact True.intro) (.inl rfl)
  (λb o hb z=>(SQ _ _ (Ne.symm hb)).trans (JK _ z)) ⟨_,L⟩ ⟨⟨_,_,L⟩,⟨_,L⟩,Vc⟩
 rw[wq6 M]at U;exact⟨.non,H2,U,rfl,q⟩
variable {p B t r:GP}
def kl0(Z:ER1 X.K x C W fI fld)(h0:X.N[0]? = some ("self" : BP))(h2:X.N[2]? = some fld)(v0:Vis X.env.scope "self")(v2:Vis X.env.scope fld)(T:Zd fld)(U:(fld == ("__classdict__" : BP))=false)
  (hs:CW (.Name fld t) (some (.Attribute (.Name "self" p) fld B)) r.line X.env=pure false):
  PS X (.Assign [.Attribute (.Name "self" p) fld B] (.Name fld t) r) (λD l H=>∃e v,l[0]? = some (some (.ref e))/\l[2]? = some (some v)/\H e=some (.ext (Hv C e none))/\∀dx,H dx=none->D.nx l (upd (upd H dx (.xd [(fld,v)])) e (.ext (Hv C e (some dx))))):=by
 intro i s l H D I q;revert q;refine Wz λe v w0 w2 he q=>?_;refine QS (thn (V0 h2 v2 T U i s l H (λJ F=>J=v/\F=H) I ⟨v,w2,rfl,rfl⟩) λu s1 ⟨y,F,I1,ry,e1,e2⟩=>thn (V0 h0 v0 (by decide) (by decide) i s1 l F (λJ H2=>J=.ref e/\H2=F) I1 ⟨_,w0,rfl,rfl⟩) λov h ⟨z,H2,E,rz,e3,e4⟩=>?_) hs;subst e1;subst e2;subst e3;subst e4;obtain rfl:ov=Value.ref e:=rz;refine aX (λP _ _=>?_) (E.hok e _ he);revert P;refine zZ λt0 sl ho=>?_;refine fO (λcd c1 c2 c3 c4=>?_) (Z.ec.cls);refine kz3 (W:=W) E.KJ ho Z.seta c1 c4 c3 Z.nf λh' L k1 O k3=>?_;have w:H2 h.heap.objs.size=none:=E.hok.fresh (H_ _);have Q:e≠h.heap.objs.size:=NK (HD ho);refine ZK (λn es ep g1 g2=>?_) (id k3);have M:n.isFreed=false:=(Heap.get?_some_iff.mp g1).2;have gD:(h.heap.push n).get? h.heap.objs.size=some n:=NP _ M;have I3:=E.laid (a:=h.heap.objs.size) (o:=.xd [(fld,y)]) (t':=h.toks) (h':=h.heap.push n) (λb w' z=>JK _ z) (H_ _) ⟨_,⟨n,es,ep,gD,g2⟩,λf=>by
  by_cases w:f=fld
  ·subst w;simp only[if_pos,List.lookup,beq_self_eq_true];exact ry
  ·have Y:(f == fld)=false:=beq_eq_false_iff_ne.mpr w;simp only[List.lookup,Y,if_neg w];exact True.intro⟩
 have I4:=I3.write (x:=e) (e:=e) (o:=.ext (Hv C e (some h.heap.objs.size))) (t':=L) (h':=h') (by rw[Ac Q,he];exact True.intro) (.inl rfl) (λb o Y z=>?_) ⟨_,O⟩ ⟨⟨_,_,O⟩,⟨_,O⟩,Vc⟩
 ·exact⟨l,_,I4,q _ w⟩
 ·by_cases A:b=h.heap.objs.size
  ·subst A;have z':(h.heap.push n).get? h.heap.objs.size=some o:=z;rw[gD]at z';cases z';exact g1
  ·rcases Heap.get?_push_cases (show(h.heap.push n).get? b=some o from z) with ⟨e1,_⟩ |w'
   ·exact absurd e1 A
   ·exact k1 b o Y w'
section
variable {P:BX}{w:CN}{K:BW}{mg:BP->Option A_}{base:B_}
def kt7{qual name:BP}{f:BJ}{params:bM}{b:GX}{dV kV l Y i ct oc:A_}{an:Option BJ}{z:Array (Option A_)}{p1 n:GP}
  (lk:K.lookup f=some ⟨oc,od,.func (PySem.W.fnOf name qual params [.Expr (.Call (.Attribute (.Name "WebError" p1) "__init__" G) [.Name "self" u,.Name "words" m] [] j) n,.Assign [.Attribute (.Name "self" p) fld B] (.Name fld t) r] b dV kV l Y an i ct),z⟩)
  (T:PySem.W.codeIn K i qual=true)(S:Br ["self","words",fld] ["self","words",fld] b)(er:ER1 K x C W f fld)(hm:mg "WebError" = some (.ref W))(L:Zd fld)(M:(fld == ("__classdict__" : BP))=false)
  (U:Vis b "self")(v1:Vis b "words")(v2:Vis b fld)(hg:b.names.lookup ("WebError" : BP)=some .globalImplicit){pl:GZ->Sem Bool}
  (ht:∀env:GZ,CP (.Call (.Attribute (.Name "WebError" p1) "__init__" G) [.Name "self" u,.Name "words" m] [] j) env=(do
   let Z <-CP (.Name "WebError" p1) env
   JW G.atName
   let (f,first) <-JX [Z] (HX Z "__init__" (pl env))
   JM j f first (GJ j (BR [.Name "self" u,.Name "words" m] env)) (GR j (E_ [] env))))
  (J:∀env:GZ,CW (.Name fld t) (some (.Attribute (.Name "self" p) fld B)) r.line env=pure false)(I:∀env:GZ,CW (.Call (.Attribute (.Name "WebError" p1) "__init__" G) [.Name "self" u,.Name "words" m] [] j) none n.line env=pure false):
  Cw P w K mg base CX0 1 f (PySem.W.fnOf name qual params [.Expr (.Call (.Attribute (.Name "WebError" p1) "__init__" G) [.Name "self" u,.Name "words" m] [] j) n,.Assign [.Attribute (.Name "self" p) fld B] (.Name fld t) r] b dV kV l Y an i ct) ["self","words",fld] (spI C fld):=by
 refine j_ lk T S (λvs H Q E h=>?_) λA o s H vs Q E hr h=>?_
 ·obtain⟨_,_,_,rfl,_⟩:=h;rfl
 ·revert h;refine aW λe y v F he q=>?_;obtain rfl:=F;refine⟨_,G6 (Z9 (kj7 er hm rfl rfl U v1 hg (ht:=ht _)) (I _)) (Fw (kl0 er rfl rfl U v2 L M (J _))),e,y,rfl,rfl,he,e,v,rfl,rfl,he,λdx O=>q dx O⟩
end
def W7:D->Bool
 | .non=>true
 | .int _=>true
 |_=>false
def bV(nm fld:BP)(g:Ev->R Unit)(f:Ev->R D):Ev->R Fl:=λb=>(g b).bind λ_=>(f b).bind λd=>if W7 d=true then .exc (.exc nm [.str fld] [d]) else .bad
variable {v:V}
def nF{K:BW}{H':Hp}{S S':AS}{d:D}(h:W7 d=true)(r:Rep K H S d v):Rep K H' S' d v:=by
 cases d with
 |non=>exact r
 |int i=>exact r
 |_=>cases h
def Rep.err1{K:BW}{S:AS}{nm:BP}{b:BJ}{d:D}(i:EC K nm C W)(e:PySem.W.findIn K (.ref C) fld=some none)(h:H a=some (.ext (Em C a (some b))))(f:H b=some (.xd [(fld,v)]))(r:Rep K H S d v):
  Rep K H S (.exc nm [.str fld] [d]) (.ref a):=⟨a,[v],rfl,.inr (.inl ⟨C,W,i,.inr ⟨fld,v,b,rfl,rfl,e,h,f⟩⟩),v,[],rfl,r,rfl⟩
section
variable {c:DC}{l:Lv}{e h:BZ}{i cpos pos:GP}{fd:CZ}{g:Ev->R Unit}{f:Ev->R D}{n:Nat}
def kl5(hp:Ma X c)(hc:X.calm=true)(hr:Dd 2 X.A)(hm:X.mg x=some (.ref C))(er:ER1 X.K x C W fI fld)(F:Cw X.prog X.w X.K X.mg X.base CX0 1 fI fd ["self","words",fld] (spI C fld))(hb:Binds X.K fd ["self","words",fld] [])
  (hw:PXw X c n e g)(hv:PEd X c l h f)(hg:Gl X x:=by rfl)(aw:Zd x:=by decide)
  (he:BR [e,h] X.env=(false,CP e X.env)::BR [h] X.env:=by rfl)(au:BR [h] X.env=(false,CP h X.env)::BR [] X.env:=by rfl)(ar:Zp X.env cpos [h]:=by rfl):
  PSd X c (.Raise (some (.Call (.Name x i) [e,h] [] cpos)) none pos) (bV x fld g f):=λZ s σ H D I q=>by
 refine nn0 λhG=>?_;obtain⟨hs,ρ,E,q⟩:=q;have⟨N,bm,⟨nm,qq,bs,hd,sn,sub,ab,col,dd,k0,k1,k2,k3,k5,hC⟩,hT,hN,cd,az,ay⟩:=Zi er.cl;have FB:=PySem.F.excBase_ValueError;have T0:=PySem.W.tail_of_in (bmB:=VE) I.mod.kin hT;refine hG (jl5 (C:=C) (nm:=nm) (q:=qq) (N:=N) (bs:=bs) (bm:=bm) (hdct:=hd) (sn:=sn) (sub:=sub) (ab:=ab) (col:=col) (dd:=dd) (k0:=k0) (k1:=k1) (k2:=k2) (k3:=k3) (k5:=k5) (newId:="ValueError.__new__") (T0.hasType FB.hasBase) (I.ok.hd hc) ?_);clear hG;refine IW (Gy I hg hm ?_ aw);let QA:List V->Hp->Prop:=λvs H2=>∃y v d,vs=[.str y,v]/\W7 d=true/\Rep X.K H2 c.S d v/\Ab H H2/\Nz X.K c (.exc x [.str fld] [d]);refine PySem.W.callWith_K (first:=[]) (h₀:=X.base) I.ok.mod.kin er.kp (thn (Cp hw (Cp hv Jf au) he cpos Z s σ H QA I ?_) λU s1 hh=>?_) he ar
 ·refine⟨hs,ρ,E,(RQ.bind.mp q).mono (λ_ p y Y s1 hy=>?_) λz p=>G9 E p⟩;refine Ag (E.mono s1) ((RQ.bind.mp p).mono (λd B v H2 s2 E2 r2=>?_) λz B v H' s2 r2=>B v H' (E.same.trans (s1.trans s2)) (r2.mono (Ab.refl _) λ_ z=>z));have t:RQ (if W7 d=true then R.exc (.exc x [.str fld] [d]) else .bad) _ _:=B;by_cases M:W7 d=true
  ·rw[if_pos M]at t;exact⟨y,v,d,rfl,M,nF M r2,s1.trans s2,t⟩
  ·rw[if_neg M]at t;exact t.elim
 ·refine nn0 λhG=>?_;obtain⟨vs,Y,I1,r,y,v,d,ev,M,rv,sm,p⟩:=hh;refine hG ⟨I1.KJ,?_⟩;clear hG;subst ev;obtain⟨J,g1,d1,ae,ag⟩:=s1;have aa:U.length=2:=by rw[<-r.length];rfl
  have aj:Y (J.objs.size+1)=none:=I1.hok.fresh (ZQ _);have gm:(Dr J C U).get? (J.objs.size+1)=some (Q4 J C):=by unfold Dr Q4;heap_get
  have up:∀b o,J.get? b=some o->(Dr J C U).get? b=some o:=λb o z=>JK _ (JK _ z);have I2:=I1.laid (a:=J.objs.size+1) (o:=.ext (Hv C (J.objs.size+1) none)) (t':=ae) (h':=Dr J C U) up (ZQ _) ⟨⟨_,_,gm⟩,⟨_,gm⟩,Vc⟩;refine jv5 FB (T0.keeps I1.bk) (I1.KJ _ _ hC) (PySem.W.looks_findIn I1.KJ er.init) (PySem.W.looks_typeIn I1.KJ er.fn) (by rw[ZS,aa];decide) ?_;let Q':VK:=λv' H2=>v'=.non/\∃Q,upd Y (J.objs.size+1) (.ext (Hv C (J.objs.size+1) none)) Q=none /\
   H2=upd (upd (upd Y (J.objs.size+1) (.ext (Hv C (J.objs.size+1) none))) Q (.xd [(fld,v)])) (J.objs.size+1) (.ext (Hv C (J.objs.size+1) (some Q)))
  have hq:spI C fld [.ref (J.objs.size+1),.str y,v] (upd Y (J.objs.size+1) (.ext (Hv C (J.objs.size+1) none))) Q' E0:=⟨_,y,v,rfl,Af,λQ P=>⟨rfl,Q,P,rfl⟩⟩;have r2:Vals [.ref (J.objs.size+1),.str y,v] (Value.ref (J.objs.size+1)::U):=.cons rfl r;refine JG (HY (F.run _ X.stack _ _ ⟨Value.ref (J.objs.size+1)::U,[]⟩ (Value.ref (J.objs.size+1)::U) _ _ E0 (hr.make C U []) (I2.env0.make C U []) (by
   have:=hb ⟨Dr J C U,g1,d1,ae,ag⟩ (Value.ref (J.objs.size+1)::U) I2.KJ (by rw[SM,L_,aa];rfl);rw[SM]at this;exact this) r2 hq) λrr s' O=>?_)
  cases rr with
  |error e=>exact O.elim
  |ok fl =>
   cases fl with
   |next=>exact O.elim
   |brk=>exact O.elim
   |cont=>exact O.elim
   |ret u =>
    have ah:X.K.In s'.heap:=let ⟨_,_,I3,_⟩:=I2.after O;I3.KJ;refine nn0 λhG=>?_;obtain⟨v',H',os,bare,un,ai,aq,rfl,Q,P,eH⟩:=O;refine hG ⟨aq,?_⟩;clear hG;have af:Q≠J.objs.size+1:=λz=>by rw[z,Af]at P;cases P
    have ax:Y Q=none:=by rw[Ac af]at P;exact P
    have ao:H' (J.objs.size+1)=some (.ext (Hv C (J.objs.size+1) (some Q))):=by rw[eH,Af]
    have⟨⟨t0,sl,ho⟩,_,_⟩:=ai _ _ ao;have L:Un (frs X.stack) [] Y H' J s'.heap:=(Un.laid up (ZQ _) aj).trans un;have nb:∀b o,J.get? b=some o->b≠J.objs.size+1:=λb o z e=>absurd (HD z) (by rw[e];exact gR.mpr (ZQ _));have nh:∀b o,H' b=some o->(∀φ,o≠.ext φ)->b≠J.objs.size+1:=λb o z ne e=>by rw[e,ao]at z;exact ne _ (Option.some.inj z).symm
    have FL:O8 X.prog X.w X.stack Y ⟨J,g1,d1,ae,ag⟩ (J.objs.size+1) (upd H' (J.objs.size+1) (.ext (Em C (J.objs.size+1) (some Q)))) s':=by
     refine⟨os,bare,⟨L.keep,L.slot,λb o z n1 n2=>by rw[Ac (nb b o z)];exact L.free b o z n1 n2,L.there,λb xs z=>?_,λb o u z=>?_,λb ps z=>?_⟩,λb o z=>?_,xU (ZQ _),C,some Q,_,sl,Af,ho,⟨.inl rfl,rfl⟩,λT z=>by cases z⟩
     ·have:=L.tups b xs z;rw[Ac (nh b _ this λ_ e=>by cases e)];exact this
     ·have:=L.frzs b o u z;rw[Ac (nh b _ this λ_ e=>by cases e)];exact this
     ·have⟨m,e1⟩:=L.tbls b ps z;exact⟨m,by rw[Ac (nh b _ e1 λ_ e=>by cases e)];exact e1⟩
     ·by_cases ak:b=J.objs.size+1
      ·subst ak;rw[Af]at z;cases z;exact⟨⟨_,_,ho,rfl⟩,⟨_,ho⟩,v8⟩
      ·rw[Ac ak]at z;exact(ai b o z).stay (λ_ _ _ y=>y) (λc y=>by rw[Ac (nh c _ y λ_ e=>by cases e)];exact y) (λc xs y=>by rw[Ac (nh c _ y λ_ e=>by cases e)];exact y) λc o z y=>by rw[Ac (nh c _ y λ_ e=>by cases e)];exact y
    refine⟨_,_,t0,sl,rfl,ah _ _ hC,ho,hp Z σ Y _ _ _ I1 ⟨_,_,rfl,FL,_,.ref (J.objs.size+1),rfl,p _ _ (λb o z=>?_) (Rep.err1 er.ec er.nf Af ?_ (nF M rv))⟩⟩
    ·have z1:Y b=some o:=sm _ _ (E.same _ _ z);have n1:b≠J.objs.size+1:=Aw z1 aj;have n2:b≠Q:=Aw z1 ax;rw[Ac n1,eH,Ac n1,Ac n2,Ac n1];exact z1
    ·rw[Ac af,eH,Ac af,Af]
end
end PD
namespace L2
open PySem PySem.Spec PyProof.Rows
section
variable {X:Cx}{pins:List (BJ×GD)}{σ:St}{H H':Hp}{s s':BK}
abbrev Cx.mrk(X:Cx)(a:A_):Cx:={X with A:=X.A.mark (some a),calm:=false,xe:=λ_ _=>False}
def Inv.mrk(I:Inv X pins σ H s)(a:A_):Inv (X.mrk a) pins σ H s:=
 ⟨⟨I.ok.mod,I.ok.kind,I.ok.glob,I.ok.blt,I.ok.above,I.ok.inj,I.ok.has,I.ok.cab,(λz=>Bool.noConfusion z),I.ok.frames,I.ok.stk,I.ok.exf,I.ok.bs,I.ok.bsz,I.ok.noex,I.ok.exfs,I.ok.funs,I.ok.frf⟩,I.os,I.bare,I.base,I.loc,I.cell,I.free,I.freeC,I.pin,I.hok,I.len⟩
def Inv.unmrk{a:A_}(ok:X.Ok)(I:Inv (X.mrk a) pins σ H s):Inv X pins σ H s:=⟨ok,I.os,I.bare,I.base,I.loc,I.cell,I.free,I.freeC,I.pin,I.hok,I.len⟩
def uM{M:JV}{A:C_}{E:A_->BK->Prop}{i:Nat}{n:BP}{pos:GP}{Q:Unit->BK->Prop}(I:Inv X pins σ H s)(hN:X.N.Nodup)(J:X.N[i]? = some n)(hk:X.env.scope.names.lookup n=some .local)
  (h:∀s',Inv X pins (σ.set i none) H s'->Q () s'):BL M A (do bindName X.env n .none;unbindBehindTheSuite X.env n pos) Q E s:=by
 refine An (λm G hl=>?_) (id I.loc);have t:(X.env.scope.kind == .class || (X.env.scope.kind == .module && X.env.locals != X.env.globals))=false:=by rw[I.ok.kind];rfl
 have r:i<σ.length:=by rw[I.len];exact(MT.mp J).1
 have cne:=I.cne;refine wpAny_nameGoes_keeps hk G t λh' v x a=>?_;refine ZK (λoL _ _ aa _=>?_) (id G);refine h _ ⟨I.ok,I.os,I.bare,⟨λb o e n C l=>?_,λb o e n C l=>?_,I.base.free,λb o e l=>?_,I.base.tups,I.base.frzs,I.base.tbls⟩,⟨_,x,λj y K f w e3=>?_⟩,λy c e=>?_,I.free,I.freeC,λp Z=>?_,λb T e=>?_,by simpa using I.len⟩
 ·exact(a.2 b (NK (NZ (HD e) I.ok.above))).trans (I.base.keep b o e n C l)
 ·have⟨O,f⟩:=I.base.slot b o e n C l;exact⟨O,(a.2 b (NK (NZ (HD e) I.ok.above))).trans f⟩
 ·have⟨U,f⟩:=I.base.there b o e l;exact⟨U,(a.2 b (NK (NZ (HD e) I.ok.above))).trans f⟩
 ·by_cases B:j=i
  ·subst B;rw[QD r]at w;cases w
  ·rw[JR (Ne.symm B)]at w;refine An (λL P q=>?_) (hl j y K f w e3);refine⟨L,P,?_⟩;rcases q with ⟨k,e⟩ | ⟨k,c,e,z⟩
   ·refine .inl ⟨k,?_⟩;have:y≠n:=λe=>B (Vv hN f (e ▸ J));simp[this,e]
   ·exact .inr ⟨k,c,e,z.sameBut a (cne y c e)⟩
 ·have⟨F,z⟩:=I.cell y c e;exact⟨F,z.sameBut a (cne y c e)⟩
 ·refine z6 (λe n ne Y d=>?_) (I.pin p Z);exact⟨(a.2 p.1 ne).trans e,n,ne,Y,d⟩
 ·refine(I.hok b T e).stay (λc F u q=>(a.2 c ?_).trans q) (λ_ q=>q) λ_ _ q=>q;rintro rfl;rcases u with rfl |u
  ·rw[I.free]at e;cases e
  ·rw[I.free]at u;cases u
def O8.land{P:BX}{w:CN}{outer:List GZ}{a C:BJ}{l:Option BJ}{vs:Array A_}{i:Array (Option A_)}{h':B_}(F:O8 P w outer H s a H' s')(p:H' a=some (.ext (PD.Em C a l)))(j:∀T,vs[1]? = some (.ref T)->s.heap.get? T=none/\H' T=none)
  (k1:∀b o,vs[1]? ≠ some (.ref b)->s'.heap.get? b=some o->h'.get? b=some o)(k3:h'.get? a=some ⟨.ref C,l,.fields vs,i⟩):Un (frs outer) [] H H' s.heap h'/\HOk P w H' h':=by
 have noT:∀b o,s.heap.get? b=some o->vs[1]? ≠ some (.ref b):=λb o q z=>by rw[(j b z).1]at q;cases q
 refine⟨⟨λb o q n f h=>k1 b o (noT b o q) (F.un.keep b o q n f h),λb o q n f h=>?_,F.un.free,λb o q h=>?_,F.un.tups,F.un.frzs,F.un.tbls⟩,λc u q=>?_⟩
 ·have⟨i,e⟩:=F.un.slot b o q n f h;exact⟨i,k1 b _ (noT b o q) e⟩
 ·have⟨m,e⟩:=F.un.there b o q h;exact⟨m,k1 b _ (noT b o q) e⟩
 ·refine(F.hok c u q).stay (λb o f e=>k1 b o (λz=>?_) e) (λ_ z=>z) λ_ _ z=>z;rcases f with rfl |f
  ·rw[(j b z).2]at q;cases q
  ·rw[(j b z).2]at f;cases f
end
end L2
namespace PD
open PySem PySem.Spec PyProof.Rows L2
def unS(i:Nat):R Fl->R Fl
 | .ok (.nx a)=>.ok (.nx (a.set i none))
 | .ok (.rt d)=>.ok (.rt d)
 |_=>.bad
def cF:D->Bool
 | .exc c _ a=>decide (c ≠ "dict") && decide (¬ KD c) && Bf a
 |_=>false
variable {K:BW}{H:Hp}
def Al.unset{c:DC}{hs:List Hd}{ρ:Ev}{σ:St}{i:Nat}(E:Al K c hs ρ σ H)(hi:i∉c.O):Al K c hs (ρ.set i none) (σ.set i none) H where
 same:=E.same
 len:=by rw[RX,RX];exact E.len
 own:=λj d hj hd=>by have hji:j≠i:=λz=>hi (z ▸ hj);rw[JR (Ne.symm hji)]at hd;refine Jh (λa e2 e4 e5=>?_) (E.own j d hj hd);refine⟨a,by rw[JR (Ne.symm hji)];exact e2,e4,?_⟩;rw[Ut hi];exact e5
 apart:=λj k a hj hk lj lk e1 e2=>by have hji:j≠i:=λz=>hi (z ▸ hj);have hki:k≠i:=λz=>hi (z ▸ hk);rw[JR (Ne.symm hji)]at e1;rw[JR (Ne.symm hki)]at e2;exact E.apart j k a hj hk ((Bt hji).mp lj) ((Bt hki).mp lk) e1 e2
 oth:=λj d hj hd=>by
  by_cases hji:j=i
  ·subst hji;by_cases hl:j<ρ.length
   ·rw[QD hl]at hd;cases hd
   ·rw[List.set_eq_of_length_le (gR.mp hl),YJ (gR.mp hl)]at hd;cases hd
  ·rw[JR (Ne.symm hji)]at hd;refine An (λv e1 e2=>?_) (E.oth j d hj hd);refine⟨v,by rw[JR (Ne.symm hji)];exact e1,?_⟩;rw[Ut hi];exact e2
 held:=λP hp=>by have⟨a,b⟩:=E.held P hp;refine⟨a,?_⟩;rw[Ut hi];exact b
 excl:=E.excl
section
variable {X:Cx}{c:DC}{st e:CQ}{a:List CQ}{g:Ev->R Ev}{h:Ev->R Fl}{f b pos:GP}{n i:BP}{W:BJ}
def kl8{S S':AS}{d:D}{v:V}(o:cF d=true)(r:Rep K H S d v):∃nm ks l a m,d=.exc nm ks l/\v=.ref a/\Us K H nm ks a m/\Ak K H S' l m:=by
 cases d with
 |exc nm ks l=>revert r;refine Bh λa m e x p=>?_;have j:(decide (nm ≠ "dict") && decide (¬ KD nm) && Bf l)=true:=o;rw[KN,KN,decide_eq_true_eq,decide_eq_true_eq]at j;exact⟨nm,ks,l,a,m,rfl,e,x.errC j.1.1 j.1.2,V5 l m j.2 p⟩
 |_=>cases o
end
end PD
namespace PySem
open Sem (wp)
open Builtin Builtin.ObjectAttr
section
variable {prog:BX}{w:CN}{A:C_}{E:A_->BK->Prop}{s:BK}{K:BW}{x C:BJ}{i:GD}{od:Option GD}{name:BP}{tk:Tok}{f b:Bool}
def zU{Q:A_->BK->Prop}{r:Found}(Y:K.In s.heap)(I:PySem.W.InstAt s.heap x i C od)(j:PySem.W.findIn K (.ref C) "__getattribute__" = some (some (.builtin "BaseException.__getattribute__")))(m:PySem.W.findIn K (.ref C) "__getattr__" = some none)
  (o:PySem.W.mroIn K C (.type "BaseException")=some true)(n:PySem.W.findObj K C od name=some r)
  (h:match r with
   | .value v=>BL (BV prog w) A (handedOut v) Q E s
   | .bind g a=>JD (BV prog w) A.in1 (.call g ⟨[a,.ref x,.ref C],[]⟩) (λr l=>match r with | .ok (.ret v)=>BL (BV prog w) A (handedOut v) Q E l |_=>False) s
   | .missing=>False):
  BL (BV prog w) A (getAttrBy (.ref x) (.str name tk) f b) Q E s:=by
 have FB:=PySem.F.attrBase_ValueError;unfold getAttrBy;refine HS (CK (I.type.here (CK ((PySem.W.looks_findIn Y j).here ?_))));dsimp only;rw[show(aH (Value.ref C) && Value.builtin "BaseException.__getattribute__" == Value.builtin "object.__getattribute__")=false from by rw[show(Value.builtin "BaseException.__getattribute__" == Value.builtin "object.__getattribute__")=false from by decide +kernel,nR],if_neg (by decide)];unfold getAttrByItsOwn hookBefore;rw[if_pos (show aH (Value.ref C)=true from rfl)];refine CK ((PySem.W.looks_findIn Y m).here (CK (K_ (HS ?_))));unfold callGetattribute;rw[show(b && aH (Value.builtin "BaseException.__getattribute__"))=false from nR _,if_neg (by decide)];unfold boundAndCalled;rw[FB.ga.bind];refine CK (FZ ?_);show BL _ _ (call (.builtin "BaseException.__getattribute__") [.ref x,.str name tk]) _ _ _;refine JG (OD FB.ga.plain PySem.F.entry_bexc_ga ?_);refine @PySem.W.check_slot (BV prog w) _ _ s "BaseException.__getattribute__" "BaseException" "__getattribute__" (.ref x) [.str name tk] [] _ (by decide +kernel) (by decide +kernel) (I.type.andThen (PySem.W.looks_mroIn Y o)) (PySem.F.args_bexc_ga (.ref x) (.str name tk)) ?_;obtain⟨y,g,d,t,u⟩:=s;have q:=I.type (M:=BV prog w);have p:=PySem.W.looks_find (M:=BV prog w) Y I n;unfold MK.«object.__getattribute__»;refine CK (FZ (CK (FZ (CK (q.at (CK (p.at ?_)))))));cases r with
 |value v=>exact FZ h
 |missing=>exact h.elim
 |bind g a=>refine CK (HS (JG (HY h λr l z=>?_)));rcases r with e | (v |_ |_ |_)<;>first |exact z.elim |exact FZ z
end
end PySem
namespace PD
open PySem PySem.Spec PyProof.Rows L2
variable {C:BJ}
def lL{K:BW}{a:ClassData}{m:List A_}{b:A_}(h1:W.clsIn K C=some a)(f:a.mro=m)(e:m.isEmpty=false):W.mroIn K C b=some (m.contains b):=by unfold W.mroIn;rw[h1,wW,f,if_neg (by rw[e];exact TY)]
variable {W:BJ}
def EC.base{K:BW}{c:BP}(e:EC K c C W):PySem.W.mroIn K C (.type "BaseException")=some true:=by refine fO (λf b _ _ a=>?_) (e.cls);rw[lL b a rfl];rfl
variable {X:Cx}{f:Ev->R D}{e:BZ}{l:Lv}{p q pos:GP}{x:BP}
variable {t:BP}
section
variable {c:DC}{b a:BJ}
def fG:List D->Option D
 | [d]=>some d
 |_=>none
def vM{l:List D}{d:D}(h:fG l=some d):l=[d]:=by
 cases l with
 |nil=>cases h
 |cons x r =>
  cases r with
  |nil=>cases h;rfl
  |cons y z=>cases h
def jB:D->Option BP
 | .str x=>some x
 |_=>none
def kn9{d:D}(h:jB d=some x):d=.str x:=by cases d<;>first | (cases h;rfl) |cases h
def o9(t:BP):D->Option D
 | .exc c ks h=>((fG ks).bind jB).bind λg=>(fG h).bind λd=>if g=t/\W7 d=true/\c ≠ "dict"/\¬ KD c then some d else none
 |_=>none
def kf2{x d:D}(h:o9 t x=some d):∃c,x=.exc c [.str t] [d]/\W7 d=true/\c ≠ "dict"/\¬ KD c:=by
 cases x with
 |exc c ks y =>
  refine An (λg n w=>?_) (VV.mp (show((fG ks).bind jB).bind _=some d from h));refine An (λk n v=>?_) (VV.mp n);refine An (λe u i=>?_) (VV.mp w);by_cases m:g=t/\W7 e=true/\c ≠ "dict"/\¬ KD c
  ·rw[if_pos m]at i;cases i;revert m;refine z7 λj s r o=>?_;obtain rfl:=j;rw[vM n,kn9 v,vM u];exact⟨c,rfl,s,r,o⟩
  ·rw[if_neg m]at i;cases i
 |_=>cases h
def qP(he:PEd X c l e f)(hb:DG e t X.env (CP e X.env)=CP e X.env:=by rfl):PEd X c .fr (.Attribute e t pos) (b1 f (o9 t)):=by
 intro m s P H Q I q;obtain⟨hs,ρ,E,q⟩:=q;refine uV hb (thn (he m s P H (λv i=>∃S nm d,Rep X.K i S (.exc nm [.str t] [d]) v/\W7 d=true/\nm ≠ "dict"/\¬ KD nm/\∀v,Rep X.K i (fresh H) d v->Q v i) I (Ag E ((RQ.bind.mp q).mono (λd B v i n E1 r1=>?_) λ_ z=>z))) λu n L=>?_)
 ·obtain⟨d',e',q2⟩:=B.of;obtain⟨nm,rfl,h,G,F⟩:=kf2 e';exact⟨_,nm,d',r1,h,G,F,λv r=>q2 v i n r⟩
 ·refine nn0 λhG=>?_;obtain⟨v,i,y,ru,S,nm,d,⟨a,vs,ev,Y,rr⟩,h,G,F,B⟩:=L;subst ev;cases(show u=Value.ref a from ru);have⟨C,W,w,L⟩:=Y.errC G F;obtain⟨A,rfl,Z⟩:=rr.one;rcases L with ⟨z,_⟩ | ⟨f',v',dx,U,T,M,ha,hd⟩
  ·cases z
  ·cases U;cases T;have⟨⟨ws,sl,e1,_⟩,_⟩:=y.hok a _ ha;have⟨mA,ns,rel⟩:=y.hok dx _ hd;have⟨od,ho,hl⟩:=Yc ns;have⟨O,J,j⟩:=J5.some_of (v:=A) (o:=mA t) (by have:=rel t;simp only[List.lookup,beq_self_eq_true]at this;exact this);obtain⟨cd,c1,c2,c3,c4⟩:=w.cls;have hf:PySem.W.findObj X.K C (some od) t=some (.value O):=PySem.W.findObj_own (by unfold PySem.W.hasDictIn;rw[c1];exact c3) M rfl (by rw[hl,J]);refine hG ?_;unfold Z1;refine CK (wpAny_mkText ?_);refine zU (s:={n with toks:=n.toks+1}) (r:=.value O) y.KJ ⟨e1,rfl,rfl,ho⟩ w.gets w.geta w.base hf (PySem.W.handed_on (X3 j) ⟨A,i,y.tok _,j,B A (nF h Z)⟩)
end
def jY(P:BX)(w:CN)(K:BW)(a:BP->Option A_)(base:B_)(k:Nat)(x:BP)(ps:List BP)(n:Nat)(m:List D->R D):Prop:=
 ∃f b,Cw P w K a base (CXE P w) k f b ps (sp1 K n m)/\a x=some (.ref f)/\PySem.W.keepIn K (.ref f)=true/\Binds K b ps []
def KCI(K:BW)(c:BP):Prop:=∃C W,EC K c C W/\PySem.W.typeIn K (.ref C)=some (.type "type")
def KC0(K:BW)(c:BP):Prop:=∃C W,ER0 K c C W
def KC1(K:BW)(c fld qual:BP)(st:CQ):Prop:=∃(C W i T:BJ)(kV h j a ct r:A_)(an m:Option BJ)(b:Array (Option A_)),ER1 K c C W i fld /\
 K.lookup i=some ⟨r,m,.func (PySem.W.fnOf "__init__" qual (Cm st) (Bd st) (Ae st) (.ref T) kV h j an a ct),b⟩/\PySem.W.codeIn K a qual=true/\∃(o:GD)(n:Nat),K.lookup T=some o/\o.data=.seq #[.none] n
def lO{K:BW}{c:BP}(a:PySem.W.nsIn K PySem.mainGlobals c=some (some (.ref C)))(b:PySem.W.nsIn K PySem.mainGlobals "WebError" = some (some (.ref W)))(t:PySem.W.typeIn K (.ref C)=some (.type "type"))(q:aV K c C W=true):KCI K c:=⟨C,W,kJ a b q,t⟩
def lQ{K:BW}{c:BP}(a:PySem.W.nsIn K PySem.mainGlobals c=some (some (.ref C)))(b:PySem.W.nsIn K PySem.mainGlobals "WebError" = some (some (.ref W)))(q:aV K c C W=true)(i:Rp K C=true)(h:lU K C=true):KC0 K c:=⟨C,W,wh7 a b q i h⟩
def sV{K:BW}{c fld qual:BP}{st:CQ}{r T:BJ}{kV m s h ct v:A_}{an u:Option BJ}{j:Array (Option A_)}{o:GD}{n:Nat}(a:PySem.W.nsIn K PySem.mainGlobals c=some (some (.ref C)))(b:PySem.W.nsIn K PySem.mainGlobals "WebError" = some (some (.ref W)))
  (init:PySem.W.findIn K (.ref C) "__init__" = some (some (.ref r)))(F:PySem.W.typeIn K (.ref r)=some (.type "function"))(i:PySem.W.findIn K (.ref C) "__setattr__" = some (some (.builtin "object.__setattr__")))(A:PySem.W.findIn K (.ref C) fld=some none)(y:PySem.W.readsIn K W (.type "type")=true)
  (w:PySem.W.findCls K (.ref W) (.type "type") "__init__" = some (.val (.builtin "ValueError.__init__")))(sp:PySem.W.specialIn K (.ref W) "__getattribute__" = some (some (.builtin "type.__getattribute__")))(B:PySem.W.keepIn K (.ref C)=true)
  (l:K.lookup r=some ⟨v,u,.func (PySem.W.fnOf "__init__" qual (Cm st) (Bd st) (Ae st) (.ref T) kV m s an h ct),j⟩)(G:PySem.W.codeIn K h qual=true)(lt:K.lookup T=some o)(E:o.data=.seq #[.none] n)(q:aV K c C W=true)(z:Rp K C=true):KC1 K c fld qual st:=
 ⟨C,W,r,T,kV,m,s,h,ct,v,an,u,j,⟨kJ a b q,z,init,F,i,A,y,w,sp,B⟩,l,G,o,n,lt,E⟩
def RC0(K:BW)(a:BP->Option A_)(c:BP):Prop:=∃C W,a c=some (.ref C)/\ER0 K c C W
def RCI(K:BW)(a:BP->Option A_)(c:BP):Prop:=∃C W,a c=some (.ref C)/\EC K c C W/\PySem.W.typeIn K (.ref C)=some (.type "type")
def RC1(P:BX)(w:CN)(K:BW)(a:BP->Option A_)(base:B_)(c fld:BP):Prop:=∃C W h b,a c=some (.ref C)/\ER1 K c C W h fld/\Cw P w K a base CX0 1 h b ["self","words",fld] (spI C fld)/\Binds K b ["self","words",fld] []
variable {P:List A_->Prop}
def usC{n:Nat}(h:∀a us,us.length=n->P (a::us))(us:List A_)(e:us.length=n+1):P us:=by
 cases us with
 |nil=>cases e
 |cons a us=>exact h a us (Nat.succ.inj e)
def us3(h:∀a b c,P [a,b,c])(us:List A_)(e:us.length=3):P us:=
 usC (λa us e=>usC (P:=λu=>P (a::u)) (λb us e=>usC (P:=λu=>P (a::b::u)) (λc us e=>by rw[d8 e];exact h a b c) us e) us e) us e
variable {K:BW}{fld:BP}
section
variable {h:B_}{mg:BP->Option A_}{c qual:BP}{st:CQ}
def lH(Y:K.In h)(G:h.Ns PySem.mainGlobals mg)(q:KC0 K c):RC0 K mg c:=let ⟨C,W,e⟩:=q; ⟨C,W,PySem.W.mg_of Y G e.ec.at_,e⟩
def lG(Y:K.In h)(G:h.Ns PySem.mainGlobals mg)(q:KCI K c):RCI K mg c:=let ⟨C,W,e,t⟩:=q; ⟨C,W,PySem.W.mg_of Y G e.at_,e,t⟩
def rT(P:BX)(w:CN)(base:B_){p1 u r m j O M L J I:GP}(Y:K.In h)(G:h.Ns PySem.mainGlobals mg)(q:KC1 K c fld qual st)
  (hb:Bd st=[.Expr (.Call (.Attribute (.Name "WebError" p1) "__init__" u) [.Name "self" r,.Name "words" m] [] j) O,.Assign [.Attribute (.Name "self" M) fld L] (.Name fld J) I])
  (S:Br ["self","words",fld] ["self","words",fld] (Ae st))(E:Zd fld)(F:(fld == ("__classdict__" : BP))=false)
  (v0:Vis (Ae st) "self")(v1:Vis (Ae st) "words")(Z:Vis (Ae st) fld)(hg:(Ae st).names.lookup ("WebError" : BP)=some .globalImplicit){pl:GZ->Sem Bool}
  (ht:∀env:GZ,CP (.Call (.Attribute (.Name "WebError" p1) "__init__" u) [.Name "self" r,.Name "words" m] [] j) env=(do
   let Q <-CP (.Name "WebError" p1) env
   JW u.atName
   let (f,first) <-JX [Q] (HX Q "__init__" (pl env))
   JM j f first (GJ j (BR [.Name "self" r,.Name "words" m] env)) (GR j (E_ [] env))))
  (B:∀env:GZ,CW (.Name fld J) (some (.Attribute (.Name "self" M) fld L)) I.line env=pure false)(A:∀env:GZ,CW (.Call (.Attribute (.Name "WebError" p1) "__init__" u) [.Name "self" r,.Name "words" m] [] j) none O.line env=pure false)
  (H:∀(T:BJ)(kV b y i ct:A_)(an:Option BJ)(us:List A_),us.length=3->∃k:Option (Array A_)->Sem (List (BP×A_)),KC (PySem.W.fnOf "__init__" qual (Cm st) (Bd st) (Ae st) (.ref T) kV b y an i ct) ⟨us,[]⟩=aF (.ref T) >>= k/\k (some #[.none])=pure ((["self","words",fld]:List BP).zip us)):RC1 P w K mg base c fld:=by
 obtain⟨C,W,fI,T,kV,b,y,i,ct,oc,an,od,aa,v,lk,cc,o,n,lt,hd⟩:=q;have a:=H T kV b y i ct an;rw[hb]at lk a;refine⟨C,W,fI,_,PySem.W.mg_of Y G v.ec.at_,v,kt7 lk cc S v (PySem.W.mg_of Y G v.ec.top) E F v0 v1 Z hg ht B A,λs us z U=>?_⟩;rw[SM]at U ⊢;refine An (λk h1 h2=>?_) (a us U);exact PySem.W.binds_K z rfl lt hd h1 h2
def Hb{k n:Nat}{ps:List BP}{m:List D->R D}(P:BX)(w:CN)(base:B_)(X:K.In h)(G:h.Ns PySem.mainGlobals mg)(I:FI K x st)(i:∀a b,Fun K x x st a b->Cw P w K mg base (CXE P w) k a b ps (sp1 K n m))
  (u:∀(kV j r:A_)(an:Option BJ)(o ct:A_)(us:List A_),us.length=ps.length->KC (PySem.W.fnOf x x (Cm st) (Bd st) (Ae st) .none kV j r an o ct) ⟨us,[]⟩=pure (ps.zip us)):jY P w K mg base k x ps n m:=by
 revert I;refine Bh λf b a F s=>?_;exact⟨f,b,i f b F,PySem.W.mg_of X G a,s,F.binds u⟩
end
variable {m:List D->R D}{n:Nat}{cpos:GP}
section
variable {c:DC}{a:BZ}{es:List BZ}{fs:Ev->R (List D)}{h b:GP}{i:BP}{k:Nat}{ps:List BP}{g:Ev->R Unit}
def Ek(F:jY X.prog X.w X.K X.mg X.base k x ps n m)(u:Ma X c)(s:Dd k X.A)(H:PAd X c l (e::es) fs)(v:(e::es).length=n:=by rfl)(j:ps.length=n:=by rfl)(B:Gl X x:=by rfl)
  (r:Zd x:=by decide)(E:Zs X.env e es:=by rfl)(o:Zp X.env pos es:=by rfl):
  PEd X c l (.Call (.Name x p) (e::es) [] pos) (clX fs m):=by
 revert F;refine Wz λf I F y z G=>?_;exact wf9 F u s y z G H v j B r E o
def rs0(r:Ma X c)(w:X.calm=true)(h:RC0 X.K X.mg x)(o:PXw X c n e g)(u:Gl X x:=by rfl)(j:Zd x:=by decide)
  (v:BR [e] X.env=[(false,CP e X.env)]:=by rfl):PSd X c (.Raise (some (.Call (.Name x b) [e] [] cpos)) none pos) (bW x g):=by
 revert h;refine Ce λC W s y=>?_;exact kl4 r w s y o u j v
def rs1(y:Ma X c)(G:X.calm=true)(v:Dd 2 X.A)(h:RC1 X.prog X.w X.K X.mg X.base x fld)(s:PXw X c n e g)(u:PEd X c l a f)(B:Gl X x:=by rfl)(r:Zd x:=by decide)
  (E:BR [e,a] X.env=(false,CP e X.env)::BR [a] X.env:=by rfl)(o:BR [a] X.env=(false,CP a X.env)::BR [] X.env:=by rfl)(j:Zp X.env cpos [a]:=by rfl):
  PSd X c (.Raise (some (.Call (.Name x b) [e,a] [] cpos)) none pos) (bV x fld g f):=by
 revert h;refine XS λC W L J z I F H=>?_;exact kl5 y G v z I F H s u B r E o j
end
variable {ρ:Ev}{f1 f2:Ev->R D}
section
variable {fs:Ev->R (List D)}{g j h:Ev->R Unit}{ds:List D}{e d:D}{a b:Ev->R Fl}{i:Nat}
@[simp] def gG:clX fs m ρ=(fs ρ).bind m:=nr rfl
@[simp] def yj4:YX ρ=.ok ():=nr rfl
@[simp] def yj5:jZ f ρ=(f ρ).bind smI:=nr rfl
@[simp] def yj6:bO j h ρ=(j ρ).bind λ_=>h ρ:=nr rfl
def Xv{i:Int}(h:i.natAbs<2 ^ 200):smI (.int i)=.ok ():=if_pos h
def Zh{nm:BP}(o:g ρ=.ok ())(r:f ρ=.ok d)(hs:W7 d=true):bV nm t g f ρ=.exc (.exc nm [.str t] [d]):=by unfold bV;rw[o,R.ok_bind,r,R.ok_bind,if_pos hs]
def tH{nm:BP}(o:g ρ=.ok ()):bW nm g ρ=.exc (.exc nm [] []):=by unfold bW;rw[o,R.ok_bind]
def Gx{o:Ev->R Fl}(h:o (Aa n ds)=.exc e):Be n o ds=.exc e:=by unfold Be;rw[h];rfl
def O6(h:a ρ=.exc e):sq a b ρ=.exc e:=by unfold sq;rw[h];rfl
def Zb(h:f ρ=.exc e):drp f ρ=.exc e:=by unfold drp;rw[h];rfl
def kq9(h:f ρ=.exc e):asg i f ρ=.exc e:=by unfold asg;rw[h];rfl
end
def kt2{o i:Ev->R D}{g g' a:D->D->Option D}(r:∀x y d,a x y=some d->d.imm=true):∀ρ d,ch3 f1 f2 o i g g' a ρ=.ok d->d.imm=true:=λρ d h=>by
 refine An (λx _ h=>?_) (Ba h);refine An (λy _ h=>?_) (Ba h);refine An (λz _ h=>?_) (Ba h);refine An (λk _ h=>?_) (Ba h);cases k with
 |false=>cases h;rfl
 |true =>
  refine An (λw _ h=>?_) (Ba (show(o ρ).bind (λw=>(R.of (g' y w)).bind λj=>(R.of (Vk j)).bind λb=>if b then(i ρ).bind λu=>R.of (a w u) else .ok (.bl false))=_ from h));refine An (λj _ h=>?_) (Ba h);refine An (λb _ h=>?_) (Ba h);cases b with
  |false=>cases h;rfl
  |true =>
   refine An (λu _ h=>?_) (Ba (show(i ρ).bind (λu=>R.of (a w u))=_ from h));cases e:a w u with
   |none=>rw[e]at h;cases h
   |some s=>rw[e]at h;cases h;exact r w u _ e
def dgS(f1 f2 a:Ev->R D):Ev->R D:=λρ=>(f1 ρ).bind λx=>(R.of (Mr x)).bind λp=>(f2 ρ).bind λy=>(a ρ).bind λz=>(R.of (kyO y)).bind λk=>.ok ((Bv p.1 p.2 k).getD z)
section
variable {c:DC}{a b d k v j i:BZ}{h o:Ev->R D}{apos:GP}
theorem qU(hu:X.A.units+70<FN)(ha:PEd X c l a f1)(hb:PEd X c l b f2)(hd:PEd X c l d h)(m:M2 X a "get" apos b d cpos:=by exact⟨rfl,rfl,rfl,rfl⟩):PEd X c l (.Call (.Attribute a "get" apos) [b,d] [] cpos) (dgS f1 f2 h):=
 PE.imp (kj5 (by lia) ha hb hd m) λσ H Q q=>by
 revert q;refine Ce λhs ρ E q=>?_;refine Ag E ((RQ.bind.mp q).mono (λdx F x H1 s E1 O=>?_) λ_ z=>z);refine An (λp hp F=>?_) ((RQ.bind.mp F).of);rw[O3 hp]at O;revert O;refine Bh λa L G Y rr=>?_;obtain rfl:=G;obtain⟨xd,_⟩:=Y.XX;rcases xd with ⟨hc,_⟩ | ⟨_,T,h1,h2,h3,o,U⟩
 ·exact absurd hc (by decide)
 ·refine⟨a,rfl,.inl ⟨_,.inr ⟨o,U⟩⟩,?_⟩;refine Ag E1 ((RQ.bind.mp F).mono (λdy q2 y H2 r E2 M=>?_) λe z=>Az z s);refine Ag E2 ((RQ.bind.mp q2).mono (λdz q3 z J w E3 r3=>?_) λe z=>Az z (s.trans r));refine An (λk hk u=>?_) ((RQ.bind.mp q3).of);have ey:y=kV k:=by rw[K9 hk]at M;cases k<;>exact M
  subst ey;have I:J a=some (.frz o (.dK (T.zip L))):=w _ _ (r _ _ U);rw[h1]at u;refine⟨Ld (T.zip L) k,.inl ⟨_,k,.inr ⟨o,I⟩,rfl,rfl⟩,?_⟩;rcases Gk k h2 rr with ⟨v1,B⟩ | ⟨v,f1,v1,B,Z⟩
  ·rw[v1];rw[B]at u;exact u z J ((s.trans r).trans w) (r3.mono (Ab.refl _) λ_ z=>Bw (s.trans r) z)
  ·rw[v1];rw[B]at u;exact u v J ((s.trans r).trans w) (Z.mono (r.trans w) λ_ z=>z)
end
section
variable {H0 H H1:Hp}{S0 h:AS}{hs:List Hd}{b:Ev}{σ a:St}{bs:List BJ}
abbrev C0(H0:Hp)(S0:AS)(Z:List BJ):DC:=⟨H0,S0,[],Dt,Z⟩
def jW{o:Option BJ}:(C0 H0 S0 bs).N ρ σ o↔(C0 H0 S0 bs).S o:=⟨λz=>z.1,λz=>⟨z,λa _ ⟨i,j,_⟩=>by cases j⟩⟩
end
open PySem PySem.Spec PyProof.Rows L2
open PySem PySem.Spec PyProof.Rows L2 PySem.W
def unN:R Fl->R Fl
 | .ok (.nx ρ)=>.ok (.nx ρ)
 | .ok (.rt d)=>.ok (.rt d)
 |_=>.bad
def U4(b:BP):D->Bool
 | .exc c ks a=>cF (.exc c ks a) && decide (c=b)
 |_=>false
def nameE:D->Option BP
 | .exc c _ _=>some c
 |_=>none
def Qc{a:BP}{d:D}(h:U4 a d=true):cF d=true/\nameE d=some a:=by
 cases d with
 |exc c ks b=>have h:(cF (.exc c ks b) && decide (c=a))=true:=h;rw[KN,decide_eq_true_eq]at h;exact⟨h.1,by rw[<-h.2];rfl⟩
 |_=>cases h
def EC.self{K:BW}{c:BP}{C W:BJ}(a:EC K c C W)(ht:PySem.W.typeIn K (.ref C)=some (.type "type")):PySem.W.exmOne K (.ref C) (.ref C)=some true:=by refine fO (λj b r o i=>?_) (a.cls);unfold PySem.W.exmOne;have h:PySem.W.subIn K (.ref C) (.type "BaseException")=some true:=a.base;rw[h,if_pos (by simp)];show(if((PySem.W.clsIn K C).isSome && PySem.W.typeIn K (.ref C) == some (.type "type"))=true then PySem.W.subIn K (.ref C) (.ref C) else none)=_;rw[b,ht,if_pos (by simp)];show PySem.W.mroIn K C _=_;rw[lL b i rfl];simp
def aY(x d:D):Option D:=(kyO x).bind λk=>(Mr d).map λp=>.bl (Bv p.1 p.2 k).isSome
section
variable {X:Cx}{c:DC}{l:Lv}{a b:BZ}{f1 f2:Ev->R D}{pos:GP}
def kr9{K:BW}{H:Hp}{S:AS}{i:D}{y:V}{p:List D×List D}{k:Key}(z:Mr i=some p)(r:Rep K H S i y):∃t o,y=.ref t/\O7 H t (kV k) o/\o.isSome=(Bv p.1 p.2 k).isSome:=by
 rw[O3 z]at r;obtain⟨t,s,rfl,j,u⟩:=r;obtain⟨xd,_⟩:=j.XX;rcases xd with ⟨A,_⟩ | ⟨_,w,F,E,G,o,B⟩
 ·exact absurd A (by decide)
 ·refine⟨t,Ld (w.zip s) k,rfl,.inl ⟨_,k,.inr ⟨o,B⟩,rfl,rfl⟩,?_⟩;rw[F];rcases Gk k E u with ⟨v1,h⟩ | ⟨v,f,v1,h,_⟩
  ·rw[v1,h];rfl
  ·rw[v1,h];rfl
theorem wx3(L:X.A.units+70<FN):OpR X (CG .In) (rD X.K aY):=by
 rintro i s G H x y v u Q I r j ⟨S,O,M,d,h,w,e,q⟩;have⟨k,E,e⟩:=VV.mp e;obtain⟨p,z,rfl⟩:=VR.mp e;have ex:x=kV k:=by rw[K9 E]at h;cases k<;>exact h
 subst ex;obtain⟨t,o,rfl,g,B⟩:=kr9 (k:=k) z w;cases(show u=Value.ref t from j);exact z9 (by lia) I g r λJ F=>⟨.bl o.isSome,H,F,rfl,q _ H (Ab.refl _) (by rw[B];rfl)⟩
end
def noS:AS:=λ_=>False
open PySem PySem.Spec PyProof.Rows L2
open PySem PySem.Spec PyProof.Rows L2 PySem.W
def EvS(K:BW)(H:Hp)(S:AS)(ρ:Ev)(a:St):Prop:=ρ.length=a.length/\∀(j:Nat)(d:D),ρ[j]? = some (some d)->∃v,a[j]? = some (some v)/\Rep K H S d v
variable {ρ:Ev}{H H' H0:Hp}{σ:St}
variable {v:V}
section
variable {K:BW}{S S' U W:AS}
def rP(conv:∀o,S o->(∀a,o=some a->H a≠none)->S' o):(∀a h,LsR K H S a h->LsR K H S' a h)/\(∀c ks a h,XAt K H S c ks a h->XAt K H S' c ks a h):=by
 refine⟨λa h l=>?_,λc ks a h x=>?_⟩
 ·rcases l with ⟨i,j⟩ | ⟨i,j⟩
  ·exact .inl ⟨i,conv _ j λb e=>by cases e;rw[i];exact λz=>by cases z⟩
  ·exact .inr ⟨i,conv _ j λb e=>by cases e⟩
 ·rcases x with ⟨r,s⟩ |x
  ·refine .inl ⟨r,conv _ s λb e=>?_⟩
   cases e
   obtain⟨o,e,_⟩:=r.has
   rw[e];exact λz=>by cases z
  ·exact .inr x
def wn7{d:D}(conv:∀o,S o->(∀a,o=some a->H a≠none)->S' o)(r:Rep K H S d v):Rep K H S' d v:=Km (λ_ _ q=>q) (rP conv).1 (rP conv).2 d v r
def EvS.mono(h:EvS K H S ρ σ)(s:Ab H H')(b:∀o,S o->S' o):EvS K H' S' ρ σ:=⟨h.1,λj d a=>by have⟨v,r,i⟩:=h.2 j d a;exact⟨v,r,i.mono s b⟩⟩
end
section
variable {K:BW}{S0 Se:AS}{i j:Nat}{hs:List Hd}
theorem EvS.put{d:D}{S:AS}(E:EvS K H Se ρ σ)(r:d.imm=true)(o:Rep K H S d v):EvS K H Se (ρ.set j (some d)) (σ.set j (some v)):=by
 refine⟨by rw[RX,RX];exact E.1,λk e a=>?_⟩;by_cases h:k=j
 ·subst h;by_cases b:k<ρ.length
  ·rw[QD b]at a;cases a;exact⟨v,QD (by rw[<-E.1];exact b),Up d v r o⟩
  ·rw[YJ (by rw[RX];omega)]at a;cases a
 ·rw[JR (Ne.symm h)]at a ⊢;exact E.2 k e a
def vA{b:BJ}{o:HO}(s:Ab H0 H)(h:H0 b=none):Ab H0 (upd H b o):=λx a e=>by
 have:x≠b:=λz=>by rw[z,h]at e;cases e
 rw[Ac this];exact s _ _ e
end
def Ea(x y:BP):List BP:=if(decide (x.length<y.length) ||decide (Builtin.Str.strKind x<Builtin.Str.strKind y))=true then [x] else if(Builtin.Str.occurrences x y 0 x.length (x.length+1)).isEmpty=true then [x] else Builtin.Str.partsBetween x (Builtin.Str.occurrences x y 0 x.length (x.length+1)) y.length
def wn6:V->List V->Hp->VK->Prop:=λx a H Q=>∃z y,x=.str z/\a=[.str y]/\(y.length == 0)=false/\z.length<=sizeLine/\(Ea z y).length<=sizeLine/\∀p,H p=none->Q (.ref p) (upd H p (.lst ((Ea z y).map V.str)))
def Yt:∀(ws:List BP)(k:Nat),Vals (ws.map V.str) (strsFrom k ws)
 | [],_=>.nil
 |w::ws,k=>.cons ⟨k,rfl⟩ (Yt ws (k+1))
def Yu:∀{ws:List BP}{us:List A_},Vals (ws.map V.str) us->∃l:List (BP×Tok),us=strValues l/\l.map (·.1)=ws
 | [],us,h=>by cases h;exact⟨[],rfl,rfl⟩
 |w::ws,us,h=>by
  cases h with
  |cons r t=>obtain⟨a,rfl⟩:=(show ∃t,_=Value.str w t from r);obtain⟨l,rfl,rfl⟩:=Yu t;exact⟨(w,a)::l,rfl,rfl⟩
def rJoin(K:BW):V->List V->Hp->VK->Prop:=λx h H Q=>∃sep a b,x=.str sep/\h=[.ref a]/\SqL K H a (b.map V.str)/\Builtin.Str.tooLong (b.toArray.foldl (·+·.length+sep.length) 0)=false/\(Builtin.Str.glued sep b).length<=sizeLine/\Q (.str (Builtin.Str.glued sep b)) H
variable {X:Cx}{f1 f2:Ev->R D}{a b e:BZ}{es:List BZ}{l:Lv}{pos:GP}
variable {cpos:GP}{t r:Ev->R (Option Int)}{x:BP}{n:Nat}
section
variable {c:DC}{o:BZ}{f:Ev->R D}
theorem ki5:MtR X "str.split" wn6:=by
 intro i s σ H x U v Y Q I J L h;obtain⟨z,y,rfl,rfl,G,O,A,q⟩:=h;obtain⟨t,rfl⟩:=(show ∃t,v=Value.str z t from J);obtain⟨u,rfl,M⟩:=L.one;obtain⟨t',rfl⟩:=(show ∃t,u=Value.str y t from M);have one:Ea z y=[z]->EP X i σ Q (.ref s.heap.objs.size) {s with heap:=s.heap.push {cls:=.type "list",data:=.seq [Value.str z t].toArray} }:=λe=>by
  have T:Vals ((Ea z y).map V.str) [Value.str z t]:=by rw[e];exact .cons ⟨t,rfl⟩ .nil
  exact⟨.ref s.heap.objs.size,_,I.lnew (t':=s.toks) T (by rw[HN];exact A),rfl,q _ I.fresh⟩
 by_cases w:(decide (z.length<y.length) ||decide (Builtin.Str.strKind z<Builtin.Str.strKind y))=true
 ·exact QF PySem.F.slot_str_split (JH s z t) PySem.F.entry_str_split (PySem.F.args_str_split_2 _ _) (meets_str_split_cannot_occur z y t t' w) (one (by unfold Ea;rw[if_pos w]))
 ·have j:(decide (z.length<y.length) ||decide (Builtin.Str.strKind z<Builtin.Str.strKind y))=false:=by simpa using w
  by_cases B:(Builtin.Str.occurrences z y 0 z.length (z.length+1)).isEmpty=true
  ·exact QF PySem.F.slot_str_split (JH s z t) PySem.F.entry_str_split (PySem.F.args_str_split_2 _ _) (meets_str_split_not_found z y t t' j G B) (one (by unfold Ea;rw[if_neg w,if_pos B]))
  ·have E:(Builtin.Str.occurrences z y 0 z.length (z.length+1)).isEmpty=false:=by simpa using B
   have e:Ea z y=Builtin.Str.partsBetween z (Builtin.Str.occurrences z y 0 z.length (z.length+1)) y.length:=by unfold Ea;rw[if_neg w,if_neg B]
   rw[e]at A q;exact QF PySem.F.slot_str_split (JH s z t) PySem.F.entry_str_split (PySem.F.args_str_split_2 _ _) (meets_str_split_sep z y t t' j G E O A) ⟨.ref s.heap.objs.size,_,I.lnew (Yt _ _) (by rw[HN];exact A),rfl,q _ I.fresh⟩
def kw4:MtR X "str.join" (rJoin X.K):=by
 intro j s σ H x J v L Q I w y h;obtain⟨sep,a,G,rfl,rfl,B,E,i,q⟩:=h;obtain⟨t,rfl⟩:=(show ∃t,v=Value.str sep t from w);obtain⟨u,rfl,z⟩:=y.one;cases(show u=Value.ref a from z);have⟨A,r,pl,M⟩:=I.list B;obtain⟨l,rfl,rfl⟩:=Yu r;refine QF PySem.F.slot_str_join (JH s sep t) PySem.F.entry_str_join (PySem.F.args_str_join_2 _ _) (meets_str_join_list sep t a l E) ⟨pl.isList,?_⟩
 match l,i,q with
 | [],i,q=>exact⟨i,.str _,H,I.tok _,⟨_,rfl⟩,q⟩
 | [p],i,q=>exact⟨.str p.1,H,I,⟨_,rfl⟩,q⟩
 |p1::p2::r,i,q=>exact⟨i,.str _,H,I.tok _,⟨_,rfl⟩,q⟩
def T5:List D->Option (List BP)
 | []=>some []
 | .str x::r=>(T5 r).map (x::·)
 |_::_=>none
def rH{K:BW}{H:Hp}{S:AS}:∀{ds:List D}{xs:List V}{ws:List BP},Ak K H S ds xs->T5 ds=some ws->xs=ws.map V.str
 | [],xs,ws,r,e=>by cases e;exact r
 |d::ds,xs,ws,r,e=>by
  obtain⟨v,t,rfl,j,i⟩:=r;cases d with
  |str x=>obtain⟨h,s,rfl⟩:=VR.mp e;cases(show v=.str x from j);rw[rH i s];rfl
  |_=>cases e
def Yr:∀h:List BP,T5 (h.map .str)=some h
 | []=>rfl
 |w::h=>by rw[KH,T5,Yr h];rfl
def R1{K:BW}{H:Hp}{S:AS}:∀h:List BP,Ak K H S (h.map D.str) (h.map V.str)
 | []=>Ak.nil
 |w::h=>Ak.cons rfl (R1 h)
def XM(f1 f2:Ev->R D):Ev->R D:=λρ=>(f1 ρ).bind λx=>match x with
 | .str z=>(f2 ρ).bind λy=>match y with
  | .str y=>if((y.length == 0)=false/\z.length<=16777216)/\(Ea z y).length<=16777216 then .ok (.lst ((Ea z y).map .str)) else .bad
  |_=>.bad
 |_=>.bad
theorem u9:∀ρ d,XM f1 f2 ρ=.ok d->∃i,d=.lst i:=λρ d h=>by
 unfold XM at h;have⟨x,s,h⟩:=Ba h;split at h
 ·have⟨y,j,h⟩:=Ba h;split at h
  ·split at h
   ·cases h;exact⟨_,rfl⟩
   ·cases h
  ·cases h
 ·cases h
theorem rM{apos:GP}(U:PEd X c l o f1)(Y:PEd X c l e f2)(u:DG o "split" X.env (CP o X.env)=CP o X.env:=by rfl)
  (A:((GJ cpos (BR [e] X.env)).all (λx=>!x.1) && (GR cpos (E_ [] X.env)).all (λx=>x.1.isSome)
   && decide ([e].length+([]:List JF).length+(if([]:List JF).isEmpty then 0 else 1)<30))=true:=by rfl)
  (s:(apos.endLine == cpos.line)=true:=by rfl)(hs:BR [e] X.env=(false,CP e X.env)::BR [] X.env:=by rfl)(i:Zp X.env cpos []:=by rfl):
  PEf X c l (.Call (.Attribute o "split" apos) [e] [] cpos) (XM f1 f2):=
 PE.imp (f9 PySem.F.plainAttrs_str PySem.F.slot_str_split PySem.F.type_str_split ki5 U (ac Y an hs) u A s hs i) λσ H Q h=>by
 obtain⟨T,ρ,E,q⟩:=h;refine Ag E ((RQ.bind.mp q).mono (λdx J x H1 G E1 O=>?_) λ_ z=>z);cases dx with
 |str z =>
  cases(show x=.str z from O);refine⟨rfl,nA E1 ((RQ.bind.mp J).mono (λZ j y H2 I E2 M=>?_) λe z=>Az z G)⟩;cases Z with
  |str w =>
   cases(show y=.str w from M);have j:RQ (if((w.length == 0)=false/\z.length<=16777216)/\(Ea z w).length<=16777216 then R.ok (D.lst ((Ea z w).map .str)) else .bad) _ _:=j;by_cases B:((w.length == 0)=false/\z.length<=16777216)/\(Ea z w).length<=16777216
   ·rw[if_pos B]at j;exact⟨z,w,rfl,rfl,B.1.1,by rw[CT];exact B.1.2,by rw[CT];exact B.2,λp L=>j p _ _ _ rfl ((G.trans I).trans (Ao L _)) ((G.trans I).free L) Af (R1 _)⟩
   ·rw[if_neg B]at j;exact j.elim
  |_=>exact(j:False).elim
 |_=>exact(J:False).elim
def XQ(f1 f2:Ev->R D):Ev->R D:=λρ=>(f1 ρ).bind λx=>match x with
 | .str z=>(f2 ρ).bind λy=>match y with
  | .lst i=>(R.of (T5 i)).bind λh=>if h.toArray.foldl (·+·.length+z.length) 0<=16777216/\(Builtin.Str.glued z h).length<=16777216 then .ok (.str (Builtin.Str.glued z h)) else .bad
  |_=>.bad
 |_=>.bad
theorem Ul:∀ρ d,XQ f1 f2 ρ=.ok d->d.imm=true:=λρ d h=>by
 unfold XQ at h;have⟨x,u,h⟩:=Ba h;split at h
 ·have⟨y,s,h⟩:=Ba h;split at h
  ·have⟨i,j,h⟩:=Ba h;split at h
   ·cases h;rfl
   ·cases h
  ·cases h
 ·cases h
theorem gC{apos:GP}(Y:PEd X c l o f1)(he:PEd X c l e f2)(s:DG o "join" X.env (CP o X.env)=CP o X.env:=by rfl)
  (u:((GJ cpos (BR [e] X.env)).all (λx=>!x.1) && (GR cpos (E_ [] X.env)).all (λx=>x.1.isSome)
   && decide ([e].length+([]:List JF).length+(if([]:List JF).isEmpty then 0 else 1)<30))=true:=by rfl)
  (j:(apos.endLine == cpos.line)=true:=by rfl)(hs:BR [e] X.env=(false,CP e X.env)::BR [] X.env:=by rfl)(i:Zp X.env cpos []:=by rfl):
  PEd X c l (.Call (.Attribute o "join" apos) [e] [] cpos) (XQ f1 f2):=
 PE.imp (f9 PySem.F.plainAttrs_str PySem.F.slot_str_join PySem.F.type_str_join kw4 Y (ac he an hs) s u j hs i) λσ H Q h=>by
 obtain⟨T,ρ,E,q⟩:=h;refine Ag E ((RQ.bind.mp q).mono (λdx J x H1 G E1 O=>?_) λ_ z=>z);cases dx with
 |str z =>
  cases(show x=.str z from O);refine⟨rfl,nA E1 ((RQ.bind.mp J).mono (λdy I y H2 L E2 M=>?_) λe z=>Az z G)⟩;cases dy with
  |lst ds =>
   obtain⟨a,vs,rfl,Z,U⟩:=M;have⟨B,ew,w⟩:=(RQ.bind.mp (show RQ ((R.of (T5 ds)).bind _) _ _ from I)).of;have ev:=rH U ew;subst ev;by_cases A:B.toArray.foldl (·+·.length+z.length) 0<=16777216/\(Builtin.Str.glued z B).length<=16777216
   ·rw[if_pos A]at w;refine⟨z,a,B,rfl,rfl,Z.sq,?_,by rw[CT];exact A.2,w _ _ (G.trans L) rfl⟩;unfold Builtin.Str.tooLong;rw[CT];exact decide_eq_false (by have:=A.1;omega)
   ·rw[if_neg A]at w;exact w.elim
  |_=>exact(I:False).elim
 |_=>exact(J:False).elim
def Ub(z:BP)(h i:Option Int):BP:=if((Builtin.Str.strSliceIndices h i 1 z.length).length == z.length)=true then z else⟨((Builtin.Str.strSliceIndices h i 1 z.length).filterMap (z.cps[·]?)).toArray⟩
def zA:V->Option Int->Option Int->Hp->VK->Prop:=λx h i H Q=>∃z,x=.str z/\(Ub z h i).length<=sizeLine/\Q (.str (Ub z h i)) H
def wo5:SlR X zA:=by
 intro A s σ H x v M L T U O Q I E J pl G h;obtain⟨z,rfl,B,q⟩:=h;obtain⟨t,rfl⟩:=(show ∃t,v=Value.str z t from E);have part:∀{v:A_}{o:Option Int},QG v o->∃p:Option (Int×Tok),v=partValue p/\p.map (·.1)=o:=λh=>by
  cases h with
  |none=>exact⟨none,rfl,rfl⟩
  |int i t=>exact⟨some (i,t),rfl,rfl⟩
 obtain⟨p1,rfl,rfl⟩:=part pl;obtain⟨j,rfl,rfl⟩:=part G;refine⟨"str",_,PySem.F.slot_str_getitem.lookup,JH s z t,wpAny_getItem_str_slice (l:=p1) (u:=j) (st:=none) J rfl ?_⟩;unfold sliceMade;by_cases y:((Builtin.Str.strSliceIndices (p1.map (·.1)) (j.map (·.1)) 1 z.length).length == z.length)=true
 ·have e:Ub z (p1.map (·.1)) (j.map (·.1))=z:=by unfold Ub;rw[if_pos y]
  rw[e]at q;have w:((Option.map (λx=>x.fst) (none:Option (Int×Tok))).getD 1 == 1 && (slicePicked z p1 j none).length == z.length)=true:=y;rw[if_pos w];exact⟨.str z,H,I,⟨t,rfl⟩,q⟩
 ·have e:Ub z (p1.map (·.1)) (j.map (·.1))=⟨((Builtin.Str.strSliceIndices (p1.map (·.1)) (j.map (·.1)) 1 z.length).filterMap (z.cps[·]?)).toArray⟩:=by unfold Ub;rw[if_neg y]
  rw[e]at q B;have w:¬ ((Option.map (λx=>x.fst) (none:Option (Int×Tok))).getD 1 == 1 && (slicePicked z p1 j none).length == z.length)=true:=y;rw[if_neg w];exact⟨B,.str _,H,I.tok _,⟨_,rfl⟩,q⟩
def slS:D->Option Int->Option Int->Option D
 | .str z,h,i=>if(Ub z h i).length<=16777216 then some (.str (Ub z h i)) else none
 |_,_,_=>none
def wo8{u w:Option BZ}{J:GP}(O:PEd X c l e f)(L:POd X c u t)(M:POd X c w r):PEd X c l (.Subscript e (.Slice u w none J) pos) (bS f t r slS):=PE.imp (Vz wo5 O L M) λσ H Q q=>by
 obtain⟨hs,ρ,E,q⟩:=q;refine Ag E ((RQ.bind.mp q).mono (λU I x H1 h Z A=>?_) λ_ z=>z);refine Kr Z ((RQ.bind.mp I).mono (λi G H2 s Y=>?_) λe z=>Az z h);refine Kr Y ((RQ.bind.mp G).mono (λj F H3 y E3=>?_) λe z=>Az z (h.trans s));obtain⟨d,e,B⟩:=F.of;cases U with
 |str z=>cases(show x=.str z from A);obtain⟨T,rfl⟩:=Ax (show(if(Ub z i j).length<=16777216 then some (D.str (Ub z i j)) else none)=some d from e);exact⟨z,rfl,by rw[CT];exact T,B _ _ ((h.trans s).trans y) rfl⟩
 |_=>cases e
theorem kt5:∀ρ d,bS f t r slS ρ=.ok d->d.imm=true:=λρ d h=>by
 unfold bS at h;have⟨x,w,h⟩:=Ba h;have⟨i,u,h⟩:=Ba h;have⟨j,s,h⟩:=Ba h;cases x with
 |str z =>
  have h:R.of (if(Ub z i j).length<=16777216 then some (D.str (Ub z i j)) else none)=.ok d:=h;split at h
  ·cases h;rfl
  ·cases h
 |_=>cases h
def Oz:List D->Option D
 | [.str x]=>if x.length<=640/\(PySem.intText? x).isSome=true then some (.int ((PySem.intText? x).getD 0)) else none
 |_=>none
def wf3:Ei X (.type "int") (rC X.K Oz):=by
 rintro h s σ H E F Q I r ⟨S,B,d,y,e,q⟩
 match B,e with
 | [.str x],e=>obtain⟨⟨z,A⟩,rfl⟩:=Ax e;have⟨n,i⟩:=iD.mp A;rw[i]at q;obtain⟨v,rfl,j⟩:=y.one;cases(show v=.str x from j);obtain⟨u,rfl,w⟩:=vals1 r;obtain⟨t,rfl⟩:=(show ∃t,u=Value.str x t from w);exact PySem.W.KIN.call_text i z ⟨.int n,H,I.tok _,⟨_,rfl⟩,q _ H (Ab.refl _) rfl⟩
def Mq:∀h d,Oz h=some d->d.imm=true:=λh d e=>by
 match h,e with
 | [.str x],e=>obtain⟨i,rfl⟩:=Ax e;rfl
def Wl:List D->Option D
 | [.int i]=>if i.natAbs.log2<1920 then some (.str (Str.ofString (toString i))) else none
 |_=>none
def wf6:Ei X (.type "str") (rC X.K Wl):=by
 rintro h s σ H A j Q I r ⟨S,z,d,w,e,q⟩
 match z,e with
 | [.int i],e=>obtain⟨y,rfl⟩:=Ax e;obtain⟨v,rfl,u⟩:=w.one;cases(show v=.int i from u);exact P0 h s σ H _ j Q I r ⟨i,rfl,y,q _ H (Ab.refl _) rfl⟩
def Qw:∀h d,Wl h=some d->d.imm=true:=λh d e=>by
 match h,e with
 | [.int i],e=>obtain⟨j,rfl⟩:=Ax e;rfl
variable {fs:Ev->R (List D)}{p:GP}
def cT(i:X.mg "int" = none)(u:PAd X c l (e::es) fs)(j:Gl X "int":=by rfl)(s:Zs X.env e es:=by rfl)(h:Zp X.env pos es:=by rfl):
  PEd X c l (.Call (.Name "int" p) (e::es) [] pos) (bA fs Oz):=cY wf3 PyProof.Rows.boot_int i u j (by decide) (by decide) s h
def fZ(i:X.mg "str" = none)(u:PAd X c l (e::es) fs)(j:Gl X "str":=by rfl)(s:Zs X.env e es:=by rfl)(h:Zp X.env pos es:=by rfl):
  PEd X c l (.Call (.Name "str" p) (e::es) [] pos) (bA fs Wl):=cY wf6 PyProof.Rows.boot_str i u j (by decide) (by decide) s h
def inS:D->D->Option D
 | .str i,.str j=>some (.bl (!(Builtin.Str.occurrences j i 0 j.length 1).isEmpty))
 |_,_=>none
def Qu:∀x y d,inS x y=some d->d.imm=true:=λx y d h=>by cases x<;>cases y<;>first | (cases h;done) | (cases h;rfl)
def wx6:OpR X (CG .In) (rD X.K inS):=by
 rintro h s σ H x y v u Q I z w ⟨S,F,E,d,B,A,e,q⟩;cases F with
 |str i =>
  cases E with
  |str j=>cases e;cases(show x=.str i from B);cases(show y=.str j from A);exact jz5 h s σ H _ _ v u Q I z w ⟨i,j,rfl,rfl,q _ H (Ab.refl _) rfl⟩
  |_=>cases e
 |_=>cases e
def b7(j:PEd X c l a f1)(i:PEd X c l b f2)(h:DX .In b=false:=by with_unfolding_all rfl):PEd X c l (.Compare a [.In] [b] pos) (b2 f1 f2 inS):=cD wx6 j i h
def kgs{z:BP}{t:Tok}(i:X.mg x=some (.str z t))(j:Gl X x:=by rfl)(s:Zd x:=by decide):PEd X c .fr (.Name x pos) (kd (.str z)):=
 PE.imp (Z5 (v:=.str z) j i ⟨t,rfl⟩ s) λ_ _ _ h=>Ys (d:=.str z) (v:=.str z) (λ_ _=>rfl) h
def o8:D->Option D
 | .int i=>if i.natAbs<2 ^ 200 then some (.str (Str.ofString (toString i))) else none
 |_=>none
def jO(h:PEd X c l e f):PEd X c l (.FormattedValue e (-1) none pos) (b1 f o8):=λj s σ H Q I q=>by
 obtain⟨Y,ρ,E,q⟩:=q;refine WD (thn (h j s σ H (λv y=>∃i:Int,v=.int i/\i.natAbs<2 ^ 200/\Q (.str (Str.ofString (toString i))) y) I (Ag E ((RQ.bind.mp q).mono (λd B v y G E1 A=>?_) λ_ z=>z))) λu G O=>?_)
 ·obtain⟨Z,L,M⟩:=B.of;cases d with
  |int i=>obtain⟨F,rfl⟩:=Ax L;exact⟨i,A,F,M _ y G rfl⟩
  |_=>cases L
 ·obtain⟨v,y,U,A,i,T,F,B⟩:=O;subst T;obtain⟨t,rfl⟩:∃t,u=Value.int i t:=A;have w:i.natAbs.log2<1920:=by
   by_cases J:i.natAbs=0
   ·rw[J];decide
   ·exact cZ ((nJ J).mpr F) (by decide)
  exact VF w ⟨.str (toString i),y,(U.tok _).tok _,⟨_,rfl⟩,B⟩
def kz8(x:BP):x++Str.empty=x:=by show(⟨x.cps ++ #[]⟩:BP)=x;rw[Array.append_empty]
def kw6(x:BP):Str.empty++x=x:=by show(⟨#[]++x.cps⟩:BP)=x;rw[Array.empty_append]
def kb4(x y z:BP):x++y++z=x++(y++z):=by show(⟨x.cps++y.cps++z.cps⟩:BP)=⟨x.cps++(y.cps++z.cps)⟩;rw[dU]
def jN:Ev->R BP:=λ_=>.ok Str.empty
def jS(f:Ev->R D)(g:Ev->R BP):Ev->R BP:=λρ=>(f ρ).bind λx=>match x with
 | .str z=>if z.length<=2000 then(g ρ).bind λw=>.ok (z++w) else .bad
 |_=>.bad
def jV(g:Ev->R BP):Ev->R D:=λρ=>(g ρ).bind λw=>.ok (.str w)
def PJs(X:Cx)(c:DC)(n:Nat)(es:List BZ)(g:Ev->R BP):Prop:=∀(acc:BP)(h:List (BJ×GD))(s:BK)(σ:St)(H:Hp)(Q:VK),acc.length+n<=sizeLine->Inv X h σ H s ->
 (∃i ρ,Al X.K c i ρ σ H/\RQ (g ρ) (λw=>∀H',Ab H H'->Q (.str (acc++w)) H') (λe=>∀v H',Ab H H'->Rep X.K H' (lvS c ρ σ H .any) e v->c.Ex e v H'))->BL (BV X.prog X.w) X.A (joinParts acc (JL es X.env)) (EP X h σ Q) X.xe s
def uG:PJs X c 0 [] jN:=λacc h s σ H Q i I ⟨j,ρ,E,q⟩=>by have q:∀H',Ab H H'->Q (.str (acc++Str.empty)) H':=q;rw[kz8]at q;exact joinParts_nil ⟨.str acc,H,I.tok _,⟨_,rfl⟩,q H (Ab.refl _)⟩ i
variable {g:Ev->R BP}
theorem cG(h:PEd X c l e f)(Y:PJs X c n es g)(Z:JL (e::es) X.env=CP e X.env::JL es X.env:=by rfl):PJs X c (2000+n) (e::es) (jS f g):=λacc j s σ H Q hz I q=>by
 obtain⟨O,ρ,E,q⟩:=q;rw[Z];refine gJ (thG (h j s σ H (λv G=>∃x:BP,v=.str x/\x.length<=2000/\Ab H G/\Al X.K c O ρ σ G/\RQ (g ρ) (λw=>∀H',Ab H H'->Q (.str (acc++x++w)) H') (λe=>∀v H',Ab H H'->Rep X.K H' (lvS c ρ σ H .any) e v->c.Ex e v H')) I (Ag E ((RQ.bind.mp q).mono (λd i v G J M L=>?_) λ_ z=>z))) λu J v G I1 L T=>?_)
 ·cases d with
  |str z =>
   have i:RQ (if z.length<=2000 then(g ρ).bind λw=>.ok (z++w) else .bad) _ _:=i;by_cases B:z.length<=2000
   ·rw[if_pos B]at i;exact⟨z,L,B,J,M,(RQ.bind.mp i).mono (λw U H' F=>by rw[kb4];exact U H' F) λ_ z=>z⟩
   ·rw[if_neg B]at i;exact i.elim
  |_=>exact(i:False).elim
 ·obtain⟨x,ev,hx,A,M,i⟩:=T;subst ev;obtain⟨t,rfl⟩:∃t,u=Value.str x t:=L;have B:(acc++x).length=acc.length+x.length:=strLen_append _ _;refine⟨by rw[B];lia,Y (acc++x) j J σ G Q (by rw[B];lia) I1 ⟨O,ρ,M,i.mono (λ_ z H' F=>z H' (A.trans F)) λ_ z v H' F r=>z v H' (A.trans F) (r.mono (Ab.refl _) λ_ y=>Bw A y)⟩⟩
theorem js_{u j:BZ}(h:PJs X c n (u::j::es) g)(F:n<=sizeLine:=by decide)(B:JL (u::j::es) X.env=CP u X.env::CP j X.env::JL es X.env:=by rfl):PEd X c l (.JoinedStr (u::j::es) pos) (jV g):=λi s σ H Q I q=>by obtain⟨A,ρ,E,q⟩:=q;refine iU ?_;rw[<-B];exact h Str.empty i s σ H Q (by have:Str.empty.length=0:=rfl;rw[this];lia) I ⟨A,ρ,E,(RQ.bind.mp q).mono (λw z H' y=>by rw[kw6];exact z _ H' y rfl) λ_ z=>z⟩
end
def tx(l:List Nat):BP:=⟨l.toArray⟩
def Gb(l:List Nat):(tx l).length=l.length:=by show l.toArray.size=_;simp
def q_(a b:List Nat):tx a++tx b=tx (a++b):=by show(⟨a.toArray++b.toArray⟩:BP)=⟨(a++b).toArray⟩;simp
def qZ{a b:List Nat}(h:tx a=tx b):a=b:=by have:=congrArg (λs:BP=>s.cps.toList) h;simpa[tx] using this
theorem fY{l:List Nat}(h:∀c∈l,c<128):PyData.strOk (tx l)=true:=by show l.toArray.all (·<0x110000)=true;rw[yD];intro c i;have:=h c (by simpa using i);exact decide_eq_true (by lia)
theorem tO{l:List Nat}(h:∀c∈l,c<128):Builtin.Str.strKind (tx l)=1:=by unfold Builtin.Str.strKind;rw[if_pos];show l.toArray.all (·<256)=true;rw[yD];intro c i;have:=h c (by simpa using i);exact decide_eq_true (by lia)
def R0(c:Nat)(l:List Nat):List Nat:=(List.range l.length).filter λi=>decide (l[i]? = some c)
theorem subAt_one(l:List Nat)(c i:Nat):Builtin.Str.subAt (tx l) (tx [c]) i=decide (l[i]? = some c):=by
 unfold Builtin.Str.subAt;have e:(tx [c]).length=1:=rfl;rw[e,bI,decide_eq_true_iff];show(l.toArray.extract i (i+1) == #[c])=true↔_;rw[beq_iff_eq];constructor
 ·intro h;have:=congrArg Array.toList h;rw[n_]at this;have this:(l.take (i+1)).drop i=[c]:=by simpa[iG,nQ] using this
  have j:=congrArg (λz:List Nat=>z[0]?) this;simp only[List.getElem?_drop,Nat.add_zero]at j;rw[xY (by lia)]at j;simpa using j
 ·intro h;apply Array.ext';rw[n_];have⟨o,e⟩:=MT.mp h;have:(l.take (i+1)).drop i=[c]:=by rw[w6,h];simp[YF (gW o)]
  simpa[iG,nQ] using this
theorem Vx(l:List Nat)(c:Nat):∀(m k free:Nat)(acc:Array Nat),k+m=l.length+1->free<=k->acc.size<=k ->
  (forIn (nG k m) (acc,free) (StrLaws.occBody (tx l) (tx [c]) l.length (l.length+1))).run.fst.toList=acc.toList++(nG k m).filter λi=>decide (l[i]? = some c)
 |0,k,free,acc,_,_,_=>by simp
 |m+1,k,free,acc,w,s,y=>by
  rw[List.range'_succ,dI,nW];unfold StrLaws.occBody;have u:(tx [c]).length=1:=rfl;rw[subAt_one,u];by_cases h:l[k]? = some c
  ·have o:=(MT.mp h).1;rw[if_pos ⟨⟨⟨by show acc.size<_;lia,s⟩,by lia⟩,decide_eq_true h⟩,if_pos (decide_eq_true h)];have j:=Vx l c m (k+1) (k+1) (acc.push k) (by lia) (by lia) (by simp;lia);refine Eq.trans j ?_;simp
  ·rw[if_neg λz=>h (of_decide_eq_true z.2),if_neg λz=>h (of_decide_eq_true z)];exact Vx l c m (k+1) free acc (by lia) (by lia) (by lia)
theorem kw7(l:List Nat)(c:Nat):Builtin.Str.occurrences (tx l) (tx [c]) 0 (tx l).length ((tx l).length+1)=R0 c l:=by rw[Gb,StrLaws.occ_eq];have:=Vx l c (l.length+1) 0 0 #[] (by lia) (by lia) (by simp);rw[Nat.sub_zero];refine this.trans ?_;unfold R0;rw[show(#[]:Array Nat).toList=[] from rfl,ZS,<-xT,List.range_succ,List.filter_append];have:decide (l[l.length]? = some c)=false:=decide_eq_false (by simp);simp[nW,this]
def spl(c:Nat):List Nat->List (List Nat)
 | []=>[[]]
 |x::l=>if x=c then []::spl c l else match spl c l with
  |w::ws=>(x::w)::ws
  | []=>[[x]]
def jn(c:Nat):List (List Nat)->List Nat
 | []=>[]
 | [w]=>w
 |w::v::ws=>w++c::jn c (v::ws)
def sbl(l:List Nat)(i j:Nat):List Nat:=(l.take j).drop i
def fC(l:List Nat)(h:List Nat):List (List Nat):=((0::h.map (·+1)).zip (h++[l.length])).map λp=>sbl l p.1 p.2
def ka1(c x:Nat)(l:List Nat):R0 c (x::l)=(if x=c then [0] else [])++(R0 c l).map (·+1):=by
 unfold R0;rw[L_,List.range_succ_eq_map,nW,List.filter_map];have e:((λi=>decide ((x::l)[i]? = some c))∘Nat.succ)=λi=>decide (l[i]? = some c):=funext λi=>by simp
 rw[e];by_cases h:x=c
 ·rw[if_pos (by simp[h]),if_pos h];rfl
 ·rw[if_neg (by simp[h]),if_neg h];rfl
def sub_succ(x:Nat)(l:List Nat)(i j:Nat):sbl (x::l) (i+1) (j+1)=sbl l i j:=by unfold sbl;rw[List.take_succ_cons,List.drop_succ_cons]
theorem R5(c:Nat):∀l:List Nat,spl c l≠[]
 | []=>by simp[spl]
 |x::l=>by
  unfold spl;split
  ·simp
  ·split<;>simp
def Yh(c:Nat):∀l:List Nat,fC l (R0 c l)=spl c l
 | []=>rfl
 |x::l=>by
  have s:=Yh c l;rw[ka1];by_cases h:x=c
  ·rw[if_pos h,spl,if_pos h,<-s];unfold fC;rw[L_];simp only[bJ,ZS,KH,ZX,RB];have o:sbl (x::l) 0 0=[]:=by simp[sbl]
   rw[o];congr 1;have j:((R0 c l).map (·+1)++[l.length+1])=(R0 c l++[l.length]).map (·+1):=by simp
   have i:((0+1)::(R0 c l).map ((λx=>x+1)∘λx=>x+1))=(0::(R0 c l).map (·+1)).map (·+1):=by simp
   rw[j,i,List.zip_map,RB];exact dW λp _=>sub_succ x l p.1 p.2
  ·rw[if_neg h,ZS,spl,if_neg h,<-s];unfold fC;rw[L_];cases u:R0 c l with
   |nil=>simp[sbl]
   |cons p ps =>
    simp only[KH,bJ,ZX,RB];have o:sbl (x::l) 0 (p+1)=x::sbl l 0 p:=by simp[sbl]
    rw[o];congr 1;have j:(ps.map (·+1)++[l.length+1])=(ps++[l.length]).map (·+1):=by simp
    have i:((p+1+1)::ps.map ((λx=>x+1)∘λx=>x+1))=((p+1)::ps.map (·+1)).map (·+1):=by simp
    rw[j,i,List.zip_map,RB];exact dW λp _=>sub_succ x l p.1 p.2
theorem Yq(l:List Nat)(i j:Nat):Builtin.Str.strSub (tx l) i j=tx (sbl l i j):=by
 unfold Builtin.Str.strSub tx sbl;congr 1;apply Array.ext';rw[n_];by_cases h:i<=j
 ·have:i+(j - i)=j:=by omega
  simp[iG,nQ,this]
 ·have s:j - i=0:=by omega
  have o:((l.take j).drop i)=[]:=dX (by rw[YH];omega);simp[iG,s,o]
theorem kn4{l:List Nat}{c:Nat}(h:∀x∈l,x<128)(y:c<128):Ea (tx l) (tx [c])=(spl c l).map tx:=by
 have o:=tO h;have j:=tO (l:=[c]) λx s=>by rw[NT.mp s];exact y
 unfold Ea;rw[kw7,o,j,Gb];have z:(tx [c]).length=1:=rfl;rw[z];by_cases i:l=[]
 ·subst i;rw[if_pos (by simp)];rfl
 ·have u:¬ l.length<1:=by have:=List.length_pos_iff.mpr i;lia
  rw[if_neg (by simp[u])];have key:(Builtin.Str.partsBetween (tx l) (R0 c l) 1)=(spl c l).map tx:=by unfold Builtin.Str.partsBetween;rw[Gb,<-Yh];unfold fC;rw[RB];exact dW λp _=>Yq l p.1 p.2
  split
  ·rename_i w;rw[<-key];have:R0 c l=[]:=by simpa using w
   rw[this];unfold Builtin.Str.partsBetween;simp only[gU,ZS,ZX,List.zip_nil_right,KH];rw[Yq,Gb];simp[sbl]
  ·exact key
def sW(c:Nat):∀l:List Nat,jn c (spl c l)=l
 | []=>rfl
 |x::l=>by
  have i:=sW c l;have o:=R5 c l;unfold spl;by_cases h:x=c
  ·rw[if_pos h];cases j:spl c l with
   |nil=>exact absurd j o
   |cons w s=>rw[j]at i;rw[jn,i,h];rfl
  ·rw[if_neg h];cases j:spl c l with
   |nil=>exact absurd j o
   |cons w s =>
    rw[j]at i;cases s with
    |nil=>rw[jn]at i;show x::w=_;rw[i]
    |cons v s=>rw[jn]at i;show x::w++c::jn c (v::s)=_;rw[bJ,i]
def Uq{c:Nat}:∀{w:List Nat},c∉w->∀l,spl c (w++c::l)=w::spl c l
 | [],_,l=>by rw[ZS,spl,if_pos rfl]
 |x::w,h,l=>by have i:=not_or.mp λz=>h (I_.mpr z);rw[bJ,spl,if_neg (Ne.symm i.1),Uq i.2 l]
def tV{c:Nat}:∀{w:List Nat},c∉w->spl c w=[w]
 | [],_=>rfl
 |x::w,h=>by have i:=not_or.mp λz=>h (I_.mpr z);rw[spl,if_neg (Ne.symm i.1),tV i.2]
def lE{c:Nat}:∀{ws:List (List Nat)},ws≠[]->(∀w∈ws,c∉w)->spl c (jn c ws)=ws
 | [],h,_=>absurd rfl h
 | [w],_,h=>tV (h w MF)
 |w::v::ws,_,h=>by rw[jn,Uq (h w MF),lE (by simp) λx i=>h x (KQ _ i)]
theorem Ur{c:Nat}:∀{l:List Nat}{w:List Nat},w∈spl c l->∀x∈w,x∈l
 | [],w,h,x,i=>by rw[spl,NT]at h;rw[h]at i;cases i
 |y::l,w,h,x,i=>by
  rw[spl]at h;split at h
  ·rcases I_.mp h with rfl |h
   ·cases i
   ·exact KQ _ (Ur h x i)
  ·cases j:spl c l with
   |nil=>exact absurd j (R5 c l)
   |cons v o =>
    rw[j]at h;rcases I_.mp h with rfl |h
    ·rcases I_.mp i with rfl |i
     ·exact MF
     ·exact KQ _ (Ur (w:=v) (by rw[j];exact MF) x i)
    ·exact KQ _ (Ur (w:=w) (by rw[j];exact KQ _ h) x i)
def Xz(c:Nat):∀(ws:List (List Nat))(acc:List Nat),(ws.map tx).foldl (λa (p:BP)=>a++(tx [c]).cps++p.cps) acc.toArray=(acc++ws.flatMap λw=>c::w).toArray
 | [],acc=>by simp
 |w::ws,acc=>by
  rw[KH,wO];have:acc.toArray++(tx [c]).cps++(tx w).cps=(acc++c::w).toArray:=by simp[tx]
  rw[this,Xz c ws];simp
def Um(c:Nat):∀(w:List Nat)(ws:List (List Nat)),jn c (w::ws)=w++ws.flatMap λv=>c::v
 |w,[]=>by simp[jn]
 |w,v::ws=>by rw[jn,Um c v ws];simp
def uN(c:Nat)(ws:List (List Nat)):Builtin.Str.glued (tx [c]) (ws.map tx)=tx (jn c ws):=by
 unfold Builtin.Str.glued;cases ws with
 |nil=>rfl
 |cons w ws=>rw[Um];show(⟨((ws.map tx)).foldl (λa (p:BP)=>a++(tx [c]).cps++p.cps) w.toArray⟩:BP)=_;rw[Xz];rfl
theorem Tf{l:List Nat}{i c:Nat}(j:l.length<=10000)(h:l[i]? = some c):ixD (.str (tx l)) (.int (i:Int))=some (.str (tx [c])):=by
 show(if(tx l).length<=16777216 then(atI (tx l).cps.toList (i:Int)).map λk=>D.str ⟨#[k]⟩ else none)=_;rw[Gb,if_pos (by omega)];have:(tx l).cps.toList=l:=by simp[tx]
 rw[this,Yx h];rfl
theorem sS{l:List Nat}(h:l.length<=10000):Eh [.str (tx l)]=some (.int (l.length:Int)):=by show(if(tx l).length<=16777216 then some (D.int ((tx l).length:Nat)) else none)=_;rw[Gb,if_pos (by omega)]
theorem mY{a b:List Nat}(h:a.length+b.length<=10000):Bj (.str (tx a)) (.str (tx b))=some (.str (tx (a++b))):=by show(if(tx a).length+(tx b).length<=16777216 then some (D.str (tx a++tx b)) else none)=_;rw[Gb,Gb,if_pos (by omega),q_]
def wv9(c:Nat)(l:List Nat):inS (.str (tx [c])) (.str (tx l))=some (.bl (decide (c∈l))):=by refine congrArg (λb=>some (D.bl b)) (Eq.trans (StrLaws.found_one (tx l) c) ?_);rw[show(tx l).cps.toList=l by simp[tx]]
def pK:(List.range 10).all (λk=>decide (Str.ofString (toString (k:Int))=tx [48+k]) && decide (PySem.intText? (tx [48+k])=some (k:Int)))=true:=by decide +kernel
def uR{k:Nat}(h:k<10):Str.ofString (toString (k:Int))=tx [48+k]:=by have:=SN.mp pK k (dF.mpr h);rw[KN]at this;exact of_decide_eq_true this.1
def kr8{k:Nat}(h:k<10):PySem.intText? (tx [48+k])=some (k:Int):=by have:=SN.mp pK k (dF.mpr h);rw[KN]at this;exact of_decide_eq_true this.2
def wj7{k:Nat}(h:k<10):Oz [.str (tx [48+k])]=some (.int (k:Int)):=by show(if(tx [48+k]).length<=640/\(PySem.intText? (tx [48+k])).isSome=true then some (D.int ((PySem.intText? (tx [48+k])).getD 0)) else none)=_;rw[kr8 h,if_pos ⟨by rw[Gb];show 1<=640;decide,rfl⟩];rfl
theorem jz2{k:Nat}(h:k<10):((k:Int)).natAbs.log2<1920:=by rw[xM];have:k.log2<=k:=Nat.log2_le_self k;omega
def lD{k:Nat}(h:k<10):Wl [.int (k:Int)]=some (.str (tx [48+k])):=by show(if((k:Int)).natAbs.log2<1920 then some (D.str (Str.ofString (toString (k:Int)))) else none)=_;rw[if_pos (jz2 h),uR h]
def l_{k:Nat}(h:k<10):o8 (.int (k:Int))=some (.str (tx [48+k])):=by show(if((k:Int)).natAbs<2 ^ 200 then some (D.str (Str.ofString (toString (k:Int)))) else none)=_;rw[if_pos (by rw[xM];exact cZ h (by decide)),uR h]
def kI{a b:List Nat}(j:∀c∈a,c<128)(i:∀c∈b,c<128):eqD (.str (tx a)) (.str (tx b))=some (.bl (decide (a=b))):=by
 unfold eqD;rw[if_pos (by simp[D.cok,fY j,fY i])];have:(tx a == tx b)=decide (a=b):=by rw[bI,beq_iff_eq,decide_eq_true_iff];exact⟨qZ,λh=>by rw[h]⟩
 simp[D.eqb,D.py,PyData.eqv,this]
def ww6{a b:List Nat}(j:∀c∈a,c<128)(i:∀c∈b,c<128):neD (.str (tx a)) (.str (tx b))=some (.bl (!decide (a=b))):=by
 unfold neD;rw[if_pos (by simp[D.cok,fY j,fY i])];have:(tx a == tx b)=decide (a=b):=by rw[bI,beq_iff_eq,decide_eq_true_iff];exact⟨qZ,λh=>by rw[h]⟩
 simp[D.eqb,D.py,PyData.eqv,this]
def txs(ws:List (List Nat)):List D:=ws.map λw=>.str (tx w)
theorem mC{l:List Nat}{c:Nat}(h1:f1 ρ=.ok (.str (tx l)))(j:f2 ρ=.ok (.str (tx [c])))(h:∀x∈l,x<128)(i:c<128)(o:l.length<=10000)(s:(spl c l).length<=10000):XM f1 f2 ρ=.ok (.lst (txs (spl c l))):=by unfold XM;rw[h1,R.ok_bind];show(f2 ρ).bind _=_;rw[j,R.ok_bind];show(if(((tx [c]).length == 0)=false/\(tx l).length<=16777216)/\(Ea (tx l) (tx [c])).length<=16777216 then R.ok (D.lst ((Ea (tx l) (tx [c])).map .str)) else .bad)=_;rw[kn4 h i,if_pos ⟨⟨rfl,by rw[Gb];omega⟩,by rw[HN];omega⟩,RB];rfl
def kb5(ws:List (List Nat)):T5 (txs ws)=some (ws.map tx):=by
 have:txs ws=(ws.map tx).map .str:=by unfold txs;rw[RB];rfl
 rw[this,Yr]
def tot(ws:List (List Nat)):Nat:=(ws.map λw=>w.length+1).sum
theorem v7(z:Nat):∀(ws:List (List Nat))(a:Nat),(ws.map tx).foldl (λ(n:Nat)(s:BP)=>n+s.length+z) a=a+(ws.map λw=>w.length+z).sum
 | [],a=>by simp
 |w::ws,a=>by rw[KH,wO,v7 z ws,Gb,KH,dB];omega
theorem sY(c:Nat):∀h:List (List Nat),(jn c h).length<=tot h
 | []=>by simp[jn,tot]
 |w::h=>by
  rw[Um,PQ];unfold tot;rw[KH,dB];have:(h.flatMap λv=>c::v).length=(h.map λw=>w.length+1).sum:=by rw[List.length_flatMap];simp
  omega
theorem Zf{c:Nat}{ws:List (List Nat)}(h1:f1 ρ=.ok (.str (tx [c])))(h:f2 ρ=.ok (.lst (txs ws)))(j:tot ws<=10000):XQ f1 f2 ρ=.ok (.str (tx (jn c ws))):=by
 unfold XQ;rw[h1,R.ok_bind];show(f2 ρ).bind _=_;rw[h,R.ok_bind];show(R.of (T5 (txs ws))).bind _=_;rw[kb5,R.of_some,R.ok_bind];have i:(ws.map tx).toArray.foldl (λ(n:Nat)(s:BP)=>n+s.length+(tx [c]).length) 0=tot ws:=by rw[List.foldl_toArray,v7];unfold tot;rw[Gb];simp
 have o:=sY c ws;rw[if_pos ⟨by rw[i];omega,by rw[uN,Gb];omega⟩,uN]
def Ci{N P:List BP}{sc:GX}(h1:sc.kind=.function:=by rfl)(u:sc.isCoroutine=false:=by rfl)(s:sc.isGenerator=false:=by rfl)(o:N.Nodup:=by decide +kernel)(j:N.take P.length=P:=by rfl)(i:∀x∈P,sc.names.lookup x=some .local\/sc.names.lookup x=some .cell:=by decide +kernel)(h:∀y∈sc.names,y.2≠.free:=by decide +kernel):Br N P sc:=⟨h1,u,s,o,j,i,h⟩
structure Bx where
 P:BX
 w:CN
 K:BW
 mg:BP->Option A_
 base:B_
 T:BJ
structure Wf(x:BP)(st:CQ)(N k:Nat)(ps:List BP)(Y:Bx->Prop->Prop)(S:Nat->List BP->Bx->(List D->R D)->BJ->CZ->Prop) where
 Ns:List BP
 sc:Br Ns ps (Ae st)
 g:Ev->R Fl
 ok:∀{b a fd},Br Ns ps (Ae st)->Fun b.K x x st a fd->Y b (S k ps b (Be N g) a fd)
abbrev gO{v g:Ev->R Fl}(_:g=v):Ev->R Fl:=g
variable {st:CQ}{Y:Bx->Prop->Prop}
def Wf.at{N k:Nat}{ps:List BP}{S:Nat->List BP->Bx->(List D->R D)->BJ->CZ->Prop}(V:Wf x st N k ps Y S){g:Ev->R Fl}(e:V.g=g){b:Bx}{a:BJ}{h:CZ}(F:Fun b.K x x st a h):Y b (S k ps b (Be N g) a h):=e ▸ V.ok V.sc F
abbrev Wb{N k:Nat}{ps:List BP}{S:Nat->List BP->Bx->(List D->R D)->BJ->CZ->Prop}(_:Wf x st N k ps Y S)(F:Bx->Nat->BP->List BP->(List D->R D)->Prop)(m:List D->R D)(b:Bx):Prop:=F b k x ps m
abbrev Zc(x:BP)(b:Bx):Prop:=b.mg x=none
abbrev FB(b:Bx)(k:Nat)(x:BP)(ps:List BP)(m:List D->R D):Prop:=FnC b.P b.w b.K b.mg b.base k x ps ps.length m
abbrev FXB(b:Bx)(k:Nat)(x:BP)(ps:List BP)(m:List D->R D):Prop:=jY b.P b.w b.K b.mg b.base k x ps ps.length m
abbrev So0(k:Nat)(ps:List BP)(b:Bx)(m:List D->R D)(a:BJ)(h:CZ):Prop:=Cw b.P b.w b.K b.mg b.base CX0 k a h ps (sp0 b.K ps.length m)
abbrev Sx0(k:Nat)(ps:List BP)(b:Bx)(m:List D->R D)(a:BJ)(h:CZ):Prop:=Cw b.P b.w b.K b.mg b.base (CXE b.P b.w) k a h ps (sp1 b.K ps.length m)
def Jt:D->Option (List D×List D)
 | .exc c ks h=>if dkN c=true then some (ks,h) else none
 |_=>none
def Hu{c:BP}(i:dkN c=true)(ks h:List D):Jt (.exc c ks h)=some (ks,h):=if_pos i
variable {p:List D×List D}
def jx7{d:D}(h:Jt d=some p):∃c,dkN c=true/\d=.exc c p.1 p.2:=by
 cases d with
 |exc c ks o =>
  have i:(if dkN c=true then some (ks,o) else none)=some p:=h;by_cases j:dkN c=true
  ·rw[if_pos j]at i;cases i;exact⟨c,j,rfl⟩
  ·rw[if_neg j]at i;cases i
 |_=>cases h
structure DkC(K:BW)(C:BJ):Prop where
 at_:PySem.W.nsIn K PySem.mainGlobals "Desk" = some (some (.ref C))
 cls:Cls K C
 no:Ol K C "webs"
def bZ(x d:D):Option D:=(kyO x).bind λk=>(Jt d).map λp=>.bl (!(Bv p.1 p.2 k).isSome)
def jK(f1 f2:Ev->R D):Ev->R D:=λρ=>(f1 ρ).bind λd=>(R.of (Jt d)).bind λp=>(f2 ρ).bind λx=>R.of ((kyO x).bind (Bv p.1 p.2))
variable {s:BZ}{apos:GP}
variable {K:BW}
section
variable {c:DC}{C:BJ}
def Qi{S:AS}{d:D}(G:DkC K C)(w:Jt d=some p)(r:Rep K H S d v):∃(t i q:BJ)(h:List Key)(vs:List V),v=.ref t/\H t=some (.ins C i [("webs",.ref q)])/\H q=some (.dK (h.zip vs))/\p.1=h.map kyD/\h.length=vs.length/\h.Nodup/\Ak K H S p.2 vs:=by obtain⟨c,y,rfl⟩:=jx7 w;obtain⟨t,vs,rfl,o,u⟩:=r;have⟨_,I,i,q,h,j,F,E,B,A,z⟩:=o.dsk y;rw[G.at_]at j;cases j;exact⟨t,i,q,h,vs,rfl,A,z,F,E,B,u⟩
theorem yb9(hu:X.A.units+70<FN)(o:DkC X.K C)(ha:PEd X c l a f1)(hb:PEd X c l s f2)(hm:DX .NotIn (.Attribute s "webs" apos)=false:=by with_unfolding_all rfl)
  (h:DG s "webs" X.env (CP s X.env)=CP s X.env:=by rfl):PTd X c (.Compare a [.NotIn] [.Attribute s "webs" apos] pos) (tb (b2 f1 f2 bZ)):=
 PT.imp (rW (jz7 (by lia) ha (lK hb h)) hm) λσ H Q q=>by
 obtain⟨hs,ρ,E,q⟩:=q;refine Ag (l:=l) E ((RQ.bind.mp (RQ.bind.mp q)).mono (λd1 T v1 H1 y E1 B=>?_) λ_ z=>z);refine Ag (l:=l) E1 ((RQ.bind.mp T).mono (λd2 O i H2 G E2 J=>?_) λ_ z=>Az z y);obtain⟨d,e,M⟩:=O.of;have⟨k,hk,e⟩:=VV.mp e;obtain⟨p,U,rfl⟩:=VR.mp e;obtain⟨t,dx,w,F,u,rfl,h1,h2,h3,h4,h5,I⟩:=Qi o U J;refine⟨t,C,dx,_,.ref w,rfl,h1,o.cls,o.no,by simp[List.lookup],w,Ld (F.zip u) k,rfl,?_,?_⟩
 ·have ex:v1=kV k:=by rw[K9 hk]at B;cases k<;>exact B
  rw[ex];exact O7.k h2
 ·have Z:(Ld (F.zip u) k).isSome=(Bv p.1 p.2 k).isSome:=by
   rw[h3];rcases Gk k h4 I with ⟨v1,i⟩ | ⟨v,f,v1,i,_⟩
   ·rw[v1,i];rfl
   ·rw[v1,i];rfl
  rw[Z];obtain⟨b,j,L⟩:=M.of;cases j;exact⟨_,rfl,L H2 (y.trans G)⟩
theorem yE(hu:X.A.units+70<FN)(y:DkC X.K C)(Z:PEd X c l s f1)(ha:PEd X c l a f2)(u:bC a:=by intro _ _;rfl)
  (h:DG s "webs" X.env (CP s X.env)=CP s X.env:=by rfl):PEd X c l (.Subscript (.Attribute s "webs" apos) a pos) (jK f1 f2):=
 PE.imp (kx6 (by lia) (lK Z h) ha u) λσ H Q q=>by
 obtain⟨hs,ρ,E,q⟩:=q;refine Ag (l:=l) E ((RQ.bind.mp q).mono (λd1 o v1 H1 B E1 L=>?_) λ_ z=>z);have⟨p,T,o⟩:=(RQ.bind.mp o).of;obtain⟨t,dx,w,kk,vs,rfl,h1,h2,h3,h4,h5,J⟩:=Qi y T L;refine⟨t,C,dx,_,.ref w,rfl,h1,y.cls,y.no,by simp[List.lookup],?_⟩;refine Ag (l:=l) E1 ((RQ.bind.mp o).mono (λd2 O G H2 j E2 F=>?_) λ_ z=>Az z B);obtain⟨d,e,M⟩:=O.of;have⟨k,U,e⟩:=VV.mp e;rw[h3]at e;rcases Gk k h4 J with ⟨v1,i⟩ | ⟨v,f,v1,i,I⟩
 ·rw[i]at e;cases e
 ·rw[i]at e;cases e;refine⟨w,v,rfl,?_,M _ _ (B.trans j) (I.mono j λ_ z=>z)⟩;have ex:G=kV k:=by rw[K9 U]at F;cases k<;>exact F
  rw[ex,<-v1];exact O7.k (j _ _ h2)
end
def MtX(P:BX)(w:CN)(K:BW)(i:BP->Option A_)(base:B_)(k:Nat)(x:BP)(ps:List BP)(n:Nat)(m:List D->R D):Prop:=
 ∃C f h,DkC K C/\Meth K C x f/\(x == ("webs" : BP))=false/\Cw P w K i base (CXE P w) k f h ps (sp1 K n m)/\Binds K h ps []
def MtC(P:BX)(w:CN)(K:BW)(i:BP->Option A_)(base:B_)(k:Nat)(x:BP)(ps:List BP)(n:Nat)(m:List D->R D):Prop:=
 ∃C f h,DkC K C/\Meth K C x f/\(x == ("webs" : BP))=false/\Cw P w K i base CX0 k f h ps (sp0 K n m)/\Binds K h ps []
def MtX.c{P:BX}{w:CN}{i:BP->Option A_}{base:B_}{k:Nat}{ps:List BP}{m:List D->R D}(h:MtX P w K i base k x ps n m):MtC P w K i base k x ps n m:=
 let ⟨C,f,A,z,y,u,o,j⟩:=h; ⟨C,f,A,z,y,u,kE o,j⟩
def mtA(f:Ev->R D)(h:Ev->R (List D)):Ev->R (List D):=λρ=>(f ρ).bind λd=>(R.of (Jt d)).bind λ_=>(h ρ).bind λi=>.ok (d::i)
section
variable {c:DC}{fs:Ev->R (List D)}{h:GP}{x:BP}{k n:Nat}{ps:List BP}{m:List D->R D}
def gB{q:BJ}(h:(x == ("webs" : BP))=false):List.lookup x [(("webs" : BP),V.ref q)]=none:=by simp only[List.lookup,h]
def wf8{pl:Sem Bool}(F:MtX X.prog X.w X.K X.mg X.base k x ps n m)(hp:Ma X c)(hr:Dd k X.A)(hs:PEd X c l s f1)(ha:PAd X c l (e::es) fs)(hn:(e::es).length+1=n:=by rfl)
  (G:Zs X.env e es:=by rfl)(I:Zp X.env pos es:=by rfl)
  (ht:CP (.Call (.Attribute s x apos) (e::es) [] pos) X.env=(do
   let O <-CP s X.env
   JW apos.atName
   let (f,first) <-JX [O] (HX O x pl)
   JM pos f first (GJ pos (BR (e::es) X.env)) (GR pos (E_ [] X.env))):=by rfl):
  PEd X c l (.Call (.Attribute s x apos) (e::es) [] pos) (clX (mtA f1 fs) m):=by
 obtain⟨C,f,fd,U,hm,hw,F,hb⟩:=F;refine PE.imp (Z6 (pl:=pl) hs U.cls hm F hr hb .nil hp ha G I ht) λσ H Q q=>?_;obtain⟨ab,ρ,E,q⟩:=q;refine Ag (l:=l) E ((RQ.bind.mp (RQ.bind.mp q)).mono (λZ B v1 H1 i E1 M=>?_) λ_ z=>z);have⟨p,J,B⟩:=(RQ.bind.mp B).of;obtain⟨t,dx,w,kk,vs,rfl,h1,h2,h3,h4,h5,rr⟩:=Qi U J M;refine⟨t,dx,_,rfl,h1,gB hw,?_⟩;refine Fz (l:=l) E1 ((RQ.bind.mp B).mono (λT q2 aa H2 j E2 L hl=>?_) λ_ z=>Az z i);rw[SM];refine⟨?_,lvS c ρ σ H l,Z::T,⟨_,_,rfl,M.mono j λ_ z=>z,L.mono (Ab.refl _) λ_ z=>Bw i z⟩,(show RQ (m (Z::T)) _ _ from q2).mono (λd z v H' o y=>z v H' ((i.trans j).trans o) (y.mono (Ab.refl _) λ_ z=>Fv E (i.trans j) z)) λd z v u H' o y ru=>⟨d,v,ru,z v H' ((i.trans j).trans o) ?_⟩⟩
 ·rw[L_,<-L.length,hl,hn]
 ·exact y.mono (Ab.refl _) λ_ z=>Jv E (by cases l<;>rfl) (Fv E (i.trans j) z)
def mV{pl:Sem Bool}(F:MtC X.prog X.w X.K X.mg X.base k x ps n m)(hr:Dd k X.A)(hs:PEd X c l s f1)(ha:PAd X c l (e::es) fs)(hn:(e::es).length+1=n:=by rfl)
  (y:Zs X.env e es:=by rfl)(B:Zp X.env pos es:=by rfl)
  (ht:CP (.Call (.Attribute s x apos) (e::es) [] pos) X.env=(do
   let L <-CP s X.env
   JW apos.atName
   let (f,first) <-JX [L] (HX L x pl)
   JM pos f first (GJ pos (BR (e::es) X.env)) (GR pos (E_ [] X.env))):=by rfl):
  PEd X c l (.Call (.Attribute s x apos) (e::es) [] pos) (cl (mtA f1 fs) m):=by
 obtain⟨C,f,fd,O,hm,hw,F,hb⟩:=F;refine PE.imp (Z6 (pl:=pl) (E:=λ_ _ _=>False) hs O.cls hm F hr hb .nil (λ_ _ _ _ _ _ _ z=>z.elim) ha y B ht) λσ H Q q=>?_;obtain⟨aa,ρ,E,q⟩:=q;refine Ag (l:=l) E ((RQ.bind.mp (RQ.bind.mp q)).mono (λT u v1 H1 i E1 J=>?_) λ_ z=>z);have⟨p,G,u⟩:=(RQ.bind.mp u).of;obtain⟨t,dx,w,kk,vs,rfl,h1,h2,h3,h4,h5,rr⟩:=Qi O G J;refine⟨t,dx,_,rfl,h1,gB hw,?_⟩;refine Fz (l:=l) E1 ((RQ.bind.mp u).mono (λM o U H2 j E2 I hl=>?_) λ_ z=>Az z i);rw[SM];have⟨d,ed,o⟩:=RQ.nox (show RQ (m (T::M)).nox _ _ from o);refine⟨?_,lvS c ρ σ H l,T::M,⟨_,_,rfl,J.mono j λ_ z=>z,I.mono (Ab.refl _) λ_ z=>Bw i z⟩,?_⟩
 ·rw[L_,<-I.length,hl,hn]
 ·rw[ed];exact λv H' Z r3=>o v H' ((i.trans j).trans Z) (r3.mono (Ab.refl _) λ_ z=>Fv E (i.trans j) z)
end
end PD
namespace PySem
open Sem (wp)
variable {e L:BJ}{vs:Array A_}{od:Option BJ}{sl:Array (Option A_)}
section
variable {M:JV}{A:C_}{E:A_->BK->Prop}{s:BK}
def jl7{env env':GZ}(h:env'.frame=env.frame):frameOf env'=frameOf env:=by unfold frameOf;rw[h]
def Zy{env env':GZ}(h:env'.frame=env.frame)(e:A_):GK e env'=GK e env:=by unfold GK;rw[h,jl7 h]
def Wt(h:B_)(e:BJ)(vs:Array A_):Prop:=∃T b a,vs[1]? = some (.ref T)/\T≠e/\h.get? T=some b/\b.data=.fields a/\3<a.size/\vs[2]? = some Value.none
def Wt.lt{h:B_}(t:Wt h e vs):1<vs.size:=by obtain⟨T,_,_,t,_⟩:=t;exact(dZ.mp t).1
theorem tE{base:B_}{env:GZ}{outer:List GZ}{c:A_}{head:A_}{m:Bool}{Q:Unit->BK->Prop}
  (H:A.frames=some (env::outer))(K:s.heap.FunFrames base (env::outer))(U:env.frame=some L)(O:s.heap.get? e=some ⟨c,od,.fields vs,sl⟩)(hsz:1<vs.size)
  (h:∀y T J I,(∀b o,b≠e->b∉(env::outer).filterMap (·.frame)->s.heap.get? b=some o->y.get? b=some o)->(∀b o,s.heap.get? b=some o->b∈(env::outer).filterMap (·.frame)->∃sl,y.get? b=some {o with slots:=sl}) ->
   y.get? e=some ⟨c,od,.fields (vs.setIfInBounds 1 (.ref T)),sl⟩->s.heap.objs.size<=T->T≠e->y.get? T=some J->J.data=.fields I->3<I.size->Q () {s with heap:=y}):
  BL M A (do let a <-frameOf env;let pl <-entryPlaceOf L m;let b <-EntryCells.newEntry head a .none (FW L) .none pl;VL (.ref e) 1 b) Q E s:=by
 have n:e∉(env::outer).filterMap (·.frame):=λP=>by have⟨_,o,B,G⟩:=K.mem P;rw[O]at B;injection B with B;subst B;exact G vs rfl
 refine CK (YS H K U λf i=>?_);refine CK (W2 λpl F=>?_);unfold EntryCells.newEntry newFields;refine CK (CV ?_ (F.sizeOk5 _ _ _ _ _));have l:f.get? e=some ⟨c,od,.fields vs,sl⟩:=(i.2.1 e n).trans O;have j:=JK (h:=f) {cls:=.type "traceback",dict:=none,data:=.fields ([head,.ref L,.none,FW L,.none]++(if pl.isEmpty then List.replicate 6 Value.none else pl)).toArray} l;have x:f.objs.size≠e:=VM (HD l);have r:=Obj.data_mapFields (o:=⟨c,od,.fields vs,sl⟩) rfl (·.setIfInBounds 1 (Value.ref f.objs.size));have p:=WT (Obj.mapFields (·.setIfInBounds 1 (Value.ref f.objs.size))) j (Obj.isFreed_of_fields r);have v:=(SQ (f.push {cls:=.type "traceback",dict:=none,data:=.fields ([head,.ref L,.none,FW L,.none]++(if pl.isEmpty then List.replicate 6 Value.none else pl)).toArray})
  (Obj.mapFields (·.setIfInBounds 1 (Value.ref f.objs.size))) (Ne.symm x)).trans (NP f rfl)
 refine DW j rfl hsz (h _ f.objs.size _ _ ?_ ?_ p ?_ x v rfl (by simp only[O_,PQ,L_,gZ]<;>omega))
 all_goals
  have keep:∀b o,b≠e->f.get? b=some o ->
    ((f.push {cls:=.type "traceback",dict:=none,data:=.fields ([head,.ref L,.none,FW L,.none]++(if pl.isEmpty then List.replicate 6 Value.none else pl)).toArray}).update e (Obj.mapFields (·.setIfInBounds 1 (Value.ref f.objs.size)))).get? b=some o:=λb o u w=>by
   rw[SQ _ _ (Ne.symm u)];exact JK _ w
 ·intro b o u t w;exact keep b o u ((i.2.1 b t).trans w)
 ·intro b o w t;have⟨C,q⟩:=i.2.2 b o w;exact⟨C,keep b _ (λz=>n (z ▸ t)) q⟩
 ·rw[<-i.1];exact H_ _
def ww9{base:B_}{env:GZ}{outer:List GZ}{c:A_}{Q:Unit->BK->Prop}
  (v:A.frames=some (env::outer))(F:s.heap.FunFrames base (env::outer))(H:env.frame=some L)(x:s.heap.get? e=some ⟨c,od,.fields vs,sl⟩)(ht:Pj s.heap e vs)
  (h:∀h' l,(∀b o,b≠e->vs[1]? ≠ some (.ref b)->b∉(env::outer).filterMap (·.frame)->s.heap.get? b=some o->h'.get? b=some o)->(∀b o,s.heap.get? b=some o->b∈(env::outer).filterMap (·.frame)->∃sl,h'.get? b=some {o with slots:=sl}) ->
   h'.get? e=some ⟨c,od,.fields l,sl⟩->Wt h' e l->(∀T,l[1]? = some (.ref T)->s.heap.objs.size<=T)->Q () {s with heap:=h'}):
  BL M A (GK (.ref e) env) Q E s:=by
 have n:=ht.lt;have w:∀(g h':B_) T m j,(∀b o,b≠e->vs[1]? ≠ some (.ref b)->s.heap.get? b=some o->g.get? b=some o)->g.objs.size=s.heap.objs.size->(∀b∈(env::outer).filterMap (·.frame),g.get? b=s.heap.get? b) ->
   (∀b o,b≠e->b∉(env::outer).filterMap (·.frame)->g.get? b=some o->h'.get? b=some o)->(∀b o,g.get? b=some o->b∈(env::outer).filterMap (·.frame)->∃sl,h'.get? b=some {o with slots:=sl}) ->
   h'.get? e=some ⟨c,od,.fields (vs.setIfInBounds 1 (.ref T)),sl⟩->g.objs.size<=T->T≠e->h'.get? T=some m->m.data=.fields j->3<j.size->Q () {s with heap:=h'}:=by
  intro g h' T m j k0 k1 k2 t h2 y h4 h5 h6 h7 h8;have hv:(vs.setIfInBounds 1 (.ref T))[1]? = some (.ref T):=by simp[n]
  refine h h' _ (λb o u r q3 q4=>t b o u q3 (k0 b o u r q4)) (λb o u r=>h2 b o ((k2 b r).trans u) r) y ⟨T,m,j,hv,h5,h6,h7,h8,cxs ht.2⟩ (λT' q=>?_);rw[hv]at q;cases q;rw[<-k1];exact h4
 unfold GK;simp only[H];rcases ht.1 with t | ⟨T,m,j,t,I,J,p,y⟩
 ·refine CK (CJ x rfl t ?_);rw[if_neg (by decide)];exact tE v F H x n λh' T m j a1 Z Y X U P O K=>w s.heap h' T m j (λ_ _ _ _ q=>q) rfl (λ_ _=>rfl) a1 Z Y X U P O K
 ·refine CK (CJ x rfl t ?_);rw[if_pos (show(Value.ref T != Value.none)=true from by simp)];refine CK (CJ J p y ?_);rw[if_neg (show ¬ ((Value.none == FW L)=true) from by simp[FW])];refine CK (DW J p (dZ.mp y).1 ?_);have other:∀b,b≠T->(s.heap.update T (Obj.mapFields (·.setIfInBounds 3 Value.none))).get? b=s.heap.get? b:=λb f=>SQ _ _ (Ne.symm f);have a:∀b o,s.heap.get? b=some o->(∀vs,o.data≠.fields vs)->b≠T:=λb o f i q=>by rw[q,J]at f;injection f with f;subst f;exact i j p
  have G:∀b∈(env::outer).filterMap (·.frame),b≠T:=λb f=>by have⟨_,o,ho,i⟩:=F.mem f;exact a b o ho i
  refine tE (s:={s with heap:=s.heap.update T (Obj.mapFields (·.setIfInBounds 3 Value.none))}) v (F.of_keeps λb o f i=>⟨o,(other b (a b o f i)).trans f,rfl⟩) H ((other e (Ne.symm I)).trans x) n
   λh' T' C B a1 Z Y X U P O K=>w _ h' T' C B (λb o u r q=>(other b (λz=>r (by rw[t,z]))).trans q) (nY _ _ _) (λb f=>other b (G b f)) a1 Z Y X U P O K
def kv9{x:A_}{Q:Unit->BK->Prop}(h:Q () s):BL M A (HR x) Q E s:=by unfold HR;exact CK (wpAny_stack λa _ _ _=>CK (GC (CK (HS (wpAny_point (GC h))))))
def wz0{r:Type}{f:String}{j:GZ}{c:A_}{Q:r->BK->Prop}(n:s.heap.get? e=some ⟨c,od,.fields vs,sl⟩)(ht:Wt s.heap e vs)
  (h:∀m,(∀b o,vs[1]? ≠ some (.ref b)->s.heap.get? b=some o->m.get? b=some o)->m.get? e=some ⟨c,od,.fields vs,sl⟩->Wt m e vs->E (.ref e) {s with heap:=m}):BL M A (passOn f (.ref e) j:Sem r) Q E s:=by
 obtain⟨T,B,y,l,i,t,a,u,p⟩:=ht;unfold passOn;refine CK (CJ n rfl l ?_);rw[if_neg (show ¬ ((Value.ref T == Value.none)=true) from by simp)];unfold J_;have other:∀v b,b≠T->(s.heap.update T (Obj.mapFields (·.setIfInBounds 3 v))).get? b=s.heap.get? b:=λv b x=>SQ _ _ (Ne.symm x);refine CK (CK (CJ n rfl l ?_));rw[if_pos (show(Value.ref T != Value.none)=true from by simp)];refine DW t a u (VG (h _ (λb o w q=>(other _ b (λz=>w (by rw[l,z]))).trans q) ((other _ e (Ne.symm i)).trans n) ⟨T,_,_,l,i,WT _ t (Obj.isFreed_of_fields (Obj.data_mapFields a _)),Obj.data_mapFields a _,?_,p⟩));simpa using u
def wk7{base:B_}{env:GZ}{outer:List GZ}{c:A_}{Q:Unit->BK->Prop}
  (O:A.frames=some (env::outer))(X:s.heap.FunFrames base (env::outer))(Y:env.frame=some L)(C:s.heap.get? e=some ⟨c,od,.fields vs,sl⟩)(ht:Wt s.heap e vs)
  (h:∀p m,(∀b o,b≠e->vs[1]? ≠ some (.ref b)->b∉(env::outer).filterMap (·.frame)->s.heap.get? b=some o->p.get? b=some o)->(∀b o,s.heap.get? b=some o->b∈(env::outer).filterMap (·.frame)->∃sl,p.get? b=some {o with slots:=sl}) ->
   p.get? e=some ⟨c,od,.fields m,sl⟩->Pj p e m->(∀T,m[1]? = some (.ref T)->s.heap.objs.size<=T\/vs[1]? = some (.ref T))->Q () {s with heap:=p}):
  BL M A (TV env (.ref e)) Q E s:=by
 have u:=ht.lt;obtain⟨T,oT,I,B,n,y,f,F,w⟩:=ht;have other:∀b,b≠T->(s.heap.update T (Obj.mapFields (·.setIfInBounds 3 Value.none))).get? b=s.heap.get? b:=λb j=>SQ _ _ (Ne.symm j);have a:∀b o,s.heap.get? b=some o->(∀vs,o.data≠.fields vs)->b≠T:=λb o j i q=>by rw[q,y]at j;injection j with j;subst j;exact i I f
 have v:∀b∈(env::outer).filterMap (·.frame),b≠T:=λb j=>by have⟨_,o,Z,i⟩:=X.mem j;exact a b o Z i
 unfold TV;refine CK ?_;unfold GK;simp only[Y];refine CK (CJ C rfl B ?_);rw[if_pos (show(Value.ref T != Value.none)=true from by simp)];refine CK (CJ y f (x:=I[3]) (iH F) ?_);by_cases U:(I[3] == FW L)=true
 ·rw[if_pos U];refine FZ ?_;unfold J_;refine CK (CJ C rfl B ?_);rw[if_pos (show(Value.ref T != Value.none)=true from by simp)];refine DW y f F (h _ vs (λb o r l P J=>(other b (λz=>l (by rw[B,z]))).trans J) (λb o r l=>⟨o.slots,(other b (v b l)).trans r⟩) ((other e (Ne.symm n)).trans C) ⟨.inr ⟨T,_,_,B,n,WT _ y (Obj.isFreed_of_fields (Obj.data_mapFields f _)),Obj.data_mapFields f _,?_⟩,w⟩ λG q=>.inr q);simp[F]
 ·rw[if_neg U];refine CK (DW y f F ?_);refine entryE (s:={s with heap:=s.heap.update T (Obj.mapFields (·.setIfInBounds 3 Value.none))}) O (X.of_keeps λb o j i=>⟨o,(other b (a b o j i)).trans j,rfl⟩) Y ((other e (Ne.symm n)).trans C) u
   λp G K H a1 a2 a3 a4 a5 a6 a7 a8=>?_
  have t:(vs.setIfInBounds 1 (.ref G))[1]? = some (.ref G):=by simp[u]
  refine h p _ (λb o r l P J=>a1 b o r P ((other b (λz=>l (by rw[B,z]))).trans J)) (λb o r l=>a2 b o ((other b (v b l)).trans r) l) a3 ⟨.inr ⟨G,K,H,t,a5,a6,a7,a8⟩,cxs w⟩ λaa q=>?_;rw[t]at q;cases q;exact .inl (by have:=a4;rwa [nY]at this)
end
end PySem
namespace L2
open PySem PySem.Spec PyProof.Rows
structure bD(Tr:B_->BJ->Array A_->Prop)(c:BJ)(P:BX)(w:CN)(outer:List GZ)(H:Hp)(s:BK)(a:BJ)(H':Hp)(s':BK):Prop where
 os:s'.os=s.os
 bare:JZ s'.gens
 un:Un (frs outer) [c] H H' s.heap s'.heap
 hok:HOk P w H' s'.heap
 new:s.heap.get? a=none
 obj:∃C od vs sl,H' a=some (.ext (PD.Em C a od))/\s'.heap.get? a=some ⟨.ref C,od,.fields vs,sl⟩/\Tr s'.heap a vs/\∀T,vs[1]? = some (.ref T)->s.heap.get? T=none/\H' T=none
variable {P:BX}{w:CN}{H H':Hp}{s s':BK}{a:BJ}
def O8.g{outer:List GZ}{c:BJ}(F:O8 P w outer H s a H' s'):bD Pj c P w outer H s a H' s':=
 ⟨F.os,F.bare,⟨λb o q n e _=>F.un.keep b o q n e (by simp),λb o q n e _=>F.un.slot b o q n e (by simp),λb o q n _=>F.un.free b o q n (by simp),λb o q _=>F.un.there b o q (by simp),F.un.tups,F.un.frzs,F.un.tbls⟩,F.hok,F.new,F.obj⟩
def kf5{base h h':B_}{l:List GZ}{c:BJ}(v:h.FunFrames base l)(B:∀b∈frs l,H b=none)(A:c∉frs l)(un:Un (frs l) [c] H H' h h'):h'.FunFrames base l:=by
 have all:∀(r:List GZ),(∀b∈frs r,b∈frs l)->h.FunFrames base r->h'.FunFrames base r:=by
  intro r;induction r with
  |nil=>intro _ _;trivial
  |cons env r q=>intro p i;revert i;refine aX λx f i=>?_;revert f;refine Wz λL o j u t y=>?_;have n:L∈frs l:=p L (by unfold frs;rw[VD,j];exact MF);have⟨C,e⟩:=un.slot L o t (B L n) n (λz=>A (NT.mp z ▸ n));exact⟨x,⟨L,_,j,u,e,y⟩,q (λb m=>p b (by unfold frs;rw[VD,j];exact KQ _ m)) i⟩
 exact all l (λ_ m=>m) v
section
variable {Tr Tr':B_->BJ->Array A_->Prop}{P:BX}{w:CN}{outer:List GZ}{H H':Hp}{s s':BK}{a c:BJ}{h':B_}
def bD.noted{C:BJ}{v:Option BJ}{vs i:Array A_}{p:Array (Option A_)}(F:bD Tr c P w outer H s a H' s')(G:H' a=some (.ext (PD.Em C a v)))(Q:∀T,vs[1]? = some (.ref T)->s.heap.get? T=none/\H' T=none)
  (B:∀b∈frs outer,H b=none)(A:∀b∈frs outer,∃o,s.heap.get? b=some o)(Y:H' c=none)(E:c∉frs outer)
  (k1:∀b o,b≠a->b≠c->vs[1]? ≠ some (.ref b)->b∉frs outer->s'.heap.get? b=some o->h'.get? b=some o)(k2:∀b o,s'.heap.get? b=some o->b∈frs outer->∃p,h'.get? b=some {o with slots:=p})
  (k3:h'.get? a=some ⟨.ref C,v,.fields i,p⟩)(M:Tr' h' a i)(k5:∀T,i[1]? = some (.ref T)->(s.heap.get? T=none/\H' T=none))(y:∀h a vs,Tr' h a vs->vs[2]? = some Value.none:=by first |exact λ_ _ _ z=>z.2 |exact λ_ _ _ ⟨_,_,_,_,_,_,_,_,z⟩=>z):bD Tr' c P w outer H s a H' {s' with heap:=h'}:=by
 have new:∀b o,s.heap.get? b=some o->b≠a:=λb o q z=>by rw[z,F.new]at q;cases q
 have noT:∀b o,s.heap.get? b=some o->vs[1]? ≠ some (.ref b):=λb o q z=>by rw[(Q b z).1]at q;cases q
 have x:∀b∈frs outer,b∉[c]:=λb f z=>E (NT.mp z ▸ f);have L:∀{b:BJ},b∉[c]->b≠c:=λh z=>h (NT.mpr z);have I:∀b∈frs outer,H' b=none:=λb f=>by have⟨o,q⟩:=A b f;exact F.un.free b o q (B b f) (x b f)
 refine⟨F.os,F.bare,⟨λb o q n f j=>k1 b o (new b o q) (L j) (noT b o q) f (F.un.keep b o q n f j),λb o q n f j=>?_,λb o q n j=>F.un.free b o q n j,λb o q j=>?_,F.un.tups,F.un.frzs,F.un.tbls⟩,λd u q=>?_,F.new,C,v,i,p,G,k3,M,k5⟩
 ·have⟨X,t⟩:=F.un.slot b o q n f j;have⟨m,J⟩:=k2 b _ t f;exact⟨m,J⟩
 ·have⟨K,t⟩:=F.un.there b o q j;by_cases f:b∈frs outer
  ·have⟨m,J⟩:=k2 b _ t f;exact⟨_,J⟩
  ·exact⟨K,k1 b K (new b o q) (L j) (noT b o q) f t⟩
 ·have O:=F.hok d u q;by_cases r:d=a
  ·subst r;rw[G]at q;cases q;revert O;refine aX λ_ _ U=>?_;exact⟨⟨i,p,k3,y _ _ _ M⟩,⟨_,k3⟩,U⟩
  ·refine O.stay (λb o f e=>?_) (λ_ z=>z) λ_ _ z=>z;have l:H' b≠none/\b≠a:=by
    rcases f with rfl |f
    ·exact⟨by rw[q];simp,r⟩
    ·exact⟨by rw[f];simp,λz=>by rw[z,G]at f;cases f⟩
   exact k1 b o l.2 (λz=>l.1 (z ▸ Y)) (λz=>l.1 (Q b z).2) (λz=>l.1 (I b z)) e
end
def wz2{K:BW}{mg:BP->Option A_}{base:B_}{N:List BP}{qual:BP}{h:GX}{f:BJ}{p:A_}{A:C_}{outer:List GZ}{i:BK}{H0:Hp}{E:XK}{v:List (BJ×GD)}{σ:PD.St}{c:BJ}
  (I:Inv (Ls (CXE P w) P w K mg base N qual h f p A outer i H0 E) v σ H s)(X:i.heap.objs.size<=c)(Y:c<s'.heap.objs.size)(hc:H' c=none)(x:c∉frs (envOfC qual h i.heap.objs.size f p::outer))(F:bD Wt c P w (envOfC qual h i.heap.objs.size f p::outer) H s a H' s')(q:E (.ref a) none H'):
  (Ls (CXE P w) P w K mg base N qual h f p A outer i H0 E).xe (.ref a) s':=by
 refine XS (λC od vs sl hH ho ht hT=>?_) (F.obj);have Q:∀b∈frs (envOfC qual h i.heap.objs.size f p::outer),∃o,s.heap.get? b=some o:=λb m=>let ⟨_,o,e,_⟩:=I.stack.mem m; ⟨o,e⟩;have U:∀b∈frs (envOfC qual h i.heap.objs.size f p::outer),H b=none:=I.stkFree;show BL _ _ _ _ _ _;refine wk7 (env:=envOfC qual h i.heap.objs.size f p) (outer:=outer) (base:=base) (L:=i.heap.objs.size) I.ok.frames (kf5 I.stack I.stkFree x F.un) rfl ho ht λh' aa k1 k2 k3 k4 k5=>?_;have G:=F.noted (Tr':=Pj) (h':=h') hH hT U Q hc x (λb o n1 _=>k1 b o n1) k2 k3 k4 λT z=>?_
 ·have l:Un (frs outer) [] H0 H i.heap s.heap:=I.base;have r:∀b o,i.heap.get? b=some o->b∉[c]:=λb o q z=>by rw[NT.mp z]at q;exact absurd (HD q) (gR.mpr X)
  have M:∀b o,i.heap.get? b=some o->b∉frs outer->b∉frs (envOfC qual h i.heap.objs.size f p::outer):=λb o q m z=>by
   have O:b=i.heap.objs.size\/b∈frs outer:=by unfold frs at z;rw[VD,show(envOfC qual h i.heap.objs.size f p).frame=some i.heap.objs.size from rfl]at z;exact I_.mp z
   rcases O with rfl |O
   ·exact absurd (HD q) (QL _)
   ·exact m O
  have sub:∀b∈frs outer,b∈frs (envOfC qual h i.heap.objs.size f p::outer):=λb m=>by unfold frs;rw[VD,show(envOfC qual h i.heap.objs.size f p).frame=some i.heap.objs.size from rfl];exact KQ _ m
  refine⟨a,H',rfl,⟨G.os.trans I.os,G.bare,⟨λb o q n m _=>?_,λb o q n m _=>?_,λb o q n _=>?_,λb o q _=>?_,λb xs q=>G.un.tups b xs (l.tups b xs q),λb o u q=>G.un.frzs b o u (l.frzs b o u q),λb ps q=>?_⟩,G.hok,?_,?_⟩,q⟩
  ·exact G.un.keep b o (l.keep b o q n m (by simp)) (l.free b o q n (by simp)) (M b o q m) (r b o q)
  ·have⟨ab,j⟩:=l.slot b o q n m (by simp);have⟨J,Z⟩:=G.un.slot b _ j (l.free b o q n (by simp)) (sub b m) (r b o q);exact⟨J,Z⟩
  ·have⟨t,j⟩:=l.there b o q (by simp);exact G.un.free b t j (l.free b o q n (by simp)) (r b o q)
  ·have⟨t,j⟩:=l.there b o q (by simp);exact G.un.there b t j (r b o q)
  ·have⟨m1,j⟩:=l.tbls b ps q;have⟨m2,Z⟩:=G.un.tbls b _ j;exact⟨m1++m2,by rw[Z,dU]⟩
  ·cases z:i.heap.get? a with
   |none=>rfl
   |some o=>have⟨t,j⟩:=l.there a o z (by simp);rw[F.new]at j;cases j
  ·refine XS (λC od vs sl g1 g2 g3 g4=>?_) (G.obj);refine⟨C,od,vs,sl,g1,g2,g3,λT z=>⟨?_,(g4 T z).2⟩⟩;cases y:i.heap.get? T with
   |none=>rfl
   |some o=>have⟨t,j⟩:=l.there T o y (by simp);rw[(g4 T z).1]at j;cases j
 ·rcases k5 T z with z |z
  ·refine⟨?_,F.hok.fresh z⟩;cases y:s.heap.get? T with
   |none=>rfl
   |some o =>
    by_cases B:T=c
    ·exact absurd (NZ (B ▸ Y) z) (QL _)
    ·have⟨t,j⟩:=F.un.there T o y (λz=>B (NT.mp z));exact absurd (NZ (HD j) z) (QL _)
  ·exact hT T z
end L2
namespace PD
open PySem PySem.Spec PyProof.Rows L2
def k_(X:Cx)(c:DC):Prop:=∀(b:List (BJ×GD))(f:St)(H H':Hp)(s e:BK)(a q:BJ),Inv X b f H s->X.s₀.heap.objs.size<=q->q<e.heap.objs.size->H' q=none->q∉frs X.stack->bD Wt q X.prog X.w X.stack H s a H' e->pQ c (.ref a) none H'->X.xe (.ref a) e
variable {acc:A_}
section
variable {prog:BX}{w:CN}{A:C_}{R:UL->BK->Prop}{s:BK}
def z_(M:JV)(A:C_)(elt:BZ)(acc:A_)(env:GZ)(I:Nat->BK->Prop)(XE:A_->BK->Prop)(n:Nat)(_:Unit)(s:BK):Prop:=
 BL M A (CP elt env) (λx b=>BL M A (call (.builtin "list.append") [acc,x]) (λ_ a=>∃m,m<n/\I m a) cNo b) XE s
def Y5{elt target iter:BZ}{b:GX}{pos:GP}{it:A_}{env:GZ}(I:Nat->BK->Prop)(XE:A_->BK->Prop)
  (t:∀e s,XE e s->BL (BV prog w) A (do GK e env;HR e) (λ_ i=>R (.error e) i) (λe i=>R (.error e) i) s)
  (turn:∀n s,I n s->BL (BV prog w) A (LC it) (ct0 (BV prog w) A target it env (R (.ok .next)) (z_ (BV prog w) A elt acc env I XE n)) cNo s)
  (n:Nat)(h:I n s):
  JD (BV prog w) A (.compLoop (.ListComp elt [⟨target,iter,[],0⟩] b pos) 0 it acc env) R s:=by
 refine codeAny_loop rfl I (λn s u=>?_) n h;show BL _ A ((compTurn (.ListComp elt [⟨target,iter,[],0⟩] b pos) 0 it acc env).onRaise (λx=>do GK x env;HR x)) _ _ s;refine KZ ?_;rw[compTurn_list];refine CK (GC (CK (thc (turn n s u) λr f a=>?_)));cases r with
 |none=>exact FZ a
 |some v=>refine CK (thc a λ_ f a=>CK (thc a λ_ q m=>CK ?_));rw[dD];exact FZ (CK (CK (DP m (λx p l=>CK (thc l λ_ o j=>FZ (FZ ⟨rfl,j⟩))) λe i z=>t e i z)))
end
variable {X:Cx}{pins:List (BJ×GD)}{σ:St}{H:Hp}{s:BK}
def Inv.nopin(I:Inv X pins σ H s):Inv X [] σ H s:=I.pins_of λp a=>absurd a (by simp)
def XeB(X:Cx)(N:List BP)(b:GX)(C:BJ)(s:BK)(H:Hp)(ex:List BJ)(Ex:D->V->Hp->Prop):A_->BK->Prop:=λe i =>
 ∃(pins:List (BJ×GD))(σ:St)(h H':Hp)(f:BK)(a:BJ)(d:D)(v:V),e=.ref a/\Inv (cxB X N b C s H ex) pins σ h f/\O8 X.prog X.w X.stack h f a H' i/\RelV v e/\Ex d v H'
abbrev cxX(X:Cx)(N:List BP)(a:GX)(C:BJ)(s:BK)(H:Hp)(ex:List BJ)(Ex:D->V->Hp->Prop):Cx:=(cxB X N a C s H ex).wish (XeB X N a C s H ex Ex)
variable {Ex:D->V->Hp->Prop}{H0:Hp}{S0:AS}{Z:List BJ}
def wz3{N:List BP}{b:GX}{C:BJ}{ex:List BJ}:Ma (cxX X N b C s H ex Ex) ⟨H0,S0,[],Ex,Z⟩:=by intro pins σ l f e n I i;obtain⟨a,m,rfl,F,d,v,h,j⟩:=i;exact⟨pins,σ,l,m,f,a,d,v,rfl,I.unwish,F,h,j⟩
variable {fp:List BJ}
def wb3{c:DC}{N:List BP}{f:GX}{use:Option (A_->Sem Unit)}{Q':A_->BK->Prop}{e:A_}{x:BK}
  (hp:k_ X c)(p:X.stack=X.env::X.outer/\X.env.frame=some X.env.locals)(I:Inv X pins σ H s)(f3:∀b∈fp,Lz X pins H b)(ag:∀d v K,Ex d v K->c.Ex d v K)(h:XeB X N f s.heap.objs.size s H fp Ex e x):
  BL (BV X.prog X.w) X.A (do GK e (b8 f s.heap.objs.size X.env);HR e) (λ_ x=>RK (BV X.prog X.w) X.A X.xe use Q' acc s.heap.objs.size (.error e) x) (λe x=>RK (BV X.prog X.w) X.A X.xe use Q' acc s.heap.objs.size (.error e) x) x:=by
 obtain⟨aa,aj,H1,K,u,a,d,v,rfl,J,F,rv,ex⟩:=h;have L:Inv X pins σ H1 u:=O1 I rfl f3 (Inv.nopin J) u.heap ⟨rfl,λ_ _=>rfl⟩;obtain⟨m,hn,_⟩:=J.loc;obtain⟨oC,U,ep,i,ae⟩:∃o U ep,u.heap.get? s.heap.objs.size=some o/\o.data=.dict U ep/\StrKeys U/\∀name,nsFind U name=m name:=hn;have O:∀b∈frs X.stack,H1 b=none:=L.stkFree;have B:∀b∈frs X.stack,∃o,u.heap.get? b=some o:=λb hb=>let ⟨_,o,e,_⟩:=L.stack.mem hb; ⟨o,e⟩;have j:s.heap.objs.size∉frs X.stack:=λz=>let ⟨_,o,e,_⟩:=I.stack.mem z;absurd (HD e) (QL _);have Q:H1 s.heap.objs.size=none:=J.free;have E:K s.heap.objs.size=none:=F.un.free _ _ i Q (by simp);have l:=F.un.keep _ _ i Q j (by simp);have P:s.heap.objs.size≠a:=λz=>by rw[z,F.new]at i;cases i
 refine XS (λC od vs sl hH ho ht hT=>?_) (F.obj);have ah:vs[1]? ≠ some (.ref s.heap.objs.size):=λz=>by rw[(hT _ z).1]at i;cases i
 rw[Zy (env:=X.env) (env':=b8 f s.heap.objs.size X.env) rfl];refine CK (ww9 (base:=X.base) (outer:=X.outer) (by rw[L.ok.frames,p.1]) (by rw[<-p.1];exact Zk L.stack L.stkFree F.un) p.2 ho ht λh2 t k1 k2 k3 k4 k5=>kv9 ?_);rw[show(X.env::X.outer).filterMap (·.frame)=frs X.stack by rw[p.1];rfl]at k1 k2;have M:h2.get? s.heap.objs.size=some oC:=k1 _ _ P ah j l;have n:∀T,t[1]? = some (.ref T)->u.heap.get? T=none/\K T=none:=λT z=>⟨by
  cases y:u.heap.get? T with
  |none=>rfl
  |some o =>
   have⟨o',e1⟩:=F.un.there T o y (by simp);exact absurd (NZ (HD e1) (k5 T z)) (QL _),F.hok.fresh (k5 T z)⟩
 have G:=(F.g (c:=s.heap.objs.size)).noted (Tr':=Wt) (h':=h2) hH hT O B E j (λb o n1 _=>k1 b o n1) k2 k3 k4 n;refine⟨m,⟨oC,U,ep,M,ae⟩,λh3 r ai _=>?_⟩;have ab:h3.get? a=some ⟨.ref C,od,.fields t,sl⟩:=(r.2 a (Ne.symm P)).trans k3;obtain⟨T,oT,ts,Y,t2,t3,t4,t5⟩:=k4;have af:T≠s.heap.objs.size:=λz=>by have:=k5 T Y;rw[z]at this;exact absurd (NZ (HD l) this) (QL _)
 refine wz0 (s:={x with heap:=h3}) ab ⟨T,oT,ts,Y,t2,(r.2 T af).trans t3,t4,t5⟩ λh4 j1 j2 j3=>?_;have G2:=G.noted (Tr':=Wt) (h':=h4) (vs:=t) hH n O B E j (λb o n1 n2 n3 n4 q=>j1 b o n3 ((r.2 b n2).trans q)) (λb o q hb=>⟨o.slots,j1 b o (λz=>by have⟨o',e'⟩:=B b hb;rw[(n b z).1]at e';cases e') ((r.2 b (λz=>j (z ▸ hb))).trans q)⟩) j2 j3 n;refine hp pins σ H1 K u _ a s.heap.objs.size L I.sz ?_ E j G2 ⟨d,v,rv,ag d v K ex⟩;obtain⟨T',ao,ak,u1,_,u3,_⟩:=j3;rw[Y]at u1;cases u1;exact cZ (NZ (HD l) (k5 T Y)) (HD u3)
def Al.ex{K:BW}{hs:List Hd}{ρ:Ev}{a:D->V->Hp->Prop}{O:List Nat}(E:Al K ⟨H0,S0,O,Ex,Z⟩ hs ρ σ H):Al K ⟨H0,S0,O,a,Z⟩ hs ρ σ H:=
 ⟨E.same,E.len,E.own,E.apart,E.oth,E.held,E.excl⟩
section
variable {X:Cx}{c:DC}{l:Lv}{tg h t:BZ}{scope:GX}{pos:GP}{T:List BP}{caps:List Nat}{n:Ev->R (List D)}{g:D->Ev->R Ev}{f:Ev->R D}
inductive CIX(Y:Cx)(c':DC)(P:Hd)(tn:Nat->B_->Prop)(fp:List BJ)(a:BJ)(ρ₀:Ev)(ds:List D)(RES:R (List D))(L:List D->R (List D))(k:Nat)(s:BK):Prop
 |mk (i:Nat) (σ:St) (H:Hp) (acc:List D) (vs:List V) (I:Inv Y [] σ H s) (st:tn i s.heap) (fr:∀b∈fp,H b=none) (hk:k=ds.length - i) (hi:i<=ds.length) (E:Al Y.K c' [P] ρ₀ σ H)
   (hv:H a=some (.lst vs))(r:Ak Y.K H c'.S acc vs)(ha:acc.length<=i)(ec:((L (ds.drop i)).bind λys=>.ok (acc++ys))=RES):CIX Y c' P tn fp a ρ₀ ds RES L k s
theorem jk4{Y:Cx}{XE:A_->BK->Prop}{P:Hd}{tn:Nat->B_->Prop}{J:It}{it a:BJ}{m:Ev}{G:St}{C:Hp}{ds:List D}{RES:R (List D)}{Rn:UL->BK->Prop}(hx:Y.xe=cNo)(hc:Y.calm=true)
  (hg:PGd Y ⟨H0,S0,[],Dt,Z⟩ tg g)(he:PEd (Y.wish XE) ⟨H0,S0,[],Ex,Z⟩ .any t f)(bg:∀d ag,g d m=.ok ag->ag.length=m.length/\∀(i:Nat) d',m[i]? = some (some d')->ag[i]? = m[i]?)(bf:∀d ρ x,g d ρ≠.exc x)
  (M:∀{H':Hp}{ak:St}{az:BK},Inv Y [] ak H' az->(∀b∈fp,H' b=none)->∀b∈fp,Lz Y [] H' b)
  (h0:H0 a=none)(hn:¬ DC.S ⟨H0,S0,[],Dt,Z⟩ (some a))
  (Tn:Turn Y.prog Y.w Y.K tg J fp it tn)(TD:ItD Y.K J ds P)(er:Dl g yes f m ds=RES)(ar:RES≠.bad)(hz:ds.length<=16777216)
  (bo:∀d,RES=.exc d->∀v H',Ab H0 H'->Rep Y.K H' (DC.S ⟨H0,S0,[],Dt,Z⟩) d v->Ex d v H')
  (bj:∀e s,XE e s->BL (BV Y.prog Y.w) Y.A (do GK e Y.env;HR e) (λ_ s'=>Rn (.error e) s') (λe s'=>Rn (.error e) s') s)
  (bq:∀s H σ vs xs,RES=.ok xs->Inv Y [] σ H s->Al Y.K ⟨H0,S0,[],Dt,Z⟩ [P] m σ H->H a=some (.lst vs)->Ak Y.K H (DC.S ⟨H0,S0,[],Dt,Z⟩) xs vs->Rn (.ok .next) s)
  (E0:Al Y.K ⟨H0,S0,[],Dt,Z⟩ [P] m G C)(ha:C a=some (.lst []))(f0:∀b∈fp,C b=none){s4:BK}(J4:Inv Y [] G C s4)(ay:tn 0 s4.heap):
  JD (BV Y.prog Y.w) Y.A (.compLoop (.ListComp t [⟨tg,h,[],0⟩] scope pos) 0 (.ref it) (.ref a) Y.env) Rn s4:=by
 refine Y5 (CIX Y ⟨H0,S0,[],Dt,Z⟩ P tn fp a m ds RES (Dl g yes f m)) XE bj ?_ ds.length
  (.mk 0 _ _ [] [] J4 ay f0 rfl (WQ _) E0 ha Ak.nil (H_ _) (by rw[List.drop_zero,er];cases RES<;>rfl))
 intro n s5 q;refine nn λhG=>?_;obtain⟨i,af,H5,acc,vs,I5,ao,au,hk,bw,E5,aq,r5,bh,B⟩:=q;have p5:=(E5.held P MF).2;by_cases ae:i<ds.length
 ·rw[iI ae,Dl]at B;cases eg:g ds[i] m with
  |exc x=>exact absurd eg (bf _ _ _)
  |bad=>rw[eg]at B;exact absurd B.symm ar
  |ok L =>
  rw[eg]at B;simp only[R.ok_bind,yes,if_true]at B;have keep:=bg _ _ eg;have forget:∀{I:St}{H':Hp},Al Y.K ⟨H0,S0,[],Dt,Z⟩ [P] L I H'->Al Y.K ⟨H0,S0,[],Dt,Z⟩ [P] m I H':=λE'=>E'.forget rfl keep.1.symm λj d hd=>(keep.2 j d hd).trans hd;refine hG (thx (E:=cNo) rfl (Tn.item Y rfl rfl rfl hc i [] s5 af H5 cNo I5 (M I5 au) ao (TD.go i H5 _ ae p5)) λr s6 q=>?_);clear hG;revert q;refine An λu hr h6=>?_;subst hr;refine thn h6 λ_ s7 q=>?_;refine nn λhG=>?_;revert q;refine pI λx H7 I7 r7 y7 ah bp=>?_;have⟨ai,U⟩:=TD.yld i H5 _ x H7 p5 y7;have U:=U ds[i] (MJ ae);have br:=I7.pinned (M I7 bp) (Tn.obj _ _ ah);have aj:∀{I:St}{H':Hp}{s':BK},Inv Y ([]++Rz fp s7.heap) I H' s'->tn (i+1) s'.heap/\∀b∈fp,H' b=none:=λ{I H' s'} J=>by refine⟨Tn.keep _ _ _ ah λb hb o e=>(J.pin (b,o) (RZ _ (RZ _ (Gm hb e)))).1,λb hb=>?_⟩;refine An (λo e _=>?_) (Tn.obj _ _ ah b hb);exact(J.pin (b,o) (RZ _ (RZ _ (Gm hb e)))).2.1
  refine hG (thx hx (hg _ s7 af H7 x u (λF H8=>H8=H7/\Al Y.K ⟨H0,S0,[],Dt,Z⟩ [P] L F H8) br r7 ⟨[P],m,ds[i],E5.mono ai,U,by rw[eg];exact λF E8=>⟨rfl,E8⟩⟩) λ_ s8 q=>?_);clear hG;revert q;refine Bh λF H8 I8 bb E8=>?_;obtain rfl:=bb;have bc:=ai _ _ aq;have r9:=r5.mono ai λ_ z=>z;refine DP (he _ s8 F H8 (λy p=>Ab H8 p/\∃dy,f L=.ok dy/\Rep Y.K p (DC.S ⟨H0,S0,[],Dt,Z⟩) dy y) (I8.wish XE) ⟨[P],L,E8.ex,?_⟩) (λw Q q=>?_) λ_ _ z=>z
  ·cases ef:f L with
   |ok dy=>exact λy p Q aa=>⟨Q,dy,rfl,aa⟩
   |exc dE=>rw[ef]at B;exact λv H' Q aa=>bo dE B.symm v H' (E8.same.trans Q) aa
   |bad=>rw[ef]at B;exact absurd B.symm ar
  refine nn λhG=>?_;obtain⟨y,p,ax,aa,O,dy,ef,ry⟩:=q;have bt:=ax.unwish;rw[ef]at B;have ab:p a=some (.lst vs):=O _ _ bc;have hl:=r9.length;refine hG (thx hx (Ry _ Q F p (.ref a) [y] (.ref a) [w] (λ_ H'=>H'=upd p a (.lst (vs++[y]))) bt rfl (.cons aa .nil) ⟨a,vs,y,rfl,rfl,ab,by rw[CT];lia,rfl⟩) λ_ bu q=>?_);clear hG;revert q;refine Bh λ_ _ aw _ ba=>?_;obtain rfl:=ba;have⟨q1,q2⟩:=aj aw;refine⟨ds.length - (i+1),hk ▸ oA _ _ ae,.mk (i+1) F _ (acc++[dy]) (vs++[y]) aw.unpinned q1 q2 rfl ae (forget ((E8.mono O).wrZ rfl h0 hn ab)) Af (((r9.mono O λ_ z=>z).append (.cons ry Ak.nil)).wr ab hn) (by rw[PQ];exact Nat.succ_le_succ bh) ?_⟩;rw[<-B];simp only[R.ok_bind];cases Dl g yes f m (List.drop (i+1) ds) with
  |ok ys=>simp only[R.ok_bind,xF,List.singleton_append]
  |exc x=>rfl
  |bad=>rfl
 ·have e:ds.drop i=[]:=dX (by lia);rw[e,Dl]at B;simp only[R.ok_bind,SM]at B;refine hG (thx (E:=cNo) rfl (Tn.done Y rfl rfl rfl hc i [] s5 af H5 cNo I5 (M I5 au) ao (TD.stop i H5 _ (by lia) p5)) λr s6 q=>?_);obtain⟨rfl,I6⟩:=q;exact bq s6 H5 af vs acc B.symm I6 E5 aq r5
def Y6(it:Ev->R (List D))(n:Nat)(caps:List Nat)(g:D->Ev->R Ev)(f:Ev->R D):Ev->R D:=λa=>(it a).bind λb=>if b.length<=16777216 then(Dl g yes f (Lr n caps a) b).bind λe=>.ok (.lst e) else .bad
theorem wt0(hp:k_ X c)(ar:X.stack=X.env::X.outer/\X.env.frame=some X.env.locals)(aw:Mh scope X.env.scope X.N caps=true)(hc:X.calm=true)(hi:PId X c l tg h n)
  (hg:∀(C:BJ)(s:BK)(H:Hp)(ex:List BJ)(H0:Hp)(S0:AS)(Z:List BJ),PGd (cxB X (En X T caps) scope C s H ex) ⟨H0,S0,[],Dt,Z⟩ tg g)
  (he:∀(C:BJ)(s:BK)(H:Hp)(ex:List BJ)(H0:Hp)(S0:AS)(Z:List BJ)(Ex:D->V->Hp->Prop),Ma (cxX X (En X T caps) scope C s H ex Ex) ⟨H0,S0,[],Ex,Z⟩->PEd (cxX X (En X T caps) scope C s H ex Ex) ⟨H0,S0,[],Ex,Z⟩ .any t f)
  (aj:∀d u F,g d u=.ok F->F.length=u.length/\∀i,T.length<=i->F[i]? = u[i]?)(au:∀d u x,g d u≠.exc x:=by first |exact lY _ |exact lZ _)(ak:Qa c.O l caps=true:=by rfl)(hs:∀x,DY h X.env x=pure x:=by intro _;rfl):
  PEd X c l (.ListComp t [⟨tg,h,[],0⟩] scope pos) (Y6 n T.length caps g f):=λpins s σ H Q I q=>by
 obtain⟨ah,u,E,q⟩:=q;have B:Hk X scope T caps:=.of aw;rw[eval_ListComp];show BL (BV X.prog X.w) X.A (PX (.ListComp t [⟨tg,h,[],0⟩] scope pos) scope X.env (UG [⟨tg,h,[],0⟩] pos) (Y_ []) false (CP h X.env) none) (EP X pins σ Q) X.xe s;have q:=RQ.bind.mp q;refine IV (cl:=Ua scope X.env) rfl hs (B.clo I) B.kind B.names ?_;cases U:n u with
 |exc x=>rw[U]at q;refine thn (hi pins s σ H (λ_ _=>False) I ⟨ah,u,E,by rw[U];exact q⟩) λv s1 h1=>thn h1 λao y h2=>?_;refine nn λhG=>?_;clear hG;revert h2;refine jQ λ_ _ _ _ _ _ _ _ _ _ z=>?_;exact z.elim
 |bad=>rw[U]at q;exact q.elim
 |ok ds =>
 rw[U]at q;by_cases hz:ds.length<=16777216
 case neg=>have q:RQ (if ds.length<=16777216 then _ else R.bad) _ _:=q;rw[if_neg hz]at q;exact q.elim
 have q:RQ (if ds.length<=16777216 then(Dl g yes f (Lr T.length caps u) ds).bind λxs=>R.ok (D.lst xs) else R.bad) _ _:=q;rw[if_pos hz]at q;have hR:=hi pins s σ H (λJ G=>∃P,Ab H G/\ItD X.K J ds P/\P G (lvS c u σ H l)) I ⟨ah,u,E,by rw[U];exact λJ P H' s1 T1 p1=>⟨P,s1,T1,p1⟩⟩;refine thn hR λv s1 h1=>thn h1 λao y h2=>?_;refine nn λhG=>?_;obtain⟨it,fp,tn,J,G,rfl,I2,Tn,af,f2,P,sm,TD,p2⟩:=h2;refine hG (CV ?_);clear hG;have M:G y.heap.objs.size=none:=I2.fresh;have I3:=I2.lnew (t':=y.toks) (ys:=[]) (its:=[]) .nil (WQ _);generalize hD:y.heap.objs.size=a at M I3;refine uD ?_;have ab:∀b∈fp,b<y.heap.objs.size:=λb r=>by have⟨o,e,_⟩:=Tn.obj 0 _ af b r;exact HD e
 have f3:∀b∈fp,Lz X pins (upd G a (.lst [])) b:=λb r=>by have⟨z0,z⟩:=f2 b r;refine⟨?_,z⟩;rw[Ac (by rw[<-hD];exact NK (ab b r))];exact z0
 have ae:Ab G (upd G a (.lst [])):=Ao M _;have Ha:H a=none:=sm.free M;have ai:∀b∈fp,b<(y.heap.push {cls:=.type "list",data:=.seq ([]:List A_).toArray}).objs.size:=λb r=>by rw[RW];exact ZW (ab b r)
 have J0:=X7 B I3 f3 ai;let c':DC:=⟨G,AS.but (lvS c u σ H l) a,[],Dt,[a]⟩;have ag:¬ c'.S (some a):=by
  rintro(z | ⟨b,e,_,r⟩)
  ·exact z.2 rfl
  ·cases e;exact r (NT.mpr rfl)
 have E0:Al X.K c' [P] (Lr T.length caps u) (Mi T caps σ) (upd G a (.lst [])):=by
  have sub:∀o,AS.but (lvS c u σ H l) a o->c'.N (Lr T.length caps u) (Mi T caps σ) o:=λo z=>⟨.inl z,λb _ ⟨j,hj,_⟩=>by cases hj⟩;refine⟨ae,by rw[wH,wF],(λi d hi=>by cases hi),(λi j a hi=>by cases hi),λi d hi hd=>?_,λP' ax=>?_,λb r=>?_⟩
  ·have⟨hn,j,ej,ed⟩:=Py hd;have⟨v,ev,rv⟩:=u_ E ak (ZZ ej) ed;exact⟨v,wG hn ej ev,(rv.avoid Ha).mono (sm.trans ae) sub⟩
  ·have:P'=P:=by simpa using ax
   subst this;exact⟨TD.stab,TD.stab.mono ae sub (TD.stab.avoid M p2)⟩
  ·have:b=a:=NT.mp r;subst this;rw[Af];intro z;cases z
 have aa:∀o,c'.S o->AS.but (lvS c u σ H l) a o:=λo z=>by
  rcases z with z | ⟨b,rfl,r,hz⟩
  ·exact z
  ·refine⟨Kh E ⟨b,rfl,sm.free r⟩,λe=>?_⟩;cases e;exact hz (NT.mpr rfl)
 have L:tn 0 (LR ((y.heap.push {cls:=.type "list",data:=.seq ([]:List A_).toArray}).push {cls:=.type "dict",data:=.dict #[] }) scope.names):=Tn.keep _ _ _ af λb r o e=>JQ _ _ b o (JK _ (JK _ e));have loop:∀s4,Inv (cxB X (En X T caps) scope (y.heap.push {cls:=.type "list",data:=.seq ([]:List A_).toArray}).objs.size {y with heap:=y.heap.push {cls:=.type "list",data:=.seq ([]:List A_).toArray} } (upd G a (.lst [])) fp) [] (Mi T caps σ) (upd G a (.lst [])) s4->tn 0 s4.heap->JD (BV X.prog X.w) X.A (.compLoop (.ListComp t [⟨tg,h,[],0⟩] scope pos) 0 (.ref it) (.ref a) (b8 scope (y.heap.push {cls:=.type "list",data:=.seq ([]:List A_).toArray}).objs.size X.env)) (RK (BV X.prog X.w) X.A X.xe none (EP X pins σ Q) (.ref a) (y.heap.push {cls:=.type "list",data:=.seq ([]:List A_).toArray}).objs.size) s4:=by
  intro s4 J0 L;refine jk4 (Y:=cxB X (En X T caps) scope (y.heap.push {cls:=.type "list",data:=.seq ([]:List A_).toArray}).objs.size {y with heap:=y.heap.push {cls:=.type "list",data:=.seq ([]:List A_).toArray} } (upd G a (.lst [])) fp) (H0:=G) (S0:=AS.but (lvS c u σ H l) a) (Z:=[a]) (Ex:=c.Ex) (XE:=_) (RES:=Dl g yes f (Lr T.length caps u) ds) rfl hc (hg _ _ _ _ _ _ _) (he _ _ _ _ _ _ _ c.Ex wz3) (λd F e=>⟨(aj d _ F e).1,λj d' hd=>(aj d _ F e).2 j (Py hd).1⟩) au (λJ hn b r=>?_) M ag Tn TD rfl (λz=>?_) hz (λd ed v H' s5 r5=>?_) (λe s z=>wb3 (X:=X) (c:=c) (N:=En X T caps) hp ar I3 f3 (λ_ _ _ z=>z) z) (λs6 H5 az vs xs ay I6 E5 aq r5=>?_) E0 Af (λb r=>(f3 b r).1) J0 L
  ·exact⟨hn b r,(J.ok.exf b r).1,J.ok.exfs b r,.inl r,(J.ok.exf b r).2,λp hp=>absurd (show p∈([]:List (BJ×GD)) from hp) (by simp)⟩
  ·rw[z]at q;exact q
  ·rw[ed]at q;exact q v H' (sm.trans s5) (r5.mono (Ab.refl _) λo z=>Jv E (by cases l<;>rfl) (aa o z).1)
  ·rw[ay]at q;obtain⟨m,hn,_⟩:=I6.loc;exact⟨m,hn,λh' r=>⟨.ref a,H5,O1 I3 rfl f3 I6 h' r,rfl,q (.ref a) H5 (sm.trans E5.same) ⟨a,vs,rfl,.inl ⟨aq,Kh E ⟨a,rfl,Ha⟩⟩,r5.mono (Ab.refl _) λo z=>(aa o z).1⟩⟩⟩
 exact UJ (loop _ J0 L) (Tn.self _ 0 _ _ _ L (loop _ J0 L))
end
end PD
namespace L2
open PySem PySem.Spec PyProof.Rows
def Its(x:BP):It:=⟨λi _=>i<x.cps.size,λi H v a=>a=H/\∃k,x.cps[i]? = some k/\v=.str ⟨#[k]⟩,λi _=>x.cps.size<=i⟩
variable {tg:BZ}
def kp1{P:BX}{w:CN}{K:BW}(it:BJ)(x:BP)(t:Tok):Turn P w K tg (Its x) [it] it (λi h=>h.IsStrIter it "str_ascii_iterator" x t i) where
 mem:=by simp
 obj:=λi h st b hb=>by
  have e:b=it:=by simpa using hb
  subst e;obtain⟨o,e,c,d⟩:=st;exact⟨o,e,λv z=>by rw[d]at z;cases z⟩
 keep:=λi h h' st k=>by obtain⟨o,e,c,d⟩:=st;exact⟨o,k it (by simp) o e,c,d⟩
 item:=by intro X hP hw hK hc i pins s σ H E I hf st hg;subst hP hw hK;have⟨f0,f1,f2,f3,f4,f5⟩:=hf it (by simp);have hg':i<x.cps.size:=hg;refine wpAny_pyNext_ascii_item st (c:=x.cps[i]) (by simp[hg']) λh' st' sb=>?_;have I1:Inv X pins σ H {s with heap:=h',toks:=s.toks+1}:=I.turned (λb o hb e=>(sb.2 b hb).trans e) f0 f1 f3 f4 f5;have⟨o,e,c,d⟩:=id st';exact⟨_,rfl,cU (s:={s with heap:=h',toks:=s.toks+1}) e c d (by decide) ⟨.str ⟨#[x.cps[i]]⟩,H,I1,⟨_,rfl⟩,⟨rfl,_,by simp[hg'],rfl⟩,st',λb hb=>(hf b hb).1⟩⟩
 done:=by intro X hP hw hK hc i pins s σ H E I hf st hg;subst hP hw hK;have⟨f0,f1,f2,f3,f4,f5⟩:=hf it (by simp);have hg':x.cps.size<=i:=hg;exact wpAny_pyNext_ascii_end (I.ok.hd hc) st (by simp[hg']) λh' eb=>⟨rfl,I.turned (t':=s.toks) (λb o hb e=>eb b o hb e) f0 f1 f3 f4 f5⟩
 self:=λ_ _ _ _ _ st h=>wpAny_pyIter_striter_ascii st h
def zR(b:TE):TI:=λa H R=>b a H λv e=>∃x,v=.str x/\x.cps.all (·<128)=true/\R (Its x) e
def wm9{X:Cx}{l:BZ}{j:TE}(r:PE X l j):PI X tg l (zR j):=by
 intro a s m H R I h;refine thG (r a s m H _ I h) λv f x y i n p=>?_;obtain⟨z,rfl,w,q⟩:=p;obtain⟨t,rfl⟩:=(show ∃t,v=Value.str z t from n);refine wpAny_pyIter_ascii w ?_;refine⟨f.heap.objs.size,[f.heap.objs.size],_,_,y,rfl,i.kept (t':=f.toks) λb o e=>JK _ e,kp1 _ z t,⟨_,NP _ rfl,rfl,rfl⟩,λb u=>?_,q⟩;have e:b=f.heap.objs.size:=by simpa using u
 subst e;exact i.fpOk (H_ _) (i.hok.fresh (H_ _))
end L2
namespace PD
open PySem PySem.Spec PyProof.Rows L2
def signs(x:BP):List D:=x.cps.toList.map λk=>.str ⟨#[k]⟩
def ku5{K:BW}{x:BP}:ItD K (Its x) (signs x) λ_ _=>True where
 stab:=⟨λ_ _ h=>h,λ_ _ h=>h,λ_ _ _ h=>h,λ_ h=>h⟩
 go:=λi H S hi _=>by
  have this:i<x.cps.size:=by simpa[signs] using hi
  exact this
 yld:=λi H S v H' _ y=>by obtain⟨rfl,k,hk,rfl⟩:=y;refine⟨Ab.refl _,λd hd=>?_⟩;unfold signs at hd;rw[QC,oF,hk]at hd;cases hd;rfl
 stop:=λi H S hi _=>by
  have this:x.cps.size<=i:=by simpa[signs] using hi
  exact this
def itT(f:Ev->R D):Ev->R (List D):=λa=>(f a).bind λd=>match d with
 | .str x=>if x.cps.all (·<128)=true then .ok (signs x) else .bad
 |_=>.bad
def swF(f1 f2:Ev->R D):Ev->R D:=λa=>(f1 a).bind λx=>match x with
 | .str z=>(f2 a).bind λy=>match y with
  | .str w=>.ok (.bl (decide (0+w.length<=z.length) && Builtin.Str.subAt z w 0))
  |_=>.bad
 |_=>.bad
def nev{a:Type}:Ev->R a:=λ_=>.bad
variable {X:Cx}{f f1 f2:Ev->R D}{e:BZ}{es:List BZ}{l:Lv}{pos:GP}{st:CQ}
section
variable {c:DC}{o tg:BZ}{a:List CQ}
def oX(m:PEd X c l e f):PId X c l tg e (itT f):=PI.imp (wm9 m) λp H Q q=>by
 obtain⟨s,r,E,q⟩:=q;refine Ag E ((RQ.bind.mp q).mono (λd b v n i t j=>?_) λ_ z=>z);cases d with
 |str x =>
  have b:RQ (if x.cps.all (·<128)=true then R.ok (signs x) else .bad) _ _:=b;by_cases h:x.cps.all (·<128)=true
  ·rw[if_pos h]at b;exact⟨x,j,h,b _ _ n i ku5 trivial⟩
  ·rw[if_neg h]at b;exact b.elim
 |_=>exact(b:False).elim
def Zw:PEd X c l e nev:=λ_ _ _ _ _ _ q=>by obtain⟨_,_,_,z⟩:=q;exact z.elim
def rSw:V->List V->Hp->VK->Prop:=λx b H Q=>∃z y,x=.str z/\b=[.str y]/\Q (.bl (decide (0+y.length<=z.length) && Builtin.Str.subAt z y 0)) H
def ww3:MtR X "str.startswith" rSw:=by intro b s n H x p v r Q I i j h;obtain⟨z,y,rfl,rfl,q⟩:=h;obtain⟨t,rfl⟩:=(show ∃t,v=Value.str z t from i);obtain⟨u,rfl,m⟩:=j.one;obtain⟨w,rfl⟩:=(show ∃t,u=Value.str y t from m);refine FP PySem.F.slot_str_startswith (JH s z t) PySem.F.entry_str_startswith ?_ (PySem.F.args_str_startswith_2 _ _);show BL _ _ (ret (.bool (0+y.length<=min z.length z.length && Builtin.Str.subAt z y 0))) _ _ s;rw[Nat.min_self];exact FZ ⟨_,rfl,⟨.bl _,H,I,rfl,q⟩⟩
def sw_{apos b:GP}(B:PEd X c l o f1)(C:PEd X c l e f2)(m:DG o "startswith" X.env (CP o X.env)=CP o X.env:=by rfl)
  (n:((GJ b (BR [e] X.env)).all (λx=>!x.1) && (GR b (E_ [] X.env)).all (λx=>x.1.isSome)
   && decide ([e].length+([]:List JF).length+(if([]:List JF).isEmpty then 0 else 1)<30))=true:=by rfl)
  (j:(apos.endLine == b.line)=true:=by rfl)(hs:BR [e] X.env=(false,CP e X.env)::BR [] X.env:=by rfl)(i:Zp X.env b []:=by rfl):
  PEd X c l (.Call (.Attribute o "startswith" apos) [e] [] b) (swF f1 f2):=
 PE.imp (f9 PySem.F.plainAttrs_str PySem.F.slot_str_startswith PySem.F.type_str_startswith ww3 B (ac C an hs) m n j hs i) λK H Q h=>by
 obtain⟨A,L,E,q⟩:=h;refine Ag E ((RQ.bind.mp q).mono (λI s x O p J v=>?_) λ_ z=>z);cases I with
 |str z =>
  cases(show x=.str z from v);refine⟨rfl,nA J ((RQ.bind.mp s).mono (λG r y M t P u=>?_) λe z=>Az z p)⟩;cases G with
  |str w=>cases(show y=.str w from u);exact⟨z,w,rfl,rfl,r _ _ (p.trans t) rfl⟩
  |_=>exact(r:False).elim
 |_=>exact(s:False).elim
end
variable {K:BW}{mg:BP->Option A_}
variable {qual:BP}{fd:CZ}{O:List Nat}
section
variable {P:BX}{w:CN}{base:B_}
def kt1{x:BP}{f:BJ}{N ps:List BP}{k:Nat}{g:Ev->R Fl}(F:Fun K x qual st f fd)(S:Br N ps (Ae st))(t:O.all (λi=>decide (ps.length<=i))=true)
  (h:∀(b:A_)(A:C_)(outer:List GZ)(s:BK)(H:Hp)(E:XK)(S0:AS),Dd k (A.deeper (envOfC qual (Ae st) s.heap.objs.size f b))->(A.deeper (envOfC qual (Ae st) s.heap.objs.size f b)).units+70<FN ->
   Ma (Ls (CXE P w) P w K mg base N qual (Ae st) f b A outer s H E) ⟨H,S0,O,EX E,[]⟩->k_ (Ls (CXE P w) P w K mg base N qual (Ae st) f b A outer s H E) ⟨H,S0,O,EX E,[]⟩ ->
   Om (Ls (CXE P w) P w K mg base N qual (Ae st) f b A outer s H E) ⟨H,S0,O,EX E,[]⟩ (Bd st) g):
  Cw P w K mg base (CXE P w) (k+1) f fd ps (sp1 K ps.length (Be N.length g)):=
 Fp F S t λb A outer s H E S0 p o r=>h b A outer s H E S0 p o r λj J Q T L M a q I B z y u G n=>by obtain⟨d,v,m,C⟩:=n;exact wz2 I B z y u G (C _ m)
end
def spD(C:BJ):Sp:=λb H Q _=>∃x a,b=[.ref x]/\H x=some (.ins C a [])/\∀q,H q=none->Q .non (upd (upd H q (.dK [])) x (.ins C a [("webs",.ref q)]))
structure DkM(P:BX)(w:CN)(K:BW)(mg:BP->Option A_)(base:B_)(k:Nat)(C f:BJ)(fd:CZ):Prop where
 dk:DkC K C
 at_:mg "Desk" = some (.ref C)
 mks:Mk K C f
 fn:Cw P w K mg base CX0 k f fd ["self"] (spD C)
 bd:Binds K fd ["self"] []
def DkN(P:BX)(w:CN)(K:BW)(mg:BP->Option A_)(base:B_)(k:Nat):Prop:=∃C f fd,DkM P w K mg base k C f fd
variable {P:BX}{w:CN}{p2 p3 p4:GP}
def kt6{base:B_}{x:BP}{f C:BJ}{p1:GP}(F:Fun K x qual st f fd)(S:Br ["self"] ["self"] (Ae st))(o:DkC K C)
  (v:Bd st=[.Assign [.Attribute (.Name "self" p1) "webs" p2] (.Dict [] [] p3) p4])(u:Vis (Ae st) "self")(b:∀env:GZ,CW (.Dict [] [] p3) (some (.Attribute (.Name "self" p1) "webs" p2)) p4.line env=pure false):Cw P w K mg base CX0 1 f fd ["self"] (spD C):=by
 refine F.ok S (λr H Q E h=>by obtain⟨x,n,rfl,_⟩:=h;rfl) (λy A a s H r Q E B h=>?_);obtain⟨t,n,rfl,m,q⟩:=h;rw[v];refine⟨_,Fw (wn1 (pv 0 rfl u) vK (b _)),?_⟩;intro p j;have i:p≠t:=λz=>by rw[z,m]at j;cases j
 refine⟨.ref t,rfl,t,C,n,[],rfl,by rw[Ac (Ne.symm i)];exact m,o.cls,o.no,by decide,?_⟩;exact q p j
mutual
def Vu:D->Bool
 | .tup a=>Ln a
 | .lst a=>Ln a
 | .exc c _ b=>!dkN c && Ln b
 |_=>true
def Ln:List D->Bool
 | []=>true
 |d::ds=>Vu d && Ln ds
end
section
variable {H:Hp}{S:AS}{q:BJ}{kvs b:List (Key×V)}
mutual
theorem t7(i:H q=some (.dK kvs)):∀(d:D)(v:V),Vu d=true->Rep K H S d v->Rep K (upd H q (.dK b)) S d v
 | .non,_,_,h=>h
 | .bl _,_,_,h=>h
 | .int _,_,_,h=>h
 | .str _,_,_,h=>h
 | .tup p,v,n,h=>by obtain⟨a,j,e,t,r⟩:=h;exact⟨a,j,e,t.imp (λh=>by rw[Ac (λz=>by rw[z,i]at h;cases h)];exact h) id,Q5 i p j n r⟩
 | .lst p,v,n,h=>by
  obtain⟨a,j,e,t,r⟩:=h;refine⟨a,j,e,?_,Q5 i p j n r⟩;rcases t with ⟨t,z⟩ | ⟨⟨o,t⟩ |t,z⟩
  ·exact .inl ⟨by rw[Ac (λz=>by rw[z,i]at t;cases t)];exact t,z⟩
  ·exact .inr ⟨.inl ⟨o,by rw[Ac (λz=>by rw[z,i]at t;cases t)];exact t⟩,z⟩
  ·exact .inr ⟨.inr t,z⟩
 | .exc c ks s,v,n,h=>by
  obtain⟨a,j,e,t,r⟩:=h;have m:(!dkN c && Ln s)=true:=n;rw[KN,dN]at m;refine⟨a,j,e,?_,Q5 i s j m.2 r⟩;rcases t with ⟨t,z⟩ |t |t
  ·refine .inl ⟨t.ne (λz=>?_),z⟩;rcases t with ⟨_,u,_,_,_,o,t⟩ | ⟨_,u,_,_,_,o,t⟩
   ·rw[<-z,i]at t;cases t
   ·rw[<-z,i]at t;cases t
  ·exact .inr (.inl (t.ne i (λ_ z=>by cases z) (λ_ z=>by cases z)))
  ·have:=K6 t.1;rw[m.1]at this;cases this
theorem Q5(i:H q=some (.dK kvs)):∀(ds:List D)(vs:List V),Ln ds=true->Ak K H S ds vs->Ak K (upd H q (.dK b)) S ds vs
 | [],_,_,h=>h
 |d::ds,vs,n,h=>by obtain⟨v,r,e,m,j⟩:=h;have a:(Vu d && Ln ds)=true:=n;rw[KN]at a;exact⟨v,r,e,t7 i d v a.1 m,Q5 i ds r a.2 j⟩
end
end
def spW(K:BW)(m:List D->R D):Sp:=λi H Q _=>i.length=2/\∃S ks h row t v,i=[.ref t,v]/\Rep K H S (.exc (idn t) ks h) (.ref t)/\Rep K H S row v /\
 RQ (m [.exc (idn t) ks h,row]) (λn=>∀(b:Hp)(C j q:BJ)(a:List Key)(us:List V)(ks' ws':List D),n=.exc (idn t) ks' ws'->Ab H b->H t=some (.ins C j [("webs",.ref q)])->ks'=a.map kyD->a.length=us.length->a.Nodup->Ak K b (AS.plus S H) ws' us->Q (.str "ok") (upd b q (.dK (a.zip us)))) (λ_=>False)
def MtW(P:BX)(w:CN)(K:BW)(mg:BP->Option A_)(base:B_)(k:Nat)(x:BP)(ps:List BP)(m:List D->R D):Prop:=
 ∃C f fd,DkC K C/\Meth K C x f/\(x == ("webs" : BP))=false/\Cw P w K mg base CX0 k f fd ps (spW K m)/\Binds K fd ps []
def pP(H:Hp):Prop:=∀b z,H b≠some (.dK z)
open Classical in
def wrM(m:List D->R D)(ks ws:List D)(row:D):R (List D×List D):=if h:∃p:List D×List D,∀t,m [.exc (idn t) ks ws,row]=.ok (.exc (idn t) p.1 p.2) then .ok (Classical.choose h) else .bad
variable {ws:List D}{row:D}
theorem wb2{m:List D->R D}{ks:List D}{q:List D×List D->Prop}{e:D->Prop}(h:RQ (wrM m ks ws row) q e):∃p:List D×List D,(∀t,m [.exc (idn t) ks ws,row]=.ok (.exc (idn t) p.1 p.2))/\q p:=by
 unfold wrM at h;split at h
 ·exact⟨_,xV ‹_›,h⟩
 ·exact h.elim
def wr2{m:List D->R D}{ks ks' ws':List D}(h:∀t,m [.exc (idn t) ks ws,row]=.ok (.exc (idn t) ks' ws')):wrM m ks ws row=.ok (ks',ws'):=by unfold wrM;have a:∃p:List D×List D,∀t,m [.exc (idn t) ks ws,row]=.ok (.exc (idn t) p.1 p.2):=⟨(ks',ws'),h⟩;rw[dif_pos a];have:=(xV a 0).symm.trans (h 0);injection this with this;injection this with _ i b;rw[<-i,<-b]
variable {a b:BZ}{m:List D->R D}{apos p:GP}{x y:BP}
section
variable {c:DC}{rest:List BZ}{k:Nat}{ps:List BP}
def oK(K:BW)(c:DC)(g:Ev->R Fl):TS:=λE i H=>∃h,Al K c [] h i H/\RQ (g h) (Fl.ends K c [] E) (Nz K c)
end
def puS(i:Nat)(n j:Ev->R D):Ev->R D:=λh=>(j h).nox.bind λv=>(gv i h).bind λd=>match d with
 | .exc c ks ws=>if dkN c=true/\c ≠ "Desk" then(n h).nox.bind λkd=>if ks.length<16777216 then(R.of (kyO kd)).bind λk=>.ok (.exc c (Cu ks ws k v).1 (Cu ks ws k v).2) else .bad else .bad
 |_=>.bad
def tW2(K:BW)(c:DC)(g:Ev->R D):TS:=λs n H=>∃j,Al K c [] j n H/\RQ (g j) (λr=>∀(i:Hp)(t C o q:BJ)(h:List Key)(us:List V)(ks ws:List D),r=.exc (idn t) ks ws->Ab c.H0 i->i t=some (.ins C o [("webs",.ref q)])->ks=h.map kyD->h.length=us.length->h.Nodup->Ak K i c.S ws us->s.rt (.str "ok") (upd i q (.dK (h.zip us)))) (λ_=>False)
def ifT(t:Ev->R Bool)(g:Ev->R D):Ev->R D:=λh=>(t h).nox.bind λb=>if b then g h else .bad
def sqT(n:Ev->R Fl)(j:Ev->R D):Ev->R D:=λi=>(n i).nox.bind λo=>match o with
 | .nx h=>j h
 |_=>.bad
variable {C:BJ}{fk fv:Ev->R D}{key L:BZ}{pk Z:GP}
section
variable {c:DC}{rest:List CQ}{t:Ev->R Bool}{g:Ev->R D}{h:Ev->R Fl}{rp:GP}{j}
theorem wn3(hu:X.A.units+70<FN)(i:Nat)(dk:DkC X.K C)(hv:PEd X c .any L fv)(hk:PEd X c .any key fk)(hO:c.O=[]:=by rfl)(hN:X.N[i]? = some y:=by rfl)(s:Vis X.env.scope y:=by first |exact Or.inl rfl |exact Or.inr (Or.inl rfl) |exact Or.inr (Or.inr rfl))(hd:Zd y:=by decide)
  (aa:(y == ("__classdict__" : BP))=false:=by decide)(o:DG (.Name y p) "webs" X.env (CP (.Name y p) X.env)=CP (.Name y p) X.env:=by rfl)(hs:CW L (some (.Subscript (.Attribute (.Name y p) "webs" apos) key Z)) pos.line X.env=pure false:=by rfl):
  PSs X [.Assign [.Subscript (.Attribute (.Name y p) "webs" apos) key Z] L pos,.Return (some (.Constant (.str "ok") j pk)) rp] (tW2 X.K c (puS i fk fv)):=
 PSs.imp (G6 (uB (by lia) (lK (pv i hN s hd aa) o) hk hv hs) (Fw (gQ Z7))) λDe σ H q=>by
 obtain⟨ρ,E,q⟩:=q;have⟨v,ev,q⟩:=RQ.nox (RQ.bind.mp q);refine Ag (l:=.any) E ?_;rw[ev];intro vv H1 s1 E1 r1;have⟨d,Y,q⟩:=lW (RQ.bind.mp q);have⟨u,T,ru⟩:=E1.oth i d (by rw[hO];simp) Y;cases d with
 |exc r ks ws =>
  by_cases G:dkN r=true/\r ≠ "Desk"
  case neg=>have q:RQ (if dkN r=true/\r ≠ "Desk" then _ else R.bad) _ _:=q;rw[if_neg G]at q;exact q.elim
  have q:RQ (if dkN r=true/\r ≠ "Desk" then(fk ρ).nox.bind λkd=>if ks.length<16777216 then(R.of (kyO kd)).bind λk=>R.ok (D.exc r (Cu ks ws k v).1 (Cu ks ws k v).2) else .bad else .bad) _ _:=q;rw[if_pos G]at q;have⟨kd,ek,q⟩:=RQ.nox (RQ.bind.mp q);obtain⟨t,vs,rfl,xx,rr⟩:=ru;have⟨n,C',dx,w,kk,h,g2,g3,g4,g5,g6⟩:=xx.dsk G.1;rw[dk.at_]at h;cases h;refine⟨.ref t,T,t,C,dx,_,.ref w,rfl,g5,dk.cls,dk.no,by simp[List.lookup],?_⟩;refine Ag (l:=.any) E1 ?_;rw[ek];intro y H2 F E2 r2;by_cases hz:ks.length<16777216
  case neg=>rw[if_neg hz]at q;exact q.elim
  rw[if_pos hz]at q;have⟨k,U,q⟩:=(RQ.bind.mp q).of;have ey:y=kV k:=by rw[K9 U]at r2;cases k<;>exact r2
  subst ey;have B:(kk.zip vs).length<sizeLine:=by
   have h1:ks.length=kk.length:=by rw[g2,HN]
   rw[dH,CT];lia
  refine⟨w,_,rfl,bF.k (F _ _ g6) B,?_⟩;have M:Rep X.K H2 c.S v vv:=r1.mono F λ_ z=>z;have J:Ak X.K H2 c.S ws vs:=rr.mono F λ_ z=>z.1;have⟨Q,I,p1,p2,p3,_,p5,p6⟩:=Rj k M g3 g4 J;rw[p1];rw[<-g2]at p5 p6;rcases n with n |n
  ·exact absurd n G.2
  ·exact q H2 t C dx w Q I _ _ (by rw[n]) E2.same (F _ _ g5) p5 p2 p3 p6
 |_=>exact(q:False).elim
def oJ{i:List CQ}:PSs X i (λ_ _ _=>False):=λ_ _ _ _ _ _ z=>z.elim
def wv8{i:List CQ}(ht:PTd X c e t)(n:PSs X i (tW2 X.K c g)):PSs X (.If e i [] pos::rest) (tW2 X.K c (ifT t g)):=
 PSs.imp (G6 (j4 ht n oJ) oJ) λz s H q=>by
 obtain⟨j,E,q⟩:=q;have⟨b,o,q⟩:=RQ.nox (RQ.bind.mp q);refine Ga E ?_;rw[o];intro v u r;cases b with
 |false=>rw[if_neg (by decide)]at q;exact q.elim
 |true=>rw[if_pos rfl]at q;rw[if_pos rfl];exact⟨j,r,q⟩
def scT(h1:PSd X c st h)(o:PSs X rest (tW2 X.K c g)):PSs X (st::rest) (tW2 X.K c (sqT h g)):=PSs.imp (G6 h1 o) λA v H q=>by
 obtain⟨n,E,q⟩:=q;have⟨r,s,q⟩:=RQ.nox (RQ.bind.mp q);refine⟨[],n,E,?_⟩;rw[s];cases r with
 |nx i=>exact λj z u=>⟨i,u,q⟩
 |_=>exact(q:False).elim
end
def aR:D->Option BP
 | .exc c _ _=>some c
 |_=>none
def fP(n:Nat)(g:Ev->R D):List D->R D
 |d::ds=>(g (Aa n (d::ds))).bind λh=>if aR h=aR d then .ok h else .bad
 | []=>.bad
theorem wi2{base:B_}{f:BJ}{N ps:List BP}{k:Nat}{g:Ev->R D}(F:Fun K x qual st f fd)(S:Br N ps (Ae st))(J:ps.length=2)
  (n:∀(j:A_)(A:C_)(outer:List GZ)(s:BK)(H:Hp)(E:XK)(S0:AS),Dd k (A.deeper (envOfC qual (Ae st) s.heap.objs.size f j))->(A.deeper (envOfC qual (Ae st) s.heap.objs.size f j)).units+70<FN ->
   PSs (Ls CX0 P w K mg base N qual (Ae st) f j A outer s H E).nox (Bd st) (tW2 K ⟨H,S0,[],Dt,[]⟩ g)):
  Cw P w K mg base CX0 (k+1) f fd ps (spW K (fP N.length g)):=by
 refine F.ok S (λvs H Q E h=>h.1.trans J.symm) (λj A outer s H vs Q E hr h=>?_);obtain⟨hl,S0,ks,ws,row,t,v,rfl,rd,rr,q⟩:=h;refine⟨_,n j A outer s H E S0 hr (by have:=hr.un;lia),Aa N.length [.exc (idn t) ks ws,row],Kd ⟨_,_,rfl,rd,_,_,rfl,rr,rfl⟩ (λi hi=>by cases hi),?_⟩;refine(RQ.bind.mp (show RQ ((g (Aa N.length [.exc (idn t) ks ws,row])).bind λd'=>if aR d'=aR (D.exc (idn t) ks ws) then R.ok d' else .bad) _ _ from q)).mono (λd' z H1 t' C dx p kk us B u ed sm G ab aa M r=>?_) λ_ z=>z;subst ed;by_cases Y:aR (.exc (idn t') B u)=aR (.exc (idn t) ks ws)
 case neg=>rw[if_neg Y]at z;exact z.elim
 rw[if_pos Y]at z;have I:t'=t:=uL (Option.some.inj Y);subst I;obtain⟨t2,ae,T,xx,_⟩:=rd;cases T;have⟨_,C2,ag,q2,af,_,_,_,_,g5,_⟩:=xx.dsk (K6 (.inr rfl));have:=sm _ _ g5;rw[G]at this;cases this;exact z H1 C dx p kk us B u rfl sm g5 ab aa M (r.mono (Ab.refl _) λo z=>z.elim .inl λ⟨a,U,T,_⟩=>.inr ⟨a,U,T⟩)
def HDk(K:BW):Prop:=∃C,DkC K C
variable {n:Nat}
section
variable {c:DC}{s:BZ}{fs:Ev->R (List D)}{h rp:GP}{k:Nat}{ps:List BP}{j}
def wp7(o:X.A.units+70<FN)(j:HDk X.K)(t:PEd X c l a f1)(r:PEd X c l s f2)(q:DX .NotIn (.Attribute s "webs" apos)=false:=by with_unfolding_all rfl)
  (i:DG s "webs" X.env (CP s X.env)=CP s X.env:=by rfl):PTd X c (.Compare a [.NotIn] [.Attribute s "webs" apos] pos) (tb (b2 f1 f2 bZ)):=let ⟨_,j⟩:=j;yb9 o j t r q i
def pR(q:X.A.units+70<FN)(o:HDk X.K)(r:PEd X c l s f1)(t:PEd X c l a f2)(j:bC a:=by intro _ _;rfl)
  (i:DG s "webs" X.env (CP s X.env)=CP s X.env:=by rfl):PEd X c l (.Subscript (.Attribute s "webs" apos) a pos) (jK f1 f2):=let ⟨_,o⟩:=o;yE q o r t j i
def ky6(v:X.A.units+70<FN)(i:Nat)(t:HDk X.K)(u:PEd X c .any L fv)(z:PEd X c .any key fk)(E:c.O=[]:=by rfl)(F:X.N[i]? = some y:=by rfl)(q:Vis X.env.scope y:=by first |exact Or.inl rfl |exact Or.inr (Or.inl rfl) |exact Or.inr (Or.inr rfl))(B:Zd y:=by decide)
  (r:(y == ("__classdict__" : BP))=false:=by decide)(o:DG (.Name y p) "webs" X.env (CP (.Name y p) X.env)=CP (.Name y p) X.env:=by rfl)(hs:CW L (some (.Subscript (.Attribute (.Name y p) "webs" apos) key Z)) pos.line X.env=pure false:=by rfl):
  PSs X [.Assign [.Subscript (.Attribute (.Name y p) "webs" apos) key Z] L pos,.Return (some (.Constant (.str "ok") j pk)) rp] (tW2 X.K c (puS i fk fv)):=let ⟨_,t⟩:=t;wn3 v i t u z E F q B r o hs
def gA(fv:Ev->R D):Ev->R Fl:=λi=>(fv i).bind λ_=>.bad
theorem wl6{o:BZ}(F:X.A.units+70<FN)(i:PEd X c l L fv)(hs:CW L (some (.Subscript o key Z)) pos.line X.env=pure false:=by rfl):PSd X c (.Assign [.Subscript o key Z] L pos) (gA fv):=
 PS.imp (uB (td:=λ_ _ _=>False) (ty:=λ_ _ _=>False) (by lia) (λ_ _ _ _ _ _ z=>z.elim) (λ_ _ _ _ _ _ z=>z.elim) i hs) λD r H q=>by
 obtain⟨j,t,E,q⟩:=q;exact Ag E ((RQ.bind.mp q).mono (λd z v G u I B=>(z:False).elim) λ_ z=>G9 E z)
end
def spL(K:BW)(n:Nat)(m:List D->R D):Sp:=λh H Q E=>pP H/\sp0 K n m h H Q E
theorem wi1{base:B_}{f:BJ}{N ps:List BP}{k:Nat}{g:Ev->R Fl}(F:Fun K x qual st f fd)(S:Br N ps (Ae st))(hO:O.all (λi=>decide (ps.length<=i))=true)
  (u:∀(j:A_)(A:C_)(outer:List GZ)(s:BK)(H:Hp)(E:XK)(S0:AS),pP H->Dd k (A.deeper (envOfC qual (Ae st) s.heap.objs.size f j))->(A.deeper (envOfC qual (Ae st) s.heap.objs.size f j)).units+70<FN ->
   PSs (Ls CX0 P w K mg base N qual (Ae st) f j A outer s H E).nox (Bd st) (oK K ⟨H,S0,O,Dt,[]⟩ g)):
  Cw P w K mg base CX0 (k+1) f fd ps (spL K ps.length (Be N.length g)):=by
 refine F.ok S (λY H Q E h=>h.2.1) (λj A outer s H Y Q E J h=>?_);obtain⟨hN,hl,S0,B,r,q⟩:=h;refine⟨_,u j A outer s H E S0 hN J (by have:=J.un;lia),Aa N.length B,Kd r (λi hi=>?_),?_⟩
 ·have:=SN.mp hO i hi;rw[hl];exact of_decide_eq_true this
 ·have t:RQ (aU (g (Aa N.length B))) _ _:=q;cases e:g (Aa N.length B) with
  |ok fl =>
   rw[e]at t;cases fl with
   |nx I=>exact λM G E'=>t .non G E'.same rfl
   |rt d=>exact λv G s r=>t v G s (r.mono (Ab.refl _) λo z=>z.elim .inl λ⟨a,U,T,_⟩=>.inr ⟨a,U,T⟩)
   |bk I=>exact t.elim
   |ct I=>exact t.elim
  |exc x=>rw[e]at t;exact t.elim
  |bad=>rw[e]at t;exact t.elim
def jy9{l:W.OpenLaw}{q:BX}{loose:List BP}{U:(BP->Option A_)->B_->Prop}{A:CN->B_->Prop}{d:DefRec}{K:iR->BW}{k:Nat}(I:∀i:List Int,i.length<=63->m [.lst (i.map .int)]=.ok (.bl true))(G:l.most=some 63)(j:d.params.defaults=[])(E:Dd k PK)
  (M:∀(w:CN)(h:B_),A w h->(K w.params).In h)
  (F:∀(w:CN)(mg:BP->Option A_)(t:BJ)(h:B_),(K w.params).In h->h.Ns HW mg->mg d.name=some (.ref t) ->
   ∃fd:CZ,(∀(s:BK)(u:A_),RD s fd ⟨[u],[]⟩ [(x,u)])/\∀base:B_,(K w.params).In base->base.Ns HW mg->Cw l.prog w (K w.params) mg base CX0 k t fd [x] (spL (K w.params) 1 m)):
  W.WalkO q loose U A l.row.toRowW d [] (λf B=>PySem.call f B):=
 L2.wa8 (n:=63) (k:=k) (x:=x) (CX:=λ_=>CX0) (sp:=λw=>spL (K w.params) 1 m) G (by decide) j E M F (λw H a i J T Q=>⟨(λb z e=>by
  rcases T b with h | ⟨o,Y,h⟩
  ·rw[h]at e;cases e
  ·rw[h]at e;cases e),rfl,λ_=>True,[.lst (i.map .int)],.cons ⟨a,_,rfl,SqL.ls Q trivial trivial,Yj i⟩ Ak.nil,by
  rw[I i J];exact λv H' _ r=>r⟩) λ_ _ _ _ _ z=>z
open PySem PySem.Spec PyProof.Rows L2 PySem.W
def wt3(a:W.nsIn K PySem.mainGlobals "Desk" = some (some (.ref C)))(j:W.plainGet K C Str.empty=true)(o:W.hasDictIn K C=true)(i:W.plainOver K C=true)(h:W.findIn K (.ref C) "__setattr__" = some (some (.builtin "object.__setattr__")))(no:W.findIn K (.ref C) "webs" = some none):DkC K C:=⟨a,⟨j,o,i,h⟩,no⟩
def MI(K:BW)(C:BJ)(x qual:BP)(st:CQ):Prop:=∃f fd,Meth K C x f/\Fun K x qual st f fd
variable {oc doc pm cdv:A_}{od:Option BJ}{osl:Array (Option A_)}
def qH{f:BJ}{an:Option BJ}{kV ct:A_}(a:W.findIn K (.ref C) x=some (some (.ref f)))(h:W.isFn K (.ref f)=true)(k:W.keepIn K (.ref f)=true)
  (l:K.lookup f=some ⟨oc,od,.func (W.fnOf x qual (Cm st) (Bd st) (Ae st) .none kV doc pm an cdv ct),osl⟩)(c:W.codeIn K cdv qual=true):MI K C x qual st:=⟨f,_,⟨a,h,k⟩,Zj l c k⟩
def DI(K:BW)(C:BJ)(st:CQ):Prop:=∃f fd,Mk K C f/\Fun K "__init__" "Desk.__init__" st f fd
def wt1{f:BJ}{an:Option BJ}{kV ct:A_}(m:W.makesIn K C=true)(a:W.findIn K (.ref C) "__init__" = some (some (.ref f)))(i:W.isFn K (.ref f)=true)(h:W.keepIn K (.ref C)=true)(k:W.keepIn K (.ref f)=true)
  (l:K.lookup f=some ⟨oc,od,.func (W.fnOf "__init__" "Desk.__init__" (Cm st) (Bd st) (Ae st) .none kV doc pm an cdv ct),osl⟩)(c:W.codeIn K cdv "Desk.__init__" = true):DI K C st:=⟨f,_,⟨m,a,i,h⟩,Zj l c k⟩
section
variable {h:B_}{qual:BP}{k:Nat}{ps:List BP}
def sJ(P:BX)(w:CN)(base:B_)(r:DkC K C)(I:MI K C x qual st)(i:∀a fd,Fun K x qual st a fd->Cw P w K mg base (CXE P w) k a fd ps (sp1 K n m))
  (q:∀(kV doc pm:A_)(an:Option BJ)(cdv ct:A_)(us:List A_),us.length=ps.length->KC (W.fnOf x qual (Cm st) (Bd st) (Ae st) .none kV doc pm an cdv ct) ⟨us,[]⟩=pure (ps.zip us))(j:(x == ("webs" : BP))=false:=by decide):MtX P w K mg base k x ps n m:=
 let ⟨f,fd,o,F⟩:=I; ⟨C,f,fd,r,o,j,i f fd F,F.binds q⟩
def wl1(P:BX)(w:CN)(base:B_)(r:DkC K C)(I:MI K C x qual st)(i:∀a fd,Fun K x qual st a fd->Cw P w K mg base CX0 k a fd ps (spW K m))
  (q:∀(kV doc pm:A_)(an:Option BJ)(cdv ct:A_)(us:List A_),us.length=ps.length->KC (W.fnOf x qual (Cm st) (Bd st) (Ae st) .none kV doc pm an cdv ct) ⟨us,[]⟩=pure (ps.zip us))(j:(x == ("webs" : BP))=false:=by decide):MtW P w K mg base k x ps m:=
 let ⟨f,fd,o,F⟩:=I; ⟨C,f,fd,r,o,j,i f fd F,F.binds q⟩
def wg8{p1:GP}(P:BX)(w:CN)(base:B_)(X:K.In h)(G:h.Ns PySem.mainGlobals mg)(o:DkC K C)(I:DI K C st)(S:Br ["self"] ["self"] (Ae st))(s:Bd st=[.Assign [.Attribute (.Name "self" p1) "webs" p2] (.Dict [] [] p3) p4])(q:Vis (Ae st) "self")(i:∀env:GZ,CW (.Dict [] [] p3) (some (.Attribute (.Name "self" p1) "webs" p2)) p4.line env=pure false)
  (j:∀(kV doc pm:A_)(an:Option BJ)(cdv ct:A_)(us:List A_),us.length=(["self"]:List BP).length->KC (W.fnOf "__init__" "Desk.__init__" (Cm st) (Bd st) (Ae st) .none kV doc pm an cdv ct) ⟨us,[]⟩=pure ((["self"]:List BP).zip us)):DkN P w K mg base 1:=
 let ⟨f,fd,r,F⟩:=I; ⟨C,f,fd,o,W.mg_of X G o.at_,r,kt6 F S o s q i,F.binds j⟩
end
structure WfM(x qual:BP)(st:CQ)(N k:Nat)(ps:List BP)(Y:Bx->Prop->Prop)(S:Nat->List BP->Bx->(List D->R D)->BJ->CZ->Prop) where
 Ns:List BP
 sc:Br Ns ps (Ae st)
 g:Ev->R Fl
 ok:∀{b a fd},Br Ns ps (Ae st)->Fun b.K x qual st a fd->Y b (S k ps b (Be N g) a fd)
variable {Y:Bx->Prop->Prop}
def WfM.at{N k:Nat}{ps:List BP}{S:Nat->List BP->Bx->(List D->R D)->BJ->CZ->Prop}(V:WfM x qual st N k ps Y S){g:Ev->R Fl}(e:V.g=g){b:Bx}{a:BJ}(F:Fun b.K x qual st a fd):Y b (S k ps b (Be N g) a fd):=e ▸ V.ok V.sc F
structure WfW(x qual:BP)(st:CQ)(N k:Nat)(ps:List BP)(Y:Bx->Prop->Prop) where
 Ns:List BP
 sc:Br Ns ps (Ae st)
 g:Ev->R D
 ok:∀{b a fd},Br Ns ps (Ae st)->Fun b.K x qual st a fd->Y b (Cw b.P b.w b.K b.mg b.base CX0 k a fd ps (spW b.K (fP N g)))
abbrev gOW{v g:Ev->R D}(_:g=v):Ev->R D:=g
def WfW.at{N k:Nat}{ps:List BP}(V:WfW x qual st N k ps Y){g:Ev->R D}(e:V.g=g){b:Bx}{a:BJ}(F:Fun b.K x qual st a fd):Y b (Cw b.P b.w b.K b.mg b.base CX0 k a fd ps (spW b.K (fP N g))):=e ▸ V.ok V.sc F
abbrev Sl0(k:Nat)(ps:List BP)(b:Bx)(m:List D->R D)(a:BJ)(fd:CZ):Prop:=Cw b.P b.w b.K b.mg b.base CX0 k a fd ps (spL b.K ps.length m)
abbrev FMX(b:Bx)(k:Nat)(x:BP)(ps:List BP)(m:List D->R D):Prop:=MtX b.P b.w b.K b.mg b.base k x ps ps.length m
abbrev FMC(b:Bx)(k:Nat)(x:BP)(ps:List BP)(m:List D->R D):Prop:=MtC b.P b.w b.K b.mg b.base k x ps ps.length m
abbrev FMW(b:Bx)(k:Nat)(x:BP)(ps:List BP)(m:List D->R D):Prop:=MtW b.P b.w b.K b.mg b.base k x ps m
def lkF(z:List (BP×List BP))(x:BP):Option (List BP):=(z.find? λp=>decide (p.1=x)).map (·.2)
def jL(z:List (BP×List BP)):D->Option D
 | .str x=>(lkF z x).map λws=>.tup (ws.map .str)
 |_=>none
def jE(z:List (BP×List BP)):D->Option D
 | .str x=>some (.bl (!(lkF z x).isSome))
 |_=>none
def TpK(K:BW)(a:BJ)(xs:List V):Prop:=∃(o:GD)(its:Array A_)(n:Nat),K.lookup a=some o/\o.cls=.type "tuple"/\o.data=.seq its n/\its.size<=sizeLine/\Vals xs its.toList
def FRM(P:BX)(w:CN)(K:BW)(mg:BP->Option A_)(x:BP)(z:List (BP×List BP)):Prop:=∃a i,mg x=some (.ref a)/\(a == FQ)=false/\(∀h:B_,K.In h->h.DictOf (Bq P w) a i) /\
 ∀y,(lkF z y=none/\HH i (.inr y)=none)\/∃ws b,lkF z y=some ws/\HH i (.inr y)=some (.ref b)/\TpK K b (ws.map V.str)
section
variable {c:DC}{i:List (BP×List BP)}
def fixF(F:FRM X.prog X.w X.K X.mg x i)(he:PEd X c l e f)(hs:bC e:=by intro _ _;rfl)(hg:Gl X x:=by rfl)(hd:Zd x:=by decide):PEd X c .fr (.Subscript (.Name x p) e pos) (b1 f (jL i)):=by
 obtain⟨a,vs,hm,G,hD,hT⟩:=F;intro o s U H Q I q;obtain⟨ab,ρ,E,q⟩:=q;refine nC PySem.F.slot_dict_getitem.lookup hs (Gy I hg hm ?_ hd);refine thn (he o s U H (λy j=>∃z ws,y=.str z/\lkF i z=some ws/\∀v,Rep X.K j (fresh H) (.tup (ws.map .str)) v->Q v j) I (Ag E ((RQ.bind.mp q).mono (λd u v j B E1 r1=>?_) λ_ z=>z))) λiv B hh=>?_
 ·obtain⟨d',J,q2⟩:=u.of;cases d with
  |str z=>obtain⟨ws,h,rfl⟩:=VR.mp (show(lkF i z).map _=some d' from J);exact⟨z,ws,r1,h,λv r=>q2 v j B r⟩
  |_=>cases J
 ·obtain⟨y,j,T,ry,z,ws,rfl,h,u⟩:=hh;obtain⟨t,rfl⟩:=(show ∃t,iv=Value.str z t from ry);have M:=hD _ T.KJ;rcases hT z with ⟨A,_⟩ | ⟨aa,b,A,h2,h3⟩
  ·rw[A]at h;cases h
  ·rw[A]at h;cases h;refine⟨M.typeIs,aC (Jw _ _ z t) M.mapOf h2 ⟨.ref b,j,T.tok _,rfl,u _ ⟨b,_,rfl,.inr h3,R1 ws⟩⟩⟩
def yb8(F:FRM X.prog X.w X.K X.mg x i)(he:PEd X c l e f)(hg:Gl X x:=by rfl)(hd:Zd x:=by decide)(hm:DX .NotIn (.Name x p)=false:=by with_unfolding_all rfl):PTd X c (.Compare e [.NotIn] [.Name x p] pos) (tb (b1 f (jE i))):=by
 obtain⟨a,vs,M,A,hD,hT⟩:=F;have hc:PC X .NotIn e (.Name x p) (λr H Q=>tD X.K c l f r H λy o=>∃z,y=.str z/\Q (.bl (!(lkF i z).isSome)) o):=by
  intro j s r H Q I h;refine thn (he j s r H _ I h) λiv G ⟨y,o,I1,ry,J⟩=>thn (Z5 (v:=.ref a) hg M rfl hd j G r o (λv H2=>v=.ref a/\H2=o) I1 ⟨rfl,rfl⟩) λu s2 B=>?_;obtain⟨v,H2,I2,rv,rfl,rfl⟩:=B;obtain rfl:u=Value.ref a:=rv;obtain⟨z,rfl,q⟩:=J;obtain⟨t,rfl⟩:=(show ∃t,iv=Value.str z t from ry);have dd:=hD _ I2.KJ;refine d9 (Jw _ _ z t) A dd.mapOf ⟨.bl (!(HH vs (.inr z)).isSome),H2,I2.tok _,rfl,?_⟩;have e:(HH vs (.inr z)).isSome=(lkF i z).isSome:=by
   rcases hT z with ⟨U,T⟩ | ⟨ws,b,U,T,_⟩
   ·rw[U,T];rfl
   ·rw[U,T];rfl
  rw[e];exact q
 refine PT.imp (rW hc hm) λr H Q q=>?_;obtain⟨aa,ρ,E,q⟩:=q;refine Ag E ((RQ.bind.mp (RQ.bind.mp q)).mono (λd J v o G E1 r1=>?_) λ_ z=>z);obtain⟨d',e',q2⟩:=J.of;cases d with
 |str z=>cases e';obtain⟨b,hb,q3⟩:=q2.of;cases hb;exact⟨z,r1,_,rfl,q3 o G⟩
 |_=>cases e'
end
def DEn(w:CN)(K:BW)(e:G_)(p:BP×List BP):Prop:=(∃t,e.key=.str p.1 t)/\e.hash=fK w (.inr p.1)/\∃b,e.val=.ref b/\TpK K b (p.2.map V.str)
def DEs(w:CN)(K:BW):List G_->List (BP×List BP)->Prop
 | [],[]=>True
 |e::es,p::ps=>DEn w K e p/\DEs w K es ps
 |_,_=>False
def FRI(w:CN)(K:BW)(x:BP)(z:List (BP×List BP)):Prop:=∃a o es h,W.nsIn K PySem.mainGlobals x=some (some (.ref a))/\K.lookup a=some o/\o.ExactDict/\o.data=.dict es h/\(a == FQ)=false/\DEs w K es.toList z/\(z.map (·.1)).Nodup
def vsE:List G_->List (BP×List BP)->List (Key×A_)
 |e::es,p::ps=>(.inr p.1,e.val)::vsE es ps
 |_,_=>[]
def DEs.pairs{P:BX}{w:CN}{K:BW}:∀{es:List G_}{z:List (BP×List BP)},DEs w K es z->Pairs (Bq P w) es (vsE es z)/\(∀e∈es,∃k,(Bq P w).is k e.key=true/\e.hash=(Bq P w).hash k)/\(vsE es z).map (·.1)=z.map (λp=>Sum.inr p.1)
 | [],[],_=>⟨.nil,(λe h=>by cases h),rfl⟩
 |e::es,p::ps,h=>by
  obtain⟨⟨⟨t,v⟩,u,b,E,B⟩,s⟩:=h;obtain⟨r,q,o⟩:=DEs.pairs (P:=P) s;have j:(Bq P w).is (.inr p.1) e.key=true:=by rw[v];exact Jw _ _ _ _
  refine⟨.cons j rfl r,λA i=>?_,?_⟩
  ·rcases I_.mp i with rfl |i
   ·exact⟨_,j,u⟩
   ·exact q A i
  ·show _::_=_::_;rw[o]
 | [],_::_,h=>h.elim
 |_::_,[],h=>h.elim
def DEs.at{w:CN}{K:BW}(y:BP):∀{es:List G_}{z:List (BP×List BP)},DEs w K es z->(lkF z y=none/\HH (vsE es z) (.inr y)=none)\/∃ws b,lkF z y=some ws/\HH (vsE es z) (.inr y)=some (.ref b)/\TpK K b (ws.map V.str)
 | [],[],_=>.inl ⟨rfl,rfl⟩
 |e::es,p::ps,h=>by
  obtain⟨⟨_,_,b,q,o⟩,j⟩:=h;by_cases i:p.1=y
  ·refine .inr ⟨p.2,b,?_,?_,o⟩
   ·simp[lkF,VN,i]
   ·simp[HH,vsE,VN,i,q]
  ·have U:lkF (p::ps) y=lkF ps y:=by simp[lkF,VN,i]
   have T:HH (vsE (e::es) (p::ps)) (.inr y)=HH (vsE es ps) (.inr y):=by simp[HH,vsE,VN,i]
   rw[U,T];exact DEs.at y j
 | [],_::_,h=>h.elim
 |_::_,[],h=>h.elim
variable {z:List (BP×List BP)}
def wi6{h:B_}(P:BX)(X:K.In h)(G:h.Ns PySem.mainGlobals mg)(F:FRI w K x z):FRM P w K mg x z:=by
 obtain⟨a,o,es,B,A,v,u,t,s,j,r⟩:=F;have⟨p1,p2,p3⟩:=DEs.pairs (P:=P) j;refine⟨a,vsE es.toList z,W.mg_of X G A,s,λE Y=>⟨o,es,B,Y _ _ v,u,t,λe q=>p2 e (by simpa using q),p1,?_⟩,λy=>DEs.at y j⟩;rw[p3];have:(z.map (λp=>(Sum.inr p.1:Key)))=(z.map (·.1)).map Sum.inr:=by rw[RB];rfl
 rw[this];exact List.Pairwise.map Sum.inr (λa b i e=>i (Sum.inr.inj e)) r
def tpC(K:BW)(v:A_)(ws:List BP):Bool:=match v with
 | .ref b=>match K.lookup b with
  |some o=>match o.data with
   | .seq h _=>decide (o.cls=.type "tuple") && decide (h.size<=1000) && decide (h.toList.length=ws.length) && (h.toList.zip ws).all λp=>match p.1 with
    | .str x _=>decide (x=p.2)
    |_=>false
   |_=>false
  |none=>false
 |_=>false
def enC(K:BW):List G_->List (BP×List BP)->Bool
 | [],[]=>true
 |e::es,p::ps=>(match e.key with | .str x _=>decide (x=p.1) |_=>false) && tpC K e.val p.2 && enC K es ps
 |_,_=>false
def esO(o:GD):List G_:=match o.data with
 | .dict es _=>es.toList
 |_=>[]
def frC(K:BW)(a:BJ)(o:GD)(z:List (BP×List BP)):Bool:=decide (o.cls=.type "dict") && decide (o.dict=none) && decide (o.slots.size=0) && (match o.data with | .dict _ _=>true |_=>false) && !(a == FQ) && enC K (esO o) z && decide (z.map (·.1)).Nodup
def uY:∀{us:List A_}{ws:List BP},us.length=ws.length->((us.zip ws).all λp=>match p.1 with
    | .str x _=>decide (x=p.2)
    |_=>false)=true->Vals (ws.map V.str) us
 | [],[],_,_=>.nil
 |u::us,w::ws,i,h=>by
  rw[ZX,YD,KN]at h;refine .cons ?_ (uY (Nat.succ.inj i) h.2);have j:=h.1;cases u with
  |str x t=>exact⟨t,by rw[of_decide_eq_true j]⟩
  |_=>cases j
 | [],_::_,i,_=>by cases i
 |_::_,[],i,_=>by cases i
theorem wq1{v:A_}{ws:List BP}(h:tpC K v ws=true):∃b,v=.ref b/\TpK K b (ws.map V.str):=by
 unfold tpC at h;cases v with
 |ref b =>
  refine⟨b,rfl,?_⟩;cases q:K.lookup b with
  |none=>simp only[q]at h;cases h
  |some o =>
   simp only[q]at h;cases j:o.data with
   |seq i n=>simp only[j,KN,decide_eq_true_eq]at h;exact⟨o,i,n,q,h.1.1.1,j,by rw[CT];have:=h.1.1.2;omega,uY h.1.2 h.2⟩
   |_=>simp only[j]at h;cases h
 |_=>cases h
def tG{w:CN}{K:BW}:∀{es:List G_}{z:List (BP×List BP)},enC K es z=true->es.map (·.hash)=z.map (λp=>fK w (.inr p.1))->DEs w K es z
 | [],[],_,_=>trivial
 |e::es,p::ps,h,s=>by
  have j:((match e.key with | .str x _=>decide (x=p.1) |_=>false) && tpC K e.val p.2 && enC K es ps)=true:=h;rw[KN,KN]at j;rw[KH,KH]at s;injection s with q o;refine⟨⟨?_,q,wq1 j.1.2⟩,tG j.2 o⟩;have i:=j.1.1;cases r:e.key with
  |str x t=>rw[r]at i;exact⟨t,by rw[of_decide_eq_true i]⟩
  |_=>rw[r]at i;cases i
 | [],_::_,h,_=>by cases h
 |_::_,[],h,_=>by cases h
def wi4{a:BJ}{o:GD}(h1:W.nsIn K PySem.mainGlobals x=some (some (.ref a)))(r:K.lookup a=some o)(i:frC K a o z=true)(q:(esO o).map (·.hash)=z.map (λp=>fK w (.inr p.1))):FRI w K x z:=by
 unfold frC at i;simp only[KN,decide_eq_true_eq,dN]at i;obtain⟨⟨⟨⟨⟨⟨E,B⟩,A⟩,j⟩,v⟩,u⟩,t⟩:=i;cases h:o.data with
 |dict es s =>
  have e:esO o=es.toList:=by unfold esO;rw[h]
  exact⟨a,o,es,s,h1,r,⟨E,B,Array.eq_empty_of_size_eq_zero A⟩,h,v,e ▸ tG u q,t⟩
 |_=>rw[h]at j;cases j
section
variable {env:GZ}{q:GP}{j:Nat}
def stC{k:Const}:BR (.Constant k j p::es) env=(false,CP (.Constant k j p) env)::BR es env:=rfl
def stN:BR (.Name x p::es) env=(false,CP (.Name x p) env)::BR es env:=rfl
def stK{xs:List BZ}{ks:List JF}:BR (.Call a xs ks p::es) env=(false,CP (.Call a xs ks p) env)::BR es env:=rfl
def stB{o:iT}:BR (.BinOp a o b p::es) env=(false,CP (.BinOp a o b p) env)::BR es env:=rfl
def stS:BR (.Subscript a b p::es) env=(false,CP (.Subscript a b p) env)::BR es env:=rfl
end
def aM(f:BZ->Option D):List BZ->Option (List D)
 | []=>some []
 |e::es=>(f e).bind λd=>(aM f es).map λh=>d::h
def Y7:Nat->BZ->Option D
 |0,_=>none
 |n+1,e=>match e with
  | .Constant k _ _=>match k with
   | .str x=>some (.str x)
   | .int i=>some (.int i)
   | .none=>some .non
   |_=>none
  | .Tuple es _ _=>if es.length<=1000 then(aM (Y7 n) es).map .tup else none
  | .List es _=>if es.length<=1000 then(aM (Y7 n) es).map .lst else none
  |_=>none
def PEd.congr{c:DC}{i:Ev->R D}(h:PEd X c l e f)(j:f=i):PEd X c l e i:=j ▸ h
def kn7{d:D}{env:GZ}(h:Y7 n e=some d):Zs env e es:=by
 cases n with
 |zero=>cases h
 |succ n=>cases e<;>first |rfl |cases h
def Y8{X:Cx}{c:DC}{n:Nat}(j:∀e d,Y7 n e=some d->PEd X c .fr e (kd d)):∀(es:List BZ)(ds:List D),aM (Y7 n) es=some ds->PAd X c .fr es (λ_=>.ok ds)/\ds.length=es.length
 | [],ds,h=>by cases h;exact⟨an,rfl⟩
 |e::es,ds,h=>by have⟨d,o,h⟩:=VV.mp h;obtain⟨i,r,rfl⟩:=VR.mp h;obtain⟨p,q⟩:=Y8 j es i r;exact⟨ac (j e d o) p (kn7 o),by rw[L_,q];rfl⟩
theorem mL{X:Cx}{c:DC}:∀(n:Nat)(e:BZ)(d:D),Y7 n e=some d->PEd X c .fr e (kd d)
 |0,_,_,h=>by cases h
 |n+1,e,d,h=>by
  cases e with
  |Constant k _ _=>cases k<;>first | (cases h;exact ks) | (cases h;exact ki) | (cases h;exact kn) |cases h
  |Tuple es _ _ =>
   have h:(if es.length<=1000 then(aM (Y7 n) es).map D.tup else none)=some d:=h;by_cases i:es.length<=1000
   ·rw[if_pos i]at h;obtain⟨j,o,rfl⟩:=VR.mp h;obtain⟨p,r⟩:=Y8 (X:=X) (c:=c) (mL n) es j o;exact PEd.congr (tup p) (funext λq=>by show R.of (Dk j)=_;unfold Dk;rw[if_pos (by omega)];rfl)
   ·rw[if_neg i]at h;cases h
  |List es _ =>
   have h:(if es.length<=1000 then(aM (Y7 n) es).map D.lst else none)=some d:=h;by_cases i:es.length<=1000
   ·rw[if_pos i]at h;obtain⟨j,o,rfl⟩:=VR.mp h;obtain⟨p,r⟩:=Y8 (X:=X) (c:=c) (mL n) es j o;exact PEd.congr (lst p) (funext λq=>by show R.of (Q3 j)=_;unfold Q3;rw[if_pos (by omega)];rfl)
   ·rw[if_neg i]at h;cases h
  |_=>cases h
def Wx{c:DC}{d:D}(h:Y7 4 e=some d):PEd X c .fr e (kd d):=mL 4 e d h
open PySem PySem.Spec PyProof.Rows L2
variable {C W W0:BJ}
def EC.other{K:BW}{c i:BP}{C0:BJ}(j:EC K c C W)(o:EC K i C0 W0)(B:i≠c)(A:i ≠ "WebError")(ht:PySem.W.typeIn K (.ref C0)=some (.type "type")):PySem.W.exmOne K (.ref C) (.ref C0)=some false:=by
 obtain⟨M,r,G,Q,F⟩:=j.cls;obtain⟨E,h,q,J,I⟩:=o.cls;obtain⟨wd,t,s,H⟩:=j.wcl;have v:C0≠C:=λz=>by rw[z,r]at h;cases h;exact B (q.symm.trans G)
 have u:C0≠W:=λz=>by rw[z,t]at h;cases h;exact A (q.symm.trans s)
 unfold PySem.W.exmOne;have U:PySem.W.subIn K (.ref C0) (.type "BaseException")=some true:=o.base;rw[U,if_pos (by simp)];show(if((PySem.W.clsIn K C0).isSome && PySem.W.typeIn K (.ref C0) == some (.type "type"))=true then PySem.W.subIn K (.ref C) (.ref C0) else none)=_;rw[h,ht,if_pos (by simp)];show PySem.W.mroIn K C _=_;rw[lL r F rfl];simp[v,u]
structure Lnd(X:Cx)(pins:List (BJ×GD))(σ:St)(H1:Hp)(s1:BK)(a:BJ)(H':Hp)(s2:BK)(C:BJ):Prop where
 I1:Inv X pins σ H1 s1
 F:O8 X.prog X.w X.stack H1 s1 a H' s2
 I3:Inv X pins σ H' s2
 ob:∃od vs sl,H' a=some (.ext (Em C a od))/\s2.heap.get? a=some ⟨.ref C,od,.fields vs,sl⟩/\Pj s2.heap a vs/\∀T,vs[1]? = some (.ref T)->s1.heap.get? T=none/\H' T=none
variable {X:Cx}{ρ:Ev}{g2:Ev->R Fl}{H':Hp}{E:List CQ}{σ:St}
section
variable {c:DC}{pins:List (BJ×GD)}{H1:Hp}{s1 s' s2:BK}{a C:BJ}{Q:Flow->BK->Prop}{xe:A_->BK->Prop}{d:D}{h rest:List P_}
def Ve(s:Inv X pins σ H1 s1)(F:O8 X.prog X.w X.stack H1 s1 a H' s')(rp:Rep X.K H' c.S d (.ref a))(ae:cF d=true)(j:X.stack=X.env::X.outer/\X.env.frame=some X.env.locals)
  (k:∀s2 C W nm ks J i,Lnd X pins σ H1 s1 a H' s2 C->d=.exc nm ks J->EC X.K nm C W->Us X.K H' nm ks a i->Ak X.K H' noS J i->BL (BV X.prog X.w) X.A (QM (.ref a) X.env h) Q xe s2):
  BL (BV X.prog X.w) X.A (GK (.ref a) X.env) (λ_ s2=>BL (BV X.prog X.w) X.A (J_ (.ref a) none) (λ_ s3=>BL (BV X.prog X.w) X.A (QM (.ref a) X.env h) Q xe s3) xe s2) xe s':=by
 obtain⟨C,od,vs,sl,I,t,ht,hT⟩:=F.obj;have⟨nm,ks,J,a',i,ed,ea,ex,rr⟩:=kl8 (S':=noS) ae rp;cases ea;have⟨u,W',ec,hx⟩:=id ex;have ab:∀b∈frs X.stack,H1 b=none:=s.stkFree;have aa:∀b∈frs X.stack,∃o,s1.heap.get? b=some o:=λb hb=>let ⟨_,o,e,_⟩:=s.stack.mem hb; ⟨o,e⟩;have q:=Zk s.stack s.stkFree F.un;rw[j.1]at q;have r:=s.ok.frames;rw[j.1]at r;refine p_ (base:=X.base) (env:=X.env) (outer:=X.outer) (L:=X.env.locals) r q j.2 t ht λh' B k1 k2 k3 k4 k5 k6=>?_;rw[<-j.1]at k1 k2;have G:∀T,B[1]? = some (.ref T)->s1.heap.get? T=none/\H' T=none:=λT z=>⟨by
  cases y:s1.heap.get? T with
  |none=>rfl
  |some o =>
   have⟨o',U⟩:=F.un.there T o y (by simp);exact absurd (NZ (HD U) (k5 T z)) (QL _),F.hok.fresh (k5 T z)⟩
 have H:=F.noted (h':=h') I t hT ab aa k1 k2 k3 k4 G;have I3:Inv X pins σ H' {s' with heap:=h'}:=s.call' (ch:=[]) H.os H.un H.hok H.bare (λb z=>absurd z (by simp));have eC:u=C:=by
  rcases hx with ⟨_,_,z⟩ | ⟨_,_,dx,_,_,_,z,_⟩
  ·rw[I]at z;have M:Em C a od=Em u a none:=by injection (Option.some.inj z)
   obtain⟨_,_,v,_⟩:Em u a none s'.heap:=M ▸ ⟨vs,sl,t,ht.2⟩;rw[t]at v;cases v;rfl
  ·rw[I]at z;have M:Em C a od=Em u a (some dx):=by injection (Option.some.inj z)
   obtain⟨_,_,v,_⟩:Em u a (some dx) s'.heap:=M ▸ ⟨vs,sl,t,ht.2⟩;rw[t]at v;cases v;rfl
 subst eC;exact k _ u W' nm ks J i ⟨s,H,I3,od,B,sl,I,k3,k4,G⟩ ed ec ex rr
def Lnd.lt(L:Lnd X pins σ H1 s1 a H' s2 C):PySem.W.Looks (BV X.prog X.w) s2.heap (eQ (.ref a)) (.ref C):=by obtain⟨od,j,o,_,i,_⟩:=L.ob;exact(PySem.W.Looks.ld i).andThen .now
variable {j n nm:BP}{G t:GP}{C0 W F:BJ}{r:CQ}{o:List CQ}{name:Option BP}
def hskip(L:Lnd X pins σ H1 s1 a H' s2 C)(J:EC X.K nm C W)(h:RCI X.K X.mg j)(B:j≠nm)(v:j ≠ "WebError")(I:Gl X j)(q:Zd j)
  (k:BL (BV X.prog X.w) X.A (QM (.ref a) X.env rest) Q xe s2):BL (BV X.prog X.w) X.A (QM (.ref a) X.env (.ExceptHandler (some (.Name j G)) name E t::rest)) Q xe s2:=by
 obtain⟨C0,F,H,u,i⟩:=h;refine PN (NB (Gy (X:=X.mrk (.ref a)) (L.I3.mrk _) I H ?_ q)) (by intro z;cases z);exact(PySem.W.exm_one L.I3.KJ L.lt (J.other u B v i)).here (s:=s2) k
def Lnd.down{i:B_}(L:Lnd X pins σ H1 s1 a H' s2 C){od:Option BJ}{vs:Array A_}{u:Array (Option A_)}(H:H' a=some (.ext (Em C a od)))(B:∀T,vs[1]? = some (.ref T)->s1.heap.get? T=none/\H' T=none)
  (A:∀b o,vs[1]? ≠ some (.ref b)->s2.heap.get? b=some o->i.get? b=some o)(v:i.get? a=some ⟨.ref C,od,.fields vs,u⟩):Inv X pins σ H' {s2 with heap:=i}:=by
 have⟨s,q⟩:=L.F.land H B A v;exact L.I1.call' (ch:=[]) L.F.os s q L.F.bare (λb z=>absurd z (by simp))
def vB{C0:BJ}{K:BW}{nm:BP}(i:EC K nm C W)(q:EC K nm C0 F):C=C0:=by have:=i.at_;rw[q.at_]at this;cases this;rfl
variable {B:Ends}{hs:List Hd}
def wj2(L:Lnd X pins σ H1 s1 a H' s2 C)(ec:EC X.K j C W)(h:RCI X.K X.mg j)(hg:Gl X j)(ae:Zd j)(ok:X.Ok)(E:Al X.K c hs ρ σ H')(aa:∀ev:A_,Om (X.mrk ev) c (r::o) g2)
  (q:RQ (unN (g2 ρ)) (Fl.ends X.K c hs B) (Nz X.K c)):BL (BV X.prog X.w) X.A (QM (.ref a) X.env (.ExceptHandler (some (.Name j G)) none (r::o) t::rest)) (SP X pins B) xe s2:=by
 obtain⟨C0,F,hm,af,U⟩:=h;obtain rfl:=vB ec af;refine PN (NB (Gy (X:=X.mrk (.ref a)) (L.I3.mrk _) hg hm ?_ ae)) (by intro z;cases z);refine(PySem.W.exm_one L.I3.KJ L.lt (ec.self U)).here (s:=s2) ?_;have⟨od,vs,sl,hH,k3,k4,ab⟩:=id L.ob;refine codeAny_handlers_suite (qL (s:=s2) k3 k4 λag m1 m2=>?_);let D':Ends:={nx:=B.nx,rt:=B.rt,bk:=λ_ _=>False,ct:=λ_ _=>False};refine DP (aa (.ref a) pins _ σ H' D' ((L.down hH ab m1 m2).mrk _) ⟨hs,ρ,E,?_⟩) (λf s6 J=>?_) (λ_ _ z=>z.elim)
 ·cases T:g2 ρ with
  |bad=>rw[T]at q;exact q.elim
  |exc z=>rw[T]at q;exact q.elim
  |ok fl =>
   rw[T]at q;cases fl with
   |nx I=>exact q
   |rt d2=>exact q
   |bk I=>exact q.elim
   |ct I=>exact q.elim
 ·cases f with
  |next=>obtain⟨i,H,I6,M⟩:=J;exact⟨i,H,I6.unmrk ok,M⟩
  |ret u=>obtain⟨v,i,H,I6,r6,M⟩:=J;exact⟨v,i,H,I6.unmrk ok,r6,M⟩
  |brk=>obtain⟨_,_,_,z⟩:=J;exact z.elim
  |cont=>obtain⟨_,_,_,z⟩:=J;exact z.elim
def sZ(i:Nat)(L:Lnd X pins σ H1 s1 a H' s2 C)(ec:EC X.K j C W)(h:RCI X.K X.mg j)(hg:Gl X j)(af:Zd j)(ok:X.Ok)(E:Al X.K c hs ρ σ H')(ab:∀ev:A_,Om (X.mrk ev) c (r::o) g2)
  {ks fs:List D} {J:List V} (ex:Us X.K H' j ks a J) (rr:Ak X.K H' noS fs J) (nd:X.N.Nodup) (hi:c.O.contains i=false) (hN:X.N[i]? = some n) (hk:X.env.scope.names.lookup n=some .local)
  (q:RQ (unS i (g2 (ρ.set i (some (.exc j ks fs))))) (Fl.ends X.K c hs B) (Nz X.K c)):BL (BV X.prog X.w) X.A (QM (.ref a) X.env (.ExceptHandler (some (.Name j G)) (some n) (r::o) t::rest)) (SP X pins B) xe s2:=by
 obtain⟨C0,F,hm,ag,aa⟩:=h;obtain rfl:=vB ec ag;have U:i∉c.O:=λz=>by have:=List.elem_eq_true_of_mem z;rw[show List.elem i c.O=c.O.contains i from rfl,hi]at this;cases this
 refine PN (NB (Gy (X:=X.mrk (.ref a)) (L.I3.mrk _) hg hm ?_ af)) (by intro z;cases z);refine(PySem.W.exm_one L.I3.KJ L.lt (ec.self aa)).here (s:=s2) ?_;have⟨od,vs,sl,hH,k3,k4,ae⟩:=id L.ob;refine codeAny_handlers_suite_as (qL (s:=s2) k3 k4 λah m1 m2=>?_);refine Wk (X:=X.mrk (.ref a)) (v:=.ref a) ((L.down hH ae m1 m2).mrk _) nd hN (.inl hk) rfl (λs5 I5=>?_) (.inr hk);have E4:Al X.K c hs (ρ.set i (some (.exc j ks fs))) (σ.set i (some (.ref a))) H':=
  Al.set E U ⟨a,J,rfl,.inr (.inl ex),rr.mono (Ab.refl _) λ_ z=>z.elim⟩
 let D':Ends:={nx:=λH I=>B.nx (H.set i none) I,rt:=B.rt,bk:=λ_ _=>False,ct:=λ_ _=>False};refine DP (ab (.ref a) pins s5 (σ.set i (some (.ref a))) H' D' I5 ⟨hs,ρ.set i (some (.exc j ks fs)),E4,?_⟩) (λf s6 hq=>?_) (λ_ _ z=>z.elim)
 ·cases T:g2 (ρ.set i (some (.exc j ks fs))) with
  |bad=>rw[T]at q;exact q.elim
  |exc z=>rw[T]at q;exact q.elim
  |ok fl =>
   rw[T]at q;cases fl with
   |nx M=>exact λH I E'=>q (H.set i none) I (E'.unset U)
   |rt d2=>exact q
   |bk M=>exact q.elim
   |ct M=>exact q.elim
 ·cases f with
  |next=>obtain⟨H,I,I6,q6⟩:=hq;exact uM (I6.unmrk ok) nd hN hk λs7 I7=>⟨H.set i none,I,I7,q6⟩
  |ret u=>obtain⟨v,H,I,I6,r6,q6⟩:=hq;exact uM (I6.unmrk ok) nd hN hk λs7 I7=>⟨v,H.set i none,I,I7,r6,q6⟩
  |brk=>obtain⟨_,_,_,z⟩:=hq;exact z.elim
  |cont=>obtain⟨_,_,_,z⟩:=hq;exact z.elim
end
variable {f1:Ev->R D}{g1:Ev->R Fl}{e:BZ}{m:List D->R D}{hs3:List P_}{es:List BZ}{l:Lv}{kc x1:Nat}{apos p2 p3 pk pos q1 tp tpos:GP}{st:CQ}{x:BP}
variable {ds:List D}
section
variable {c:DC}{s:BZ}{fs:Ev->R (List D)}{k n:Nat}{ps:List BP}
def evM{pl:Sem Bool}(F:MtX X.prog X.w X.K X.mg X.base k x ps n m)(hr:Dd k X.A)(hs:PEd X.nox c .any s f1)(ha:PAd X.nox c .any (e::es) fs)(hn:(e::es).length+1=n)(aq:ps.length=n)
  (ak:Zs X.env e es)(ar:Zp X.env pos es)
  (ht:CP (.Call (.Attribute s x apos) (e::es) [] pos) X.env=(do
   let ov <-CP s X.env
   JW apos.atName
   let (f,first) <-JX [ov] (HX ov x pl)
   JM pos f first (GJ pos (BR (e::es) X.env)) (GR pos (E_ [] X.env))))
  {h:List (BJ×GD)}{s0:BK}{H:Hp}{aa:List Hd}{xe:A_->BK->Prop}{Q:A_->BK->Prop}{dx:D}(I:Inv X h σ H s0)(E:Al X.K c aa ρ σ H)(j:mtA f1 fs ρ=.ok ds)(af:m ds=.exc dx)
  (q:∀a s1 J s' H',Inv X h σ J s1->Ab H J->O8 X.prog X.w X.stack J s1 a H' s'->Ab J H'->Rep X.K H' c.S dx (.ref a)->xe (.ref a) s'):
  BL (BV X.prog X.w) X.A (CP (.Call (.Attribute s x apos) (e::es) [] pos) X.env) Q xe s0:=by
 obtain⟨C,fa,fd,dk,hm,hw,F,hb⟩:=F;have⟨d1,U,j⟩:=Ba j;have⟨pr,G,j⟩:=Ba j;have⟨ab,T,j⟩:=Ba j;cases j;have G:Jt d1=some pr:=by cases hz:Jt d1 with
  |none=>rw[hz]at G;cases G
  |some z=>rw[hz]at G;cases G;rfl
 refine PySem.W.methodCall_KW (pl:=pl) (DP (hs h s0 σ H (λv J=>Ab H J/\Rep X.K J c.S d1 v) (I.wish _) ⟨aa,ρ,E,by rw[U];exact λv J s1 r=>⟨s1,r⟩⟩) (λu s1 hh=>?_) λ_ _ z=>z.elim) ht;obtain⟨v1,J,aw,rv,ag,ah⟩:=hh;have I1:Inv X h σ J s1:=aw.unwish;obtain⟨t,dx,w,kk,ax,rfl,h1,h2,h3,h4,h5,ay⟩:=Qi dk G ah;obtain rfl:u=Value.ref t:=rv;refine Vj I1 h1 dk.cls hm (gB hw) ?_;have E1:Al X.K c aa ρ σ J:=E.mono ag;refine PySem.W.callWith_K (first:=[.ref t]) (h₀:=X.base) I.ok.mod.kin hm.kp (DP (ha pos h s1 σ J (λvs M=>Ab J M/\Ak X.K M c.S ab vs/\ab.length=(e::es).length) (I1.wish _) ⟨aa,ρ,E1,by rw[T];exact λvs M s2 r hl=>⟨s2,r,hl⟩⟩) (λus s2 hh=>?_) λ_ _ z=>z.elim) ak ar;obtain⟨vs,M,au,r,sm,rr,hl⟩:=hh;have I2:Inv X h σ M s2:=au.unwish;refine⟨I2.KJ,?_⟩;have B:Vals (.ref t::vs) (.ref t::us):=.cons rfl r;have ae:Ak X.K M c.S (d1::ab) (.ref t::vs):=⟨_,_,rfl,ah.mono sm λ_ z=>z,rr⟩;have ai:(Value.ref t::us).length=ps.length:=by rw[<-B.length,<-ae.length,L_,hl,hn,aq]
 let EE:XK:=λu _ H'=>∃d v,m (d1::ab)=.exc d/\RelV v u/\Ab M H'/\Rep X.K H' c.S d v;have E2:Al X.K c aa ρ σ M:=E1.mono sm;have plus:∀o,AS.plus c.S M o->c.S o:=λo z=>by
  rcases z with z | ⟨a,rfl,z⟩
  ·exact z
  ·exact(E2.freshN ⟨a,rfl,z⟩).1
 have ao:sp1 X.K n m (.ref t::vs) M (λv H'=>False) EE:=by refine⟨by rw[<-ae.length,L_,hl,hn],c.S,d1::ab,ae,?_⟩;rw[af];exact λv u H' s2 B ru=>⟨_,v,af,ru,s2,B.mono (Ab.refl _) plus⟩
 refine JG (HY (F.run X.A X.stack s2 M ⟨.ref t::us,[]⟩ (.ref t::us) (.ref t::vs) _ EE hr I2.env0 (by have:=hb s2 (.ref t::us) I2.KJ (by rw[SM];exact ai);rw[SM]at this;exact this) B ao) λaj s' hq=>?_);cases aj with
 |error ev =>
  obtain⟨a',H',rfl,FL,d,v,em,rv,s3,rp⟩:=hq;have ev:v=.ref a':=by
   cases v with
   |ref b=>have:Value.ref a'=Value.ref b:=rv;cases this;rfl
   |int i=>obtain⟨t,z⟩:∃t,Value.ref a'=Value.int i t:=rv;cases z
   |str i=>obtain⟨t,z⟩:∃t,Value.ref a'=Value.str i t:=rv;cases z
   |byt i=>obtain⟨t,z⟩:∃t,Value.ref a'=Value.bytes i t:=rv;cases z
   |flt i=>obtain⟨t,z⟩:∃t,Value.ref a'=Value.float i t:=rv;cases z
   |non=>have z:Value.ref a'=Value.none:=rv;cases z
   |bl b=>have z:Value.ref a'=Value.bool b:=rv;cases z
   |ty b=>have z:Value.ref a'=Value.type b:=rv;cases z
  subst ev;rw[af]at em;cases em;exact q a' s2 M s' H' I2 (ag.trans sm) FL s3 rp
 |ok fl =>
  cases fl with
  |ret u=>have⟨v,H',I3,rv,z⟩:=I2.after hq;exact z.elim
  |next=>exact hq.elim
  |brk=>exact hq.elim
  |cont=>exact hq.elim
def an3(j h o:BP)(i:Nat)(fs:Ev->R (List D))(m:List D->R D)(g1 g2 r:Ev->R Fl):Ev->R Fl:=λρ=>(fs ρ).nox.bind λds=>match m ds with
 | .exc d=>if U4 j d=true then unN (g1 ρ) else if U4 h d=true then unS i (g2 (ρ.set i (some d))) else if U4 o d=true then unS i (r (ρ.set i (some d))) else .bad
 |_=>.bad
variable {j h o u w0:BP}{rp Q M p1:GP}{b1 b2 J:CQ}{G B v:List CQ}{r:Ev->R Fl}{t:TS}
def U5{q:BP}{d:D}(h:U4 q d=true):∃ks fs,d=.exc q ks fs:=by
 have⟨A,i⟩:=Qc h;cases d with
 |exc c ks fs=>cases i;exact⟨ks,fs,rfl⟩
 |_=>cases i
def yF{pl:Sem Bool}(i:Nat)(F:MtX X.prog X.w X.K X.mg X.base k x ps n m)(hr:Dd k X.A)(hs:PEd X.nox c .any s f1)(ha:PAd X.nox c .any (e::es) fs)(ba:∀ev:A_,Om (X.mrk ev) c (b1::G) g1)(az:∀ev:A_,Om (X.mrk ev) c (b2::B) g2)(hs3:∀ev:A_,Om (X.mrk ev) c (J::v) r)
  (ae:RCI X.K X.mg j)(aj:RCI X.K X.mg h)(bh:RCI X.K X.mg o)(U:X.stack=X.env::X.outer/\X.env.frame=some X.env.locals)(nd:X.N.Nodup)
  (hn:(e::es).length+1=n:=by rfl)(bb:ps.length=n:=by rfl)(hi:c.O.contains i=false:=by rfl)(hN:X.N[i]? = some u:=by rfl)(hk:X.env.scope.names.lookup u=some .local:=by rfl)
  (aa:Gl X j:=by rfl)(ai:Gl X h:=by rfl)(bf:Gl X o:=by rfl)(ab:Zd j:=by decide)(hd2:Zd h:=by decide)(bg:Zd o:=by decide)
  (ax:j≠h:=by decide +kernel)(aw:j≠o:=by decide +kernel)(au:h≠o:=by decide +kernel)(w1:j ≠ "WebError":=by decide +kernel)(w2:h ≠ "WebError":=by decide +kernel)
  (ay:Zs X.env e es:=by rfl)(bc:Zp X.env pos es:=by rfl)
  (ag:GJ tp (BR [.Constant (.str w0) kc pk,.Call (.Attribute s x apos) (e::es) [] pos] X.env)=(false,CP (.Constant (.str w0) kc pk) X.env)::(false,CP (.Call (.Attribute s x apos) (e::es) [] pos) X.env)::[]:=by rfl)
  (ht:CP (.Call (.Attribute s x apos) (e::es) [] pos) X.env=(do
   let ov <-CP s X.env
   JW apos.atName
   let (f,first) <-JX [ov] (HX ov x pl)
   JM pos f first (GJ pos (BR (e::es) X.env)) (GR pos (E_ [] X.env))):=by rfl):
  PSd X c (.Try [.Return (some (.Tuple [.Constant (.str w0) kc pk,.Call (.Attribute s x apos) (e::es) [] pos] x1 tp)) rp] [.ExceptHandler (some (.Name j q1)) none (b1::G) p1,.ExceptHandler (some (.Name h Q)) (some u) (b2::B) p2,.ExceptHandler (some (.Name o M)) (some u) (J::v) p3] [] [] tpos) (an3 j h o i (mtA f1 fs) m g1 g2 r):=by
 intro bo s0 σ H D I q;obtain⟨ah,ρ,E,q⟩:=q;have⟨ds,bj,q⟩:=RQ.nox (RQ.bind.mp q);refine aD (LK (YW (WL ?_)));rw[ag];refine Calls.spliced_cons (Calls.Constant_str (Calls.spliced_cons ?_));cases em:m ds with
 |ok z=>rw[em]at q;exact q.elim
 |bad=>rw[em]at q;exact q.elim
 |exc dx =>
  rw[em]at q;have q:RQ (if U4 j dx=true then unN (g1 ρ) else if U4 h dx=true then unS i (g2 (ρ.set i (some dx))) else if U4 o dx=true then unS i (r (ρ.set i (some dx))) else .bad) (Fl.ends X.K c ah D) (Nz X.K c):=q;refine evM F hr hs ha hn bb ay bc ht (I.tok _) E bj em λa s1 H1 s' H' I1 ar FL aq rp=>?_;have E4:Al X.K c ah ρ σ H':=E.mono (ar.trans aq);by_cases h1:U4 j dx=true
  ·rw[if_pos h1]at q;have⟨k1,ao,ed⟩:=U5 h1;refine Ve (c:=c) I1 FL rp (Qc h1).1 U λs2 C W nm ks ak af L T ec ex rr=>?_;rw[ed]at T;cases T;exact wj2 L ec ae aa ab I.ok E4 ba q
  rw[if_neg h1]at q;by_cases h2:U4 h dx=true
  ·rw[if_pos h2]at q;have⟨k1,ao,ed⟩:=U5 h2;refine Ve (c:=c) I1 FL rp (Qc h2).1 U λs2 C W nm ks ak af L T ec ex rr=>?_;rw[ed]at T;cases T;rw[ed]at q;exact hskip L ec ae ax w1 aa ab (sZ i L ec aj ai hd2 I.ok E4 az ex rr nd hi hN hk q)
  rw[if_neg h2]at q;by_cases h3:U4 o dx=true
  ·rw[if_pos h3]at q;have⟨k1,ao,ed⟩:=U5 h3;refine Ve (c:=c) I1 FL rp (Qc h3).1 U λs2 C W nm ks ak af L T ec ex rr=>?_;rw[ed]at T;cases T;rw[ed]at q;exact hskip L ec ae aw w1 aa ab (hskip L ec aj au w2 ai hd2 (sZ i L ec bh bf bg I.ok E4 hs3 ex rr nd hi hN hk q))
  rw[if_neg h3]at q;exact q.elim
def ko8(h:PS X st t)(F:∀e s,¬ X.xe e s){T:P_}:PS X (.Try [st] (T::hs3) [] [] tpos) t:=λi s σ H D I q=>by
 refine aD (LK (DP (h i s σ H D I q) (λf U A=>?_) (λe s z=>(F e s z).elim)));cases f with
 |next=>exact JP (JP A)
 |ret u=>exact A
 |brk=>exact A
 |cont=>exact A
end
def fB(K:BW)(m:List D->R D):Sp:=λj H Q _=>j.length=2/\∃S ks ws row t v,j=[.ref t,v]/\Rep K H S (.exc (idn t) ks ws) (.ref t)/\Rep K H S row v /\
 RQ (m [.exc (idn t) ks ws,row]) (λr=>∀(i:Hp)(C o q p:BJ)(h:List Key)(us:List V)(ks' ws':List D),r=.exc (idn t) ks' ws'->Ab H i->H t=some (.ins C o [("webs",.ref q)])->ks'=h.map kyD->h.length=us.length->h.Nodup->Ak K i (AS.plus S H) ws' us->upd i q (.dK (h.zip us)) p=none ->
  Q (.ref p) (upd (upd i q (.dK (h.zip us))) p (.tup [.str "ok",.str "ok"]))) (λ_=>False)
def tWT(K:BW)(c:DC)(m:List D->R D):TS:=λr σ H=>∃ρ t ks ws row,Al K c [] ρ σ H/\ρ[0]? = some (some (.exc (idn t) ks ws))/\ρ[1]? = some (some row) /\
 RQ (m [.exc (idn t) ks ws,row]) (λo=>∀(i:Hp)(C j q p:BJ)(h:List Key)(us:List V)(ks' ws':List D),o=.exc (idn t) ks' ws'->Ab c.H0 i->i t=some (.ins C j [("webs",.ref q)])->ks'=h.map kyD->h.length=us.length->h.Nodup->Ak K i c.S ws' us->upd i q (.dK (h.zip us)) p=none ->
  r.rt (.ref p) (upd (upd i q (.dK (h.zip us))) p (.tup [.str "ok",.str "ok"]))) (λ_=>False)
variable {p:GP}{y y1:BP}
section
variable {c:DC}{p1 rp:GP}{k:Nat}{ps:List BP}{h0:P_}
def yc0{pl:Sem Bool}(F:MtW X.prog X.w X.K X.mg X.base k x ps m)(hr:Dd k X.A)(hx:∀e s,¬ X.xe e s)(hO:c.O=[]:=by rfl)(hN:X.N[0]? = some y:=by rfl)(hv:Vis X.env.scope y:=by first |exact Or.inl rfl |exact Or.inr (Or.inl rfl) |exact Or.inr (Or.inr rfl))(hd:Zd y:=by decide)
  (aj:(y == ("__classdict__" : BP))=false:=by decide)(ak:X.N[1]? = some y1:=by rfl)(aa:Vis X.env.scope y1:=by first |exact Or.inl rfl |exact Or.inr (Or.inl rfl) |exact Or.inr (Or.inr rfl))(ah:Zd y1:=by decide)
  (G:(y1 == ("__classdict__" : BP))=false:=by decide)(r:BR [.Name y1 p1] X.env=(false,CP (.Name y1 p1) X.env)::BR [] X.env:=by rfl)(ab:Zp X.env pos []:=by rfl)
  (j:BR [.Constant (.str "ok") kc pk,.Call (.Attribute (.Name y p) x apos) [.Name y1 p1] [] pos] X.env=(false,CP (.Constant (.str "ok") kc pk) X.env)::BR [.Call (.Attribute (.Name y p) x apos) [.Name y1 p1] [] pos] X.env:=by rfl)
  (i:BR [.Call (.Attribute (.Name y p) x apos) [.Name y1 p1] [] pos] X.env=(false,CP (.Call (.Attribute (.Name y p) x apos) [.Name y1 p1] [] pos) X.env)::BR [] X.env:=by rfl)
  (ht:CP (.Call (.Attribute (.Name y p) x apos) [.Name y1 p1] [] pos) X.env=(do
   let ov <-CP (.Name y p) X.env
   JW apos.atName
   let (f,first) <-JX [ov] (HX ov x pl)
   JM pos f first (GJ pos (BR [.Name y1 p1] X.env)) (GR pos (E_ [] X.env))):=by rfl):
  PSs X [.Try [.Return (some (.Tuple [.Constant (.str "ok") kc pk,.Call (.Attribute (.Name y p) x apos) [.Name y1 p1] [] pos] x1 tp)) rp] (h0::hs3) [] [] tpos] (tWT X.K c m):=by
 obtain⟨C,g,fd,dk,hm,hw,F,hb⟩:=F;refine PSs.imp (Fw (ko8 (gQ (sG (Cp Z7 (Cp (Z6 (pl:=pl) (E:=λ_ _ _=>False) (pv 0 hN hv hd aj) dk.cls hm F hr hb .nil (λ_ _ _ _ _ _ _ z=>z.elim) (Cp (pv 1 ak aa ah G) Jf r) r ab ht) Jf i) j))) hx)) λDe σ H q=>?_;obtain⟨ρ,t,ks,ws,row,E,e0,U,q⟩:=q;obtain⟨v,T,t',vs,rfl,xx,rr⟩:=E.oth 0 _ (by rw[hO];simp) e0;have⟨ai,C',dx,w,kk,g1,g2,g3,g4,g5,g6⟩:=xx.dsk (K6 (.inr rfl));rw[dk.at_]at g1;cases g1;obtain rfl:t=t':=by
  rcases ai with z |z
  ·exact absurd (show(1:Nat)=4 from congrArg (λc:BP=>c.cps.size) z) (by decide)
  ·exact uL z
 have⟨u,h,ru⟩:=E.oth 1 _ (by rw[hO];simp) U;show _;refine⟨.ref t,T,t,dx,_,rfl,g5,gB hw,u,h,?_⟩;refine⟨rfl,c.N ρ σ,ks,ws,row,t,u,rfl,⟨t,vs,rfl,.inr (.inr ⟨.inr rfl,C,dx,w,kk,dk.at_,g2,g3,g4,g5,g6⟩),rr⟩,ru,?_⟩;refine q.mono (λd' z H1 C1 ao q1 Q J M I ed sm B ag hl af rws=>?_) λ_ z=>z;refine⟨by show 2<=sizeLine;rw[CT];decide,λp1 ae=>?_⟩;exact z H1 C1 ao q1 p1 Q J M I ed (E.same.trans sm) (sm _ _ B) ag hl af (rws.mono (Ab.refl _) λo z=>by
  rcases z with z |z
  ·exact z.1
  ·exact(E.freshN z).1) ae
end
variable {P:BX}{w:CN}{K:BW}
theorem ks9{mg:BP->Option A_}{base:B_}{qual:BP}{f:BJ}{fd:CZ}{N ps:List BP}{k:Nat}(F:Fun K x qual st f fd)(S:Br N ps (Ae st))(I:ps.length=2)
  (j:∀(cdv:A_)(A:C_)(outer:List GZ)(s:BK)(H:Hp)(E:XK)(S0:AS),Dd k (A.deeper (envOfC qual (Ae st) s.heap.objs.size f cdv))->(A.deeper (envOfC qual (Ae st) s.heap.objs.size f cdv)).units+70<FN ->
   PSs (Ls CX0 P w K mg base N qual (Ae st) f cdv A outer s H E).nox (Bd st) (tWT K ⟨H,S0,[],Dt,[]⟩ m)):
  Cw P w K mg base CX0 (k+1) f fd ps (fB K m):=by
 refine F.ok S (λvs H Q E h=>h.1.trans I.symm) (λcdv A outer s H vs Q E hr h=>?_);obtain⟨hl,S0,ks,ws,row,t,v,rfl,rd,rr,q⟩:=h;refine⟨_,j cdv A outer s H E S0 hr (by have:=hr.un;lia),Aa N.length [.exc (idn t) ks ws,row],t,ks,ws,row,Kd ⟨_,_,rfl,rd,_,_,rfl,rr,rfl⟩ (λi hi=>by cases hi),rfl,rfl,?_⟩;refine q.mono (λd' z H1 C dx p p1 kk us G B ed sm u aa M J r hp=>?_) λ_ z=>z;have hH:H t=some (.ins C dx [("webs",.ref p)]):=by obtain⟨t2,ab,T,xx,_⟩:=rd;cases T;have⟨_,C2,af,q2,ae,_,_,_,_,g5,_⟩:=xx.dsk (K6 (.inr rfl));have:=sm _ _ g5;rw[u]at this;cases this;exact g5
 exact z H1 C dx p p1 kk us G B ed sm hH aa M J (r.mono (Ab.refl _) λo z=>z.elim .inl λ⟨a,U,T,_⟩=>.inr ⟨a,U,T⟩) hp
variable {H:Hp}
section
variable {K:BW}{S S':AS}{q:BJ}{o o':HO}
mutual
theorem kl9(s:H q=some o)(u:∀z,o≠.tup z):∀(d:D)(v:V),d.imm=true->Rep K H S d v->Rep K (upd H q o') S' d v
 | .non,_,_,h=>h
 | .bl _,_,_,h=>h
 | .int _,_,_,h=>h
 | .str _,_,_,h=>h
 | .tup ds,v,i,h=>by obtain⟨a,j,e,t,r⟩:=h;exact⟨a,j,e,t.imp (λh=>by rw[Ac (λz=>by rw[z,s]at h;exact u _ (Option.some.inj h))];exact h) id,Fd s u ds j i r⟩
 | .lst ds,v,i,h=>by cases i
 | .exc c ks A,v,i,h=>by cases i
theorem Fd(s:H q=some o)(t:∀z,o≠.tup z):∀(ds:List D)(vs:List V),Bf ds=true->Ak K H S ds vs->Ak K (upd H q o') S' ds vs
 | [],_,_,h=>h
 |d::ds,vs,i,h=>by obtain⟨v,r,e,A,u⟩:=h;have j:(d.imm && Bf ds)=true:=i;rw[KN]at j;exact⟨v,r,e,kl9 s t d v j.1 A,Fd s t ds r j.2 u⟩
end
mutual
theorem vR:∀d:D,d.imm=true->Vu d=true
 | .non,_=>rfl
 | .bl _,_=>rfl
 | .int _,_=>rfl
 | .str _,_=>rfl
 | .tup ds,h=>X4 ds h
 | .lst ds,h=>by cases h
 | .exc _ _ _,h=>by cases h
theorem X4:∀ds:List D,Bf ds=true->Ln ds=true
 | [],_=>rfl
 |d::ds,h=>by have i:(d.imm && Bf ds)=true:=h;rw[KN]at i;show(Vu d && Ln ds)=true;rw[vR d i.1,X4 ds i.2];rfl
end
end
def fV(K:BW)(H:Hp)(d:D)(a q:BJ):Prop:=∃(C i:BJ)(h:List Key)(us:List V)(ws:List D),DkC K C/\d=.exc "Desk" (h.map kyD) ws/\H a=some (.ins C i [("webs",.ref q)])/\H q=some (.dK (h.zip us))/\h.length=us.length/\h.Nodup/\Bf ws=true/\Ak K H noS ws us
def fW(K:BW)(H:Hp)(d:D)(b:BJ):Prop:=∃(o:GD)(h:List Key)(us:List V)(ws:List D),d=.exc "dictK" (h.map kyD) ws/\H b=some (.frz o (.dK (h.zip us)))/\h.length=us.length/\h.Nodup/\Bf ws=true/\Ak K H noS ws us
abbrev Ks(ρ:Ev):Ev:=(ρ.set 1 none).set 2 none
inductive DQ(K:BW)(H0:Hp)(S0:AS)(hl:List (BJ×List V))(ρ:Ev)(σ:St)(H:Hp):Prop
 |mk (L M:BJ) (as qs bs:List BJ) (ds es:List D) (Se:AS) (s0:Ab H0 H) (hσ1:σ[1]? = some (some (.ref L))) (hL:H L=some (.lst (as.map V.ref))) (hρ1:ρ[1]? = some (some (.lst ds)))
   (hσ2:σ[2]? = some (some (.ref M)))(hM:H M=some (.lst (bs.map V.ref)))(hρ2:ρ[2]? = some (some (.lst es)))(la:as.length=ds.length)(lq:qs.length=ds.length)(lb:bs.length=es.length)
   (hD:∀(i:Nat)(d:D)(a q:BJ),ds[i]? = some d->as[i]? = some a->qs[i]? = some q->fV K H d a q)(hB:∀(i:Nat)(d:D)(b:BJ),es[i]? = some d->bs[i]? = some b->fW K H d b)(nq:qs.Nodup)(nb:bs.Nodup)(h0:∀b∈L::M::(qs++bs),H0 b=none)
   (E:EvS K H Se (Ks ρ) σ)(nS:∀o,Se o->(C0 H0 S0 []).S o)(dS:∀b∈qs++bs,¬ Se (some b))(hk:∀(j:Nat)(d:D),(Ks ρ)[j]? = some (some d)->Vu d=true)(hh:∀p∈hl,H p.1=some (.lst p.2)):DQ K H0 S0 hl ρ σ H
variable {S0 Se:AS}{H0:Hp}{hl:List (BJ×List V)}
variable {vs:List V}{a:BJ}{j:Nat}
section
variable {K:BW}
def fV.same{d:D}{q:BJ}(h:fV K H d a q)(s:Ab H H'):fV K H' d a q:=by obtain⟨C,I,o,i,ws,G,F,B,A,v,u,t,r⟩:=h;exact⟨C,I,o,i,ws,G,F,s _ _ B,s _ _ A,v,u,t,r.mono s λ_ z=>z⟩
def fW.same{d:D}{b:BJ}(h:fW K H d b)(s:Ab H H'):fW K H' d b:=by obtain⟨o,q,i,ws,B,A,v,u,t,r⟩:=h;exact⟨o,q,i,ws,B,s _ _ A,v,u,t,r.mono s λ_ z=>z⟩
def V4{S:AS}:∀{ds:List D}{vs:List V},vs.length=ds.length->(∀(i:Nat)(d:D)(v:V),ds[i]? = some d->vs[i]? = some v->Rep K H S d v)->Ak K H S ds vs
 | [],[],_,_=>rfl
 |d::ds,v::vs,hl,h=>⟨v,vs,rfl,h 0 d v rfl rfl,V4 (by simpa using hl) λi q o U T=>h (i+1) q o U T⟩
 | [],_::_,hl,_=>by cases hl
 |_::_,[],hl,_=>by cases hl
theorem kp6{d:D}(h:(Ks ρ)[j]? = some (some d)):j≠1/\j≠2/\ρ[j]? = some (some d):=by
 by_cases i:j=2
 ·subst i;by_cases hl:2<(ρ.set 1 none).length
  ·rw[QD hl]at h;cases h
  ·rw[YJ (by rw[RX];omega)]at h;cases h
 ·rw[JR (Ne.symm i)]at h;by_cases o:j=1
  ·subst o;by_cases hl:1<ρ.length
   ·rw[QD hl]at h;cases h
   ·rw[YJ (by rw[RX];omega)]at h;cases h
  ·rw[JR (Ne.symm o)]at h;exact⟨o,i,h⟩
def wa5(h1:j≠1)(h:j≠2):(Ks ρ)[j]? = ρ[j]?:=by rw[JR (Ne.symm h),JR (Ne.symm h1)]
theorem DQ.env(h:DQ K H0 S0 hl ρ σ H):Al K (C0 H0 S0 []) [] ρ σ H:=by
 obtain⟨L,M,as,qs,bs,ds,es,Se,s0,s,hL,u,r,hM,t,la,lq,lb,hD,hB,nq,nb,h0,E,nS,dS,hk,hh⟩:=h;have fr:∀b∈L::M::(qs++bs),(C0 H0 S0 []).N ρ σ (some b):=λb G=>jW.mpr (.inr ⟨b,rfl,h0 b G,λz=>by cases z⟩);refine⟨s0,by have:=E.1;simpa using this,(λi d q=>by cases q),(λi j a q=>by cases q),λj d _ A=>?_,(λP hp=>by cases hp),λb G=>by cases G⟩;by_cases h1:j=1
 ·subst h1;rw[u]at A;cases A;refine⟨_,s,L,_,rfl,.inl ⟨hL,fr L (by simp)⟩,V4 (by rw[HN];exact la) λi d v U T=>?_⟩;have q:i<as.length:=by have:=(MT.mp T).1;rwa [HN]at this
  rw[QC,MJ q]at T;cases T;have⟨C,dx,F,B,ws,g1,g2,g3,g4,Q,J,g7,I⟩:=hD i d as[i] (qs[i]'(by omega)) U (MJ q) (MJ (by omega));subst g2;exact⟨_,B,rfl,.inr (.inr ⟨.inl rfl,C,dx,_,F,g1.at_,rfl,Q,J,g3,g4⟩),I.mono (Ab.refl _) λ_ z=>z.elim⟩
 ·by_cases h2:j=2
  ·subst h2;rw[t]at A;cases A;refine⟨_,r,M,_,rfl,.inl ⟨hM,fr M (by simp)⟩,V4 (by rw[HN];exact lb) λi d v U T=>?_⟩;have q:i<bs.length:=by have:=(MT.mp T).1;rwa [HN]at this
   rw[QC,MJ q]at T;cases T;have⟨o,F,B,ws,g2,g3,Q,J,g7,I⟩:=hB i d bs[i] U (MJ q);subst g2;exact⟨_,B,rfl,.inl ⟨.inr ⟨rfl,F,rfl,Q,J,o,g3⟩,fr _ (by simp)⟩,I.mono (Ab.refl _) λ_ z=>z.elim⟩
  ·have⟨v,U,T⟩:=E.2 j d (by rw[wa5 h1 h2];exact A);exact⟨v,U,T.mono (Ab.refl _) λo z=>jW.mpr (nS o z)⟩
def DQ.mono(h:DQ K H0 S0 hl ρ σ H)(s:Ab H H'):DQ K H0 S0 hl ρ σ H':=by obtain⟨L,M,as,A,bs,ds,es,Se,v,r,hL,u,o,hM,t,Q,I,J,hD,hB,B,F,h0,E,G,dS,hk,hh⟩:=h;exact⟨L,M,as,A,bs,ds,es,Se,v.trans s,r,s _ _ hL,u,o,s _ _ hM,t,Q,I,J,λi d a q U T e3=>(hD i d a q U T e3).same s,λi d b U T=>(hB i d b U T).same s,B,F,h0,E.mono s λ_ z=>z,G,dS,hk,λp hp=>s _ _ (hh p hp)⟩
def u0{d:Option D}(h1:j≠1)(h:j≠2):Ks (ρ.set j d)=(Ks ρ).set j d:=by unfold Ks;rw[gY _ _ h1,gY _ _ h]
theorem DQ.setv{d:D}{v:V}{S:AS}(h:DQ K H0 S0 hl ρ σ H)(h1:j≠1)(u:j≠2)(A:d.imm=true)(F:Rep K H S d v):DQ K H0 S0 hl (ρ.set j (some d)) (σ.set j (some v)) H:=by
 obtain⟨L,M,as,G,bs,ds,es,Se,B,q,hL,s,o,hM,r,la,T,U,hD,hB,I,J,h0,E,Q,dS,hk,hh⟩:=h;refine⟨L,M,as,G,bs,ds,es,Se,B,by rw[JR h1];exact q,hL,by rw[JR h1];exact s,by rw[JR u];exact o,hM,by rw[JR u];exact r,la,T,U,hD,hB,I,J,h0,?_,Q,dS,λi d' e=>?_,hh⟩
 ·rw[u0 h1 u];exact E.put A F
 ·rw[u0 h1 u]at e;by_cases t:i=j
  ·subst t;by_cases hl:i<(Ks ρ).length
   ·rw[QD hl]at e;cases e;exact vR _ A
   ·rw[YJ (by rw[RX];omega)]at e;cases e
  ·rw[JR (Ne.symm t)]at e;exact hk i d' e
def DQ.less{s:List (BJ×List V)}(h:DQ K H0 S0 hl ρ σ H)(hs:∀p∈s,p∈hl):DQ K H0 S0 s ρ σ H:=by obtain⟨L,M,as,u,bs,ds,es,Se,t,o,hL,r,i,U,q,I,F,G,hD,hB,v,A,h0,E,B,dS,Q,T⟩:=h;exact⟨L,M,as,u,bs,ds,es,Se,t,o,hL,r,i,U,q,I,F,G,hD,hB,v,A,h0,E,B,dS,Q,λp J=>T p (hs p J)⟩
def DQ.more{b:BJ}(h:DQ K H0 S0 hl ρ σ H)(T:H b=some (.lst vs)):DQ K H0 S0 ((b,vs)::hl) ρ σ H:=by obtain⟨L,M,as,t,bs,ds,es,Se,s,o,hL,r,i,U,q,G,B,F,hD,hB,u,v,h0,E,A,dS,J,Q⟩:=h;exact⟨L,M,as,t,bs,ds,es,Se,s,o,hL,r,i,U,q,G,B,F,hD,hB,u,v,h0,E,A,dS,J,λp I=>(I_.mp I).elim (λe=>by rw[e];exact T) (Q p)⟩
def DQ.held(h:DQ K H0 S0 hl ρ σ H){b:BJ}(t:(b,vs)∈hl):H b=some (.lst vs):=by obtain⟨L,M,as,v,bs,ds,es,Se,u,o,U,r,i,T,q,J,G,I,hD,hB,A,B,h0,E,F,dS,Q,s⟩:=h;exact s _ t
end
variable {ks' ws' ws:List D}{A:BP}{us':List V}{kk':List Key}
section
variable {K:BW}
def vN{h:Type}{l:List h}(n:l.Nodup){i:Nat}{a:h}(h1:l[i]? = some a)(r:l[j]? = some a):i=j:=by
 have⟨q,o⟩:=MT.mp h1;have⟨b1,b2⟩:=MT.mp r;rcases Nat.lt_trichotomy i j with z |z |z
 ·exact absurd (o.trans b2.symm) (xZ.mp n i j q b1 z)
 ·exact z
 ·exact absurd (b2.trans o.symm) (xZ.mp n j i b1 q z)
def Wo{d:Option D}:Ks (ρ.set 1 d)=Ks ρ:=by unfold Ks;rw[List.set_set]
def Wq{d:Option D}:Ks (ρ.set 2 d)=Ks ρ:=by unfold Ks;rw[gY _ _ (by decide),List.set_set];exact gY _ _ (by decide)
theorem DQ.wrK{k:Nat}{ks:List D}{S:AS}(h:DQ K H0 S0 hl ρ σ H)(ae:ρ[1]? = some (some (.lst ds)))(hd:ds[k]? = some (.exc A ks ws))(s:Ab H H'):
  ∃(L:BJ)(Q:List BJ)(a q C dx:BJ),σ[1]? = some (some (.ref L))/\H L=some (.lst (Q.map V.ref))/\Q[k]? = some a/\DkC K C/\H a=some (.ins C dx [("webs",.ref q)])/\Rep K H noS (.exc (idn a) ks ws) (.ref a) /\
   (ks'=kk'.map kyD->kk'.length=us'.length->kk'.Nodup->Bf ws'=true->Ak K H' S ws' us'->DQ K H0 S0 hl (ρ.set 1 (some (.lst (ds.set k (.exc "Desk" ks' ws'))))) σ (upd H' q (.dK (kk'.zip us')))):=by
 obtain⟨L,M,Q,qs,bs,aj,es,Se,s0,B,hL,F,aa,hM,ab,la,lq,lb,hD,hB,nq,nb,h0,E,nS,dS,hk,hh⟩:=h;rw[F]at ae;cases ae;have ag:k<ds.length:=(MT.mp hd).1;have ha:Q[k]? = some (Q[k]'(by omega)):=MJ _;have hq:qs[k]? = some (qs[k]'(by omega)):=MJ _;have⟨C,dx,kk,us,ai,g1,g2,g3,g4,g5,g6,g7,g8⟩:=hD k _ _ _ hd ha hq;cases g2;refine⟨L,Q,_,_,C,dx,B,hL,ha,g1,g3,⟨_,us,rfl,.inr (.inr ⟨.inr rfl,C,dx,_,kk,g1.at_,rfl,g5,g6,g3,g4⟩),g8⟩,λU T e3 e4 e5=>?_⟩;have af:qs[k]'(by omega)∈qs++bs:=oE _ (dJ _);have u:=s _ _ g4;have hi:1<ρ.length:=(MT.mp F).1;have nl:∀{b:BJ}{vs:List V},H b=some (.lst vs)->upd H' (qs[k]'(by omega)) (.dK (kk'.zip us')) b=some (.lst vs):=λ{b vs} z=>by rw[Ac (λe=>by rw[e,g4]at z;cases z)];exact s _ _ z
 refine⟨L,M,Q,qs,bs,_,es,Se,vA (s0.trans s) (h0 _ (by simp only[I_];exact .inr (.inr af))),B,nl hL,QD hi,aa,nl hM,by rw[JR (by decide)];exact ab,by rw[RX];exact la,by rw[RX];exact lq,lb,λi d a q z1 z2 z3=>?_,λi d b z1 z2=>?_,nq,nb,h0,?_,nS,dS,by rw[Wo];exact hk,λp hp=>nl (hh p hp)⟩
 ·by_cases J:i=k
  ·subst J;rw[QD ag]at z1;cases z1;rw[ha]at z2;cases z2;rw[hq]at z3;cases z3;refine⟨C,dx,kk',us',ws',g1,by rw[U],?_,Af,T,e3,e4,Fd u (λ_ z=>by cases z) ws' us' e4 e5⟩;rw[Ac (λe=>by rw[e,g4]at g3;cases g3)];exact s _ _ g3
  ·rw[JR (Ne.symm J)]at z1;have⟨C1,ah,I,t,r,y1,y2,G,y4,y5,y6,y7,y8⟩:=hD i d a q z1 z2 z3;refine⟨C1,ah,I,t,r,y1,y2,?_,?_,y5,y6,y7,Fd u (λ_ z=>by cases z) r t y7 (y8.mono s λ_ z=>z)⟩
   ·rw[Ac (λe=>by rw[e,g4]at G;cases G)];exact s _ _ G
   ·rw[Ac (λe=>J (vN nq z3 (by rw[hq,e])))];exact s _ _ y4
 ·have⟨o,I,t,r,y2,G,y5,y6,y7,y8⟩:=hB i d b z1 z2;refine⟨o,I,t,r,y2,?_,y5,y6,y7,Fd u (λ_ z=>by cases z) r t y7 (y8.mono s λ_ z=>z)⟩;rw[Ac (λe=>by rw[e,g4]at G;cases G)];exact s _ _ G
 ·rw[Wo];exact⟨E.1,λj d hj=>by have⟨v,x1,x2⟩:=E.2 j d hj;exact⟨v,x1,t7 u d v (hk j d hj) (x2.mono s λ_ z=>z)⟩⟩
theorem DQ.wrD{k:Nat}{es:List D}{ks:List D}{S:AS}{ob':GD}(h:DQ K H0 S0 hl ρ σ H)(ae:ρ[2]? = some (some (.lst es)))(hd:es[k]? = some (.exc A ks ws))(s:Ab H H'):
  ∃(M:BJ)(bs:List BJ)(b:BJ)(o:GD)(kk:List Key)(us:List V),σ[2]? = some (some (.ref M))/\H M=some (.lst (bs.map V.ref))/\bs[k]? = some b/\H0 b=none/\H b=some (.frz o (.dK (kk.zip us)))/\ks=kk.map kyD/\kk.length=us.length/\kk.Nodup/\Bf ws=true/\Ak K H noS ws us /\
   (ks'=kk'.map kyD->kk'.length=us'.length->kk'.Nodup->Bf ws'=true->Ak K H' S ws' us'->DQ K H0 S0 hl (ρ.set 2 (some (.lst (es.set k (.exc "dictK" ks' ws'))))) σ (upd H' b (.frz ob' (.dK (kk'.zip us'))))):=by
 obtain⟨L,M,as,qs,bs,ds,ak,Se,s0,aa,hL,ab,B,hM,F,la,lq,lb,hD,hB,nq,nb,h0,E,nS,dS,hk,hh⟩:=h;rw[F]at ae;cases ae;have ah:k<es.length:=(MT.mp hd).1;have hb:bs[k]? = some (bs[k]'(by omega)):=MJ _;have⟨o,kk,us,aj,g2,g4,g5,g6,g7,g8⟩:=hB k _ _ hd hb;cases g2;have af:bs[k]'(by omega)∈qs++bs:=RZ _ (dJ _);have ag:=h0 _ (show bs[k]'(by omega)∈L::M::(qs++bs) by simp only[I_];exact .inr (.inr af));refine⟨M,bs,_,o,kk,us,B,hM,hb,ag,g4,rfl,g5,g6,g7,g8,λU T e3 e4 e5=>?_⟩;have u:=s _ _ g4;have hi:2<ρ.length:=(MT.mp F).1;have nl:∀{b:BJ}{vs:List V},H b=some (.lst vs)->upd H' (bs[k]'(by omega)) (.frz ob' (.dK (kk'.zip us'))) b=some (.lst vs):=λ{b vs} z=>by rw[Ac (λe=>by rw[e,g4]at z;cases z)];exact s _ _ z
 refine⟨L,M,as,qs,bs,ds,_,Se,vA (s0.trans s) ag,aa,nl hL,by rw[JR (by decide)];exact ab,B,nl hM,QD hi,la,lq,by rw[RX];exact lb,λi d a q Q J z3=>?_,λi d b Q J=>?_,nq,nb,h0,?_,nS,dS,by rw[Wq];exact hk,λp hp=>nl (hh p hp)⟩
 ·have⟨C1,ai,G,t,r,y1,y2,y3,y4,y5,y6,y7,y8⟩:=hD i d a q Q J z3;refine⟨C1,ai,G,t,r,y1,y2,?_,?_,y5,y6,y7,Fd u (λ_ z=>by cases z) r t y7 (y8.mono s λ_ z=>z)⟩
  ·rw[Ac (λe=>by rw[e,g4]at y3;cases y3)];exact s _ _ y3
  ·rw[Ac (λe=>by rw[e,g4]at y4;cases y4)];exact s _ _ y4
 ·by_cases I:i=k
  ·subst I;rw[QD ah]at Q;cases Q;rw[hb]at J;cases J;exact⟨ob',kk',us',ws',by rw[U],Af,T,e3,e4,Fd u (λ_ z=>by cases z) ws' us' e4 e5⟩
  ·rw[JR (Ne.symm I)]at Q;have⟨o1,G,t,r,y2,y3,y5,y6,y7,y8⟩:=hB i d b Q J;refine⟨o1,G,t,r,y2,?_,y5,y6,y7,Fd u (λ_ z=>by cases z) r t y7 (y8.mono s λ_ z=>z)⟩;rw[Ac (λe=>I (vN nb J (by rw[hb,e])))];exact s _ _ y3
 ·rw[Wq];exact⟨E.1,λj d hj=>by have⟨v,x1,x2⟩:=E.2 j d hj;exact⟨v,x1,(x2.mono s λ_ z=>z).wrD u rfl (dS _ af)⟩⟩
end
def Fl.endK(K:BW)(H0:Hp)(S0:AS)(hl:List (BJ×List V))(E:Ends):R Fl->Prop
 | .ok (.nx ρ)=>∀h H',DQ K H0 S0 hl ρ h H'->E.nx h H'
 | .ok (.bk ρ)=>∀h H',DQ K H0 S0 hl ρ h H'->E.bk h H'
 | .ok (.ct ρ)=>∀h H',DQ K H0 S0 hl ρ h H'->E.ct h H'
 | .ok (.rt d)=>∀v H',Ab H0 H'->Rep K H' (C0 H0 S0 []).S d v->E.rt v H'
 |_=>False
def tKS(K:BW)(H0:Hp)(S0:AS)(g:Ev->R Fl):TS:=λE σ H=>∃hl ρ,DQ K H0 S0 hl ρ σ H/\Fl.endK K H0 S0 hl E (g ρ)
variable {t:Ev->R Bool}{f f2 f3:Ev->R D}{b:Ev->R Fl}{U T e3:BZ}{rest:List CQ}{cpos Z:GP}
section
variable {g:Ev->R Fl}
def ksn:PSs X [] (tKS X.K H0 S0 nop):=PSs.imp uA λD σ H ⟨hl,ρ,N,q⟩=>q σ H N
def ksc(h1:PS X st (tKS X.K H0 S0 g1))(r:PSs X rest (tKS X.K H0 S0 g2)):PSs X (st::rest) (tKS X.K H0 S0 (sq g1 g2)):=PSs.imp (G6 h1 r) λD σ H q=>by
 obtain⟨i,ρ,N,q⟩:=q;refine⟨i,ρ,N,?_⟩;unfold sq at q;cases e:g1 ρ with
 |ok s =>
  rw[e]at q;cases s with
  |nx h=>exact λo H' u=>⟨i,h,u,q⟩
  |rt d=>exact q
  |bk _=>exact q
  |ct _=>exact q
 |exc x=>rw[e]at q;exact q.elim
 |bad=>rw[e]at q;exact q.elim
def kif{d:BZ}{o bs:List CQ}(r:PTd X (C0 H0 S0 []) d t)(u:PSs X o (tKS X.K H0 S0 g1))(s:PSs X bs (tKS X.K H0 S0 g2)):PS X (.If d o bs pos) (tKS X.K H0 S0 (ifS t g1 g2)):=PS.imp (j4 r u s) λD σ H q=>by
 obtain⟨h,ρ,N,q⟩:=q;unfold ifS at q;cases e:t ρ with
 |ok k =>
  rw[e]at q;refine Ga N.env ?_;rw[e];intro v i _;have q:Fl.endK X.K H0 S0 h D (if k=true then g1 ρ else g2 ρ):=q;cases k with
  |true=>rw[if_pos rfl]at q ⊢;exact⟨h,ρ,N.mono i,q⟩
  |false=>rw[if_neg TY]at q ⊢;exact⟨h,ρ,N.mono i,q⟩
 |exc x=>rw[e]at q;exact q.elim
 |bad=>rw[e]at q;exact q.elim
def jJ(h:PEd X (C0 H0 S0 []) .any e f):PS X (.Return (some e) pos) (tKS X.K H0 S0 (Ew f)):=PS.imp (gQ h) λD σ H q=>by
 obtain⟨u,ρ,N,q⟩:=q;unfold Ew at q;refine Ag N.env ?_;cases e:f ρ with
 |ok d=>rw[e]at q;exact λv i s o r=>q v i o.same r
 |exc x=>rw[e]at q;exact q.elim
 |bad=>rw[e]at q;exact q.elim
def Wu(j:Nat)(f:Ev->R D):Ev->R Fl:=λρ=>match f ρ with
 | .ok d=>if d.imm=true then .ok (.nx (ρ.set j (some d))) else .bad
 |_=>.bad
variable {p1:GP}
def jH(j:Nat)(u:X.N.Nodup)(I:PEd X (C0 H0 S0 []) .any e f)(h1:j≠1:=by decide)(M:j≠2:=by decide)(J:X.N[j]? = some x:=by rfl)(B:Loc X.env.scope x:=by first |exact Or.inl rfl |exact Or.inr rfl)(h:CW e (some (.Name x Z)) pos.line X.env=pure false:=by rfl)
  (G:X.fn x=true\/X.env.scope.names.lookup x=some .local:=by first |exact .inl rfl |exact .inr rfl):PS X (.Assign [.Name x Z] e pos) (tKS X.K H0 S0 (Wu j f)):=PS.imp (O5 (i:=j) u J B I h G) λD σ H q=>by
 obtain⟨F,ρ,N,q⟩:=q;unfold Wu at q;refine Ag N.env ?_;cases e:f ρ with
 |ok d =>
  rw[e]at q;intro v Q s E1 r;have q:Fl.endK X.K H0 S0 F D (if d.imm=true then .ok (.nx (ρ.set j (some d))) else .bad):=q;by_cases o:d.imm=true
  ·rw[if_pos o]at q;exact q _ _ ((N.mono s).setv h1 M o r)
  ·rw[if_neg o]at q;exact q.elim
 |exc x=>rw[e]at q;exact q.elim
 |bad=>rw[e]at q;exact q.elim
end
theorem Xu(k:Key){v:D}(o:v.imm=true):∀(ks i:List D),Bf i=true->Bf (Cu ks i k v).2=true
 | [],i,_=>by simp only[Cu,Bf,o];rfl
 |kd::ks,[],_=>by simp only[Cu,Bf,o];rfl
 |kd::ks,f::i,h=>by
  have q:(f.imm && Bf i)=true:=h;rw[KN]at q;unfold Cu;split
  ·show(v.imm && Bf i)=true;rw[o,q.2];rfl
  ·show(f.imm && Bf (Cu ks i k v).2)=true;rw[q.1,Xu k o ks i q.2];rfl
def cN(f1 f2 f3:Ev->R D):Ev->R Fl:=λρ=>match ρ[(2:Nat)]?,f3 ρ,f1 ρ,f2 ρ with
 |some (some (.lst es)),.ok v,.ok (.int (.ofNat k)),.ok kd=>match es[k]?,kyO kd with
   |some (.exc c ks h),some key=>if v.imm=true/\ks.length<16777216 then .ok (.nx (ρ.set 2 (some (.lst (es.set k (.exc "dictK" (Cu ks h key v).1 (Cu ks h key v).2)))))) else .bad
   |_,_=>.bad
 |_,_,_,_=>.bad
def jX(P:BX)(w:CN)(K:BW)(mg:BP->Option A_)(base:B_)(k:Nat)(x:BP)(ps:List BP)(m:List D->R D):Prop:=
 ∃(f:BJ)(fd:CZ),Cw P w K mg base CX0 k f fd ps (fB K m)/\mg x=some (.ref f)/\PySem.W.keepIn K (.ref f)=true/\Binds K fd ps []
def bB(j:Nat)(i f1 f2:Ev->R D)(h:List D->R D):Ev->R Fl:=λρ=>match i ρ with
 | .ok d=>if d.imm=true then .ok (.nx (ρ.set j (some d))) else .bad
 |_=>match ρ[(1:Nat)]?,f1 ρ,f2 ρ with
  |some (some (.lst ds)),.ok (.int (.ofNat k)),.ok row=>match ds[k]? with
   |some (.exc c ks ws)=>match wrM h ks ws row with
    | .ok r=>if Bf r.2=true then .ok (.nx ((ρ.set 1 (some (.lst (ds.set k (.exc "Desk" r.1 r.2))))).set j (some (.tup [.str "ok",.str "ok"])))) else .bad
    |_=>.bad
   |_=>.bad
  |_,_,_=>.bad
section
variable {g:Ev->R Fl}{o:Ev->R D}
variable {fn:BP}{p1:GP}
theorem zM(hu:X.A.units+70<FN)(hX:∀b,H0 b=none->X.H₀ b=none)(h3:PEd X (C0 H0 S0 []) .any e3 f3)(h1:PEd X (C0 H0 S0 []) .any U f1)(h2:PEd X (C0 H0 S0 []) .any T f2)(hN:X.N[2]? = some y:=by rfl)
  (hv:Vis X.env.scope y:=by first |exact Or.inl rfl |exact Or.inr (Or.inl rfl) |exact Or.inr (Or.inr rfl))(hd:Zd y:=by decide)
  (J:(y == ("__classdict__" : BP))=false:=by decide)(I:Ug U:=by exact λ_ _=>rfl)
  (hs:CW e3 (some (.Subscript (.Subscript (.Name y p) U p1) T Z)) pos.line X.env=pure false:=by rfl):
  PS X (.Assign [.Subscript (.Subscript (.Name y p) U p1) T Z] e3 pos) (tKS X.K H0 S0 (cN f1 f2 f3)):=
 PS.imp (ka4 (by lia) (j5 Zv (pv 2 hN hv hd J) h1 I) h2 h3 hs) λD0 σ H q=>by
 obtain⟨hl,ρ,N,q⟩:=q;unfold cN at q;split at q
 case h_2=>exact q.elim
 rename_i es v k kd i aa ae ab;split at q
 case h_2=>exact q.elim
 rename_i c ks fs key hk s;by_cases u:v.imm=true/\ks.length<16777216
 case neg=>rw[if_neg u]at q;exact q.elim
 rw[if_pos u]at q;refine Ag N.env ?_;rw[aa];intro v3 H3 s3 _ r3;have W0:=N.wrD (ks':=[]) (ws':=[]) (us':=[]) (kk':=[]) (S:=noS) (ob':=default) i hk (Ab.refl _);obtain⟨M,bs,b,o,kk,us,g1,g2,g3,g4,g5,g6,g7,g8,g9,Q,_⟩:=W0;refine⟨.ref M,g1,Ag (N.mono s3).env ?_⟩;rw[ae];intro v1 H1 s1 _ r1;cases(show v1=.int (Int.ofNat k) from r1);have F:=s3.trans s1;refine⟨M,bs.map V.ref,Int.ofNat k,.ref b,rfl,rfl,SqL.of (F _ _ g2),Yx (by rw[QC,g3];rfl),Ag (N.mono F).env ?_⟩;rw[ab];intro v2 H2 s2 _ r2;have st:=F.trans s2;have ey:v2=kV key:=by rw[K9 s]at r2;cases key<;>exact r2
 subst ey;have r:(kk.zip us).length<sizeLine:=by
  have h1:ks.length=kk.length:=by rw[g6,HN]
  rw[dH,CT];have:=u.2;lia
 refine⟨b,o,_,key,rfl,st _ _ g5,hX b g4,rfl,r,λob'=>?_⟩;have G:Rep X.K H2 noS v v3:=Up v v3 u.1 (r3.mono (s1.trans s2) λ_ z=>z);have⟨kk',B,p1,p2,p3,_,p5,p6⟩:=Rj key G g7 g8 (Q.mono st λ_ z=>z);rw[p1];rw[<-g6]at p5 p6;have⟨M',af,b',o',ai,ah,y1,y2,y3,y4,y5,y6,y7,y8,y9,ag,K2⟩:=N.wrD (ks':=(Cu ks fs key v).1) (ws':=(Cu ks fs key v).2) (us':=B) (kk':=kk') (S:=noS) (ob':=ob') i hk st;have eM:M'=M:=by rw[g1]at y1;cases y1;rfl
 subst eM;have eb:af=bs:=by rw[g2]at y2;have z:=Option.some.inj y2;injection z with z;exact(xK (λa b h=>by cases h;rfl)).mp z.symm
 subst eb;rw[g3]at y3;cases y3;exact q σ _ (K2 p5 p2 p3 (Xu key u.1 ks fs g9) p6)
theorem zP{k:Nat}{ps:List BP}{mW:List D->R D}(j:Nat)(nd:X.N.Nodup)(F2:jX X.prog X.w X.K X.mg X.base k fn ps mW)(hr:Dd k X.A)(hA:PEd X (C0 H0 S0 []) .any (.Call (.Name fn p2) [.Subscript (.Name y p) U p1,T] [] cpos) o)(h1:PEd X (C0 H0 S0 []) .any U f1)(h2:PEd X (C0 H0 S0 []) .any T f2)
  (j1:j≠1:=by decide)(j2:j≠2:=by decide)(hN:X.N[j]? = some x:=by rfl)(hx:Loc X.env.scope x:=by first |exact Or.inl rfl |exact Or.inr rfl)(Q:CW (.Call (.Name fn p2) [.Subscript (.Name y p) U p1,T] [] cpos) (some (.Name x Z)) pos.line X.env=pure false:=by rfl)
  (hf:X.fn x=true\/X.env.scope.names.lookup x=some .local:=by first |exact .inl rfl |exact .inr rfl)
  (au:X.N[1]? = some y:=by rfl)(hv:Vis X.env.scope y:=by first |exact Or.inl rfl |exact Or.inr (Or.inl rfl) |exact Or.inr (Or.inr rfl))(hd:Zd y:=by decide)
  (ar:(y == ("__classdict__" : BP))=false:=by decide)(ai:Ug U:=by exact λ_ _=>rfl)(hg:Gl X fn:=by rfl)(aq:Zd fn:=by decide)
  (F:BR [.Subscript (.Name y p) U p1,T] X.env=(false,CP (.Subscript (.Name y p) U p1) X.env)::BR [T] X.env:=by rfl)(aa:BR [T] X.env=(false,CP T X.env)::BR [] X.env:=by rfl)(ah:Zp X.env cpos [T]:=by rfl):
  PS X (.Assign [.Name x Z] (.Call (.Name fn p2) [.Subscript (.Name y p) U p1,T] [] cpos) pos) (tKS X.K H0 S0 (bB j o f1 f2 mW)):=λu s σ H D I q=>by
 obtain⟨hl,ρ,N,q⟩:=q;unfold bB at q;have other:(∀d,o ρ≠.ok d)->Fl.endK X.K H0 S0 hl D (match ρ[(1:Nat)]?,f1 ρ,f2 ρ with
  |some (some (.lst ds)),.ok (.int (.ofNat k)),.ok row=>match ds[k]? with
   |some (.exc c ks ws)=>match wrM mW ks ws row with
    | .ok r=>if Bf r.2=true then .ok (.nx ((ρ.set 1 (some (.lst (ds.set k (.exc "Desk" r.1 r.2))))).set j (some (.tup [.str "ok",.str "ok"])))) else .bad
    |_=>.bad
   |_=>.bad
  |_,_,_=>.bad)->BL (BV X.prog X.w) X.A (exec (.Assign [.Name x Z] (.Call (.Name fn p2) [.Subscript (.Name y p) U p1,T] [] cpos) pos) X.env) (SP X u D) X.xe s:=λ_ q=>by
  obtain⟨ff,fd,F2,hm,hk,hb⟩:=F2;refine O5 (i:=j) nd hN hx (Z4 (E:=λ_ _ _=>False) F2 hr hg hm hk hb .nil (λ_ _ _ _ _ _ _ z=>z.elim) (Cp (j5 Zv (pv 1 au hv hd ar) h1 ai) (Cp h2 Jf aa) F) aq F ah) Q hf u s σ H D I ?_;split at q
  case h_2=>exact q.elim
  rename_i ds k row M ay ax;split at q
  case h_2=>exact q.elim
  rename_i c ks ws ae;split at q
  case h_2=>exact q.elim
  rename_i r er;by_cases hc:Bf r.2=true
  case neg=>rw[if_neg hc]at q;exact q.elim
  rw[if_pos hc]at q;obtain⟨L,as,a,qq,C,dx,g1,g2,g3,g4,g5,g6,_⟩:=N.wrK (ks':=[]) (ws':=[]) (us':=[]) (kk':=[]) (S:=noS) M ae (Ab.refl _);refine⟨.ref L,g1,Ag N.env ?_⟩;rw[ay];intro v1 H1 J _ r1;cases(show v1=.int (Int.ofNat k) from r1);refine⟨L,as.map V.ref,Int.ofNat k,.ref a,rfl,rfl,SqL.of (J _ _ g2),Yx (by rw[QC,g3];rfl),Ag (N.mono J).env ?_⟩;rw[ax];intro v2 H2 s2 _ r2;have st:=J.trans s2;obtain⟨pr,ag,aw⟩:=wb2 (q:=λz=>z=r) (e:=λ_=>False) (by rw[er];rfl);subst aw;refine⟨rfl,(C0 H0 S0 []).S,ks,ws,row,a,v2,rfl,(g6.mono st λ_ z=>z.elim),r2,?_⟩;rw[ag a];intro H3 C3 bc q3 p3 af us3 bb ba ed sm ab ao ak aj rws hp;injection ed with _ ek ew;have B:=st _ _ g5;rw[ab]at B;cases B;have G:=st.trans sm;obtain⟨L',az,a',q',C',bf,y1,y2,y3,y4,y5,y6,K2⟩:=N.wrK (ks':=pr.1) (ws':=pr.2) (us':=us3) (kk':=af) (S:=AS.plus (C0 H0 S0 []).S H2) M ae G;have eL:L'=L:=by rw[g1]at y1;cases y1;rfl
  subst eL;have ea:az=as:=by rw[g2]at y2;have z:=Option.some.inj y2;injection z with z;exact(xK (λa b h=>by cases h;rfl)).mp z.symm
  subst ea;rw[g3]at y3;cases y3;rw[g5]at y5;cases y5;have N3:=K2 (ek.trans ao) ak aj hc (ew ▸ rws);exact q _ _ ((N3.mono (Ao hp _)).setv (S:=noS) j1 j2 rfl ⟨p3,[.str "ok",.str "ok"],rfl,.inl Af,⟨_,_,rfl,rfl,_,_,rfl,rfl,rfl⟩⟩)
 cases e:o ρ with
 |ok d =>
  rw[e]at q;have q:Fl.endK X.K H0 S0 hl D (if d.imm=true then .ok (.nx (ρ.set j (some d))) else .bad):=q;refine O5 (i:=j) nd hN hx hA Q hf u s σ H D I (Ag N.env ?_);rw[e];intro v H1 J E1 r;by_cases hd:d.imm=true
  ·rw[if_pos hd]at q;exact q _ _ ((N.mono J).setv j1 j2 hd r)
  ·rw[if_neg hd]at q;exact q.elim
 |exc x=>rw[e]at q;exact other (λd z=>by rw[e]at z;cases z) q
 |bad=>rw[e]at q;exact other (λd z=>by rw[e]at z;cases z) q
end
def fM:D->Bool
 | .int _=>true
 |_=>false
def Yn(j:Nat):D->Ev->R Ev:=λd ρ=>.ok (ρ.set j (some d))
def aP(j:Nat)(f:Ev->R D)(b:Ev->R Fl):Ev->R Fl:=λρ=>match f ρ with
 | .ok (.lst h)=>if h.all fM=true then Bu h (Yn j) b ρ else .bad
 |_=>.bad
def km0{S:AS}:∀{xs:List D}{vs:List V}{i:Nat}{d:D}{v:V},Ak K H S xs vs->xs.all fM=true->xs[i]? = some d->vs[i]? = some v->∃n,d=.int n/\v=.int n:=λ{xs vs i d v} r o U T=>by
 have⟨w,e3,h⟩:=r.get U;rw[T]at e3;cases e3;have:=SN.mp o d (ZZ U);cases d with
 |int n=>exact⟨n,rfl,h⟩
 |_=>cases this
section
variable {g:Ev->R Fl}
theorem zN(j:Nat)(hp:bL (BV X.prog X.w) X.A X.env X.xe)(hc:X.calm=true)(nd:X.N.Nodup)(he:PEf X (C0 H0 S0 []) .any e f)(hb:PSs X E (tKS X.K H0 S0 b))(j1:j≠1:=by decide)(j2:j≠2:=by decide)(hN:X.N[j]? = some x:=by rfl)(hx:Loc X.env.scope x:=by first |exact Or.inl rfl |exact Or.inr rfl)
  (hf:X.fn x=true\/X.env.scope.names.lookup x=some .local:=by first |exact .inl rfl |exact .inr rfl)(ab:∀x,DY e X.env x=pure x:=by intro _;rfl):
  PS X (.For (.Name x q1) e E [] pos) (tKS X.K H0 S0 (aP j f b)):=
 PS.imp (rY hp hc (sE he) (Z8 (i:=j) nd hN hx hf) hb ab) λD0 σ H q=>by
 obtain⟨hl,ρ,N,q⟩:=q;unfold aP at q;split at q
 case h_2=>exact q.elim
 rename_i s ef;by_cases G:s.all fM=true
 case neg=>rw[if_neg G]at q;exact q.elim
 rw[if_pos G]at q;refine⟨[],ρ,N.env,?_⟩;rw[ef];intro a vs ds H1 ed s1 ha M rr;cases ed;refine⟨a,rfl,.inl ⟨⟨vs,SqL.of M⟩,?_⟩⟩;have ae:s.length=vs.length:=rr.length;have el:∀(i:Nat)(h:i<s.length),∃n,s[i]=.int n/\vs[i]? = some (.int n):=λi h=>by have⟨n,U,T⟩:=km0 rr G (MJ h) (MJ (by omega:i<vs.length));exact⟨n,U,by rw[MJ (by omega:i<vs.length),T]⟩
 refine⟨λk m σ H=>m=s.length - k/\k<=s.length/\∃ρ,DQ X.K H0 S0 ((a,vs)::hl) ρ σ H/\Fl.endK X.K H0 S0 hl D0 (Bu (s.drop k) (Yn j) b ρ),⟨s.length,by simp,WQ _,ρ,(N.mono s1).more M,q⟩,?_⟩;clear q N;rintro k m Q H2 ⟨rfl,hk,o,R2,r⟩;have hL:=R2.held (MF);have less:∀{ρ σ H},DQ X.K H0 S0 ((a,vs)::hl) ρ σ H->DQ X.K H0 S0 hl ρ σ H:=λN=>N.less λp hp=>KQ _ hp;by_cases I:k<s.length
 ·have⟨n,en,ev⟩:=el k I;refine .inr ⟨⟨vs,_,SqL.of hL,ev⟩,λu H'=>∃F,DQ X.K H0 S0 ((a,vs)::hl) F u H'/\Fl.endK X.K H0 S0 hl D0 (Bu (s.drop (k+1)) (Yn j) b F),λu H' ⟨F,J,q'⟩=>⟨s.length - (k+1),by omega,rfl,I,F,J,q'⟩,λz H' y=>?_⟩;obtain⟨rfl,y⟩:=y;have hz:=y vs (SqL.of hL);rw[ev]at hz;cases hz;rw[iI I,Bu]at r;rw[en]at r;have r:Fl.endK X.K H0 S0 hl D0 ((b (o.set j (some (.int n)))).bind λfl=>match fl with
   | .nx o=>Bu (s.drop (k+1)) (Yn j) b o
   | .ct o=>Bu (s.drop (k+1)) (Yn j) b o
   | .bk o=>.ok (.nx o)
   | .rt d=>.ok (.rt d)):=r
  refine⟨(a,vs)::hl,o.set j (some (.int n)),R2.setv (S:=noS) (v:=.int n) j1 j2 rfl rfl,?_⟩;cases eb:b (o.set j (some (.int n))) with
  |ok fl =>
   rw[eb]at r;cases fl with
   |nx B=>exact λu H' J=>⟨B,J,r⟩
   |rt d=>exact r
   |bk B=>exact λu H' J=>r u H' (less J)
   |ct B=>exact λu H' J=>⟨B,J,r⟩
  |exc x=>rw[eb]at r;exact(r:False).elim
  |bad=>rw[eb]at r;exact(r:False).elim
 ·have aa:k=s.length:=by omega
  subst aa;rw[dX (H_ _)]at r;exact .inl ⟨⟨vs,SqL.of hL,by omega⟩,r Q H2 (less R2)⟩
def uE{k:Nat}(D:DkN X.prog X.w X.K X.mg X.base k)(I:Dd (k+1) X.A)(M:Gl X "Desk"):PE X (.Call (.Name "Desk" p) [] [] pos) (λσ H Q=>∀(x i t C:BJ)(H':Hp),DkC X.K C->Ab H H'->H x=none->H t=none->H' x=some (.ins C i [("webs",.ref t)])->H' t=some (.dK [])->Q (.ref x) H'):=by
 obtain⟨C,f,fd,D⟩:=D;refine PE.imp (kj9 (E:=λ_ _ _=>False) (dvs:=[]) D.mks D.fn I M D.at_ D.bd .nil (λ_ _ _ _ _ _ _ z=>z.elim) (by decide)) λσ H Q q=>?_;intro x i B u J;refine⟨x,i,rfl,Af,λt h=>⟨rfl,?_⟩⟩;have r:t≠x:=λz=>by rw[z,Af]at h;cases h
 rw[Ac r]at h;have s:t≠i:=λz=>by rw[z,Af]at h;cases h
 rw[Ac s]at h;refine q x i t C _ D.dk (λb o e=>?_) B h Af ?_
 ·have v:b≠x:=λz=>by rw[z,B]at e;cases e
  have G:b≠t:=λz=>by rw[z,h]at e;cases e
  have F:b≠i:=λz=>by rw[z,u]at e;cases e
  rw[Ac v,Ac G,Ac v,Ac F];exact e
 ·rw[Ac r];exact Af
def pL(g:Ev->R Fl):Ev->R Fl:=λρ=>if 2<ρ.length/\((Ks ρ).all λo=>o.elim true Vu)=true then
  match g ((ρ.set 1 (some (.lst [.exc "Desk" [] [],.exc "Desk" [] []]))).set 2 (some (.lst [.exc "dictK" [] [],.exc "dictK" [] []]))) with
  | .ok (.rt d)=>.ok (.rt d)
  |_=>.bad
 else .bad
variable {k:Nat}{h:BP}{p1 s G u r J I F B:GP}
theorem zO(DN:DkN X.prog X.w X.K X.mg X.base k)(hr:Dd (k+1) X.A)(nd:X.N.Nodup)(ah:PSs X rest (tKS X.K H0 S0 g))(hg:Gl X "Desk":=by rfl)(bh:X.N[1]? = some y1:=by rfl)(ao:Loc X.env.scope y1:=by first |exact Or.inl rfl |exact Or.inr rfl)(bg:X.N[2]? = some h:=by rfl)(ak:Loc X.env.scope h:=by first |exact Or.inl rfl |exact Or.inr rfl)
  (bb:CW (.List [.Call (.Name "Desk" p1) [] [] p2,.Call (.Name "Desk" p3) [] [] s] G) (some (.Name y1 F)) J.line X.env=pure false:=by rfl)(ba:CW (.List [.Dict [] [] u,.Dict [] [] r] pos) (some (.Name h B)) I.line X.env=pure false:=by rfl)
  (bf:X.fn y1=true\/X.env.scope.names.lookup y1=some .local:=by first |exact .inl rfl |exact .inr rfl)(bc:X.fn h=true\/X.env.scope.names.lookup h=some .local:=by first |exact .inl rfl |exact .inr rfl)
  (ay:BR [.Call (.Name "Desk" p1) [] [] p2,.Call (.Name "Desk" p3) [] [] s] X.env=(false,CP (.Call (.Name "Desk" p1) [] [] p2) X.env)::BR [.Call (.Name "Desk" p3) [] [] s] X.env:=by rfl)(ax:BR [.Call (.Name "Desk" p3) [] [] s] X.env=(false,CP (.Call (.Name "Desk" p3) [] [] s) X.env)::BR [] X.env:=by rfl)
  (aw:BR [.Dict [] [] u,.Dict [] [] r] X.env=(false,CP (.Dict [] [] u) X.env)::BR [.Dict [] [] r] X.env:=by rfl)(au:BR [.Dict [] [] r] X.env=(false,CP (.Dict [] [] r) X.env)::BR [] X.env:=by rfl):
  PSs X (.Assign [.Name y1 F] (.List [.Call (.Name "Desk" p1) [] [] p2,.Call (.Name "Desk" p3) [] [] s] G) J::.Assign [.Name h B] (.List [.Dict [] [] u,.Dict [] [] r] pos) I::rest) (oK X.K (C0 H0 S0 []) (pL g)):=
 PSs.imp (G6 (O5 (i:=1) nd bh ao (lJ (Cp (uE DN hr hg) (Cp (uE DN hr hg) Jf ax) ay)) bb bf) (G6 (O5 (i:=2) nd bg ak (lJ (Cp Yi (Cp Yi Jf au) aw)) ba bc) ah)) λD σ H q=>by
 obtain⟨ρ,E,q⟩:=q;unfold pL at q;by_cases hc:2<ρ.length/\((Ks ρ).all λo=>o.elim true Vu)=true
 case neg=>rw[if_neg hc]at q;exact q.elim
 rw[if_pos hc]at q;intro x1 bo w1 C1 H1 bq s1 ao az g1 g2 x2 bj w2 C2 H2 bp s2 ak ag g3 g4;refine⟨by show 2<=sizeLine;rw[CT];decide,λL hL=>?_⟩;show _;intro d1 ar aj d2 hd2 ai;refine⟨by show 2<=sizeLine;rw[CT];decide,λM hM=>?_⟩;have n1:w1≠w2:=λz=>by rw[<-z,g2]at ag;cases ag
 have n2:d1≠d2:=λz=>by rw[<-z,Af]at hd2;cases hd2
 have sL:Ab H2 (upd H2 L (.lst [.ref x1,.ref x2])):=Ao hL _;have ab:=Ao ar (.frz aj (.dK []));have aa:=Ao hd2 (.frz ai (.dK []));have sM:=Ao hM (.lst [.ref d1,.ref d2]);have sA:=(((sL.trans ab).trans aa).trans sM);have Q:=s1.trans s2;have af:=Q.trans sA;have fr:∀{b:BJ},H b=none->H0 b=none:=λz=>E.same.free z;have f1:=az;have f2:=s1.free ag;have f3:=(Q.trans sL).free ar;have f4:=((Q.trans sL).trans ab).free hd2;have f5:=Q.free hL;have f6:=(((Q.trans sL).trans ab).trans aa).free hM;have hl:=E.len;have ae:∀b∈[w1,w2]++[d1,d2],H b=none:=λb hb=>by simp only[bJ,ZS,I_,RC,or_false]at hb;rcases hb with rfl |rfl |rfl |rfl<;>assumption
 have aq:Ks ((ρ.set 1 (some (.lst [.exc "Desk" [] [],.exc "Desk" [] []]))).set 2 (some (.lst [.exc "dictK" [] [],.exc "dictK" [] []])))=Ks ρ:=by rw[Wq,Wo]
 refine⟨[],(ρ.set 1 (some (.lst [.exc "Desk" [] [],.exc "Desk" [] []]))).set 2 (some (.lst [.exc "dictK" [] [],.exc "dictK" [] []])),⟨L,M,[x1,x2],[w1,w2],[d1,d2],[.exc "Desk" [] [],.exc "Desk" [] []],[.exc "dictK" [] [],.exc "dictK" [] []],λo=>(C0 H0 S0 []).S o/\∀b,o=some b->H b≠none,E.same.trans af,?_,?_,?_,?_,Af,?_,rfl,rfl,rfl,?_,?_,?_,?_,?_,?_,λo z=>z.1,λb hb z=>z.2 b rfl (ae b hb),?_,λp hp=>by cases hp⟩,?_⟩
 ·rw[JR (by decide)];exact QD (by omega)
 ·exact((ab.trans aa).trans sM) _ _ Af
 ·rw[JR (by decide)];exact QD (by omega)
 ·exact QD (by rw[RX];omega)
 ·exact QD (by rw[RX];omega)
 ·intro i d a q U T e3
  match i,U,T,e3 with
  |0,U,T,e3=>cases U;cases T;cases e3;exact⟨C1,bo,[],[],[],bq,rfl,(s2.trans sA) _ _ g1,(s2.trans sA) _ _ g2,rfl,dC,rfl,rfl⟩
  |1,U,T,e3=>cases U;cases T;cases e3;exact⟨C2,bj,[],[],[],bp,rfl,sA _ _ g3,sA _ _ g4,rfl,dC,rfl,rfl⟩
  |i+2,U,T,e3=>cases U
 ·intro i d b U T
  match i,U,T with
  |0,U,T=>cases U;cases T;exact⟨aj,[],[],[],rfl,(aa.trans sM) _ _ Af,rfl,dC,rfl,rfl⟩
  |1,U,T=>cases U;cases T;exact⟨ai,[],[],[],rfl,sM _ _ Af,rfl,dC,rfl,rfl⟩
  |i+2,U,T=>cases U
 ·simpa using n1
 ·simpa using n2
 ·intro b hb;simp only[I_]at hb;rcases hb with rfl |rfl |hb
  ·exact fr f5
  ·exact fr f6
  ·exact fr (ae b (by simpa using hb))
 ·rw[aq];refine⟨by simp only[Ks,RX];exact hl,λj d hd=>?_⟩;have⟨h1,h2,hd⟩:=kp6 hd;have⟨v,U,T⟩:=E.oth j d (λz=>by cases z) hd;exact⟨v,by rw[JR (Ne.symm h2),JR (Ne.symm h1)];exact U,(wn7 (λo z hz=>⟨jW.mp z,hz⟩) T).mono af λ_ z=>z⟩
 ·intro j d hd;rw[aq]at hd;exact SN.mp hc.2 _ (ZZ hd)
 ·split at q
  case h_2=>exact q.elim
  rename_i d eg;rw[eg];exact q
end
def Idq(a:BJ)(o:GD)(h:List (Key×V)):It:=
 ⟨λi H=>H a=some (.frz o (.dK h))/\i<h.length,λi H x H'=>H'=H/\∃k v,x=kV k/\h[i]? = some (k,v),λi H=>H a=some (.frz o (.dK h))/\h.length<=i⟩
def kv0{k:Key}{u:A_}(h:Vo k u=true):RelV (kV k) u:=by
 rcases Ca h with ⟨i,t,rfl,rfl⟩ | ⟨x,t,rfl,rfl⟩
 ·exact⟨t,rfl⟩
 ·exact⟨t,rfl⟩
theorem jp6{tg:BZ}(a it:BJ)(o:GD)(kvs:List (Key×V)):
  Turn P w K tg (Idq a o kvs) [it] it (λi h=>∃es ep,o.data=.dict es ep/\h.IsKeyIter it a i es.size ep) where
 mem:=by simp
 obj:=λi h st b hb=>by obtain⟨es,ep,_,q,he,_,hd⟩:=st;rw[NT.mp hb];exact⟨_,he,λv z=>by rw[hd]at z;cases z⟩
 keep:=λi h h' st kp=>by obtain⟨es,ep,hd,q,he,r⟩:=st;exact⟨es,ep,hd,q,kp it (by simp) _ he,r⟩
 item:=by
  intro X hP hw hK hc i pins s σ H E I hf st hg;subst hP hw hK;obtain⟨ha,hi⟩:=hg;obtain⟨es,ep,hd,he⟩:=st;have⟨ho,z,y,xs,r,ob,es',ep',U,ex,T,e3,e4,nd⟩:=I.hok a _ ha;have eo:o=ob:=Option.some.inj (ho.symm.trans U);subst eo;rw[hd]at T;cases T;have⟨q,hq,hq1,hq2⟩:=Vy r (MJ hi);have hlen:=e4.length;have hli:i<es.toList.length:=by rw[hlen];exact(MT.mp hq).1
  have hes:es[i]? = some (es.toList[i]):=by rw[<-oF];exact MJ hli
  have⟨k1,k2⟩:=e4.get? (MJ hli) (k:=q.1) (v:=q.2) hq;refine jy8 he ho hd hes λh1 he1 hs1=>⟨_,rfl,?_⟩;have I1:Inv X pins σ H {s with heap:=h1}:=Kg (t':=s.toks) I hf λb w hb e=>hs1.extBut b w (λz=>hb (by simp[z])) e;have⟨oi,hoi,hci,hdi⟩:=id he1;exact cU (s:={s with heap:=h1}) hoi hci hdi (by decide) ⟨kV q.1,H,I1,kv0 k1,⟨rfl,q.1,kvs[i].2,rfl,by rw[<-hq1];exact MJ hi⟩,⟨es,ep,hd,he1⟩,λb hb=>(hf b hb).1⟩
 done:=by
  intro X hP hw hK hc i pins s σ H E I hf st hg;subst hP hw hK;obtain⟨ha,hi⟩:=hg;obtain⟨es,ep,hd,he⟩:=st;have⟨ho,z,y,xs,r,ob,es',ep',U,ex,T,e3,e4,nd⟩:=I.hok a _ ha;have eo:o=ob:=Option.some.inj (ho.symm.trans U);subst eo;rw[hd]at T;cases T;have hl:xs.length=kvs.length:=(Paired.length r).symm;have hlen:=e4.length;have hes:es[i]? = none:=by rw[<-oF];exact YJ (by lia)
  exact jy6 (by simpa using I.ok.hd hc) he ho hd hes λh' eb=>⟨rfl,Kg (t':=s.toks) I hf λb o hb q=>eb b o (λz=>hb (by simp[z])) q⟩
 self:=λA i s Q E st h=>by obtain⟨es,ep,hd,he⟩:=st;exact wpAny_pyIter_keyiter he h
def wn8{S:AS}(k:Key):Rep K H S (kyD k) (kV k):=by cases k<;>rfl
theorem jy1{o:GD}{kk:List Key}(hl:kk.length=vs.length):ItD K (Idq a o (kk.zip vs)) (kk.map kyD) λH S=>H a=some (.frz o (.dK (kk.zip vs)))/\S (some a) where
 stab:=⟨λs hS h=>⟨s _ _ h.1,hS _ h.2⟩,λhl hn h=>⟨by rw[Ac (λz=>by rw[z,hl]at h;cases h.1)];exact h.1,h.2⟩,
  λhl ho hn h=>⟨by rw[Ac (λz=>hn (by rw[<-z];exact h.2))];exact h.1,h.2⟩,λhp h=>⟨h.1,h.2,λz=>by cases z;rw[hp]at h;cases h.1⟩⟩
 go:=λi H S hi h=>by refine⟨h.1,?_⟩;rw[HN]at hi;rw[dH];lia
 yld:=λi H S x H' h y=>by obtain⟨rfl,k,v,rfl,hk⟩:=y;refine⟨Ab.refl _,λd hd=>?_⟩;have⟨h1,h2⟩:=x_.mp hk;rw[QC,h1]at hd;cases hd;exact wn8 k
 stop:=λi H S hi h=>by refine⟨h.1,?_⟩;rw[HN]at hi;rw[dH];lia
def itQ(f:Ev->R D):Ev->R (List D):=λρ=>(f ρ).bind λd=>(R.of (Mr d)).bind λp=>.ok p.1
section
variable {c:DC}{a b:BZ}{fs:Ev->R (List D)}{tg:BZ}
def wj5(he:PEd X c l e f):PId X c l tg e (itQ f):=by
 intro F s σ H R I h;obtain⟨hs,ρ,E,q⟩:=h;refine thn (he F s σ H (λv u=>∃(a:BJ)(o:GD)(i:List Key)(vs:List V),v=.ref a/\i.length=vs.length/\u a=some (.frz o (.dK (i.zip vs)))/\R (Idq a o (i.zip vs)) u) I ?_) λv B Q=>?_
 ·refine Ag E ((RQ.bind.mp q).mono (λd q1 v u B E1 M=>?_) λ_ z=>z);have⟨pr,hp,q1⟩:=(RQ.bind.mp q1).of;rw[O3 hp]at M;obtain⟨a,vs,rfl,xx,rr⟩:=M;obtain⟨xd,xs⟩:=xx.XX;rcases xd with ⟨hc,_⟩ | ⟨_,i,h1,h2,h3,o,h4⟩
  ·exact absurd hc (by decide)
  ·refine⟨a,o,i,vs,rfl,h2,h4,?_⟩;rw[h1]at q1;exact q1 _ _ u B (jy1 h2) ⟨h4,xs⟩
 ·revert Q;refine Bh λx' u J M Q=>?_;obtain⟨a,o,i,vs,ex,hl,ha,q1⟩:=Q;subst ex;obtain rfl:v=Value.ref a:=M;have⟨ho,z,y,xs,r,ob,es,ep,g1,g2,g3,g4,g5⟩:=id (J.hok a _ ha);have eo:o=ob:=Option.some.inj (ho.symm.trans g1);subst eo;have⟨t1,t2,G⟩:=lR J (.inl ⟨_,.inr ⟨o,ha⟩⟩);refine jy7 t1 G ho g3 ⟨B.heap.objs.size,[B.heap.objs.size],_,_,u,rfl,J.kept (t':=B.toks) λb w e=>JK _ e,jp6 a _ o (i.zip vs),⟨es,ep,g3,⟨_,NP _ rfl,rfl,rfl⟩⟩,λb hb=>?_,q1⟩;rw[NT.mp hb];exact J.fpOk (H_ _) (J.hok.fresh (H_ _))
def z8(h:X.A.units+70<FN)(q:PEd X c l a f1)(o:PEd X c l b f2)(i:DX .In b=false:=by with_unfolding_all rfl):PEd X c l (.Compare a [.In] [b] pos) (b2 f1 f2 aY):=cD (wx3 h) q o i
def kg2:∀a b d,aY a b=some d->d.imm=true:=λa b d e=>by have⟨k,i,e⟩:=VV.mp e;obtain⟨p,h,rfl⟩:=VR.mp e;rfl
def bT:List D->Option D
 | [.int i]=>if i.natAbs.log2<1920 then some (.str (Str.ofString (toString i))) else none
 | [.str x]=>some (.str x)
 |_=>none
def wf7:Ei X (.type "str") (rC X.K bT):=by
 rintro h s σ H J F Q I r ⟨S,ds,d,B,e,q⟩
 match ds,e with
 | [.int i],e=>obtain⟨G,rfl⟩:=Ax e;obtain⟨v,rfl,o⟩:=B.one;cases(show v=.int i from o);exact P0 h s σ H _ F Q I r ⟨i,rfl,G,q _ H (Ab.refl _) rfl⟩
 | [.str x],e=>cases e;obtain⟨v,rfl,o⟩:=B.one;cases(show v=.str x from o);obtain⟨u,rfl,t,rfl⟩:=vals1 r;exact PySem.P.str_of_str ⟨.str x,H,I,⟨_,rfl⟩,q _ H (Ab.refl _) rfl⟩
def kg5:∀ds d,bT ds=some d->d.imm=true:=λds d e=>by
 match ds,e with
 | [.int i],e=>obtain⟨h,rfl⟩:=Ax e;rfl
 | [.str x],e=>cases e;rfl
def ya5(i:X.mg "str" = none)(r:PAd X c l (e::es) fs)(o:Gl X "str":=by rfl)(q:Zs X.env e es:=by rfl)(h:Zp X.env pos es:=by rfl):
  PEd X c l (.Call (.Name "str" p) (e::es) [] pos) (bA fs bT):=cY wf7 PyProof.Rows.boot_str i r o (by decide) (by decide) q h
end
section
variable {K:BW}{h:B_}{mg:BP->Option A_}{ps:List BP}{k:Nat}
def ks6(P:BX)(w:CN)(base:B_)(X:K.In h)(G:h.Ns PySem.mainGlobals mg)(I:FI K x st)(i:∀a fd,Fun K x x st a fd->Cw P w K mg base CX0 k a fd ps (fB K m))
  (q:∀(kV doc pm:A_)(an:Option BJ)(cdv ct:A_)(us:List A_),us.length=ps.length->KC (PySem.W.fnOf x x (Cm st) (Bd st) (Ae st) .none kV doc pm an cdv ct) ⟨us,[]⟩=pure (ps.zip us)):jX P w K mg base k x ps m:=by
 revert I;refine Bh λf fd a F o=>?_;exact⟨f,fd,i f fd F,PySem.W.mg_of X G a,o,F.binds q⟩
end
abbrev FWT(b:Bx)(k:Nat)(x:BP)(ps:List BP)(m:List D->R D):Prop:=jX b.P b.w b.K b.mg b.base k x ps m
end PD
namespace Gr
abbrev Bs:=List (Nat×Nat)
def cp(a b p:Nat):Nat:=if p=b then a else if b<p then p - 1 else p
def ct(a b:Nat)(e:Nat×Nat):Nat×Nat:=(min (cp a b e.1) (cp a b e.2),max (cp a b e.1) (cp a b e.2))
def sh(n:Nat)(e:Nat×Nat):Nat×Nat:=(e.1+n,e.2+n)
end Gr
namespace Law
open PySem L2 PD
seal PE PT PA PS PSs PC PG PI PO
def top(i:Nat):CQ:=PySem.Challenge.pw_tietable_k81_webs_kept_by_a_desk.main.body.getD i (.Pass ⟨0,0,0,0⟩)
def FT:List (BP×List BP):=[("web",["new","text"]),("without",["new","name","number"]),("drawn",["new","name","number"]),("beside",["new","name","name"]),("joined",["new","name","number","name","number"]),("show",["name"]),("table",["name"]),("worth",["name","number","number"]),("forests",["name"]),("colours",["name","many"]),("flows",["name","number"]),("fewest",["name"]),("ringless",["name"]),("rounds",["name"]),("same",["name","name"])]
def Xm(s:CQ)(i:Nat):CQ:=match s with
 | .ClassDef _ _ _ b _ _ _ _ _ _ _=>b.getD i (.Pass ⟨0,0,0,0⟩)
 |_=>.Pass ⟨0,0,0,0⟩
abbrev Tq:CQ:=top 119
def Jl:Wf "_law_draw" Tq 4 1 ["_law_cell_here","_law_salt","_law_many"] (λb q=>q) So0:=⟨["_law_cell_here","_law_salt","_law_many","_law_number"],Ci,_,λS F =>
  Cq (O:=[]) F S (by decide) λf A a s H E j i h =>
  have e:=S.nd
  (sc (Dj 3 e (u1 (mod (PEd.sc (mul (Ge (nv 0) (u1 (PEd.sc (mul (u1 ki) (nv 1)) (Bg Qv)))) (u1 ki)) (Bg Qv)) ki)))
  (sc (Dj 3 e (u1 (mod (PEd.sc (mul (Ge (Ge (nv 3) (u1 (PEd.sc (fdiv (nv 0) (u1 ki)) (Bg Dh)))) (nv 1)) (u1 ki)) (Bg Qv)) ki)))
  (s1 (Bc (u2 (PEd.sc (mod (u1 (PEd.sc (fdiv (nv 3) (u1 ki)) (Bg Dh))) (nv 2)) (Bg Er)))))))⟩
def S7:Ev->R Fl:=gO (v:=Jl.g) (by dsimp [Jl])
def Jr:List D->R D:=Be 4 S7
abbrev Tt:CQ:=top 127
abbrev Sg:=Wb Jl FB Jr
def Jm:Wf "_law_made" Tt 3 2 ["_law_cell_here"] (λb q=>Zc "range" b->Sg b->q) So0:=⟨["_law_cell_here","_law_number","_law_k"],Ci,_,λS F e a =>
  Cq (O:=[]) F S (by decide) λj A f s H E n i m =>
  have h:=S.nd
  (sc (Dj 1 h (u1 (PEd.sc (fdiv (nv 0) (u1 ki)) (Bg Dh))))
  (sc (if_ (Wm (Vw) (bY) (u1 ki) (nv 0) (u1 (pow ki ki))) (s1 (for_ PassesOwn.never rfl (tn 2 h) (PId.up (l:=.fr) (l':=.no) (j8 e (@ac _ _ _ _ _ _ _ (@ki _ _ _ _ _) an stC))) (s1 (Dj 1 h (Ge (u1 (PEd.sc (mul (nv 1) (u1 ki)) (Bg Qv))) (callC a (i.mono (by decide)) (@ac _ _ _ _ _ _ _ (nv 0) (@ac _ _ _ _ _ _ _ (Ge (u1 ki) (nv 2)) (@ac _ _ _ _ _ _ _ (@u1 _ _ _ _ (@ki _ _ _ _ _)) an stC) stB) stN))))))) sn)
  (s1 (Bc (u3 (nv 1))))))⟩
def S8:Ev->R Fl:=gO (v:=Jm.g) (by dsimp [Jm])
def Sw:List D->R D:=Be 3 S8
abbrev V8:CQ:=top 126
def Ky:Wf "_law_web" V8 7 1 ["_law_number"] (λb q=>Zc "max" b->Zc "min" b->Zc "range" b->Zc "tuple" b->q) So0:=⟨["_law_number","_law_points","_law_many","_law_ties","_law_k","_law_one","_law_other"],Ci,_,λS F i h e a =>
  Cq (O:=[3]) F S (by decide) λm A j s H E p o n =>
  have f:=S.nd
  (sc (Dj 1 f (u1 (Ge ki (PEd.sc (mod (nv 0) (u1 ki)) (Bg Er)))))
  (sc (Dj 2 f (u1 (mod (PEd.sc (fdiv (nv 0) (u1 ki)) (Bg Dh)) ki)))
  (sc (Dj 0 f (u1 (PEd.sc (fdiv (nv 0) (u1 ki)) (Bg Dh))))
  (sc (j0 3 f (PEf.up (l:=.fr) (l':=.no) (fJ an)))
  (sc (for_ PassesOwn.never rfl (tn 4 f) (j8 e (@ac _ _ _ _ _ _ _ (nv 2) an stN)) (sc (Dj 5 f (u1 (PEd.sc (mod (nv 0) (nv 1)) (Bg Er))))
  (sc (Dj 6 f (u1 (PEd.sc (mod (u1 (PEd.sc (fdiv (nv 0) (nv 1)) (Bg Dh))) (nv 1)) (Bg Er))))
  (sc (Dj 0 f (u1 (PEd.sc (fdiv (u1 (PEd.sc (fdiv (nv 0) (nv 1)) (Bg Dh))) (nv 1)) (Bg Dh))))
  (s1 (jU 3 (u1 (@tup _ _ _ _ _ _ _ (@ac _ _ _ _ _ _ _ (PEd.sc (jF rfl h (@ac _ _ _ _ _ _ _ (nv 5) (@ac _ _ _ _ _ _ _ (nv 6) an stN) stN)) (Bo Zq)) (@ac _ _ _ _ _ _ _ (PEd.sc (jG rfl i (@ac _ _ _ _ _ _ _ (nv 5) (@ac _ _ _ _ _ _ _ (nv 6) an stN) stN)) (Bo Zo)) an stK) stK)))))))))
  (s1 (Bc (@tup _ _ _ _ _ _ _ (@ac _ _ _ _ _ _ _ (u3 (nv 1)) (@ac _ _ _ _ _ _ _ (R6 a (@ac _ _ _ _ _ _ _ (av 3) an stN)) an stK) stN)))))))))⟩
def Vh:Ev->R Fl:=gO (v:=Ky.g) (by dsimp [Ky])
def Oq:List D->R D:=Be 7 Vh
abbrev Tp:CQ:=top 128
abbrev Sh:=Wb Jm FB Sw
abbrev Ux:=Wb Ky FB Oq
def Jk:Wf "_law_deed" Tp 8 3 ["_law_cell_here","_law_stood"] (λb q=>Zc "range" b->Sh b->Ux b->q) So0:=⟨["_law_cell_here","_law_stood","_law_names","_law_number","_law_word","_law_picked","_law_k","_law_spots"],Ci,_,λS F f a e =>
  Cq (O:=[5]) F S (by decide) λn A j s H E o m i =>
  have h:=S.nd
  (sc (Dj 2 h (u1 (Wx (d:=(.lst [(.str "a"),(.str "ab"),(.str "abc"),(.str "b"),(.str "web"),(.str "drawnaab")])) (by kernel_rfl))))
  (sc (Dj 3 h (callC a (m.mono (by decide)) (@ac _ _ _ _ _ _ _ (nv 0) an stN)))
  (sc (Dj 4 h (u1 (ix (Wx (d:=(.lst [(.str "web"),(.str "web"),(.str "web"),(.str "without"),(.str "drawn"),(.str "beside"),(.str "joined")])) (by kernel_rfl)) (PEd.sc (mod (nv 3) (u1 ki)) (Bg Er)))))
  (sc (Dj 3 h (u1 (PEd.sc (fdiv (nv 3) (u1 ki)) (Bg Dh))))
  (sc (j0 5 h (PEf.up (l:=.fr) (l':=.no) (fJ an)))
  (sc (for_ PassesOwn.never rfl (tn 6 h) (PId.up (l:=.fr) (l':=.no) (j8 f (@ac _ _ _ _ _ _ _ (@ki _ _ _ _ _) an stC))) (sc (jU 5 (ix (nv 2) (u1 (PEd.sc (mod (nv 3) (u1 ki)) (Bg Er)))))
  (s1 (Dj 3 h (u1 (PEd.sc (fdiv (nv 3) (u1 ki)) (Bg Dh)))))))
  (sc (if_ (teq i (nv 4) (u1 ks)) (s1 (Bc (@tup _ _ _ _ _ _ _ (@ac _ _ _ _ _ _ _ (u3 (nv 4)) (@ac _ _ _ _ _ _ _ (ix (av 5) (u2 ki)) (@ac _ _ _ _ _ _ _ (u3 (callC e (m.mono (by decide)) (@ac _ _ _ _ _ _ _ (nv 3) an stN))) an stK) stS) stN)))) sn)
  (sc (if_ (teq i (nv 4) (u1 ks)) (s1 (Bc (@tup _ _ _ _ _ _ _ (@ac _ _ _ _ _ _ _ (u3 (nv 4)) (@ac _ _ _ _ _ _ _ (ix (av 5) (u2 ki)) (@ac _ _ _ _ _ _ _ (ix (av 5) (u2 ki)) (@ac _ _ _ _ _ _ _ (ix (av 5) (u2 ki)) an stS) stS) stS) stN)))) sn)
  (sc (if_ (teq i (nv 4) (u1 ks)) (sc (@Dj _ _ _ _ _ 7 _ _ h (@u1 _ _ _ _ (@lst _ _ _ _ _ _ (@ac _ _ _ _ _ _ _ (PEd.sc (mod (u3 (nv 3)) (ix (qU i (u3 (nv 1)) (ix (av 5) (u2 ki)) (u2 (Wx (d:=(.tup [(.int 6),(.tup [])])) (by kernel_rfl)))) (u2 ki))) (Bg Er)) (@ac _ _ _ _ _ _ _ (PEd.sc (mod (u2 (PEd.sc (fdiv (nv 3) (u1 ki)) (Bg Dh))) (ix (qU i (u3 (nv 1)) (ix (av 5) (u2 ki)) (u2 (Wx (d:=(.tup [(.int 6),(.tup [])])) (by kernel_rfl)))) (u2 ki))) (Bg Er)) an stB) stB))) rfl rfl (by first |exact Or.inl rfl |exact Or.inr rfl) rfl (by first |exact Or.inl rfl |exact Or.inr rfl))
  (s1 (Bc (@tup _ _ _ _ _ _ _ (@ac _ _ _ _ _ _ _ (u3 (nv 4)) (@ac _ _ _ _ _ _ _ (ix (av 5) (u2 ki)) (@ac _ _ _ _ _ _ _ (ix (av 5) (u2 ki)) (@ac _ _ _ _ _ _ _ (u3 (ix (nv 7) (u1 ki))) (@ac _ _ _ _ _ _ _ (ix (av 5) (u2 ki)) (@ac _ _ _ _ _ _ _ (u3 (ix (nv 7) (u1 ki))) an stS) stS) stS) stS) stS) stN))))) sn)
  (s1 (Bc (@tup _ _ _ _ _ _ _ (@ac _ _ _ _ _ _ _ (u3 (nv 4)) (@ac _ _ _ _ _ _ _ (ix (av 5) (u2 ki)) (@ac _ _ _ _ _ _ _ (ix (av 5) (u2 ki)) (@ac _ _ _ _ _ _ _ (u2 (PEd.sc (mod (nv 3) (u1 ki)) (Bg Er))) an stB) stS) stS) stN)))))))))))))⟩
def S6:Ev->R Fl:=gO (v:=Jk.g) (by dsimp [Jk])
def G5:List D->R D:=Be 8 S6
abbrev Mx:CQ:=top 121
def Ff:Wf "_law_without" Mx 2 1 ["_law_web_here","_law_tie"] (λb q=>q) So0:=⟨["_law_web_here","_law_tie"],Ci,_,λS F =>
  Cq (O:=[]) F S (by decide) λe A a s H E j i h =>
  have f:=S.nd
  (s1 (Bc (u3 (@tup _ _ _ _ _ _ _ (@ac _ _ _ _ _ _ _ (ix (nv 0) (u1 ki)) (@ac _ _ _ _ _ _ _ (Ge (Hf (ix (nv 0) (u1 ki)) pn (ps (nv 1))) (Hf (ix (nv 0) (u1 ki)) (ps (Ge (nv 1) (u1 ki))) pn)) an stB) stS)))))⟩
def Ml:Ev->R Fl:=gO (v:=Ff.g) (by dsimp [Ff])
def Dy:List D->R D:=Be 2 Ml
abbrev Od:CQ:=top 122
def Gp:Wf "_law_as_one" Od 9 1 ["_law_points","_law_ties","_law_one","_law_other"] (λb q=>Zc "int" b->Zc "max" b->Zc "min" b->Zc "tuple" b->q) So0:=⟨["_law_points","_law_ties","_law_one","_law_other","_law_low","_law_high","_law_found","_law_tie","_law_ends"],Ci,_,λS F h f e a =>
  Cq (O:=[6]) F S (by decide) λv A o s H E x w u =>
  have i:=S.nd
  (sc (Dj 4 i (u1 (PEd.sc (jF rfl e (@ac _ _ _ _ _ _ _ (nv 2) (@ac _ _ _ _ _ _ _ (nv 3) an stN) stN)) (Bo Zq))))
  (sc (Dj 5 i (u1 (PEd.sc (jG rfl f (@ac _ _ _ _ _ _ _ (nv 2) (@ac _ _ _ _ _ _ _ (nv 3) an stN) stN)) (Bo Zo))))
  (sc (j0 6 i (PEf.up (l:=.fr) (l':=.no) (fJ an)))
  (sc (for_ PassesOwn.never rfl (tn 7 i) (Nj (nv 1)) (sc (setC (T:=["_law_point"]) (caps:=[5,4]) 8 i (by rfl) rfl (Nj (nv 7)) (λt _ r j n m p=>(tn 0 (show List.Nodup (["_law_point","_law_high","_law_low"]:List BP) by decide +kernel))) (λt _ r j n m p=>ti0) (λt _ r j n m p=>(u3 (ix (@lst _ _ _ _ _ _ (@ac _ _ _ _ _ _ _ (u1 (PEd.sc (sub (nv 0) (u1 (int_ h (@ac _ _ _ _ _ _ _ (PEd.sc (gt_ (nv 0) (nv 1)) (Bg uJ)) an rfl)))) (Bg Qx))) (@ac _ _ _ _ _ _ _ (nv 2) an stN) stB)) (u1 (int_ h (@ac _ _ _ _ _ _ _ (PEd.sc (eq_ u (nv 0) (nv 1)) (Bg Qt)) an rfl)))))) (Fq (by decide)))
  (s1 (jU 6 (u1 (@tup _ _ _ _ _ _ _ (@ac _ _ _ _ _ _ _ (PEd.sc (ww2 rfl e (@ac _ _ _ _ _ _ _ (nv 8) an stN)) (Bo kg4)) (@ac _ _ _ _ _ _ _ (PEd.sc (ww1 rfl f (@ac _ _ _ _ _ _ _ (nv 8) an stN)) (Bo kg3)) an stK) stK)))))))
  (s1 (Bc (@tup _ _ _ _ _ _ _ (@ac _ _ _ _ _ _ _ (u2 (PEd.sc (sub (nv 0) (u1 ki)) (Bg Qx))) (@ac _ _ _ _ _ _ _ (R6 a (@ac _ _ _ _ _ _ _ (av 6) an stN)) an stK) stB))))))))⟩
def N6:Ev->R Fl:=gO (v:=Gp.g) (by dsimp [Gp])
def Ny:List D->R D:=Be 9 N6
abbrev Q9:CQ:=top 123
abbrev Jz:=Wb Gp FB Ny
abbrev Hw:=Wb Ff FB Dy
def Hl:Wf "_law_drawn" Q9 5 2 ["_law_web_here","_law_tie"] (λb q=>Jz b->Hw b->q) So0:=⟨["_law_web_here","_law_tie","_law_one","_law_other","_law_rest"],Ci,_,λS F e a =>
  Cq (O:=[]) F S (by decide) λl A f s H E m i j =>
  have h:=S.nd
  (sc (ya3 (tT rfl (tsc 2 h (tsc 3 h tsn))) (ix (ix (nv 0) (u1 ki)) (nv 1)))
  (sc (Dj 4 h (callC a (i.mono (by decide)) (@ac _ _ _ _ _ _ _ (nv 0) (@ac _ _ _ _ _ _ _ (nv 1) an stN) stN)))
  (sc (if_ (teq j (nv 2) (nv 3)) (s1 (Bc (u3 (nv 4)))) sn)
  (s1 (Bc (u3 (callC e (i.mono (by decide)) (@ac _ _ _ _ _ _ _ (ix (nv 4) (u1 ki)) (@ac _ _ _ _ _ _ _ (ix (nv 4) (u1 ki)) (@ac _ _ _ _ _ _ _ (nv 2) (@ac _ _ _ _ _ _ _ (nv 3) an stN) stN) stS) stS))))))))⟩
def Qm:Ev->R Fl:=gO (v:=Hl.g) (by dsimp [Hl])
def Ef:List D->R D:=Be 5 Qm
abbrev Oe:CQ:=top 124
def Gq:Wf "_law_beside" Oe 2 1 ["_law_one","_law_other"] (λb q=>Zc "tuple" b->q) So0:=⟨["_law_one","_law_other"],Ci,_,λS F a =>
  Cq (O:=[]) F S (by decide) λn A i s H E t r p =>
  have o:=S.nd
  (s1 (Bc (u3 (@tup _ _ _ _ _ _ _ (@ac _ _ _ _ _ _ _ (Ge (ix (nv 0) (u1 ki)) (ix (nv 1) (u1 ki))) (@ac _ _ _ _ _ _ _ (Ge (ix (nv 0) (u1 ki)) (R6 a (@ac _ _ _ _ _ _ _ (comp (T:=["_law_a","_law_b"]) (caps:=[0]) (by rfl) rfl (Nj (ix (nv 1) (u1 ki))) (λm _ l e h f j=>(tT rfl (tsc 0 (show List.Nodup (["_law_a","_law_b","_law_one"]:List BP) by decide +kernel) (tsc 1 (show List.Nodup (["_law_a","_law_b","_law_one"]:List BP) by decide +kernel) tsn)))) (λm _ l e h f j=>ti0) (λm _ l e h f j=>(u3 (@tup _ _ _ _ _ _ _ (@ac _ _ _ _ _ _ _ (Ge (nv 0) (ix (nv 2) (u1 ki))) (@ac _ _ _ _ _ _ _ (Ge (nv 1) (ix (nv 2) (u1 ki))) an stB) stB)))) (Ql (by decide))) an rfl))) an stB) stB)))))⟩
def N7:Ev->R Fl:=gO (v:=Gq.g) (by dsimp [Gq])
def Eo:List D->R D:=Be 2 N7
abbrev Og:CQ:=top 125
abbrev J1:=Wb Gq FB Eo
def Gs:Wf "_law_joined" Og 5 2 ["_law_one","_law_point","_law_other","_law_place"] (λb q=>Jz b->J1 b->q) So0:=⟨["_law_one","_law_point","_law_other","_law_place","_law_both"],Ci,_,λS F e a =>
  Cq (O:=[]) F S (by decide) λj A f s H E m h l =>
  have i:=S.nd
  (sc (Dj 4 i (callC a (h.mono (by decide)) (@ac _ _ _ _ _ _ _ (nv 0) (@ac _ _ _ _ _ _ _ (nv 2) an stN) stN)))
  (s1 (Bc (u3 (callC e (h.mono (by decide)) (@ac _ _ _ _ _ _ _ (ix (nv 4) (u1 ki)) (@ac _ _ _ _ _ _ _ (ix (nv 4) (u1 ki)) (@ac _ _ _ _ _ _ _ (nv 1) (@ac _ _ _ _ _ _ _ (Ge (ix (nv 0) (u1 ki)) (nv 3)) an stB) stN) stS) stS))))))⟩
def N8:Ev->R Fl:=gO (v:=Gs.g) (by dsimp [Gs])
def Cy:List D->R D:=Be 5 N8
abbrev Ra:CQ:=top 130
def Hm:Wf "_law_great" Ra 1 1 ["_law_web_here"] (λb q=>Zc "len" b->q) So0:=⟨["_law_web_here"],Ci,_,λS F a =>
  Cq (O:=[]) F S (by decide) λf A e s H E l j i =>
  have h:=S.nd
  (s1 (Bc (u2 (vor (PEd.sc (gt_ (ix (nv 0) (u1 ki)) (u1 ki)) (Bg uJ)) (v1 (gt_ (PEd.sc (Lw a (@ac _ _ _ _ _ _ _ (ix (nv 0) (u1 ki)) an stS)) (Bo Cv)) ki))))))⟩
def Qn:Ev->R Fl:=gO (v:=Hm.g) (by dsimp [Hm])
def Eg:List D->R D:=Be 1 Qn
abbrev V6:CQ:=top 131
abbrev Pa:=Wb Hl FB Ef
abbrev Pb:=Wb Hm FB Eg
abbrev Nt:=Wb Gs FB Cy
def Kv:Wf "_law_due" V6 5 3 ["_law_deed_here","_law_stood"] (λb q=>Zc "all" b->Zc "isinstance" b->Zc "len" b->Zc "str" b->J1 b->Pa b->Pb b->Nt b->Hw b->q) So0:=⟨["_law_deed_here","_law_stood","_law_wanted","_law_web_here","_law_made_here"],Ci,_,λS F t h r p f j i e a =>
  Cq (O:=[]) F S (by decide) λB A z s H E C u o =>
  have y:=S.nd
  (sc (setC (T:=["_law_part"]) (caps:=[]) 2 y (by rfl) rfl (Nj (Hf (nv 0) (ps ki) pn)) (λx _ w l n m v=>(tn 0 (show List.Nodup (["_law_part"]:List BP) by decide +kernel))) (λx _ w l n m v=>(ti1 (tst (isi "str" "str" (by decide) PyProof.Rows.boot_str h p (nv 0))))) (λx _ w l n m v=>(u3 (nv 0))) (Fq (by decide)))
  (sc (if_ (Ue (tst (PEd.sc (fQ rfl t (@ac _ _ _ _ _ _ _ (comp (T:=["_law_name"]) (caps:=[1]) (by rfl) rfl (Nj (nv 2)) (λx _ w l n m v=>(tn 0 (show List.Nodup (["_law_name","_law_stood"]:List BP) by decide +kernel))) (λx _ w l n m v=>ti0) (λx _ w l n m v=>(u2 (PEd.sc (z8 o (nv 0) (nv 1)) (Bg kg2)))) (Fq (by decide))) an rfl)) (Bo Uk)))) (s1 (Bc (u2 (Wx (d:=(.tup [(.str "name"),.non])) (by kernel_rfl))))) sn)
  (sc (if_ (teq o (ix (nv 0) (u1 ki)) (u1 ks)) (s1 (Bc (u3 (@tup _ _ _ _ _ _ _ (@ac _ _ _ _ _ _ _ (@u1 _ _ _ _ (@ks _ _ _ _ _)) (@ac _ _ _ _ _ _ _ (ix (nv 0) (u1 ki)) an stS) stC))))) sn)
  (sc (Dj 3 y (dix o (nv 1) (ix (nv 0) (u1 ki))))
  (sc (if_ (T6 (bR (tin o (ix (nv 0) (u1 ki)) (u1 (Wx (d:=(.tup [(.str "without"),(.str "drawn")])) (by kernel_rfl)))) (cH (tge (ix (nv 0) (u1 ki)) (u1 (PEd.sc (Lw r (@ac _ _ _ _ _ _ _ (ix (nv 3) (u1 ki)) an stS)) (Bo Cv))))))) (s1 (Bc (u3 (@tup _ _ _ _ _ _ _ (@ac _ _ _ _ _ _ _ (@u1 _ _ _ _ (@ks _ _ _ _ _)) (@ac _ _ _ _ _ _ _ (ix (nv 0) (u1 ki)) an stS) stC))))) sn)
  (sc (if_ (teq o (ix (nv 0) (u1 ki)) (u1 ks)) (s1 (Bc (u3 (@tup _ _ _ _ _ _ _ (@ac _ _ _ _ _ _ _ (@u1 _ _ _ _ (@ks _ _ _ _ _)) (@ac _ _ _ _ _ _ _ (callC a (u.mono (by decide)) (@ac _ _ _ _ _ _ _ (nv 3) (@ac _ _ _ _ _ _ _ (ix (nv 0) (u1 ki)) an stS) stN)) an stK) stC))))) sn)
  (sc (if_ (teq o (ix (nv 0) (u1 ki)) (u1 ks)) (s1 (Bc (u3 (@tup _ _ _ _ _ _ _ (@ac _ _ _ _ _ _ _ (@u1 _ _ _ _ (@ks _ _ _ _ _)) (@ac _ _ _ _ _ _ _ (callC j (u.mono (by decide)) (@ac _ _ _ _ _ _ _ (nv 3) (@ac _ _ _ _ _ _ _ (ix (nv 0) (u1 ki)) an stS) stN)) an stK) stC))))) sn)
  (sc (if_ (teq o (ix (nv 0) (u1 ki)) (u1 ks)) (s1 (Dj 4 y (callC f (u.mono (by decide)) (@ac _ _ _ _ _ _ _ (nv 3) (@ac _ _ _ _ _ _ _ (dix o (nv 1) (ix (nv 0) (u1 ki))) an stS) stN)))) (s1 (Dj 4 y (callC e (u.mono (by decide)) (@ac _ _ _ _ _ _ _ (nv 3) (@ac _ _ _ _ _ _ _ (ix (nv 0) (u1 ki)) (@ac _ _ _ _ _ _ _ (dix o (nv 1) (ix (nv 0) (u1 ki))) (@ac _ _ _ _ _ _ _ (ix (nv 0) (u1 ki)) an stS) stS) stS) stN)))))
  (sc (if_ (tst (callC i (u.mono (by decide)) (@ac _ _ _ _ _ _ _ (nv 4) an stN))) (s1 (Bc (u2 (Wx (d:=(.tup [(.str "great"),.non])) (by kernel_rfl))))) sn)
  (s1 (Bc (u3 (@tup _ _ _ _ _ _ _ (@ac _ _ _ _ _ _ _ (@u1 _ _ _ _ (@ks _ _ _ _ _)) (@ac _ _ _ _ _ _ _ (nv 4) an stN) stC))))))))))))))⟩
def Vf:Ev->R Fl:=gO (v:=Kv.g) (by dsimp [Kv])
def Dm:List D->R D:=Be 5 Vf
abbrev Mz:CQ:=top 102
def Fi:Wf "words_behind" Mz 2 1 ["words","kinds"] (λb q=>Zc "len" b->q) So0:=⟨["words","kinds"],Ci,_,λS F a =>
  Cq (O:=[]) F S (by decide) λh A e s H E l j f =>
  have i:=S.nd
  (sc (if_ (T6 (bR (teq f (ix (nv 1) (u1 (neg ki))) (u1 ks)) (cH (tgt (PEd.sc (Lw a (@ac _ _ _ _ _ _ _ (nv 0) an stN)) (Bo Cv)) (PEd.sc (Lw a (@ac _ _ _ _ _ _ _ (nv 1) an stN)) (Bo Cv)))))) (s1 (Bc (u3 (Ge (Hf (nv 0) (ps ki) (ps (PEd.sc (Lw a (@ac _ _ _ _ _ _ _ (nv 1) an stN)) (Bo Cv)))) (u1 (@lst _ _ _ _ _ _ (@ac _ _ _ _ _ _ _ (PEd.sc (gC (u1 ks) (Hf (nv 0) (ps (PEd.sc (Lw a (@ac _ _ _ _ _ _ _ (nv 1) an stN)) (Bo Cv))) pn)) Ul) an stK))))))) sn)
  (s1 (Bc (u3 (Hf (nv 0) (ps ki) pn)))))⟩
def Mp:Ev->R Fl:=gO (v:=Fi.g) (by dsimp [Fi])
def Hz:List D->R D:=Be 2 Mp
abbrev Tv:CQ:=top 104
def Jp:Wf "is_number" Tv 2 1 ["word"] (λb q=>Zc "all" b->Zc "len" b->∀{t:Tok},b.mg "FIGURES" = some (.str "0123456789" t)->∀{t:Tok},b.mg "MOST_FIGURES" = some (.int 10 t)->q) So0:=⟨["word","figures"],Ci,_,λ{_} {_} {_} S F h f {_} e {_} a =>
  Cq (O:=[]) F S (by decide) λv A m s H E x w n =>
  have u:=S.nd
  (sc (Dj 1 u (ifx (tst (sw_ (nv 0) (u1 ks))) (u1 (PEd.sc (wo8 (nv 0) (ps ki) pn) kt5)) (nv 0)))
  (sc (if_ (T6 (iZ (Ue (Wm (Vw) (Vw) ki (PEd.sc (Lw f (@ac _ _ _ _ _ _ _ (nv 1) an stN)) (Bo Cv)) (kg a))) (i_ (Ue (tst (PEd.sc (fQ rfl h (@ac _ _ _ _ _ _ _ (comp (T:=["sign"]) (caps:=[]) (by rfl) rfl (oX (nv 1)) (λr _ p i l j o=>(tn 0 (show List.Nodup (["sign"]:List BP) by decide +kernel))) (λr _ p i l j o=>ti0) (λr _ p i l j o=>(u2 (PEd.sc (b7 (nv 0) (u1 (kgs e))) (Bg Qu)))) (Fq (by decide))) an rfl)) (Bo Uk))))))) (s1 (Bc (u2 kb))) sn)
  (s1 (Bc (u2 (vor (PEd.sc (ne_ n (ix (nv 1) (u1 ki)) (u1 ks)) (Bg kt4)) (v1 (PEd.sc (eq_ n (nv 0) (u1 ks)) (Bg Qt)))))))))⟩
def Tc:Ev->R Fl:=gO (v:=Jp.g) (by dsimp [Jp])
def jd2:List D->R D:=Be 2 Tc
abbrev Wc:CQ:=top 103
abbrev Sq:=Wb Jp FB jd2
def K1:Wf "value_of" Wc 2 2 ["kind","word"] (λb q=>Zc "int" b->RC0 b.K b.mg "NoRow"->Sq b->q) Sx0:=⟨["kind","word"],Ci,_,λS F f e a =>
  Fp (O:=[]) F S (by decide) λm A h s H E o l i j =>
  have n:=S.nd
  (sc (if_ (yG i (nv 0) (u1 (Wx (d:=(.tup [(.str "number"),(.str "many")])) (by kernel_rfl)))) (s1 (Bc (u3 (nv 1)))) sn)
  (sc (if_ (Ue (tst (callC a (l.mono (by decide)) (@ac _ _ _ _ _ _ _ (nv 1) an stN)))) (s1 (rs0 j rfl e wdk)) sn)
  (sc (if_ (T6 (bR (teq i (nv 0) (u1 ks)) (cH (tlt (PEd.sc (cT f (@ac _ _ _ _ _ _ _ (nv 1) an stN)) (Bo Mq)) ki)))) (s1 (rs0 j rfl e wdk)) sn)
  (s1 (Bc (u2 (PEd.sc (cT f (@ac _ _ _ _ _ _ _ (nv 1) an stN)) (Bo Mq))))))))⟩
def Vi:Ev->R Fl:=gO (v:=K1.g) (by dsimp [K1])
def Dz:List D->R D:=Be 2 Vi
abbrev Tz:CQ:=top 101
abbrev Mg:=Wb Fi FB Hz
abbrev R9:=Wb K1 FXB Dz
def Ez:Wf "read_line" Tz 4 3 ["row"] (λb q=>Zc "len" b->Zc "zip" b->RC0 b.K b.mg "NoRow"->Mg b->R9 b->FRM b.P b.w b.K b.mg "FORMS" FT->q) Sx0:=⟨["row","words","kinds","handed"],Ci,_,λS F h i f a e u =>
  kt1 (O:=[]) F S (by decide) λx A l s H E G t v j n =>
  have m:=S.nd
  (sc (Dj 1 m (PEf.d (rM (nv 0) (u1 ks)) u9))
  (sc (if_ (yb8 u (ix (nv 1) (u1 ki))) (s1 (rs0 j rfl f wdk)) sn)
  (sc (Dj 2 m (u1 (fixF u (ix (nv 1) (u1 ki)))))
  (sc (Dj 3 m (callC a (t.mono (by decide)) (@ac _ _ _ _ _ _ _ (nv 1) (@ac _ _ _ _ _ _ _ (nv 2) an stN) stN)))
  (sc (if_ (tne v (PEd.sc (Lw h (@ac _ _ _ _ _ _ _ (nv 3) an stN)) (Bo Cv)) (PEd.sc (Lw h (@ac _ _ _ _ _ _ _ (nv 2) an stN)) (Bo Cv))) (s1 (rs0 j rfl f wdk)) sn)
  (s1 (Bc (u3 (@tup _ _ _ _ _ _ _ (@ac _ _ _ _ _ _ _ (ix (nv 1) (u1 ki)) (@ac _ _ _ _ _ _ _ (wt0 n ⟨rfl,rfl⟩ (T:=["kind","word"]) (caps:=[]) (by rfl) rfl (zQ i (@ac _ _ _ _ _ _ _ (nv 2) (@ac _ _ _ _ _ _ _ (nv 3) an stN) stN)) (λC _ z o r p y=>(tT rfl (tsc 0 (show List.Nodup (["kind","word"]:List BP) by decide +kernel) (tsc 1 (show List.Nodup (["kind","word"]:List BP) by decide +kernel) tsn)))) (λC _ z o r p y B j=>(u3 (@tup _ _ _ _ _ _ _ (@ac _ _ _ _ _ _ _ (nv 0) (@ac _ _ _ _ _ _ _ (Ek e j (t.mono (by decide)) (@ac _ _ _ _ _ _ _ (nv 0) (@ac _ _ _ _ _ _ _ (nv 1) an stN) stN)) an stK) stN)))) (Ql (by decide))) an rfl) stS))))))))))⟩
def Mm:Ev->R Fl:=gO (v:=Ez.g) (by dsimp [Ez])
def Aq:List D->R D:=Be 4 Mm
abbrev Yl:CQ:=top 109
def M6:Wf "is_name" Yl 1 1 ["word"] (λb q=>Zc "all" b->Zc "len" b->∀{t:Tok},b.mg "LETTERS" = some (.str "abcdefghijklmnopqrstuvwxyz" t)->∀{t:Tok},b.mg "MOST_LETTERS" = some (.int 8 t)->q) So0:=⟨["word"],Ci,_,λ{_} {_} {_} S F h f {_} e {_} a =>
  Cq (O:=[]) F S (by decide) λr A m s H E x w v =>
  have u:=S.nd
  (s1 (Bc (u2 (ZC (chain (Vw) (Vw) ki (PEd.sc (Lw f (@ac _ _ _ _ _ _ _ (nv 0) an stN)) (Bo Cv)) (kg a)) (v1 (PEd.sc (fQ rfl h (@ac _ _ _ _ _ _ _ (comp (T:=["sign"]) (caps:=[]) (by rfl) rfl (oX (nv 0)) (λp _ o i l j n=>(tn 0 (show List.Nodup (["sign"]:List BP) by decide +kernel))) (λp _ o i l j n=>ti0) (λp _ o i l j n=>(u2 (PEd.sc (b7 (nv 0) (u1 (kgs e))) (Bg Qu)))) (Fq (by decide))) an rfl)) (Bo Uk)))))))⟩
def Xx:Ev->R Fl:=gO (v:=M6.g) (by dsimp [M6])
def M9:List D->R D:=Be 1 Xx
abbrev Oi:CQ:=Xm (top 108) 2
abbrev Xd:=Wb M6 FB M9
def J2:WfM "refuse_name" "Desk.refuse_name" Oi 3 2 ["self","kind","value"] (λb q=>RC0 b.K b.mg "NoName"->Xd b->HDk b.K->q) Sx0:=⟨["self","kind","value"],Ci,_,λS F a e m =>
  Fp (O:=[]) F S (by decide) λl A f s H E o j h i =>
  have n:=S.nd
  (sc (if_ (T6 (bR (teq h (nv 1) (u1 ks)) (cH (Ue (tst (callC e (j.mono (by decide)) (@ac _ _ _ _ _ _ _ (nv 2) an stN))))))) (s1 (rs0 i rfl a wdk)) sn)
  (s1 (if_ (T6 (bR (teq h (nv 1) (u1 ks)) (cH (wp7 h m (nv 2) (nv 0))))) (s1 (rs0 i rfl a wdk)) sn)))⟩
def Cz:Ev->R Fl:=gO (v:=J2.g) (by dsimp [J2])
def Bb:List D->R D:=Be 3 Cz
abbrev Hj:CQ:=top 94
def Df:Wf "is_written_number" Hj 1 1 ["word"] (λb q=>Zc "len" b->∀{t:Tok},b.mg "FIGURES" = some (.str "0123456789" t)->q) So0:=⟨["word"],Ci,_,λ{_} {_} {_} S F e {_} a =>
  Cq (O:=[]) F S (by decide) λi A f s H E m l h =>
  have j:=S.nd
  (s1 (Bc (u2 (ZC (eq_ h (PEd.sc (Lw e (@ac _ _ _ _ _ _ _ (nv 0) an stN)) (Bo Cv)) ki) (ZC (PEd.sc (b7 (ix (nv 0) (u1 ki)) (u1 (kgs a))) (Bg Qu)) (v1 (PEd.sc (eq_ h (ix (nv 0) (u1 ki)) (u1 ks)) (Bg Qt))))))))⟩
def Hi:Ev->R Fl:=gO (v:=Df.g) (by dsimp [Df])
def Hh:List D->R D:=Be 1 Hi
abbrev Ko:CQ:=top 95
def Eb:Wf "is_written_tie" Ko 1 1 ["word"] (λb q=>Zc "len" b->∀{t:Tok},b.mg "FIGURES" = some (.str "0123456789" t)->q) So0:=⟨["word"],Ci,_,λ{_} {_} {_} S F e {_} a =>
  Cq (O:=[]) F S (by decide) λi A f s H E m l h =>
  have j:=S.nd
  (s1 (Bc (u2 (ZC (eq_ h (PEd.sc (Lw e (@ac _ _ _ _ _ _ _ (nv 0) an stN)) (Bo Cv)) ki) (ZC (PEd.sc (b7 (ix (nv 0) (u1 ki)) (u1 (kgs a))) (Bg Qu)) (ZC (PEd.sc (eq_ h (ix (nv 0) (u1 ki)) (u1 ks)) (Bg Qt)) (v1 (PEd.sc (b7 (ix (nv 0) (u1 ki)) (u1 (kgs a))) (Bg Qu)))))))))⟩
def Ke:Ev->R Fl:=gO (v:=Eb.g) (by dsimp [Eb])
def Gi:List D->R D:=Be 1 Ke
abbrev Kp:CQ:=top 34
def Ec:Wf "refuse_numbers" Kp 2 3 ["points","many"] (λb q=>RC1 b.P b.w b.K b.mg b.base "NoWeb" "place"->∀{t:Tok},b.mg "MOST_POINTS" = some (.int 6 t)->∀{t:Tok},b.mg "MOST_TIES" = some (.int 9 t)->q) Sx0:=⟨["points","many"],Ci,_,λ{_} {_} {_} S F f {_} a {_} e =>
  Fp (O:=[]) F S (by decide) λl A h s H E o i n j =>
  have m:=S.nd
  (sc (if_ (Ue (Wm (Vw) (Vw) (u1 ki) (nv 0) (u1 (kg a)))) (s1 (rs1 j rfl (i.mono (by decide)) f (wdj (RT wdk (RT (wdf (kg a)) (RT wdk (RT (wdf (nv 0)) bN))))) kn)) sn)
  (s1 (if_ (tgt (nv 1) (u1 (kg e))) (s1 (rs1 j rfl (i.mono (by decide)) f (wdj (RT wdk (RT (wdf (kg e)) (RT wdk (RT (wdf (nv 1)) bN))))) kn)) sn)))⟩
def Cg:Ev->R Fl:=gO (v:=Ec.g) (by dsimp [Ec])
def Dg:List D->R D:=Be 2 Cg
abbrev vG:CQ:=top 36
def Pr:Wf "is_tie" vG 2 1 ["thing","points"] (λb q=>Zc "isinstance" b->Zc "len" b->Zc "tuple" b->q) So0:=⟨["thing","points"],Ci,_,λS F a f e =>
  Cq (O:=[]) F S (by decide) λj A h s H E n m i =>
  have l:=S.nd
  (sc (if_ (T6 (iZ (Ue (tst (isi "tuple" "tuple" (by decide) PyProof.Rows.boot_tuple a e (nv 0)))) (i_ (tne i (PEd.sc (Lw f (@ac _ _ _ _ _ _ _ (nv 0) an stN)) (Bo Cv)) ki)))) (s1 (Bc (u2 kb))) sn)
  (s1 (Bc (u2 (PEd.sc (wg1 (Vw) (Vw) (bY) (u1 ki) (ix (nv 0) (u1 ki)) (ix (nv 0) (u1 ki)) (nv 1)) (kt2 kt3))))))⟩
def vX:Ev->R Fl:=gO (v:=Pr.g) (by dsimp [Pr])
def U8:List D->R D:=Be 2 vX
abbrev vC:CQ:=top 29
abbrev wJ:=Wb Pr FB U8
abbrev Du:=Wb Ec FXB Dg
def Px:Wf "web_of" vC 4 4 ["points","ties"] (λb q=>Zc "enumerate" b->Zc "len" b->Zc "tuple" b->RC1 b.P b.w b.K b.mg b.base "NoWeb" "place"->wJ b->Du b->q) Sx0:=⟨["points","ties","place","thing"],Ci,_,λS F e j h i f a =>
  Fp (O:=[]) F S (by decide) λp A l s H E t m r o =>
  have n:=S.nd
  (sc (ex_ (u3 (Ek a o (m.mono (by decide)) (@ac _ _ _ _ _ _ _ (nv 0) (@ac _ _ _ _ _ _ _ (u1 (PEd.sc (Lw j (@ac _ _ _ _ _ _ _ (nv 1) an stN)) (Bo Cv))) an stK) stN))))
  (sc (for_ PassesOwn.leaving rfl (tT rfl (tsc 2 n (tsc 3 n tsn))) (wj4 e (nv 1)) (s1 (if_ (Ue (tst (callC f (m.mono (by decide)) (@ac _ _ _ _ _ _ _ (nv 3) (@ac _ _ _ _ _ _ _ (nv 0) an stN) stN)))) (s1 (rs1 o rfl (m.mono (by decide)) i (wdj (RT wdk (RT (wdf (nv 2)) (RT wdk bN)))) (nv 2))) sn)))
  (s1 (Bc (u3 (@tup _ _ _ _ _ _ _ (@ac _ _ _ _ _ _ _ (nv 0) (@ac _ _ _ _ _ _ _ (R6 h (@ac _ _ _ _ _ _ _ (nv 1) an stN)) an stK) stN)))))))⟩
def vV:Ev->R Fl:=gO (v:=Px.g) (by dsimp [Px])
def Hy:List D->R D:=Be 4 vV
abbrev Wa:CQ:=top 92
abbrev Hg:=Wb Df FB Hh
abbrev J6:=Wb Eb FB Gi
abbrev Xc:=Wb Px FXB Hy
def Kz:Wf "read_web" Wa 3 5 ["text"] (λb q=>Zc "int" b->RC0 b.K b.mg "NoText"->Hg b->J6 b->Xc b->q) Sx0:=⟨["text","words","word"],Ci,_,λS F h f a e i =>
  Fp (O:=[]) F S (by decide) λw A n s H E y o x p =>
  have r:=S.nd
  (sc (Dj 1 r (PEf.d (rM (nv 0) (u1 ks)) u9))
  (sc (if_ (Ue (tst (callC a (o.mono (by decide)) (@ac _ _ _ _ _ _ _ (ix (nv 1) (u1 ki)) an stS)))) (s1 (rs0 p rfl f wdk)) sn)
  (sc (for_ PassesOwn.leaving rfl (tn 2 r) (Nj (Hf (nv 1) (ps ki) pn)) (s1 (if_ (Ue (tst (callC e (o.mono (by decide)) (@ac _ _ _ _ _ _ _ (nv 2) an stN)))) (s1 (rs0 p rfl f wdk)) sn)))
  (s1 (Bc (u3 (Ek i p (o.mono (by decide)) (@ac _ _ _ _ _ _ _ (u1 (PEd.sc (cT h (@ac _ _ _ _ _ _ _ (ix (ix (nv 1) (u1 ki)) (u1 ki)) an stS)) (Bo Mq))) (@ac _ _ _ _ _ _ _ (comp (T:=["word"]) (caps:=[]) (by rfl) rfl (Nj (Hf (nv 1) (ps ki) pn)) (λv _ u j m l t=>(tn 0 (show List.Nodup (["word"]:List BP) by decide +kernel))) (λv _ u j m l t=>ti0) (λv _ u j m l t=>(u2 (@tup _ _ _ _ _ _ _ (@ac _ _ _ _ _ _ _ (PEd.sc (cT h (@ac _ _ _ _ _ _ _ (ix (nv 0) (u1 ki)) an stS)) (Bo Mq)) (@ac _ _ _ _ _ _ _ (PEd.sc (cT h (@ac _ _ _ _ _ _ _ (ix (nv 0) (u1 ki)) an stS)) (Bo Mq)) an stK) stK)))) (Fq (by decide))) an rfl) stK))))))))⟩
def K8:Ev->R Fl:=gO (v:=Kz.g) (by dsimp [Kz])
def K3:List D->R D:=Be 3 K8
abbrev Rf:CQ:=top 35
def Hq:Wf "refuse_tie" Rf 2 3 ["web","tie"] (λb q=>Zc "len" b->RC1 b.P b.w b.K b.mg b.base "NoTie" "tie"->q) Sx0:=⟨["web","tie"],Ci,_,λS F e a =>
  Fp (O:=[]) F S (by decide) λj A f s H E n h m i =>
  have l:=S.nd
  (s1 (if_ (Ue (Wm (Vw) (bY) (u1 ki) (nv 1) (u1 (PEd.sc (Lw e (@ac _ _ _ _ _ _ _ (ix (nv 0) (u1 ki)) an stS)) (Bo Cv))))) (s1 (rs1 i rfl (h.mono (by decide)) a (wdj (RT wdk (RT (wdf (nv 1)) bN))) (nv 1))) sn))⟩
def Ht:Ev->R Fl:=gO (v:=Hq.g) (by dsimp [Hq])
def K4:List D->R D:=Be 2 Ht
abbrev Ym:CQ:=top 30
abbrev Nq:=Wb Hq FXB K4
def M7:Wf "without" Ym 3 4 ["web","tie"] (λb q=>Nq b->q) Sx0:=⟨["web","tie","ties"],Ci,_,λS F a =>
  Fp (O:=[]) F S (by decide) λj A e s H E m h l i =>
  have f:=S.nd
  (sc (ex_ (u3 (Ek a i (h.mono (by decide)) (@ac _ _ _ _ _ _ _ (nv 0) (@ac _ _ _ _ _ _ _ (nv 1) an stN) stN))))
  (sc (Dj 2 f (ix (nv 0) (u1 ki)))
  (s1 (Bc (u3 (@tup _ _ _ _ _ _ _ (@ac _ _ _ _ _ _ _ (ix (nv 0) (u1 ki)) (@ac _ _ _ _ _ _ _ (Ge (Hf (nv 2) pn (ps (nv 1))) (Hf (nv 2) (ps (Ge (nv 1) (u1 ki))) pn)) an stB) stS)))))))⟩
def Xy:Ev->R Fl:=gO (v:=M7.g) (by dsimp [M7])
def Nb:List D->R D:=Be 3 Xy
abbrev Rg:CQ:=top 40
def Hr:Wf "rising_tie" Rg 2 1 ["one","other"] (λb q=>Zc "max" b->Zc "min" b->q) So0:=⟨["one","other"],Ci,_,λS F e a =>
  Cq (O:=[]) F S (by decide) λh A f s H E m l j =>
  have i:=S.nd
  (s1 (Bc (u2 (@tup _ _ _ _ _ _ _ (@ac _ _ _ _ _ _ _ (PEd.sc (jF rfl a (@ac _ _ _ _ _ _ _ (nv 0) (@ac _ _ _ _ _ _ _ (nv 1) an stN) stN)) (Bo Zq)) (@ac _ _ _ _ _ _ _ (PEd.sc (jG rfl e (@ac _ _ _ _ _ _ _ (nv 0) (@ac _ _ _ _ _ _ _ (nv 1) an stN) stN)) (Bo Zo)) an stK) stK)))))⟩
def Qq:Ev->R Fl:=gO (v:=Hr.g) (by dsimp [Hr])
def K5:List D->R D:=Be 2 Qq
abbrev Lp:CQ:=top 39
def Es:Wf "number_as_one" Lp 3 1 ["point","lesser","greater"] (λb q=>q) So0:=⟨["point","lesser","greater"],Ci,_,λS F =>
  Cq (O:=[]) F S (by decide) λf A a s H E j i e =>
  have h:=S.nd
  (sc (if_ (teq e (nv 0) (nv 2)) (s1 (Bc (u3 (nv 1)))) sn)
  (sc (if_ (tgt (nv 0) (nv 2)) (s1 (Bc (u2 (PEd.sc (sub (nv 0) (u1 ki)) (Bg Qx))))) sn)
  (s1 (Bc (u3 (nv 0))))))⟩
def Li:Ev->R Fl:=gO (v:=Es.g) (by dsimp [Es])
def Et:List D->R D:=Be 3 Li
abbrev vI:CQ:=top 38
abbrev Lf:=Wb Es FB Et
abbrev Ph:=Wb Hr FB K5
def Pn:Wf "as_one" vI 4 2 ["web","lesser","greater"] (λb q=>Zc "tuple" b->Lf b->Ph b->q) So0:=⟨["web","lesser","greater","ties"],Ci,_,λS F f a e =>
  Cq (O:=[]) F S (by decide) λt A l s H E v m u =>
  have r:=S.nd
  (sc (setC (T:=["tie"]) (caps:=[1,2]) 3 r (by rfl) rfl (Nj (ix (nv 0) (u1 ki))) (λp _ o h j i n=>(tn 0 (show List.Nodup (["tie","lesser","greater"]:List BP) by decide +kernel))) (λp _ o h j i n=>ti0) (λp _ o h j i n=>(u3 (callC e (m.mono (by decide)) (@ac _ _ _ _ _ _ _ (callC a (m.mono (by decide)) (@ac _ _ _ _ _ _ _ (ix (nv 0) (u1 ki)) (@ac _ _ _ _ _ _ _ (nv 1) (@ac _ _ _ _ _ _ _ (nv 2) an stN) stN) stS)) (@ac _ _ _ _ _ _ _ (callC a (m.mono (by decide)) (@ac _ _ _ _ _ _ _ (ix (nv 0) (u1 ki)) (@ac _ _ _ _ _ _ _ (nv 1) (@ac _ _ _ _ _ _ _ (nv 2) an stN) stN) stS)) an stK) stK)))) (Fq (by decide)))
  (s1 (Bc (u3 (@tup _ _ _ _ _ _ _ (@ac _ _ _ _ _ _ _ (u1 (PEd.sc (sub (ix (nv 0) (u1 ki)) (u1 ki)) (Bg Qx))) (@ac _ _ _ _ _ _ _ (R6 f (@ac _ _ _ _ _ _ _ (nv 3) an stN)) an stK) stB))))))⟩
def vZ:Ev->R Fl:=gO (v:=Pn.g) (by dsimp [Pn])
def v_:List D->R D:=Be 4 vZ
abbrev tZ:CQ:=top 31
abbrev Uy:=Wb Pn FB v_
abbrev Oo:=Wb M7 FXB Nb
def Uh:Wf "drawn" tZ 4 5 ["web","tie"] (λb q=>Uy b->Oo b->q) Sx0:=⟨["web","tie","others","ends"],Ci,_,λS F e a =>
  Fp (O:=[]) F S (by decide) λm A f s H E n i j l =>
  have h:=S.nd
  (sc (Dj 2 h (Ek a l (i.mono (by decide)) (@ac _ _ _ _ _ _ _ (nv 0) (@ac _ _ _ _ _ _ _ (nv 1) an stN) stN)))
  (sc (Dj 3 h (ix (ix (nv 0) (u1 ki)) (nv 1)))
  (sc (if_ (teq j (ix (nv 3) (u1 ki)) (ix (nv 3) (u1 ki))) (s1 (Bc (u3 (nv 2)))) sn)
  (s1 (Bc (u3 (callC e (i.mono (by decide)) (@ac _ _ _ _ _ _ _ (nv 2) (@ac _ _ _ _ _ _ _ (ix (nv 3) (u1 ki)) (@ac _ _ _ _ _ _ _ (ix (nv 3) (u1 ki)) an stS) stS) stN))))))))⟩
def uP:Ev->R Fl:=gO (v:=Uh.g) (by dsimp [Uh])
def Uj:List D->R D:=Be 4 uP
abbrev Rc:CQ:=top 37
def Ho:Wf "put_behind" Rc 3 1 ["one","other"] (λb q=>Zc "tuple" b->q) So0:=⟨["one","other","moved_up"],Ci,_,λS F a =>
  Cq (O:=[]) F S (by decide) λo A i s H E t r p =>
  have n:=S.nd
  (sc (setC (T:=["tie"]) (caps:=[0]) 2 n (by rfl) rfl (Nj (ix (nv 1) (u1 ki))) (λm _ l e h f j=>(tn 0 (show List.Nodup (["tie","one"]:List BP) by decide +kernel))) (λm _ l e h f j=>ti0) (λm _ l e h f j=>(u3 (@tup _ _ _ _ _ _ _ (@ac _ _ _ _ _ _ _ (Ge (ix (nv 0) (u1 ki)) (ix (nv 1) (u1 ki))) (@ac _ _ _ _ _ _ _ (Ge (ix (nv 0) (u1 ki)) (ix (nv 1) (u1 ki))) an stB) stB)))) (Fq (by decide)))
  (s1 (Bc (u3 (@tup _ _ _ _ _ _ _ (@ac _ _ _ _ _ _ _ (Ge (ix (nv 0) (u1 ki)) (ix (nv 1) (u1 ki))) (@ac _ _ _ _ _ _ _ (Ge (ix (nv 0) (u1 ki)) (R6 a (@ac _ _ _ _ _ _ _ (nv 2) an stN))) an stB) stB))))))⟩
def Qp:Ev->R Fl:=gO (v:=Ho.g) (by dsimp [Ho])
def Qg:List D->R D:=Be 3 Qp
abbrev vH:CQ:=top 32
abbrev Ku:=Wb Ho FB Qg
def Pq:Wf "beside" vH 3 4 ["one","other"] (λb q=>Zc "len" b->Ku b->Du b->q) Sx0:=⟨["one","other","both"],Ci,_,λS F f e a =>
  Fp (O:=[]) F S (by decide) λm A h s H E o i n l =>
  have j:=S.nd
  (sc (Dj 2 j (callC e (i.mono (by decide)) (@ac _ _ _ _ _ _ _ (nv 0) (@ac _ _ _ _ _ _ _ (nv 1) an stN) stN)))
  (sc (ex_ (u3 (Ek a l (i.mono (by decide)) (@ac _ _ _ _ _ _ _ (ix (nv 2) (u1 ki)) (@ac _ _ _ _ _ _ _ (u1 (PEd.sc (Lw f (@ac _ _ _ _ _ _ _ (ix (nv 2) (u1 ki)) an stS)) (Bo Cv))) an stK) stS))))
  (s1 (Bc (u3 (nv 2))))))⟩
def vY:Ev->R Fl:=gO (v:=Pq.g) (by dsimp [Pq])
def Qe:List D->R D:=Be 3 vY
abbrev My:CQ:=top 111
def Fg:Wf "refuse_point" My 2 1 ["web","point"] (λb q=>RC0 b.K b.mg "NoRow"->q) Sx0:=⟨["web","point"],Ci,_,λS F a =>
  Fp (O:=[]) F S (by decide) λh A e s H E m l j f =>
  have i:=S.nd
  (s1 (if_ (Ue (Wm (Vw) (bY) (u1 ki) (nv 1) (ix (nv 0) (u1 ki)))) (s1 (rs0 f rfl a (wdj (RT wdk (RT (wdf (nv 1)) bN))))) sn))⟩
def Ft:Ev->R Fl:=gO (v:=Fg.g) (by dsimp [Fg])
def Hx:List D->R D:=Be 2 Ft
abbrev vD:CQ:=top 33
def Pu:Wf "joined" vD 5 4 ["one","point","other","place"] (λb q=>Zc "len" b->Uy b->Ku b->Du b->q) Sx0:=⟨["one","point","other","place","whole"],Ci,_,λS F h f e a =>
  Fp (O:=[]) F S (by decide) λn A i s H E p j o m =>
  have l:=S.nd
  (sc (Dj 4 l (callC f (j.mono (by decide)) (@ac _ _ _ _ _ _ _ (callC e (j.mono (by decide)) (@ac _ _ _ _ _ _ _ (nv 0) (@ac _ _ _ _ _ _ _ (nv 2) an stN) stN)) (@ac _ _ _ _ _ _ _ (nv 1) (@ac _ _ _ _ _ _ _ (Ge (ix (nv 0) (u1 ki)) (nv 3)) an stB) stN) stK)))
  (sc (ex_ (u3 (Ek a m (j.mono (by decide)) (@ac _ _ _ _ _ _ _ (ix (nv 4) (u1 ki)) (@ac _ _ _ _ _ _ _ (u1 (PEd.sc (Lw h (@ac _ _ _ _ _ _ _ (ix (nv 4) (u1 ki)) an stS)) (Bo Cv))) an stK) stS))))
  (s1 (Bc (u3 (nv 4))))))⟩
def vW:Ev->R Fl:=gO (v:=Pu.g) (by dsimp [Pu])
def Qf:List D->R D:=Be 5 vW
abbrev V9:CQ:=top 110
abbrev Xa:=Wb Pq FXB Qe
abbrev wL:=Wb Uh FXB Uj
abbrev Xb:=Wb Pu FXB Qf
abbrev R8:=Wb Kz FXB K3
abbrev Le:=Wb Fg FXB Hx
def Gh:Wf "made_web" V9 2 6 ["word","values"] (λb q=>Xa b->wL b->Xb b->R8 b->Le b->Oo b->q) Sx0:=⟨["word","values"],Ci,_,λS F i j h e a f =>
  Fp (O:=[]) F S (by decide) λp A o s H E t l n m =>
  have r:=S.nd
  (sc (if_ (teq n (nv 0) (u1 ks)) (s1 (Bc (u3 (Ek e m (l.mono (by decide)) (@ac _ _ _ _ _ _ _ (ix (nv 1) (u1 ki)) an stS))))) sn)
  (sc (if_ (teq n (nv 0) (u1 ks)) (s1 (Bc (u3 (Ek f m (l.mono (by decide)) (@ac _ _ _ _ _ _ _ (ix (nv 1) (u1 ki)) (@ac _ _ _ _ _ _ _ (ix (nv 1) (u1 ki)) an stS) stS))))) sn)
  (sc (if_ (teq n (nv 0) (u1 ks)) (s1 (Bc (u3 (Ek j m (l.mono (by decide)) (@ac _ _ _ _ _ _ _ (ix (nv 1) (u1 ki)) (@ac _ _ _ _ _ _ _ (ix (nv 1) (u1 ki)) an stS) stS))))) sn)
  (sc (if_ (teq n (nv 0) (u1 ks)) (s1 (Bc (u3 (Ek i m (l.mono (by decide)) (@ac _ _ _ _ _ _ _ (ix (nv 1) (u1 ki)) (@ac _ _ _ _ _ _ _ (ix (nv 1) (u1 ki)) an stS) stS))))) sn)
  (sc (ex_ (u3 (Ek a m (l.mono (by decide)) (@ac _ _ _ _ _ _ _ (ix (nv 1) (u1 ki)) (@ac _ _ _ _ _ _ _ (ix (nv 1) (u1 ki)) an stS) stS))))
  (sc (ex_ (u3 (Ek a m (l.mono (by decide)) (@ac _ _ _ _ _ _ _ (ix (nv 1) (u1 ki)) (@ac _ _ _ _ _ _ _ (ix (nv 1) (u1 ki)) an stS) stS))))
  (s1 (Bc (u3 (Ek h m (l.mono (by decide)) (@ac _ _ _ _ _ _ _ (ix (nv 1) (u1 ki)) (@ac _ _ _ _ _ _ _ (ix (nv 1) (u1 ki)) (@ac _ _ _ _ _ _ _ (ix (nv 1) (u1 ki)) (@ac _ _ _ _ _ _ _ (ix (nv 1) (u1 ki)) an stS) stS) stS) stS)))))))))))⟩
def Ow:Ev->R Fl:=gO (v:=Gh.g) (by dsimp [Gh])
def Ay:List D->R D:=Be 2 Ow
abbrev Oj:CQ:=top 97
def Gv:Wf "written_tie" Oj 3 1 ["tie"] (λb q=>q) So0:=⟨["tie","first","second"],Ci,_,λS F =>
  Cq (O:=[]) F S (by decide) λf A a s H E j i h =>
  have e:=S.nd
  (sc (Dj 1 e (ix (nv 0) (u1 ki)))
  (sc (Dj 2 e (ix (nv 0) (u1 ki)))
  (s1 (Bc (u2 (js_ (cG (jO (nv 1)) (cG ks (cG (jO (nv 2)) uG)))))))))⟩
def Ob:Ev->R Fl:=gO (v:=Gv.g) (by dsimp [Gv])
def Gw:List D->R D:=Be 3 Ob
abbrev Kq:CQ:=top 96
def Ed:Wf "written_number" Kq 1 1 ["points"] (λb q=>q) So0:=⟨["points"],Ci,_,λS F =>
  Cq (O:=[]) F S (by decide) λe A a s H E j i h =>
  have f:=S.nd
  (s1 (Bc (u2 (js_ (cG (jO (nv 0)) (cG ks uG))))))⟩
def Kf:Ev->R Fl:=gO (v:=Ed.g) (by dsimp [Ed])
def Ka:List D->R D:=Be 1 Kf
abbrev T3:CQ:=top 93
abbrev J7:=Wb Ed FB Ka
abbrev Nv:=Wb Gv FB Gw
def Jq:Wf "shown_web" T3 2 2 ["web"] (λb q=>J7 b->Nv b->q) So0:=⟨["web","written"],Ci,_,λS F a e =>
  Cq (O:=[]) F S (by decide) λr A j s H E u l t =>
  have p:=S.nd
  (sc (setC (T:=["tie"]) (caps:=[]) 1 p (by rfl) rfl (Nj (ix (nv 0) (u1 ki))) (λo _ n f i h m=>(tn 0 (show List.Nodup (["tie"]:List BP) by decide +kernel))) (λo _ n f i h m=>ti0) (λo _ n f i h m=>(u3 (callC e (l.mono (by decide)) (@ac _ _ _ _ _ _ _ (nv 0) an stN)))) (Fq (by decide)))
  (s1 (Bc (u2 (PEd.sc (gC (u1 ks) (Ge (@lst _ _ _ _ _ _ (@ac _ _ _ _ _ _ _ (callC a (l.mono (by decide)) (@ac _ _ _ _ _ _ _ (ix (nv 0) (u1 ki)) an stS)) an stK)) (nv 1))) Ul)))))⟩
def Td:Ev->R Fl:=gO (v:=Jq.g) (by dsimp [Jq])
def Js:List D->R D:=Be 2 Td
abbrev Oh:CQ:=top 113
def Gu:Wf "number_told" Oh 2 1 ["word","values"] (λb q=>Zc "len" b->q) So0:=⟨["word","values"],Ci,_,λS F a =>
  Cq (O:=[]) F S (by decide) λh A f s H E l j e =>
  have i:=S.nd
  (sc (if_ (teq e (nv 0) (u1 ks)) (s1 (Bc (u2 Zw))) sn)
  (sc (if_ (teq e (nv 0) (u1 ks)) (s1 (Bc (u2 (Lw a (@ac _ _ _ _ _ _ _ Zw an stK))))) sn)
  (sc (if_ (teq e (nv 0) (u1 ks)) (s1 (Bc (u2 Zw))) sn)
  (sc (if_ (teq e (nv 0) (u1 ks)) (s1 (Bc (u2 Zw))) sn)
  (sc (if_ (teq e (nv 0) (u1 ks)) (s1 (Bc (u2 Zw))) sn)
  (s1 (Bc (u2 Zw))))))))⟩
def Oa:Ev->R Fl:=gO (v:=Gu.g) (by dsimp [Gu])
def Wy:List D->R D:=Be 2 Oa
abbrev vJ:CQ:=top 112
abbrev Nu:=Wb Gu FB Wy
abbrev Su:=Wb Jq FB Js
def Pk:Wf "answer" vJ 2 3 ["word","values"] (λb q=>Zc "str" b->Nu b->Su b->q) So0:=⟨["word","values"],Ci,_,λS F f a e =>
  Cq (O:=[]) F S (by decide) λl A i s H E n j h =>
  have m:=S.nd
  (sc (if_ (teq h (nv 0) (u1 ks)) (s1 (Bc (u3 (callC e (j.mono (by decide)) (@ac _ _ _ _ _ _ _ (ix (nv 1) (u1 ki)) an stS))))) sn)
  (sc (if_ (teq h (nv 0) (u1 ks)) (s1 (Bc (u2 Zw))) sn)
  (sc (if_ (teq h (nv 0) (u1 ks)) (s1 (Bc (u2 Zw))) sn)
  (sc (if_ (teq h (nv 0) (u1 ks)) (s1 (Bc (u2 Zw))) sn)
  (s1 (Bc (u2 (PEd.sc (fZ f (@ac _ _ _ _ _ _ _ (callC a (j.mono (by decide)) (@ac _ _ _ _ _ _ _ (nv 0) (@ac _ _ _ _ _ _ _ (nv 1) an stN) stN)) an stK)) (Bo Qw)))))))))⟩
def v5:Ev->R Fl:=gO (v:=Pk.g) (by dsimp [Pk])
def wA:List D->R D:=Be 2 v5
abbrev pY:CQ:=Xm (top 108) 1
abbrev wK:=Wb Pk FB wA
abbrev R7:=Wb Gh FXB Ay
abbrev O9:=Wb Ez FXB Aq
abbrev Uu(b:Bx):Prop:=FMX b 2 "refuse_name" ["self","kind","value"] Bb
def kY:WfM "say" "Desk.say" pY 8 7 ["self","row"] (λb q=>wK b->R7 b->O9 b->HDk b.K->Uu b->q) Sx0:=⟨["self","row","line","word","handed","kind","value","values"],Ci,_,λS F h f e x a =>
  Fp (O:=[]) F S (by decide) λw A p s H E y o n r =>
  have i:=S.nd
  (sc (Dj 2 i (Ek e r (o.mono (by decide)) (@ac _ _ _ _ _ _ _ (nv 1) an stN)))
  (sc (Dj 3 i (ix (nv 2) (u1 ki)))
  (sc (Dj 4 i (ix (nv 2) (u1 ki)))
  (sc (for_ PassesOwn.leaving rfl (tT rfl (tsc 5 i (tsc 6 i tsn))) (Nj (nv 4)) (s1 (ex_ (u3 (wf8 a r (o.mono (by decide)) (nv 0) (ac (nv 5) (ac (nv 6) an)))))))
  (sc (setC (T:=["kind","value"]) (caps:=[0]) 7 i (by rfl) rfl (Nj (nv 4)) (λv _ u j m l t=>(tT rfl (tsc 0 (show List.Nodup (["kind","value","self"]:List BP) by decide +kernel) (tsc 1 (show List.Nodup (["kind","value","self"]:List BP) by decide +kernel) tsn)))) (λv _ u j m l t=>ti0) (λv _ u j m l t=>(u3 (ifx (teq n (nv 0) (u1 ks)) (pR n x (nv 2) (nv 1)) (nv 1)))) (Ql (by decide)))
  (sc (if_ (teq n (ix (ix (nv 4) (u1 ki)) (u1 ki)) (u1 ks)) (sc (wl6 n (Ek f r (o.mono (by decide)) (@ac _ _ _ _ _ _ _ (nv 3) (@ac _ _ _ _ _ _ _ (Hf (nv 7) (ps ki) pn) an stS) stN)))
  (s1 (Bc (u2 ks)))) sn)
  (s1 (Bc (u3 (callC h (o.mono (by decide)) (@ac _ _ _ _ _ _ _ (nv 3) (@ac _ _ _ _ _ _ _ (nv 7) an stN) stN)))))))))))⟩
def j9:Ev->R Fl:=gO (v:=kY.g) (by dsimp [kY])
def J9:List D->R D:=Be 8 j9
abbrev Gz:CQ:=top 132
abbrev wf0(b:Bx):Prop:=FMX b 7 "say" ["self","row"] J9
def Gn:Wf "_law_answer" Gz 3 8 ["_law_desk","_law_row_here"] (λb q=>RCI b.K b.mg "NoName"->RCI b.K b.mg "NoTie"->RCI b.K b.mg "NoWeb"->wf0 b->q) So0:=⟨["_law_desk","_law_row_here","e"],Ci,_,λS F a f e h =>
  Cq (O:=[]) F S (by decide) λn A i s H E p m o =>
  have l:=S.nd
  (s1 (yF 2 h (m.mono (by decide)) (u3 (nv 0)) (ac (u3 (nv 1)) an) (λj=>(s1 (Bc (u2 (Wx (d:=(.tup [(.str "name"),.non])) (by kernel_rfl)))))) (λj=>(s1 (Bc (u2 (@tup _ _ _ _ _ _ _ (@ac _ _ _ _ _ _ _ (@ks _ _ _ _ _) (@ac _ _ _ _ _ _ _ (qP (nv 2)) an rfl) stC)))))) (λj=>(s1 (Bc (u2 (@tup _ _ _ _ _ _ _ (@ac _ _ _ _ _ _ _ (@ks _ _ _ _ _) (@ac _ _ _ _ _ _ _ (qP (nv 2)) an rfl) stC)))))) a f e ⟨rfl,rfl⟩ l))⟩
def N5:Ev->R Fl:=gO (v:=Gn.g) (by dsimp [Gn])
def Ar:List D->R D:=Be 3 N5
abbrev Tu:CQ:=top 120
def Jo:Wf "_law_text" Tu 1 1 ["_law_web_here"] (λb q=>Zc "str" b->q) So0:=⟨["_law_web_here"],Ci,_,λS F a =>
  Cq (O:=[]) F S (by decide) λn A i s H E t r p =>
  have o:=S.nd
  (s1 (Bc (u2 (PEd.sc (gC (u1 ks) (Ge (u1 (@lst _ _ _ _ _ _ (@ac _ _ _ _ _ _ _ (Ge (PEd.sc (fZ a (@ac _ _ _ _ _ _ _ (ix (nv 0) (u1 ki)) an stS)) (Bo Qw)) ks) an stB))) (comp (T:=["_law_one","_law_other"]) (caps:=[]) (by rfl) rfl (Nj (ix (nv 0) (u1 ki))) (λm _ l e h f j=>(tT rfl (tsc 0 (show List.Nodup (["_law_one","_law_other"]:List BP) by decide +kernel) (tsc 1 (show List.Nodup (["_law_one","_law_other"]:List BP) by decide +kernel) tsn)))) (λm _ l e h f j=>ti0) (λm _ l e h f j=>(u2 (Ge (Ge (PEd.sc (fZ a (@ac _ _ _ _ _ _ _ (nv 0) an stN)) (Bo Qw)) ks) (PEd.sc (fZ a (@ac _ _ _ _ _ _ _ (nv 1) an stN)) (Bo Qw))))) (Ql (by decide))))) Ul))))⟩
def S9:Ev->R Fl:=gO (v:=Jo.g) (by dsimp [Jo])
def Bl:List D->R D:=Be 1 S9
abbrev V7:CQ:=top 129
abbrev Jj:=Wb Jo FB Bl
def Kw:Wf "_law_row" V7 2 2 ["_law_deed_here"] (λb q=>Zc "isinstance" b->Zc "str" b->Zc "tuple" b->Jj b->q) So0:=⟨["_law_deed_here","_law_words"],Ci,_,λS F a h f e =>
  Cq (O:=[]) F S (by decide) λu A m s H E w t v =>
  have r:=S.nd
  (sc (setC (T:=["_law_part"]) (caps:=[]) 1 r (by rfl) rfl (Nj (nv 0)) (λp _ o i l j n=>(tn 0 (show List.Nodup (["_law_part"]:List BP) by decide +kernel))) (λp _ o i l j n=>ti0) (λp _ o i l j n=>(u3 (ifx (tst (isi "tuple" "tuple" (by decide) PyProof.Rows.boot_tuple a f (nv 0))) (callC e (t.mono (by decide)) (@ac _ _ _ _ _ _ _ (nv 0) an stN)) (u1 (PEd.sc (ya5 h (@ac _ _ _ _ _ _ _ (nv 0) an stN)) (Bo kg5)))))) (Fq (by decide)))
  (s1 (Bc (u2 (PEd.sc (gC (u1 ks) (nv 1)) Ul)))))⟩
def Vg:Ev->R Fl:=gO (v:=Kw.g) (by dsimp [Kw])
def Dn:List D->R D:=Be 2 Vg
abbrev Rb:CQ:=top 133
abbrev m5(b:Bx):Prop:=FMC b 7 "say" ["self","row"] J9
def Hn:Wf "_law_shown" Rb 2 8 ["_law_desk","_law_stood"] (λb q=>Zc "all" b->Jj b->m5 b->q) So0:=⟨["_law_desk","_law_stood"],Ci,_,λS F e a f =>
  Cq (O:=[]) F S (by decide) λt A l s H E v n m =>
  have u:=S.nd
  (s1 (Bc (u2 (PEd.sc (fQ rfl e (@ac _ _ _ _ _ _ _ (comp (T:=["_law_name"]) (caps:=[0,1]) (by rfl) rfl (wj5 (nv 1)) (λr _ p h j i o=>(tn 0 (show List.Nodup (["_law_name","_law_desk","_law_stood"]:List BP) by decide +kernel))) (λr _ p h j i o=>ti0) (λr _ p h j i o=>(u2 (PEd.sc (eq_ m (mV f (n.mono (by decide)) (nv 1) (ac (Ge (u1 ks) (nv 0)) an)) (callC a (n.mono (by decide)) (@ac _ _ _ _ _ _ _ (dix m (nv 2) (nv 0)) an stS))) (Bg Qt)))) (Fq (by decide))) an rfl)) (Bo Uk)))))⟩
def Qo:Ev->R Fl:=gO (v:=Hn.g) (by dsimp [Hn])
def Cr:List D->R D:=Be 2 Qo
abbrev wo2:CQ:=Xm (top 108) 1
abbrev Uz:=Wb Gh FB Ay
abbrev Ss:=Wb Ez FB Aq
abbrev Mf(b:Bx):Prop:=FMC b 2 "refuse_name" ["self","kind","value"] Bb
def mZ:WfW "say" "Desk.say" wo2 8 7 ["self","row"] (λb q=>Uz b->Ss b->HDk b.K->Mf b->q):=⟨["self","row","line","word","handed","kind","value","values"],Ci,_,λS F f e t a =>
  wi2 F S rfl λv A n s H E w o m =>
  have h:=S.nd
  (scT (Dj 2 h (callC e (o.mono (by decide)) (@ac _ _ _ _ _ _ _ (nv 1) an stN)))
  (scT (Dj 3 h (ix (nv 2) (u1 ki)))
  (scT (Dj 4 h (ix (nv 2) (u1 ki)))
  (scT (for_ PassesOwn.never rfl (tT rfl (tsc 5 h (tsc 6 h tsn))) (Nj (nv 4)) (s1 (ex_ (u3 (mV a (o.mono (by decide)) (nv 0) (ac (nv 5) (ac (nv 6) an)))))))
  (scT (setC (T:=["kind","value"]) (caps:=[0]) 7 h (by rfl) rfl (Nj (nv 4)) (λu _ r i l j p=>(tT rfl (tsc 0 (show List.Nodup (["kind","value","self"]:List BP) by decide +kernel) (tsc 1 (show List.Nodup (["kind","value","self"]:List BP) by decide +kernel) tsn)))) (λu _ r i l j p=>ti0) (λu _ r i l j p=>(u3 (ifx (teq m (nv 0) (u1 ks)) (pR m t (nv 2) (nv 1)) (nv 1)))) (Ql (by decide)))
  (wv8 (teq m (ix (ix (nv 4) (u1 ki)) (u1 ki)) (u1 ks)) (ky6 m 0 t (u3 (callC f (o.mono (by decide)) (@ac _ _ _ _ _ _ _ (nv 3) (@ac _ _ _ _ _ _ _ (Hf (nv 7) (ps ki) pn) an stS) stN))) (u3 (ix (nv 7) (u1 ki))))))))))⟩
def Zm:Ev->R D:=gOW (v:=mZ.g) (by dsimp [mZ])
def Gj:List D->R D:=fP 8 Zm
abbrev Tw:CQ:=top 134
abbrev Nr:=Wb Gn FB Ar
abbrev Sd:=Wb Jk FB G5
abbrev Uv:=Wb Kv FB Dm
abbrev Uw:=Wb Kw FB Dn
abbrev Pg:=Wb Hn FB Cr
def kZ:Wf "law" Tw 8 9 ["_law_script"] (λb q=>Nr b->Sd b->Uv b->Uw b->Pg b->Jj b->DkN b.P b.w b.K b.mg b.base 1->FWT b 8 "_law_answer" ["_law_desk","_law_row_here"] Gj->m5 b->q) Sl0:=⟨["_law_script","_law_desks","_law_stood","_law_cell_here","_law_at","_law_deed_here","_law_due_here","_law_found"],Ci,_,λS F f i j e a h x m o =>
  wi1 (O:=[]) F S (by decide) λv A t s H E y u n r =>
  have p:=S.nd
  (zO x (n.mono (by decide)) p
  (ksc (zN 3 PassesOwn.never rfl p (PEf.up (l:=.no) (l':=.any) (wo7 (nv 0) pn (ps ki)))
  (ksc (jH 4 p (u2 (PEd.sc (mod (nv 3) (u1 ki)) (Bg Er))))
  (ksc (jH 5 p (u3 (callC i (n.mono (by decide)) (@ac _ _ _ _ _ _ _ (nv 3) (@ac _ _ _ _ _ _ _ (ix (nv 2) (nv 4)) an stS) stN))))
  (ksc (jH 6 p (u3 (callC j (n.mono (by decide)) (@ac _ _ _ _ _ _ _ (nv 5) (@ac _ _ _ _ _ _ _ (ix (nv 2) (nv 4)) an stS) stN))))
  (ksc (zP 7 p m (n.mono (by decide)) (u3 (callC f (n.mono (by decide)) (@ac _ _ _ _ _ _ _ (ix (nv 1) (nv 4)) (@ac _ _ _ _ _ _ _ (callC e (n.mono (by decide)) (@ac _ _ _ _ _ _ _ (nv 5) an stN)) an stK) stS))) (u3 (nv 4)) (u3 (callC e (n.mono (by decide)) (@ac _ _ _ _ _ _ _ (nv 5) an stN))))
  (L2.Fw (kif (teq r (ix (nv 6) (u1 ki)) (u1 ks)) (ksc (zM r (λ_ z=>z) (u3 (ix (nv 6) (u1 ki))) (u3 (nv 4)) (u3 (ix (nv 5) (u1 ki))))
  (L2.Fw (kif (T6 (iZ (tne r (nv 7) (u1 (Wx (d:=(.tup [(.str "ok"),(.str "ok")])) (by kernel_rfl)))) (i_ (tne r (mV o (n.mono (by decide)) (ix (nv 1) (nv 4)) (ac (Ge (u1 ks) (ix (nv 5) (u1 ki))) an)) (callC h (n.mono (by decide)) (@ac _ _ _ _ _ _ _ (ix (nv 6) (u1 ki)) an stS)))))) (L2.Fw (jJ (u2 kb))) ksn))) (L2.Fw (kif (tne r (nv 7) (nv 6)) (L2.Fw (jJ (u2 kb))) ksn)))))))))
  (L2.Fw (jJ (u3 (ZC (callC a (n.mono (by decide)) (@ac _ _ _ _ _ _ _ (ix (nv 1) (u1 ki)) (@ac _ _ _ _ _ _ _ (ix (nv 2) (u1 ki)) an stS) stS)) (v1 (callC a (n.mono (by decide)) (@ac _ _ _ _ _ _ _ (ix (nv 1) (u1 ki)) (@ac _ _ _ _ _ _ _ (ix (nv 2) (u1 ki)) an stS) stS)))))))))⟩
def qN:Ev->R Fl:=gO (v:=kZ.g) (by dsimp [kZ])
def d_law:List D->R D:=Be 8 qN
def jn8{b:Bx}{a:BJ}{h:CZ}(F:Fun b.K "_law_answer" "_law_answer" Gz a h)(e:FMW b 7 "say" ["self","row"] Gj):Cw b.P b.w b.K b.mg b.base CX0 8 a h ["_law_desk","_law_row_here"] (fB b.K Gj):=
 ks9 F (show Br ["_law_desk","_law_row_here","e"] ["_law_desk","_law_row_here"] (Ae Gz) from Ci) rfl λj A f s H E m i l=>yc0 e (i.mono (by decide)) (λ_ _ z=>z)
abbrev wo1:CQ:=Xm (top 108) 0
abbrev kz1:CQ:=Xm (top 20) 0
abbrev kz2:CQ:=Xm (top 19) 0
def all_mk{l:W.OpenLaw}{w:CN}{K:BW}{h:B_}{mg:BP->Option A_}{fa:BJ}(X:K.In h)(G:h.Ns PySem.mainGlobals mg)(hh:mg "law" = some (.ref fa))
  (dd:FI K "_law_draw" Tq)
  (dc:FI K "_law_made" Tt)
  (du:FI K "_law_web" V8)
  (de:FI K "_law_deed" Tp)
  (aj:FI K "_law_without" Mx)
  (ba:FI K "_law_as_one" Od)
  (bu:FI K "_law_drawn" Q9)
  (az:FI K "_law_beside" Oe)
  (ay:FI K "_law_joined" Og)
  (bt:FI K "_law_great" Ra)
  (dw:FI K "_law_due" V6)
  (ah:FI K "words_behind" Mz)
  (cz:FI K "is_number" Tv)
  (dq:FI K "value_of" Wc)
  (I:FI K "read_line" Tz)
  (el:FI K "is_name" Yl)
  (r:FI K "is_written_number" Hj)
  (J:FI K "is_written_tie" Ko)
  (H:FI K "refuse_numbers" Kp)
  (ff:FI K "is_tie" vG)
  (fc:FI K "web_of" vC)
  (dt:FI K "read_web" Wa)
  (bp:FI K "refuse_tie" Rf)
  (ek:FI K "without" Ym)
  (bo:FI K "rising_tie" Rg)
  (O:FI K "number_as_one" Lp)
  (fh:FI K "as_one" vI)
  (gb:FI K "drawn" tZ)
  (bq:FI K "put_behind" Rc)
  (fg:FI K "beside" vH)
  (ai:FI K "refuse_point" My)
  (fe:FI K "joined" vD)
  (U:FI K "made_web" V9)
  (aw:FI K "written_tie" Oj)
  (E:FI K "written_number" Kq)
  (cy:FI K "shown_web" T3)
  (ax:FI K "number_told" Oh)
  (fi:FI K "answer" vJ)
  (t:FI K "_law_answer" Gz)
  (da:FI K "_law_text" Tu)
  (dv:FI K "_law_row" V7)
  (br:FI K "_law_shown" Rb)
  {ei:BJ}{gm et:Option BJ}{gk:Array (Option A_)}{gn ep er eo cv es:A_}(hc:W.nsIn K PySem.mainGlobals "law" = some (some (.ref ei)))(gz:K.lookup ei=some ⟨gn,gm,.func (W.fnOf "law" "law" (Cm Tw) (Bd Tw) (Ae Tw) .none ep er eo et cv es),gk⟩)(hb:W.codeIn K cv "law" = true)(ha:W.keepIn K (.ref ei)=true)
  {Cd:BJ}(gg:DkC K Cd)(hi:DI K Cd wo1)(eu:MI K Cd "say" "Desk.say" pY)(ag:MI K Cd "refuse_name" "Desk.refuse_name" Oi)(FRI:FRI w K "FORMS" FT)(fu:W.nsIn K PySem.mainGlobals "range" = some none)(gu:W.nsIn K PySem.mainGlobals "max" = some none)(gs:W.nsIn K PySem.mainGlobals "min" = some none)(ft:W.nsIn K PySem.mainGlobals "tuple" = some none)(gx:W.nsIn K PySem.mainGlobals "int" = some none)(gw:W.nsIn K PySem.mainGlobals "len" = some none)(gy:W.nsIn K PySem.mainGlobals "all" = some none)(bh:W.nsIn K PySem.mainGlobals "isinstance" = some none)(gr:W.nsIn K PySem.mainGlobals "str" = some none)(gq:W.nsIn K PySem.mainGlobals "zip" = some none)(cn:W.nsIn K PySem.mainGlobals "enumerate" = some none){eh:Tok}(ef:W.nsIn K PySem.mainGlobals "FIGURES" = some (some (.str "0123456789" eh))){ab:Tok}(Z:W.nsIn K PySem.mainGlobals "MOST_FIGURES" = some (some (.int 10 ab))){eg:Tok}(ee:W.nsIn K PySem.mainGlobals "LETTERS" = some (some (.str "abcdefghijklmnopqrstuvwxyz" eg))){aa:Tok}(Y:W.nsIn K PySem.mainGlobals "MOST_LETTERS" = some (some (.int 8 aa))){aq:Tok}(ao:W.nsIn K PySem.mainGlobals "MOST_POINTS" = some (some (.int 6 aq))){cu:Tok}(cq:W.nsIn K PySem.mainGlobals "MOST_TIES" = some (some (.int 9 cu)))(fo:KC0 K "NoName")(gj:KC0 K "NoRow")(fm:KC0 K "NoText")(gi:KC1 K "NoTie" "tie" "NoTie.__init__" kz1)(gh:KC1 K "NoWeb" "place" "NoWeb.__init__" kz2)(fj:KCI K "NoName")(gf:KCI K "NoTie")(gc:KCI K "NoWeb"):
  ∃fd:CZ,(∀(s:BK)(v:A_),RD s fd ⟨[v],[]⟩ [("_law_script",v)])/\∀base:B_,K.In base->base.Ns PySem.mainGlobals mg->Cw l.prog w K mg base CX0 9 fa fd ["_law_script"] (spL K 1 d_law):=by
 have e:=hh.symm.trans (W.mg_of X G hc);cases e;have ak:=W.mg_none_of X G fu;have ec:=W.mg_none_of X G gu;have eb:=W.mg_none_of X G gs;have i:=W.mg_none_of X G ft;have ed:=W.mg_none_of X G gx;have a:=W.mg_none_of X G gw;have cm:=W.mg_none_of X G gy;have j:=W.mg_none_of X G bh;have cj:=W.mg_none_of X G gr;have fq:=W.mg_none_of X G gq;have ck:=W.mg_none_of X G cn;have A:=W.mg_of X G ef;have af:=W.mg_of X G Z;have ej:=W.mg_of X G ee;have ae:=W.mg_of X G Y;have ar:=W.mg_of X G ao;have cw:=W.mg_of X G cq;have hg:=Zj (st:=Tw) gz hb ha;refine⟨W.fnOf "law" "law" (Cm Tw) (Bd Tw) (Ae Tw) .none ep er eo et cv es,λs v=>.of_eq rfl,λbase _ _=>?_⟩;let b:Bx:=⟨l.prog,w,K,mg,base,fa⟩;have ez:=lH X G fo;have C:=lH X G gj;have ey:=lH X G fm;have fv:=rT l.prog w base X G gi rfl ⟨rfl,rfl,rfl,by decide +kernel,rfl,by decide +kernel,by decide +kernel⟩ (by decide) (by decide) (Or.inl rfl) (Or.inl rfl) (Or.inl rfl) rfl (λ_=>rfl) (λ_=>rfl) (λ_=>rfl) (λ_ _ _ _ _ _ _=>us3 λ_ _ _=>⟨_,rfl,rfl⟩);have dp:=rT l.prog w base X G gh rfl ⟨rfl,rfl,rfl,by decide +kernel,rfl,by decide +kernel,by decide +kernel⟩ (by decide) (by decide) (Or.inl rfl) (Or.inl rfl) (Or.inl rfl) rfl (λ_=>rfl) (λ_=>rfl) (λ_=>rfl) (λ_ _ _ _ _ _ _=>us3 λ_ _ _=>⟨_,rfl,rfl⟩);have fb:=lG X G fj;have fx:=lG X G gf;have fw:=lG X G gc;have DK:HDk K:=⟨_,gg⟩;have DN:=wg8 l.prog w base X G gg hi Ci rfl (Or.inl rfl) (λ_=>rfl) (λ_ _ _ _ _ _=>ll1 λ_=>rfl);have KF:=wi6 l.prog X G FRI;have dj:Sg b:=By l.prog w base X G dd (λ_ _ F=>Jl.at (g:=S7) (by kernel_rfl) (b:=b) F) (λ_ _ _ _ _ _=>ll3 λ_ _ _=>rfl);have di:Sh b:=By l.prog w base X G dc (λ_ _ F=>Jm.at (g:=S8) (by kernel_rfl) (b:=b) F ak dj) (λ_ _ _ _ _ _=>ll1 λ_=>rfl);have dy:Ux b:=By l.prog w base X G du (λ_ _ F=>Ky.at (g:=Vh) (by kernel_rfl) (b:=b) F ec eb ak i) (λ_ _ _ _ _ _=>ll1 λ_=>rfl);have dk:Sd b:=By l.prog w base X G de (λ_ _ F=>Jk.at (g:=S6) (by kernel_rfl) (b:=b) F ak di dy) (λ_ _ _ _ _ _=>ll2 λ_ _=>rfl);have p:Hw b:=By l.prog w base X G aj (λ_ _ F=>Ff.at (g:=Ml) (by kernel_rfl) (b:=b) F) (λ_ _ _ _ _ _=>ll2 λ_ _=>rfl);have y:Jz b:=By l.prog w base X G ba (λ_ _ F=>Gp.at (g:=N6) (by kernel_rfl) (b:=b) F ed ec eb i) (λ_ _ _ _ _ _=>ll4 λ_ _ _ _=>rfl);have cb:Pa b:=By l.prog w base X G bu (λ_ _ F=>Hl.at (g:=Qm) (by kernel_rfl) (b:=b) F y p) (λ_ _ _ _ _ _=>ll2 λ_ _=>rfl);have x:J1 b:=By l.prog w base X G az (λ_ _ F=>Gq.at (g:=N7) (by kernel_rfl) (b:=b) F i) (λ_ _ _ _ _ _=>ll2 λ_ _=>rfl);have bf:Nt b:=By l.prog w base X G ay (λ_ _ F=>Gs.at (g:=N8) (by kernel_rfl) (b:=b) F y x) (λ_ _ _ _ _ _=>ll4 λ_ _ _ _=>rfl);have bz:Pb b:=By l.prog w base X G bt (λ_ _ F=>Hm.at (g:=Qn) (by kernel_rfl) (b:=b) F a) (λ_ _ _ _ _ _=>ll1 λ_=>rfl);have ea:Uv b:=By l.prog w base X G dw (λ_ _ F=>Kv.at (g:=Vf) (by kernel_rfl) (b:=b) F cm j a cj x cb bz bf p) (λ_ _ _ _ _ _=>ll2 λ_ _=>rfl);have o:Mg b:=By l.prog w base X G ah (λ_ _ F=>Fi.at (g:=Mp) (by kernel_rfl) (b:=b) F a) (λ_ _ _ _ _ _=>ll2 λ_ _=>rfl);have dh:Sq b:=By l.prog w base X G cz (λ_ _ F=>Jp.at (g:=Tc) (by kernel_rfl) (b:=b) F cm a A af) (λ_ _ _ _ _ _=>ll1 λ_=>rfl);have Q:R9 b:=Hb l.prog w base X G dq (λ_ _ F=>K1.at (g:=Vi) (by kernel_rfl) (b:=b) F ed C dh) (λ_ _ _ _ _ _=>ll2 λ_ _=>rfl);have cx:O9 b:=Hb l.prog w base X G I (λ_ _ F=>Ez.at (g:=Mm) (by kernel_rfl) (b:=b) F a fq C o Q KF) (λ_ _ _ _ _ _=>ll1 λ_=>rfl);have dg:Ss b:=By l.prog w base X G I (λ_ _ F=>kE (Ez.at (g:=Mm) (by kernel_rfl) (b:=b) F a fq C o Q KF)) (λ_ _ _ _ _ _=>ll1 λ_=>rfl);have en:Xd b:=By l.prog w base X G el (λ_ _ F=>M6.at (g:=Xx) (by kernel_rfl) (b:=b) F cm a ej ae) (λ_ _ _ _ _ _=>ll1 λ_=>rfl);have q:FMX b 2 "refuse_name" ["self","kind","value"] Bb:=sJ l.prog w base gg ag (λ_ _ F=>J2.at (g:=Cz) (by kernel_rfl) (b:=b) F ez en DK) (λ_ _ _ _ _ _=>ll3 λ_ _ _=>rfl);have au:Mf b:=q.c;have u:Hg b:=By l.prog w base X G r (λ_ _ F=>Df.at (g:=Hi) (by kernel_rfl) (b:=b) F a A) (λ_ _ _ _ _ _=>ll1 λ_=>rfl);have M:J6 b:=By l.prog w base X G J (λ_ _ F=>Eb.at (g:=Ke) (by kernel_rfl) (b:=b) F a A) (λ_ _ _ _ _ _=>ll1 λ_=>rfl);have f:Du b:=Hb l.prog w base X G H (λ_ _ F=>Ec.at (g:=Cg) (by kernel_rfl) (b:=b) F dp ar cw) (λ_ _ _ _ _ _=>ll2 λ_ _=>rfl);have fk:wJ b:=By l.prog w base X G ff (λ_ _ F=>Pr.at (g:=vX) (by kernel_rfl) (b:=b) F j a i) (λ_ _ _ _ _ _=>ll2 λ_ _=>rfl);have ew:Xc b:=Hb l.prog w base X G fc (λ_ _ F=>Px.at (g:=vV) (by kernel_rfl) (b:=b) F ck a i dp fk f) (λ_ _ _ _ _ _=>ll2 λ_ _=>rfl);have T:R8 b:=Hb l.prog w base X G dt (λ_ _ F=>Kz.at (g:=K8) (by kernel_rfl) (b:=b) F ed ey u M ew) (λ_ _ _ _ _ _=>ll1 λ_=>rfl);have bj:Nq b:=Hb l.prog w base X G bp (λ_ _ F=>Hq.at (g:=Ht) (by kernel_rfl) (b:=b) F a fv) (λ_ _ _ _ _ _=>ll2 λ_ _=>rfl);have B:Oo b:=Hb l.prog w base X G ek (λ_ _ F=>M7.at (g:=Xy) (by kernel_rfl) (b:=b) F bj) (λ_ _ _ _ _ _=>ll2 λ_ _=>rfl);have bw:Ph b:=By l.prog w base X G bo (λ_ _ F=>Hr.at (g:=Qq) (by kernel_rfl) (b:=b) F ec eb) (λ_ _ _ _ _ _=>ll2 λ_ _=>rfl);have P:Lf b:=By l.prog w base X G O (λ_ _ F=>Es.at (g:=Li) (by kernel_rfl) (b:=b) F) (λ_ _ _ _ _ _=>ll3 λ_ _ _=>rfl);have cg:Uy b:=By l.prog w base X G fh (λ_ _ F=>Pn.at (g:=vZ) (by kernel_rfl) (b:=b) F i P bw) (λ_ _ _ _ _ _=>ll3 λ_ _ _=>rfl);have dn:wL b:=Hb l.prog w base X G gb (λ_ _ F=>Uh.at (g:=uP) (by kernel_rfl) (b:=b) F cg B) (λ_ _ _ _ _ _=>ll2 λ_ _=>rfl);have z:Ku b:=By l.prog w base X G bq (λ_ _ F=>Ho.at (g:=Qp) (by kernel_rfl) (b:=b) F i) (λ_ _ _ _ _ _=>ll2 λ_ _=>rfl);have cf:Xa b:=Hb l.prog w base X G fg (λ_ _ F=>Pq.at (g:=vY) (by kernel_rfl) (b:=b) F a z f) (λ_ _ _ _ _ _=>ll2 λ_ _=>rfl);have n:Le b:=Hb l.prog w base X G ai (λ_ _ F=>Fg.at (g:=Ft) (by kernel_rfl) (b:=b) F C) (λ_ _ _ _ _ _=>ll2 λ_ _=>rfl);have cc:Xb b:=Hb l.prog w base X G fe (λ_ _ F=>Pu.at (g:=vW) (by kernel_rfl) (b:=b) F a cg z f) (λ_ _ _ _ _ _=>ll4 λ_ _ _ _=>rfl);have dm:R7 b:=Hb l.prog w base X G U (λ_ _ F=>Gh.at (g:=Ow) (by kernel_rfl) (b:=b) F cf dn cc T n B) (λ_ _ _ _ _ _=>ll2 λ_ _=>rfl);have dx:Uz b:=By l.prog w base X G U (λ_ _ F=>kE (Gh.at (g:=Ow) (by kernel_rfl) (b:=b) F cf dn cc T n B)) (λ_ _ _ _ _ _=>ll2 λ_ _=>rfl);have bb:Nv b:=By l.prog w base X G aw (λ_ _ F=>Gv.at (g:=Ob) (by kernel_rfl) (b:=b) F) (λ_ _ _ _ _ _=>ll1 λ_=>rfl);have L:J7 b:=By l.prog w base X G E (λ_ _ F=>Ed.at (g:=Kf) (by kernel_rfl) (b:=b) F) (λ_ _ _ _ _ _=>ll1 λ_=>rfl);have df:Su b:=By l.prog w base X G cy (λ_ _ F=>Jq.at (g:=Td) (by kernel_rfl) (b:=b) F L bb) (λ_ _ _ _ _ _=>ll1 λ_=>rfl);have bc:Nu b:=By l.prog w base X G ax (λ_ _ F=>Gu.at (g:=Oa) (by kernel_rfl) (b:=b) F a) (λ_ _ _ _ _ _=>ll2 λ_ _=>rfl);have fl:wK b:=By l.prog w base X G fi (λ_ _ F=>Pk.at (g:=v5) (by kernel_rfl) (b:=b) F cj bc df) (λ_ _ _ _ _ _=>ll2 λ_ _=>rfl);have fz:FMX b 7 "say" ["self","row"] J9:=sJ l.prog w base gg eu (λ_ _ F=>kY.at (g:=j9) (by kernel_rfl) (b:=b) F fl dm cx DK q) (λ_ _ _ _ _ _=>ll2 λ_ _=>rfl);have fy:m5 b:=fz.c;have bg:Nr b:=By l.prog w base X G t (λ_ _ F=>Gn.at (g:=N5) (by kernel_rfl) (b:=b) F fb fx fw fz) (λ_ _ _ _ _ _=>ll2 λ_ _=>rfl);have m:Jj b:=By l.prog w base X G da (λ_ _ F=>Jo.at (g:=S9) (by kernel_rfl) (b:=b) F cj) (λ_ _ _ _ _ _=>ll1 λ_=>rfl);have dz:Uw b:=By l.prog w base X G dv (λ_ _ F=>Kw.at (g:=Vg) (by kernel_rfl) (b:=b) F j cj i m) (λ_ _ _ _ _ _=>ll1 λ_=>rfl);have bx:Pg b:=By l.prog w base X G br (λ_ _ F=>Hn.at (g:=Qo) (by kernel_rfl) (b:=b) F cm m fy) (λ_ _ _ _ _ _=>ll2 λ_ _=>rfl);have gp:FMW b 7 "say" ["self","row"] Gj:=wl1 l.prog w base gg eu (λ_ _ F=>mZ.at (g:=Zm) (by kernel_rfl) (b:=b) F dx dg DK au) (λ_ _ _ _ _ _=>ll2 λ_ _=>rfl);have fp:FWT b 8 "_law_answer" ["_law_desk","_law_row_here"] Gj:=ks6 l.prog w base X G t (λ_ _ F=>jn8 (b:=b) F gp) (λ_ _ _ _ _ _=>ll2 λ_ _=>rfl);exact kZ.at (g:=qN) (by kernel_rfl) (b:=b) hg bg dk ea dz bx m DN fp fy
open PD L2 Gr
def lM(a b:Nat):min (a:Int) b=((min a b:Nat):Int):=(HT.oV a b).symm
def lN(a b:Nat):max (a:Int) b=((max a b:Nat):Int):=by
 rcases Nat.le_total a b with h |h
 ·rw[nU h,wZ (gV.mpr h)]
 ·rw[Nat.max_eq_left h,Int.max_eq_left (gV.mpr h)]
variable {n:Nat}
def rZ(h:1<=n):((n - 1:Nat):Int)=(n:Int) - 1:=Int.natCast_sub h
def Aj(e:Nat×Nat):D:=.tup [.int (e.1:Int),.int (e.2:Int)]
def Ah(n:Nat)(ts:Bs):D:=.tup [.int (n:Int),.tup (ts.map Aj)]
structure G3(n:Nat)(ts:Bs)(p q:Nat):Prop where
 pos:1<=n
 le:n<=p
 len:ts.length<=q
 tie:∀e∈ts,e.1<=e.2/\e.2<n
def Qd{b:Type}{enc:b->D}{out:b->D}{f:Ev->R D}{ρ:Ev}:∀(l:List b),(∀a∈l,f (ρ.set 0 (some (enc a)))=.ok (out a))->Dl (gN 0) yes f ρ (l.map enc)=.ok (l.map out)
 | [],_=>rfl
 |a::l,h=>by have e:=h a MF;rw[KH,Dl,cB];simp[yes,e,Qd l λx i=>h x (KQ _ i)]
def Gd(n:Nat)(ts:Bs):ixD (Ah n ts) (.int 1)=some (.tup (ts.map Aj)):=Ds
def pD(z:Int×Int):D:=.tup [.int z.1,.int z.2]
def noW(p:D):D:=.exc "NoWeb" [.str "place"] [p]
def Ov{b:Type}(p:b->Bool):List b->Nat->Option Nat
 | [],_=>none
 |a::l,k=>if p a=true then some k else Ov p l (k+1)
def W4{b:Type}(enc:Nat->b->D):List b->Nat->List D
 | [],_=>[]
 |a::l,k=>enc k a::W4 enc l (k+1)
def stp(x:Bool)(d:D):R Fl:=if x=true then .exc d else .ok (.rt d)
theorem Vs{q:Type}{enc:Nat->q->D}{g:D->Ev->R Ev}{b:Ev->R Fl}{I:Ev->Prop}{p:q->Bool}{x:Bool}{e:Nat->D}:∀(l:List q)(k:Nat)(ρ:Ev),I ρ ->
  (∀i a,l[i]? = some a->∀ρ,I ρ->∃j,g (enc (k+i) a) ρ=.ok j/\((p a=true/\b j=stp x (e (k+i)))\/(p a=false/\∃f,b j=.ok (.nx f)/\I f))) ->
  (∃i,Ov p l k=some i/\Bu (W4 enc l k) g b ρ=stp x (e i))\/(Ov p l k=none/\∃m,Bu (W4 enc l k) g b ρ=.ok (.nx m)/\I m)
 | [],k,ρ,h,_=>.inr ⟨rfl,ρ,rfl,h⟩
 |a::l,k,ρ,h,u=>by
  have⟨j,t,o⟩:=u 0 a rfl ρ h;rw[Nat.add_zero]at t o;rcases o with ⟨s,o⟩ | ⟨s,f,o,y⟩
  ·refine .inl ⟨k,if_pos s,?_⟩;rw[W4,Bu,t,R.ok_bind,o];cases x<;>rfl
  ·have v:=Vs l (k+1) f y λi B w m r=>by have:=u (i+1) B w m r;rwa [show k+(i+1)=k+1+i by lia]at this
   have z:Bu (W4 enc (a::l) k) g b ρ=Bu (W4 enc l (k+1)) g b f:=by rw[W4,Bu,t,R.ok_bind,o];rfl
   have A:Ov p (a::l) k=Ov p l (k+1):=if_neg (by rw[s];decide);rw[z,A];exact v
def jw9{b:Type}{f:b->D}(l:List b):∀k,(nG k l.length).zipWith (λ(i:Nat) d=>D.tup [.int (i:Int),d]) (l.map f)=W4 (λi a=>D.tup [.int (i:Int),f a]) l k:=by
 induction l with
 |nil=>intro _;rfl
 |cons a l e=>intro k;rw[W4,<-e (k+1)];rfl
def bad(n:Int)(z:Int×Int):Bool:=decide (z.1<0) || (decide (z.2<z.1) ||decide (n<=z.2))
theorem jx8(n:Int)(z:Int×Int):U8 [pD z,.int n]=.ok (.bl !bad n z):=by
 obtain⟨a,b⟩:=z;have f:ixD (pD (a,b)) (.int 0)=some (.int a):=Bp;have e:ixD (pD (a,b)) (.int 1)=some (.int b):=Ds;have m:ZG "tuple" (pD (a,b))=some (.bl true):=rfl;have l:Eh [pD (a,b)]=some (.int 2):=rfl;generalize pD (a,b)=Z at *;refine Av (Ad ((Bm (by simp[Aa,m,l])).trans rfl) (Am ?_));unfold ch3 bad;by_cases h:a<0
 ·simp[Aa,f,e,h,show ¬ (0:Int)<=a by lia]
 ·by_cases i:b<a
  ·simp[Aa,f,e,h,show(0:Int)<=a by lia,i,show ¬ a<=b by lia]
  ·by_cases j:n<=b
   ·simp[Aa,f,e,h,show(0:Int)<=a by lia,i,show a<=b by lia,j,show ¬ b<n by lia]
   ·simp[Aa,f,e,h,show(0:Int)<=a by lia,i,show a<=b by lia,j,show b<n by lia]
def kz0{n m:Int}(f:1<=n)(b:n<=6)(a:¬ 9<m):Dg [.int n,.int m]=.ok .non:=by
 have e:Cg (Aa 2 [.int n,.int m])=.ok (.nx (Aa 2 [.int n,.int m])):=by refine Ad ((Bm ?_).trans rfl) ((Bm (by simp[Aa,a])).trans rfl);rw[Zg,Vb];unfold ch;simp[Aa,f,b]
 show Be 2 Cg _=_;rw[G8,e,Rm]
def wbB:Ev->R Fl:=(ifS (nt (tt (cl (zv (gv 3) (zv (gv 0) a0)) U8))) (bV "NoWeb" "place" (bO YX (bO (jZ (gv 2)) (bO YX YX))) (gv 2)) nop)
theorem wa9{n:Int}{Z:D}{z:Int×Int}{i:Nat}(l:i<1000):
  (bad n z=true/\wbB [some (.int n),some Z,some (.int (i:Int)),some (pD z)]=stp true (noW (.int (i:Int)))) \/
  (bad n z=false/\∃a,wbB [some (.int n),some Z,some (.int (i:Int)),some (pD z)]=.ok (.nx a)/\∃j h,a=[some (.int n),some Z,j,h]):=by
 have e:=jx8 n z;have f:=Xv (i:=(i:Int)) (NZ (by lia:_<1000) (by decide));generalize pD z=P at *;cases b:bad n z with
 |true=>rw[b]at e;exact .inl ⟨rfl,(Fe (by simp[e])).trans (Zh (by simp[f]) (by simp) rfl)⟩
 |false=>rw[b]at e;exact .inr ⟨rfl,_,(Bm (by simp[e])).trans rfl,_,_,rfl⟩
def noT:D:=.exc "NoText" [] []
def aQ:List Nat:=[48,49,50,51,52,53,54,55,56,57]
def zX:("0123456789" : PySem.Str)=tx aQ:=by decide +kernel
def blank:(" " : PySem.Str)=tx [32]:=by decide +kernel
def colon:(":" : PySem.Str)=tx [58]:=by decide +kernel
def dash:("-" : PySem.Str)=tx [45]:=by decide +kernel
def fig(c:Nat):Bool:=decide (c∈aQ)
theorem ks7{c:Nat}(h:fig c=true):∃k,k<10/\c=48+k:=by have h:c∈aQ:=of_decide_eq_true h;simp only[aQ,I_,RC,or_false]at h;exact⟨c - 48,by omega,by omega⟩
theorem m8{k:Nat}(h:k<10):fig (48+k)=true:=by apply decide_eq_true;simp only[aQ,I_,RC,or_false];omega
def Oc(w:List Nat):Bool:=match w with
 | [a,b]=>fig a && decide (b=58)
 |_=>false
def Jy(w:List Nat):Bool:=match w with
 | [a,b,c]=>fig a && (decide (b=45) && fig c)
 |_=>false
def lV(c:Nat):inS (.str (tx [c])) (.str "0123456789")=some (.bl (fig c)):=by rw[zX];exact wv9 c aQ
def Z2{c:Nat}(h:c<128):∀x∈[c],x<128:=λx a=>by rw[NT.mp a];exact h
def ke9{c:Nat}(h:c<128):eqD (.str (tx [c])) (.str ":")=some (.bl (decide (c=58))):=by rw[colon,kI (Z2 h) (Z2 (by decide))];congr 2;rw[decide_eq_decide];simp
def ks5{c:Nat}(h:c<128):eqD (.str (tx [c])) (.str "-")=some (.bl (decide (c=45))):=by rw[dash,kI (Z2 h) (Z2 (by decide))];congr 2;rw[decide_eq_decide];simp
variable {w:List Nat}
theorem wl7(q:∀c∈w,c<128)(l:w.length<=10000):Hh [.str (tx w)]=.ok (.bl (Oc w)):=by
 have h:=sS l;by_cases o:w.length=2
 ·match w,o with
  | [a,b],_ =>
   have m:ixD (.str (tx [a,b])) (.int 0)=some (.str (tx [a])):=Tf (i:=0) l rfl;have p:ixD (.str (tx [a,b])) (.int 1)=some (.str (tx [b])):=Tf (i:=1) l rfl;have f:=lV a;have c:=ke9 (q b (by simp));have e:(([a,b]:List Nat).length:Int)=2:=rfl;rw[e]at h;unfold Oc;generalize D.str (tx [a,b])=W,D.str (tx [a])=A,D.str (tx [b])=B at *;refine Av (Am ?_);cases j:fig a with
   |true=>rw[j]at f;simp[Aa,h,m,p,f,c,j]
   |false=>rw[j]at f;simp[Aa,h,m,f,j]
 ·have e:Oc w=false:=by
   unfold Oc;split
   ·simp at o
   ·rfl
  rw[e];have r:¬ ((w.length:Int)=2):=by lia
  generalize D.str (tx w)=W at *;exact Av (Am (by simp[Aa,h,r]))
theorem wp6(s:∀c∈w,c<128)(l:w.length<=10000):Gi [.str (tx w)]=.ok (.bl (Jy w)):=by
 have h:=sS l;by_cases q:w.length=3
 ·match w,q with
  | [a,b,c],_ =>
   have o:ixD (.str (tx [a,b,c])) (.int 0)=some (.str (tx [a])):=Tf (i:=0) l rfl;have p:ixD (.str (tx [a,b,c])) (.int 1)=some (.str (tx [b])):=Tf (i:=1) l rfl;have r:ixD (.str (tx [a,b,c])) (.int 2)=some (.str (tx [c])):=Tf (i:=2) l rfl;have f:=lV a;have u:=lV c;have d:=ks5 (s b (by simp));have e:(([a,b,c]:List Nat).length:Int)=3:=rfl;rw[e]at h;unfold Jy;generalize D.str (tx [a,b,c])=W,D.str (tx [a])=A,D.str (tx [b])=B,D.str (tx [c])=C at *;refine Av (Am ?_);cases j:fig a with
   |true =>
    rw[j]at f;by_cases m:b=45
    ·rw[decide_eq_true m]at d;simp[Aa,h,o,p,r,f,d,u,j,m]
    ·rw[decide_eq_false m]at d;simp[Aa,h,o,p,f,d,j,m]
   |false=>rw[j]at f;simp[Aa,h,o,f,j]
 ·have e:Jy w=false:=by
   unfold Jy;split
   ·simp at q
   ·rfl
  rw[e];have t:¬ ((w.length:Int)=3):=by lia
  generalize D.str (tx w)=W at *;exact Av (Am (by simp[Aa,h,t]))
def valN(w:List Nat):Int:=((w.getD 0 48 - 48:Nat):Int)
def W9(w:List Nat):Int×Int:=(((w.getD 0 48 - 48:Nat):Int),((w.getD 2 48 - 48:Nat):Int))
theorem Zu{c:Nat}(h:fig c=true):Oz [.str (tx [c])]=some (.int ((c - 48:Nat):Int)):=by obtain⟨k,a,rfl⟩:=ks7 h;rw[wj7 a];congr 2;omega
theorem Jx{c:Nat}:∀{l w:List Nat},w∈spl c l->w.length<=l.length
 | [],w,h=>by rw[spl,NT]at h;rw[h];exact H_ _
 |y::l,w,h=>by
  rw[spl]at h;rw[L_];split at h
  ·rcases I_.mp h with rfl |h
   ·simp
   ·have:=Jx h;omega
  ·cases a:spl c l with
   |nil=>exact absurd a (R5 c l)
   |cons v b =>
    rw[a]at h;rcases I_.mp h with rfl |h
    ·have:=Jx (l:=l) (w:=v) (by rw[a];exact MF);rw[L_];omega
    ·have:=Jx (l:=l) (w:=w) (by rw[a];exact KQ _ h);omega
theorem Nh{c:Nat}:∀l:List Nat,(spl c l).length<=l.length+1
 | []=>by simp[spl]
 |y::l=>by
  have a:=Nh (c:=c) l;rw[spl,L_];split
  ·rw[L_];omega
  ·cases b:spl c l with
   |nil=>exact absurd b (R5 c l)
   |cons v e=>rw[b]at a;rw[L_]at a ⊢;omega
structure Tok(l:List Nat):Prop where
 asc:∀c∈l,c<128
 len:l.length<=5000
def Wok(w:List Nat):Prop:=(∀c∈w,c<128)/\w.length<=5000
variable {l:List Nat}
def Tok.words(h:Tok l):∀w∈spl 32 l,Wok w:=λw a=>⟨λc b=>h.asc c (Ur a c b),RJ (Jx a) h.len⟩
theorem ko5(h:Jy w=true):∃a c,w=[a,45,c]/\fig a=true/\fig c=true:=by
 unfold Jy at h;split at h
 ·rename_i a b c;rw[KN,KN,decide_eq_true_iff]at h;exact⟨a,c,by rw[h.2.1],h.1,h.2.2⟩
 ·cases h
theorem kj0(h:Oc w=true):∃a,w=[a,58]/\fig a=true:=by
 unfold Oc at h;split at h
 ·rename_i a b;rw[KN,decide_eq_true_iff]at h;exact⟨a,by rw[h.2],h.1⟩
 ·cases h
theorem lF(x:D)(xs:List D):slA (.lst (x::xs)) (some 1) none=some (.lst xs):=by show some (D.lst (cutD (x::xs) (some ((1:Nat):Int)) none))=_;unfold cutD;rw[HT.Lb,HT.Q8,L_,show min 1 (xs.length+1)=1 by omega];congr 2;apply xX;rw[YG,L_];exact H_ _
def eF(n:Int)(a:List (Int×Int)):D:=.tup [.int n,.tup (a.map pD)]
def rwB:Ev->R Fl:=(ifS (nt (tt (cl (zv (gv 2) a0) Gi))) (bW "NoText" YX) nop)
theorem t6:∀(ws:List (List Nat))(o0 o1 o2:Option D),(∀w∈ws,Wok w) ->
  (ws.all Jy=true/\∃f,Bu (txs ws) (gN 2) rwB [o0,o1,o2]=.ok (.nx [o0,o1,f]))\/(ws.all Jy=false/\Bu (txs ws) (gN 2) rwB [o0,o1,o2]=.exc noT)
 | [],o0,o1,o2,_=>.inl ⟨rfl,o2,rfl⟩
 |w::ws,o0,o1,o2,h=>by
  have i:=h w MF;have t:=wp6 i.1 (by have:=i.2;omega);have m:txs (w::ws)=.str (tx w)::txs ws:=rfl;rw[m,Bu,cB,R.ok_bind];simp only[List.set_cons_succ,List.set_cons_zero];generalize D.str (tx w)=W at *;cases a:Jy w with
  |true =>
   rw[a]at t;have b:rwB [o0,o1,some W]=.ok (.nx [o0,o1,some W]):=(Bm (by simp[t])).trans rfl;rw[b];rcases t6 ws o0 o1 (some W) (λx j=>h x (KQ _ j)) with ⟨z,f,e⟩ | ⟨z,e⟩
   ·exact .inl ⟨by rw[YD,a,z];rfl,f,e⟩
   ·exact .inr ⟨by rw[YD,z];simp,e⟩
  |false=>rw[a]at t;have b:rwB [o0,o1,some W]=.exc noT:=(Fe (by simp[t])).trans (tH (by simp));rw[b];exact .inr ⟨by rw[YD,a];rfl,rfl⟩
theorem t_:∀(ws:List (List Nat)),ws.all Jy=true->Dl (gN 0) yes (bA (zv (bA (zv (b2 (gv 0) (kd (.int 0)) ixD) a0) Oz) (zv (bA (zv (b2 (gv 0) (kd (.int 2)) ixD) a0) Oz) a0)) Dk) [none] (txs ws)=.ok ((ws.map W9).map pD)
 | [],_=>rfl
 |w::ws,h=>by
  rw[YD,KN]at h;have j:=t_ ws h.2;obtain⟨a,c,rfl,q,p⟩:=ko5 h.1;have b:([a,45,c]:List Nat).length<=10000:=by simp
  have o:ixD (.str (tx [a,45,c])) (.int 0)=some (.str (tx [a])):=Tf (i:=0) b rfl;have m:ixD (.str (tx [a,45,c])) (.int 2)=some (.str (tx [c])):=Tf (i:=2) b rfl;have f:=Zu q;have e:=Zu p;have s:Dk [.int ((a - 48:Nat):Int),.int ((c - 48:Nat):Int)]=some (pD (W9 [a,45,c])):=Ep (by simp);have r:txs ([a,45,c]::ws)=.str (tx [a,45,c])::txs ws:=rfl;rw[r,Dl,j,KH,KH];generalize D.str (tx [a,45,c])=W,D.str (tx [a])=A,D.str (tx [c])=C,pD (W9 [a,45,c])=P at *;simp[yes,o,m,f,e,s]
variable {ws:List (List Nat)}
theorem ky9(h:Tok l)(hs:spl 32 l=w::ws):
  K3 [.str (tx l)]=if Oc w=true/\ws.all Jy=true then Hy [.int (valN w),.lst ((ws.map W9).map pD)] else .exc noT:=by
 have t:=h.words;have C:=Nh (c:=32) l;have B:=h.len;have m:XM (gv 0) (kd (.str " ")) [some (.str (tx l)),none,none]=.ok (.lst (txs (spl 32 l))):=mC (c:=32) rfl (by rw[Ji,blank]) h.asc (by decide) (by omega) (by omega);rw[hs]at m t C;rw[L_]at C;have f:=t w MF;have j:ixD (.lst (txs (w::ws))) (.int 0)=some (.str (tx w)):=S5 (i:=0) rfl;have ne_:=wl7 f.1 (by have:=f.2;omega);have p:slA (.lst (txs (w::ws))) (some 1) none=some (.lst (txs ws)):=lF _ _;cases u:Oc w with
 |false=>rw[u]at ne_;rw[if_neg λq=>TY q.1];generalize txs (w::ws)=o at *;generalize D.str (tx w)=W at *;exact Gx (Ad ((Ai m).trans rfl) (O6 ((Fe (by simp[j,ne_])).trans (tH (by simp)))))
 |true =>
  rw[u]at ne_;rcases t6 ws (some (.str (tx l))) (some (.lst (txs (w::ws)))) none (λx F=>t x (KQ _ F)) with ⟨z,s,e⟩ | ⟨z,e⟩
  ·rw[if_pos ⟨rfl,z⟩];obtain⟨a,rfl,H⟩:=kj0 u;have E:ixD (.str (tx [a,58])) (.int 0)=some (.str (tx [a])):=Tf (i:=0) (by simp) rfl;have A:=Zu H;have I:((a - 48:Nat):Int)=valN [a,58]:=rfl;rw[I]at A;have J:Dc (itS (bS (gv 1) (p1 (kd (.int 1))) p0 slA)) 1 [] (gN 0) yes (bA (zv (bA (zv (b2 (gv 0) (kd (.int 0)) ixD) a0) Oz) (zv (bA (zv (b2 (gv 0) (kd (.int 2)) ixD) a0) Oz) a0)) Dk) [some (.str (tx l)),some (.lst (txs ([a,58]::ws))),s]=.ok (.lst ((ws.map W9).map pD)):=by refine Fj (ds:=txs ws) ?_ (t_ ws z) (by rw[HN,HN];omega);generalize txs ([a,58]::ws)=o at *;simp[p]
   have b:Ew (clX (zv (bA (zv (b2 (b2 (gv 1) (kd (.int 0)) ixD) (kd (.int 0)) ixD) a0) Oz) (zv (Dc (itS (bS (gv 1) (p1 (kd (.int 1))) p0 slA)) 1 [] (gN 0) yes (bA (zv (bA (zv (b2 (gv 0) (kd (.int 0)) ixD) a0) Oz) (zv (bA (zv (b2 (gv 0) (kd (.int 2)) ixD) a0) Oz) a0)) Dk)) a0)) Hy) [some (.str (tx l)),some (.lst (txs ([a,58]::ws))),s]=(Hy [.int (valN [a,58]),.lst ((ws.map W9).map pD)]).bind λd=>.ok (.rt d):=by rw[mF,gG,Dp,Dp,J];generalize (ws.map W9).map pD=Z,valN [a,58]=V at *;generalize txs ([a,58]::ws)=o at *;simp[j,E,A]
   have pre:∀{r:R Fl},Ew (clX (zv (bA (zv (b2 (b2 (gv 1) (kd (.int 0)) ixD) (kd (.int 0)) ixD) a0) Oz) (zv (Dc (itS (bS (gv 1) (p1 (kd (.int 1))) p0 slA)) 1 [] (gN 0) yes (bA (zv (bA (zv (b2 (gv 0) (kd (.int 0)) ixD) a0) Oz) (zv (bA (zv (b2 (gv 0) (kd (.int 2)) ixD) a0) Oz) a0)) Dk)) a0)) Hy) [some (.str (tx l)),some (.lst (txs ([a,58]::ws))),s]=r->K8 (Aa 3 [.str (tx l)])=r:=λ{r} G=>by generalize txs ([a,58]::ws)=o at *;generalize txs ws=y,D.str (tx [a,58])=W at *;exact Ad ((Ai m).trans rfl) (Ad ((Bm (by simp[j,ne_])).trans rfl) (Ad (Jb (ds:=y) (by simp[p]) e) G))
   show Be 3 K8 _=_;cases v:Hy [.int (valN [a,58]),.lst ((ws.map W9).map pD)] with
   |ok d=>rw[v]at b;exact Av (pre b)
   |exc x=>rw[v]at b;exact Gx (pre b)
   |bad=>rw[v]at b;rw[G8,pre b];rfl
  ·rw[if_neg λq=>by rw[z]at q;exact TY q.2];generalize txs (w::ws)=o at *;generalize txs ws=y,D.str (tx w)=W at *;exact Gx (Ad ((Ai m).trans rfl) (Ad ((Bm (by simp[j,ne_])).trans rfl) (O6 (Jb (ds:=y) (by simp[p]) e))))
def Vd{b:Type}{p:b->Bool}:∀(l:List b)(k:Nat),(∀a∈l,p a=false)->Ov p l k=none
 | [],_,_=>rfl
 |a::l,k,h=>by rw[Ov,if_neg (by rw[h a MF];decide)];exact Vd l (k+1) λx e=>h x (KQ _ e)
def ci(ts:Bs):List (Int×Int):=ts.map λe=>((e.1:Int),(e.2:Int))
def wr1(n:Nat)(ts:Bs):eF (n:Int) (ci ts)=Ah n ts:=by unfold eF Ah ci;rw[RB];rfl
theorem kp7{n:Int}{f:List (Int×Int)}(h1:1<=n)(C:n<=6)(B:¬ 9<(f.length:Int))(y:∀z∈f,bad n z=false):Hy [.int n,.lst (f.map pD)]=.ok (eF n f):=by
 have t:Eh [.lst (f.map pD)]=some (.int (f.length:Int)):=by show some (D.int _)=_;rw[HN]
 have s:=kz0 h1 C B;have L2:=Vs (enc:=λi (z:Int×Int)=>D.tup [.int (i:Int),pD z]) (g:=gT [2,3]) (b:=wbB) (I:=λm=>∃q o,m=[some (.int n),some (.lst (f.map pD)),q,o]) (p:=bad n) (x:=true) (e:=λi=>noW (.int (i:Int))) f 0 [some (.int n),some (.lst (f.map pD)),none,none] ⟨_,_,rfl⟩ (λi a v m A=>by
  obtain⟨q,o,rfl⟩:=A;rw[ZR];exact⟨[some (.int n),some (.lst (f.map pD)),some (.int (i:Int)),some (pD a)],by simp,wa9 (by have:=(MT.mp v).1;omega)⟩)
 have E:Lh (f.map pD)=W4 (λi z=>D.tup [.int (i:Int),pD z]) f 0:=by unfold Lh;rw[HN,xT];exact jw9 f 0
 rw[<-E]at L2;have v1:drp (clX (zv (gv 0) (zv (bA (zv (gv 1) a0) Eh) a0)) Dg) (Aa 4 [.int n,.lst (f.map pD)])=.ok (.nx [some (.int n),some (.lst (f.map pD)),none,none]):=by generalize f.map pD=Z at *;simp[Aa,t,s]
 have u:fL (gv 1) [some (.int n),some (.lst (f.map pD)),none,none]=.ok (Lh (f.map pD)):=wh3 rfl;rcases L2 with ⟨j,h,_⟩ | ⟨h,r,F,H,G,rfl⟩
 ·rw[Vd f 0 y]at h;cases h
 ·refine Av (Ad v1 (Ad (Jb u F) (Am ?_)));unfold eF;generalize f.map pD=Z at *;simp[Ep]
def nw(n:Nat):List Nat:=[48+n,58]
def tw(e:Nat×Nat):List Nat:=[48+e.1,45,48+e.2]
def gd(n:Nat)(ts:Bs):List Nat:=jn 32 (nw n::ts.map tw)
def wx0(h:n<10):Oc (nw n)=true:=by unfold Oc nw;simp[m8 h]
variable {e:Nat×Nat}
def yc2(h1:e.1<10)(a:e.2<10):Jy (tw e)=true:=by unfold Jy tw;simp[m8 h1,m8 a]
def wa6(n:Nat):valN (nw n)=(n:Int):=by show((48+n - 48:Nat):Int)=_;rw[oG]
def wa7(e:Nat×Nat):W9 (tw e)=((e.1:Int),(e.2:Int)):=by show(((48+e.1 - 48:Nat):Int),((48+e.2 - 48:Nat):Int))=_;rw[oG,oG]
def sX{c:Nat}{x:Nat}(h:x∈jn c ws):x=c\/∃w∈ws,x∈w:=by
 cases ws with
 |nil=>cases h
 |cons w ws =>
  rw[Um]at h;rcases ZV.mp h with h |h
  ·exact .inr ⟨w,MF,h⟩
  ·have⟨v,b,a⟩:=List.mem_flatMap.mp h;rcases I_.mp a with rfl |a
   ·exact .inl rfl
   ·exact .inr ⟨v,KQ _ b,a⟩
theorem wq0(ts:Bs):tot (ts.map tw)=4 * ts.length:=by
 induction ts with
 |nil=>rfl
 |cons e ts a=>unfold tot at a ⊢;rw[KH,KH,dB,a,L_];show 3+1+_=_;omega
def lB(n:Nat)(ts:Bs):tot (nw n::ts.map tw)=3+4 * ts.length:=by have:=wq0 ts;unfold tot at this ⊢;rw[KH,dB,this];rfl
structure Sm(n:Nat)(ts:Bs):Prop where
 n:n<10
 len:ts.length<=9
 tie:∀e∈ts,e.1<10/\e.2<10
variable {ts:Bs}
theorem T4(h:G3 n ts 6 9):Sm n ts:=⟨by have:=h.le;omega,h.len,λe a=>by have:=h.tie e a;have:=h.le;omega⟩
theorem wi7(h:Sm n ts){x:Nat}(a:x∈gd n ts):x=32\/45<=x/\x<59:=by
 rcases sX a with rfl | ⟨w,b,a⟩
 ·exact .inl rfl
 ·have:=h.n;rcases I_.mp b with rfl |b
  ·simp[nw]at a;omega
  ·obtain⟨e,f,rfl⟩:=TX.mp b;have:=h.tie e f;simp[tw]at a;omega
theorem Ox(h:Sm n ts):(∀x∈gd n ts,x<128)/\(gd n ts).length<=39:=by refine⟨λx f=>by have:=wi7 h f;omega,?_⟩;have a:=sY 32 (nw n::ts.map tw);have b:=lB n ts;have c:=h.len;show(jn 32 (nw n::ts.map tw)).length<=39;omega
theorem wi8(h:Sm n ts):spl 32 (gd n ts)=nw n::ts.map tw:=lE (by simp) λw a b=>by
 have:=h.n;rcases I_.mp a with rfl |a
 ·simp[nw]at b;omega
 ·obtain⟨e,f,rfl⟩:=TX.mp a;have:=h.tie e f;simp[tw]at b;omega
theorem ka5(h:G3 n ts 6 9):K3 [.str (tx (gd n ts))]=.ok (Ah n ts):=by
 have s:=T4 h;have t:=Ox s;have b:=ky9 (l:=gd n ts) ⟨t.1,by omega⟩ (wi8 s);have m:(ts.map tw).all Jy=true:=SN.mpr λw i=>by obtain⟨e,a,rfl⟩:=TX.mp i;exact yc2 (s.tie e a).1 (s.tie e a).2
 have j:(ts.map tw).map W9=ci ts:=by unfold ci;rw[RB];exact dW λe _=>wa7 e
 rw[if_pos ⟨wx0 s.n,m⟩,wa6,j,kp7 (by have:=h.pos;omega) (by have:=h.le;omega) (by have:=h.len;unfold ci;rw[HN];omega) (λz f=>by
  obtain⟨e,a,rfl⟩:=TX.mp f;have:=h.tie e a;unfold bad;simp;omega),wr1]at b
 exact b
variable {ρ:Ev}
def pC:jN ρ=.ok (tx []):=rfl
variable {f:Ev->R D}
def cA{g:Ev->R PySem.Str}{a b:List Nat}(h1:f ρ=.ok (.str (tx a)))(h:a.length<=2000)(i:g ρ=.ok (tx b)):jS f g ρ=.ok (tx (a++b)):=by unfold jS;rw[h1,R.ok_bind];show(if(tx a).length<=2000 then(g ρ).bind λw=>.ok (tx a++w) else .bad)=_;rw[Gb,if_pos h,i,R.ok_bind,q_]
def pB{g:Ev->R PySem.Str}{a:List Nat}(h:g ρ=.ok (tx a)):jV g ρ=.ok (.str (tx a)):=by unfold jV;rw[h];rfl
theorem yc8(h1:e.1<10)(j:e.2<10):Gw [Aj e]=.ok (.str (tx (tw e))):=by have i:ixD (Aj e) (.int 0)=some (.int (e.1:Int)):=Bp;have h:ixD (Aj e) (.int 1)=some (.int (e.2:Int)):=Ds;have o:=l_ h1;have m:=l_ j;generalize Aj e=T at *;refine Av (Ad ((Ai (d:=.int (e.1:Int)) (by simp[Aa,i])).trans rfl) (Ad ((Ai (d:=.int (e.2:Int)) (by simp[Aa,h])).trans rfl) (Am ?_)));refine pB (a:=tw e) (cA (a:=[48+e.1]) (b:=[45,48+e.2]) (by simp[Aa,o]) (by simp) (cA (a:=[45]) (b:=[48+e.2]) (by rw[Ji,dash]) (by simp) (cA (a:=[48+e.2]) (b:=[]) (by simp[Aa,m]) (by simp) pC)))
def yc7(h:n<10):Ka [.int (n:Int)]=.ok (.str (tx (nw n))):=by have i:=l_ h;exact Av (Am (pB (a:=nw n) (cA (a:=[48+n]) (b:=[58]) (by simp[Aa,i]) (by simp) (cA (a:=[58]) (b:=[]) (by rw[Ji,colon]) (by simp) pC))))
def G4{h:Type}{enc:h->D}{out:h->D}{g:D->Ev->R Ev}{f:Ev->R D}{ρ:Ev}:∀(l:List h),(∀a∈l,∃b,g (enc a) ρ=.ok b/\f b=.ok (out a))->Dl g yes f ρ (l.map enc)=.ok (l.map out)
 | [],_=>rfl
 |a::l,i=>by have⟨b,o,m⟩:=i a MF;rw[KH,Dl,o];simp[yes,m,G4 l λx j=>i x (KQ _ j)]
def qY(ts:Bs):txs (ts.map tw)=ts.map λe=>D.str (tx (tw e)):=by unfold txs;rw[RB];rfl
theorem kn2(h:Sm n ts):Js [Ah n ts]=.ok (.str (tx (gd n ts))):=by
 have j:ixD (Ah n ts) (.int 0)=some (.int (n:Int)):=Bp;have i:ixD (Ah n ts) (.int 1)=some (.tup (ts.map Aj)):=Ds;have c:=G4 (enc:=Aj) (out:=λe=>D.str (tx (tw e))) (g:=gN 0) (f:=cl (zv (gv 0) a0) Gw) (ρ:=[none]) ts λe a=>by have:=yc8 (h.tie e a).1 (h.tie e a).2;generalize D.str (tx (tw e))=W,Aj e=T at *;exact⟨[some T],by simp,by simp[this]⟩
 rw[<-qY]at c;have m:Dc (itS (b2 (gv 0) (kd (.int 1)) ixD)) 1 [] (gN 0) yes (cl (zv (gv 0) a0) Gw) [some (Ah n ts),none]=.ok (.lst (txs (ts.map tw))):=by refine Fj (ds:=ts.map Aj) ?_ c (by have:=h.len;unfold txs;rw[HN,HN];omega);generalize Ah n ts=W,ts.map Aj=T at *;simp[i]
 have b:=yc7 h.n;have o:Bj (.lst [.str (tx (nw n))]) (.lst (txs (ts.map tw)))=some (.lst (txs (nw n::ts.map tw))):=by rw[mJ (by have:=h.len;unfold txs;rw[HN,HN];simp;omega)];rfl
 refine Av (Ad ((Ai m).trans rfl) (Am (Zf (c:=32) (ws:=nw n::ts.map tw) (by rw[Ji,blank]) ?_ (by rw[lB];have:=h.len;omega))));generalize txs (nw n::ts.map tw)=A at *;generalize txs (ts.map tw)=B,D.str (tx (nw n))=C,Ah n ts=W at *;simp[Aa,j,b,Qk,o]
theorem wg9(h:Sm n ts):XQ (kd (.str " ")) (b2 (bA (zv (b2 (bA (zv (b2 (gv 0) (kd (.int 0)) ixD) a0) Wl) (kd (.str ":")) Bj) a0) Q3) (Dc (itS (b2 (gv 0) (kd (.int 1)) ixD)) 2 [] (gT [0,1]) yes (b2 (b2 (bA (zv (gv 0) a0) Wl) (kd (.str "-")) Bj) (bA (zv (gv 1) a0) Wl) Bj)) Bj) [some (Ah n ts)]=.ok (.str (tx (gd n ts))):=by
 have i:ixD (Ah n ts) (.int 0)=some (.int (n:Int)):=Bp;have b:ixD (Ah n ts) (.int 1)=some (.tup (ts.map Aj)):=Ds;have c:=G4 (enc:=Aj) (out:=λe=>D.str (tx (tw e))) (g:=gT [0,1]) (f:=b2 (b2 (bA (zv (gv 0) a0) Wl) (kd (.str "-")) Bj) (bA (zv (gv 1) a0) Wl) Bj) (ρ:=[none,none]) ts λe a=>by
  have m:=lD (h.tie e a).1;have j:=lD (h.tie e a).2;have r:Bj (.str (tx [48+e.1])) (.str "-")=some (.str (tx [48+e.1,45])):=by rw[dash];exact mY (by simp)
  have q:Bj (.str (tx [48+e.1,45])) (.str (tx [48+e.2]))=some (.str (tx (tw e))):=mY (by simp);refine⟨[some (.int (e.1:Int)),some (.int (e.2:Int))],by simp[Aj],?_⟩;generalize D.str (tx (tw e))=W,D.str (tx [48+e.1])=X,D.str (tx [48+e.1,45])=Y,D.str (tx [48+e.2])=Z at *;simp[m,j,r,q]
 rw[<-qY]at c;have o:Dc (itS (b2 (gv 0) (kd (.int 1)) ixD)) 2 [] (gT [0,1]) yes (b2 (b2 (bA (zv (gv 0) a0) Wl) (kd (.str "-")) Bj) (bA (zv (gv 1) a0) Wl) Bj) [some (Ah n ts)]=.ok (.lst (txs (ts.map tw))):=by refine Fj (ds:=ts.map Aj) ?_ c (by have:=h.len;unfold txs;rw[HN,HN];omega);generalize Ah n ts=W,ts.map Aj=T at *;simp[b]
 have sn:=lD h.n;have an:Bj (.str (tx [48+n])) (.str ":")=some (.str (tx (nw n))):=by rw[colon];exact mY (by simp)
 have p:Bj (.lst [.str (tx (nw n))]) (.lst (txs (ts.map tw)))=some (.lst (txs (nw n::ts.map tw))):=by rw[mJ (by have:=h.len;unfold txs;rw[HN,HN];simp;omega)];rfl
 refine Zf (c:=32) (ws:=nw n::ts.map tw) (by rw[Ji,blank]) ?_ (by rw[lB];have:=h.len;omega);rw[J3,o];generalize txs (nw n::ts.map tw)=A at *;generalize txs (ts.map tw)=B,D.str (tx (nw n))=C,D.str (tx [48+n])=E,Ah n ts=W at *;simp[i,sn,an,Qk,p]
def m_(h:Sm n ts):Bl [Ah n ts]=.ok (.str (tx (gd n ts))):=Av (Am (wg9 h))
variable {xs:List D}
theorem rA{i:Nat}(a:i<xs.length):slA (.tup xs) none (some (i:Int))=some (.tup (xs.take i)):=by show(if HT.sIx xs.length 0 none=0/\HT.sIx xs.length xs.length (some (i:Int))=xs.length then none else some (D.tup (cutD xs none (some (i:Int)))))=_;rw[HT.Lb,HT.Q8,if_neg (by lia)];unfold cutD;rw[HT.Lb,HT.Q8,YF (by lia)];simp
theorem rB{i:Nat}(a:i<xs.length):slA (.tup xs) (some ((i:Int)+1)) none=some (.tup (xs.drop (i+1))):=by
 show(if HT.sIx xs.length 0 (some ((i:Int)+1))=0/\HT.sIx xs.length xs.length none=xs.length then none else some (D.tup (cutD xs (some ((i:Int)+1)) none)))=_;have e:HT.sIx xs.length 0 (some ((i:Int)+1))=i+1:=by rw[show((i:Int)+1)=((i+1:Nat):Int) by lia,HT.Lb];lia
 rw[e,if_neg (by lia)];unfold cutD;rw[e,HT.Q8];congr 2;apply xX;rw[YG];exact H_ _
variable {t:Nat}
theorem refuse_eq(ht:t<ts.length):K4 [Ah n ts,.int (t:Int)]=.ok .non:=by
 have a:=Gd n ts;have b:(ts.map Aj).length=ts.length:=HN ..;generalize Ah n ts=W at *;have c:ch (kd (.int 0)) (gv 1) (bA (zv (b2 (gv 0) (kd (.int 1)) ixD) a0) Eh) leD ltD (Aa 2 [W,.int (t:Int)])=.ok (.bl true):=by unfold ch;simp[Aa,a,ht]
 have e:Ht (Aa 2 [W,.int (t:Int)])=.ok (.nx (Aa 2 [W,.int (t:Int)])):=(Bm (by rw[Zg,Vb,c];simp)).trans rfl;show Be 2 Ht _=_;rw[G8,e,Rm]
def del(ts:Bs)(t:Nat):Bs:=ts.take t++ts.drop (t+1)
theorem Wr(ht:t<ts.length)(q:ts.length<=1000):Nb [Ah n ts,.int (t:Int)]=.ok (Ah n (del ts t)):=by
 have h:ixD (Ah n ts) (.int 0)=some (.int (n:Int)):=Bp;have b:=Gd n ts;have o:=refuse_eq (n:=n) ht;have a:t<(ts.map Aj).length:=by rw[HN];exact ht
 have j:=rA a;have i:=rB a;have p:Bj (.tup ((ts.map Aj).take t)) (.tup ((ts.map Aj).drop (t+1)))=some (.tup ((del ts t).map Aj)):=(Ze (by rw[YH,YG,HN];lia)).trans (by rw[del,bH,nP,nO]);have m:Dk [.int (n:Int),.tup ((del ts t).map Aj)]=some (Ah n (del ts t)):=Ep (by simp);generalize Ah n ts=W,Ah n (del ts t)=r at *;refine Av (Ad (ρ1:=[some W,some (.int (t:Int)),none]) (by simp[Aa,o]) (Ad (ρ1:=[some W,some (.int (t:Int)),some (.tup (ts.map Aj))]) (Ai (d:=.tup (ts.map Aj)) (by simp[b])) (Am ?_)));simp only[Rk,Dp,pG,J3,pF,pA,o_,Ji,gv0,XR,oZ,R.ok_bind,h,R.of_some,qR,j,mK,i,p,m]
theorem wI(p a b:Nat):Et [.int (p:Int),.int (a:Int),.int (b:Int)]=.ok (.int (cp a b p:Nat)):=by
 unfold cp;by_cases h:p=b
 ·subst h;rw[if_pos rfl];exact Av (Jg ((Fe (by simp[Aa])).trans (Am (by simp[Aa]))))
 ·rw[if_neg h];by_cases i:b<p
  ·rw[if_pos i];refine Av (Ad ((Bm (by simp[Aa];lia)).trans rfl) (Jg ((Fe (by simp[Aa];lia)).trans (Am ?_))));simp[Aa];lia
  ·rw[if_neg i];exact Av (Ad ((Bm (by simp[Aa];lia)).trans rfl) (Ad ((Bm (by simp[Aa];lia)).trans rfl) (Am (by simp[Aa]))))
def ka7(x y:Nat):K5 [.int (x:Int),.int (y:Int)]=.ok (Aj (min x y,max x y)):=by refine Av (Am ?_);have b:=lM x y;have a:=lN x y;simp[Aa,Ep,Aj,b,a]
variable {b a:Nat}
theorem Rh(o:1<=n)(p:ts.length<=1000):v_ [Ah n ts,.int (a:Int),.int (b:Int)]=.ok (Ah (n - 1) (ts.map (ct a b))):=by
 have i:ixD (Ah n ts) (.int 0)=some (.int (n:Int)):=Bp;have h:=Gd n ts;have q:Dk [.int ((n:Int) - 1),.tup ((ts.map (ct a b)).map Aj)]=some (Ah (n - 1) (ts.map (ct a b))):=(Ep (by simp)).trans (by rw[Ah,rZ o]);have z:((ts.map (ct a b)).map Aj).length<=1000:=by rw[HN,HN];exact p
 generalize Ah n ts=W,Ah (n - 1) (ts.map (ct a b))=A at *;have r:Dc (itS (b2 (gv 0) (kd (.int 1)) ixD)) 1 [1,2] (gN 0) yes (cl (zv (cl (zv (b2 (gv 0) (kd (.int 0)) ixD) (zv (gv 1) (zv (gv 2) a0))) Et) (zv (cl (zv (b2 (gv 0) (kd (.int 1)) ixD) (zv (gv 1) (zv (gv 2) a0))) Et) a0)) K5) [some W,some (.int (a:Int)),some (.int (b:Int)),none]=.ok (.lst ((ts.map (ct a b)).map Aj)):=by refine Fj (ds:=ts.map Aj) (by simp[h]) ?_ (by lia);rw[RB];refine Qd ts λe y=>?_;have m:ixD (Aj e) (.int 0)=some (.int (e.1:Int)):=Bp;have j:ixD (Aj e) (.int 1)=some (.int (e.2:Int)):=Ds;have x:=wI e.1 a b;have v:=wI e.2 a b;have u:=ka7 (cp a b e.1) (cp a b e.2);have s:(Aj∘ct a b) e=Aj (min (cp a b e.1) (cp a b e.2),max (cp a b e.1) (cp a b e.2)):=rfl;rw[s];generalize Aj e=TE,Aj (min (cp a b e.1) (cp a b e.2),max (cp a b e.1) (cp a b e.2))=B at *;simp only[Lr];simp[m,j,x,v,u]
 generalize (ts.map (ct a b)).map Aj=X at *;refine Av (Ad (ρ1:=[some W,some (.int (a:Int)),some (.int (b:Int)),some (.lst X)]) (Ai (d:=.lst X) (by simpa[Aa] using r)) (Am ?_));simp[i,q]
theorem kd8(s:1<=n)(p:ts[t]? = some e)(u:ts.length<=1000):Uj [Ah n ts,.int (t:Int)]=.ok (if e.1=e.2 then Ah n (del ts t) else Ah (n - 1) ((del ts t).map (ct e.1 e.2))):=by
 have r:t<ts.length:=(MT.mp p).1;have q:=Gd n ts;have y:=Wr (n:=n) r u;have x:ixD (.tup (ts.map Aj)) (.int (t:Int))=some (Aj e):=cV (by rw[QC,p];rfl);have m:(del ts t).length<=1000:=by unfold del;rw[PQ,YH,YG];lia
 have v:=Rh (n:=n) (ts:=del ts t) (a:=e.1) (b:=e.2) s m;have j:ixD (Aj e) (.int 0)=some (.int (e.1:Int)):=Bp;have i:ixD (Aj e) (.int 1)=some (.int (e.2:Int)):=Ds;generalize Ah n ts=W,Ah n (del ts t)=o,Ah (n - 1) ((del ts t).map (ct e.1 e.2))=z,Aj e=TE at *;refine Av (Ad (ρ1:=[some W,some (.int (t:Int)),some o,none]) (Ai (d:=o) (by simp[Aa,y])) (Ad (ρ1:=[some W,some (.int (t:Int)),some o,some TE]) (Ai (d:=TE) (by simp[q,x])) ?_));by_cases h:e.1=e.2
 ·rw[if_pos h];exact Jg ((Fe (by simp[j,i,h])).trans (Am (by simp)))
 ·rw[if_neg h];exact Ad ((Bm (by simp[j,i];lia)).trans rfl) (Am (by simp[j,i,v]))
def cP(t:Int):D:=.exc "NoTie" [.str "tie"] [.int t]
theorem ka6{t:Int}(h:t<0\/(ts.length:Int)<=t)(m:t.natAbs<2 ^ 200):K4 [Ah n ts,.int t]=.exc (cP t):=by
 have i:=Gd n ts;have o:(ts.map Aj).length=ts.length:=HN ..;generalize Ah n ts=W at *;have c:ch (kd (.int 0)) (gv 1) (bA (zv (b2 (gv 0) (kd (.int 1)) ixD) a0) Eh) leD ltD (Aa 2 [W,.int t])=.ok (.bl false):=by
  unfold ch;by_cases j:0<=t
  ·have:¬ t<(ts.length:Int):=by lia
   simp[Aa,i,j,this]
  ·simp[Aa,i,j]
 exact Gx ((Fe (by rw[Zg,Vb,c];simp)).trans (Zh (by simp[Aa,Xv m]) (by simp[Aa]) rfl))
theorem Ws{t:Int}(h:t<0\/(ts.length:Int)<=t)(i:t.natAbs<2 ^ 200):Nb [Ah n ts,.int t]=.exc (cP t):=by have e:=ka6 (n:=n) h i;generalize Ah n ts=W at *;exact Gx (O6 (Zb (by simp[Aa,e])))
theorem kd9{t:Int}(h:t<0\/(ts.length:Int)<=t)(i:t.natAbs<2 ^ 200):Uj [Ah n ts,.int t]=.exc (cP t):=by have e:=Ws (n:=n) h i;generalize Ah n ts=W at *;exact Gx (O6 (kq9 (by simp[Aa,e])))
def cO:D:=.exc "NoWeb" [.str "place"] [.non]
variable {m:Nat}{us:Bs}
theorem M8(y:ts.length+us.length<=900):Qg [Ah n ts,Ah m us]=.ok (Ah (n+m) (ts++us.map (sh n))):=by
 have h:ixD (Ah n ts) (.int 0)=some (.int (n:Int)):=Bp;have o:ixD (Ah n ts) (.int 1)=some (.tup (ts.map Aj)):=Ds;have j:ixD (Ah m us) (.int 0)=some (.int (m:Int)):=Bp;have i:ixD (Ah m us) (.int 1)=some (.tup (us.map Aj)):=Ds;have s:Dc (itS (b2 (gv 1) (kd (.int 1)) ixD)) 1 [0] (gN 0) yes (bA (zv (b2 (b2 (gv 0) (kd (.int 0)) ixD) (b2 (gv 1) (kd (.int 0)) ixD) Bj) (zv (b2 (b2 (gv 0) (kd (.int 1)) ixD) (b2 (gv 1) (kd (.int 0)) ixD) Bj) a0)) Dk) [some (Ah n ts),some (Ah m us),none]=.ok (.lst ((us.map (sh n)).map Aj)):=by refine Fj (ds:=us.map Aj) (by simp[i]) ?_ (by simp only[HN];lia);rw[RB];refine Qd us λe x=>?_;have q:Aj e=.tup [.int (e.1:Int),.int (e.2:Int)]:=rfl;have r:R.ok ((Aj∘sh n) e)=R.ok (D.tup [.int ((e.1:Int)+(n:Int)),.int ((e.2:Int)+(n:Int))]):=rfl;rw[r,q];generalize Ah n ts=W,Ah m us=p at *;simp[Lr,h,Ep]
 have u:Bj (.tup (ts.map Aj)) (.tup ((us.map (sh n)).map Aj))=some (.tup ((ts++us.map (sh n)).map Aj)):=by rw[Ze (by simp only[HN];lia),bH]
 have mk:Dk [.int ((n:Int)+(m:Int)),.tup ((ts++us.map (sh n)).map Aj)]=some (Ah (n+m) (ts++us.map (sh n))):=by rw[Ep (by simp)];unfold Ah;rw[wN]
 generalize Ah (n+m) (ts++us.map (sh n))=z,(ts++us.map (sh n)).map Aj=A,(us.map (sh n)).map Aj=v,Ah n ts=W,Ah m us=p at *;exact Av (Ad (ρ1:=[some W,some p,some (.lst v)]) (Ai s) (Am (by simp[h,j,o,u,mk])))
theorem V2{k:Nat}(h1:1<=n)(p:n<=6)(o:k<=9):Dg [.int (n:Int),.int (k:Int)]=.ok .non:=by
 have j:(1:Int)<=(n:Int):=by lia
 have i:(n:Int)<=6:=by lia
 have h:¬ (9:Int)<(k:Int):=by lia
 generalize (n:Int)=N at *;generalize (k:Int)=M at *;have e:Cg (Aa 2 [.int N,.int M])=.ok (.nx (Aa 2 [.int N,.int M])):=by refine Ad ((Bm ?_).trans rfl) ((Bm (by simp[Aa,h])).trans rfl);rw[Zg,Vb];unfold ch;simp[Aa,j,i]
 show Be 2 Cg _=_;rw[G8,e,Rm]
def gK(n:Nat)(ts:Bs):ixD (Ah n ts) (.int 0)=some (.int (n:Int))/\ixD (Ah n ts) (.int 1)=some (.tup (ts.map Aj))/\Eh [.tup (ts.map Aj)]=some (.int (ts.length:Int)):=⟨Bp,Ds,by show some (D.int _)=_;rw[HN]⟩
theorem jv2(u:1<=n)(h1:n+m<=6)(p:ts.length+us.length<=9):Qe [Ah n ts,Ah m us]=.ok (Ah (n+m) (ts++us.map (sh n))):=by have o:=M8 (n:=n) (m:=m) (ts:=ts) (us:=us) (by lia);have⟨s,r,q⟩:=gK (n+m) (ts++us.map (sh n));have j:=V2 (n:=n+m) (k:=(ts++us.map (sh n)).length) (by lia) h1 (by rw[PQ,HN];exact p);generalize Ah (n+m) (ts++us.map (sh n))=h,(ts++us.map (sh n)).map Aj=v,Ah n ts=W,Ah m us=i at *;generalize ((n+m:Nat):Int)=N at *;generalize ((ts++us.map (sh n)).length:Int)=M at *;exact Av (Ad (ρ1:=[some W,some i,some h]) (Ai (d:=h) (by simp[Aa,o])) (Ad (ρ1:=[some W,some i,some h]) (by simp[s,r,q,j]) (Am (by simp))))
variable {p q:Nat}
theorem jy2(A:1<=n)(v:1<=m)(h1:n+m<=7)(u:ts.length+us.length<=9):Qf [Ah n ts,.int (p:Int),Ah m us,.int (q:Int)]=.ok (Ah (n+m - 1) ((ts++us.map (sh n)).map (ct p (n+q)))):=by have s:=M8 (n:=n) (m:=m) (ts:=ts) (us:=us) (by lia);have j:=Rh (n:=n+m) (ts:=ts++us.map (sh n)) (a:=p) (b:=n+q) (by lia) (by rw[PQ,HN];lia);have⟨z,y,x⟩:=gK (n+m - 1) ((ts++us.map (sh n)).map (ct p (n+q)));have r:=V2 (n:=n+m - 1) (k:=((ts++us.map (sh n)).map (ct p (n+q))).length) (by lia) (by lia) (by rw[HN,PQ,HN];exact u);have h:ixD (Ah n ts) (.int 0)=some (.int (n:Int)):=Bp;rw[show((n+q:Nat):Int)=(n:Int)+(q:Int) by lia]at j;generalize Ah (n+m - 1) ((ts++us.map (sh n)).map (ct p (n+q)))=i,((ts++us.map (sh n)).map (ct p (n+q))).map Aj=C,Ah (n+m) (ts++us.map (sh n))=B,Ah n ts=W,Ah m us=o at *;generalize ((n+m - 1:Nat):Int)=N at *;generalize (((ts++us.map (sh n)).map (ct p (n+q))).length:Int)=M at *;exact Av (Ad (ρ1:=[some W,some (.int (p:Int)),some o,some (.int (q:Int)),some i]) (Ai (d:=i) (by simp[Aa,s,h,j])) (Ad (ρ1:=[some W,some (.int (p:Int)),some o,some (.int (q:Int)),some i]) (by simp[z,y,x,r]) (Am (by simp))))
def Xo{out:Nat×Nat->D}{f:Ev->R D}{ρ:Ev}:∀l:Bs,(∀e∈l,f ((ρ.set 0 (some (.int (e.1:Int)))).set 1 (some (.int (e.2:Int))))=.ok (out e))->Dl (gT [0,1]) yes f ρ (l.map Aj)=.ok (l.map out)
 | [],_=>rfl
 |e::l,h=>by have r:=h e MF;have i:=Xo (f:=f) (ρ:=ρ) (out:=out) l λx j=>h x (KQ _ j);have o:gT [0,1] (Aj e) ρ=.ok ((ρ.set 0 (some (.int (e.1:Int)))).set 1 (some (.int (e.2:Int)))):=rfl;rw[KH,Dl,o];simp[yes,r,i]
theorem V3{k:Nat}(h:6<n\/9<k)(h1:1<=n)(y:n<=1000)(z:k<=1000):Dg [.int (n:Int),.int (k:Int)]=.exc cO:=by
 have big:(1000:Nat)<2 ^ 200:=by decide
 have v:=Xv (i:=(n:Int)) (iB (by lia:_<=1000) big);have u:=Xv (i:=(k:Int)) (iB (by lia:_<=1000) big);have s:=Xv (i:=6) (iB (by decide:_<=1000) big);have r:=Xv (i:=9) (iB (by decide:_<=1000) big);have o:(1:Int)<=(n:Int):=by lia
 by_cases A:6<n
 ·have j:¬ (n:Int)<=6:=by lia
  generalize (n:Int)=N at *;generalize (k:Int)=M at *;refine Gx (O6 ((Fe ?_).trans (Zh (by simp[Aa,v,s]) (by simp) rfl)));rw[Zg,Vb];unfold ch;simp[Aa,o,j]
 ·have j:(n:Int)<=6:=by lia
  have x:(9:Int)<(k:Int):=by lia
  generalize (n:Int)=N at *;generalize (k:Int)=M at *;refine Gx (Ad ((Bm ?_).trans rfl) ((Fe (by simp[Aa,x])).trans (Zh (by simp[Aa,u,r]) (by simp) rfl)));rw[Zg,Vb];unfold ch;simp[Aa,o,j]
theorem jv3(z:1<=n)(x:n+m<=100)(y:ts.length+us.length<=100)(h:6<n+m\/9<ts.length+us.length):Qe [Ah n ts,Ah m us]=.exc cO:=by have o:=M8 (n:=n) (m:=m) (ts:=ts) (us:=us) (by lia);have⟨u,s,r⟩:=gK (n+m) (ts++us.map (sh n));have j:=V3 (n:=n+m) (k:=(ts++us.map (sh n)).length) (by rw[PQ,HN];exact h) (by lia) (by lia) (by rw[PQ,HN];lia);generalize Ah (n+m) (ts++us.map (sh n))=i,(ts++us.map (sh n)).map Aj=A,Ah n ts=W,Ah m us=v at *;generalize ((n+m:Nat):Int)=N at *;generalize ((ts++us.map (sh n)).length:Int)=M at *;exact Gx (Ad (ρ1:=[some W,some v,some i]) (Ai (d:=i) (by simp[Aa,o])) (O6 (Zb (by simp[u,s,r,j]))))
theorem jy3(C:1<=n)(u:1<=m)(A:n+m<=100)(B:ts.length+us.length<=100)(h:7<n+m\/9<ts.length+us.length):Qf [Ah n ts,.int (p:Int),Ah m us,.int (q:Int)]=.exc cO:=by have s:=M8 (n:=n) (m:=m) (ts:=ts) (us:=us) (by lia);have j:=Rh (n:=n+m) (ts:=ts++us.map (sh n)) (a:=p) (b:=n+q) (by lia) (by rw[PQ,HN];lia);have⟨y,x,v⟩:=gK (n+m - 1) ((ts++us.map (sh n)).map (ct p (n+q)));have r:=V3 (n:=n+m - 1) (k:=((ts++us.map (sh n)).map (ct p (n+q))).length) (by rw[HN,PQ,HN];lia) (by lia) (by lia) (by rw[HN,PQ,HN];lia);have i:ixD (Ah n ts) (.int 0)=some (.int (n:Int)):=Bp;rw[show((n+q:Nat):Int)=(n:Int)+(q:Int) by lia]at j;generalize Ah (n+m - 1) ((ts++us.map (sh n)).map (ct p (n+q)))=o,((ts++us.map (sh n)).map (ct p (n+q))).map Aj=F,Ah (n+m) (ts++us.map (sh n))=E,Ah n ts=W,Ah m us=z at *;generalize ((n+m - 1:Nat):Int)=N at *;generalize (((ts++us.map (sh n)).map (ct p (n+q))).length:Int)=M at *;exact Gx (Ad (ρ1:=[some W,some (.int (p:Int)),some z,some (.int (q:Int)),some o]) (Ai (d:=o) (by simp[Aa,s,i,j])) (O6 (Zb (by simp[y,x,v,r]))))
theorem Tj(ht:t<ts.length)(v:ts.length<=1000):Dy [Ah n ts,.int (t:Int)]=.ok (Ah n (del ts t)):=by
 have j:ixD (Ah n ts) (.int 0)=some (.int (n:Int)):=Bp;have i:=Gd n ts;have h:t<(ts.map Aj).length:=by rw[HN];exact ht
 have r:=rA h;have o:=rB h;have u:Bj (.tup ((ts.map Aj).take t)) (.tup ((ts.map Aj).drop (t+1)))=some (.tup ((del ts t).map Aj)):=(Ze (by rw[YH,YG,HN];lia)).trans (by rw[del,bH,nP,nO]);have s:Dk [.int (n:Int),.tup ((del ts t).map Aj)]=some (Ah n (del ts t)):=Ep (by simp);generalize Ah n ts=W,Ah n (del ts t)=x at *;refine Av (Am ?_);show(bA (zv (b2 (gv 0) (kd (.int 0)) ixD) (zv (b2 (bS (b2 (gv 0) (kd (.int 1)) ixD) p0 (p1 (gv 1)) slA) (bS (b2 (gv 0) (kd (.int 1)) ixD) (p1 (b2 (gv 1) (kd (.int 1)) Bj)) p0 slA) Bj) a0)) Dk) [some W,some (.int (t:Int))]=_;simp only[Rk,Dp,pG,J3,pF,pA,o_,Ji,gv0,XR,oZ,R.ok_bind,j,i,R.of_some,qR,r,mK,o,u,s]
def aoB:Ev->R Fl:=(sq (asg 8 (Dc (itS (gv 7)) 1 [5,4] (gN 0) yes (b2 (bA (zv (b2 (gv 0) (bA (zv (b2 (gv 0) (gv 1) gtD) a0) intD) ZF) (zv (gv 2) a0)) Q3) (bA (zv (b2 (gv 0) (gv 1) eqD) a0) intD) ixD)))
 (ZL 6 (bA (zv (bA (zv (gv 8) a0) cQ) (zv (bA (zv (gv 8) a0) cR) a0)) Dk)))
def i_f:intD [.bl false]=some (.int 0):=rfl
def i_t:intD [.bl true]=some (.int 1):=rfl
theorem mX(p r h:Nat):(b2 (bA (zv (b2 (gv 0) (bA (zv (b2 (gv 0) (gv 1) gtD) a0) intD) ZF) (zv (gv 2) a0)) Q3) (bA (zv (b2 (gv 0) (gv 1) eqD) a0) intD) ixD) [some (.int (p:Int)),some (.int (h:Int)),some (.int (r:Int))]=.ok (.int (cp r h p:Nat)):=by
 unfold cp;by_cases o:p=h
 ·subst o;simp[Qk,i_f,i_t]
 ·by_cases i:h<p
  ·rw[if_neg o,if_pos i];have:((p - 1:Nat):Int)=(p:Int) - 1:=by lia
   have j:¬ ((p:Int)=(h:Int)):=by lia
   simp[Qk,i,j,this,i_f,i_t]
  ·rw[if_neg o,if_neg i];have j:¬ ((p:Int)=(h:Int)):=by lia
   simp[Qk,i,j,i_f,i_t]
theorem zL(x y:Int):cQ [.lst [.int x,.int y]]=some (.int (min x y)):=by
 have e:XN [x,y]=min x y:=by
  show [x,y].getD (if decide (y<x)=true then 1 else 0) 0=_;by_cases h:y<x
  ·rw[if_pos (decide_eq_true h)];show y=_;lia
  ·rw[if_neg (by simp[h])];show x=_;lia
 show(Gf [.int x,.int y]).map (λi=>D.int (XN i))=_;rw[show Gf [D.int x,.int y]=some [x,y] from rfl,wM,e]
theorem top2(x y:Int):cR [.lst [.int x,.int y]]=some (.int (max x y)):=by
 have e:XH [x,y]=max x y:=by
  show [x,y].getD (if decide (y>x)=true then 1 else 0) 0=_;by_cases h:y>x
  ·rw[if_pos (decide_eq_true h)];show y=_;lia
  ·rw[if_neg (by simpa using h)];show x=_;lia
 show(Gf [.int x,.int y]).map (λi=>D.int (XH i))=_;rw[show Gf [D.int x,.int y]=some [x,y] from rfl,wM,e]
variable {o0 o1 o2 o3:Option D}
theorem kq8{h i:Nat}{j:Option D}(z:us.length<1000):aoB [o0,o1,o2,o3,some (.int (h:Int)),some (.int (i:Int)),some (.lst (us.map Aj)),some (Aj e),j] =
  .ok (.nx [o0,o1,o2,o3,some (.int (h:Int)),some (.int (i:Int)),some (.lst ((us++[ct h i e]).map Aj)),some (Aj e),some (.lst [.int (cp h i e.1:Nat),.int (cp h i e.2:Nat)])]):=by
 have s:(us.map Aj).length<16777216:=by rw[HN];lia
 have u:Dc (itS (gv 7)) 1 [5,4] (gN 0) yes (b2 (bA (zv (b2 (gv 0) (bA (zv (b2 (gv 0) (gv 1) gtD) a0) intD) ZF) (zv (gv 2) a0)) Q3) (bA (zv (b2 (gv 0) (gv 1) eqD) a0) intD) ixD) [o0,o1,o2,o3,some (.int (h:Int)),some (.int (i:Int)),some (.lst (us.map Aj)),some (Aj e),j]=.ok (.lst [.int (cp h i e.1:Nat),.int (cp h i e.2:Nat)]):=by refine Fj (ds:=[.int (e.1:Int),.int (e.2:Int)]) (by simp[Aj,Lx]) ?_ (by simp);have B:=mX e.1 h i;have A:=mX e.2 h i;exact Qd (enc:=λp:Nat=>D.int (p:Int)) (out:=λp:Nat=>D.int (cp h i p:Nat)) [e.1,e.2] λp y=>mX p h i
 have r:=zL (cp h i e.1:Nat) (cp h i e.2:Nat);have o:=top2 (cp h i e.1:Nat) (cp h i e.2:Nat);have tt:Dk [.int (min ((cp h i e.1:Nat):Int) (cp h i e.2:Nat)),.int (max ((cp h i e.1:Nat):Int) (cp h i e.2:Nat))]=some (Aj (ct h i e)):=by rw[lM,lN];exact Ep (by simp)
 rw[bH];show _=R.ok (Fl.nx [o0,o1,o2,o3,_,_,some (.lst (us.map Aj++[Aj (ct h i e)])),_,_]);generalize us.map Aj=TS,Aj (ct h i e)=v,Aj e=C at *;exact Ad ((Ai u).trans rfl) ((kO (ds:=TS) (x:=v) rfl (by simp[r,o,tt]) s).trans rfl)
theorem Yb(z:1<=n)(A:ts.length<=900):Ny [.int (n:Int),.tup (ts.map Aj),.int (a:Int),.int (b:Int)]=.ok (Ah (n - 1) (ts.map (ct (min a b) (max a b)))):=by
 have⟨x,v,r⟩:=Mt (g:=gN 7) (b:=aoB) (I:=λj ρ=>j<=ts.length->∃(u s:Option D),ρ=[some (.int (n:Int)),some (.tup (ts.map Aj)),some (.int (a:Int)),some (.int (b:Int)),some (.int (min a b:Nat)),some (.int (max a b:Nat)),some (.lst (((ts.take j).map (ct (min a b) (max a b))).map Aj)),u,s])
  (ts.map Aj) 0 [some (.int (n:Int)),some (.tup (ts.map Aj)),some (.int (a:Int)),some (.int (b:Int)),some (.int (min a b:Nat)),some (.int (max a b:Nat)),some (.lst []),none,none] (λ_=>⟨none,none,by simp⟩) (λi d ρ o r=>by
   rw[ZR]at r ⊢;rw[QC]at o;cases h:ts[i]? with
   |none=>rw[h]at o;cases o
   |some e =>
    rw[h]at o;cases o;have B:=(MT.mp h).1;obtain⟨u,s,rfl⟩:=r (by omega);refine⟨_,_,cB,.inl (kq8 (by simp;omega)),λ_=>⟨some (Aj e),some (.lst [.int (cp (min a b) (max a b) e.1:Nat),.int (cp (min a b) (max a b) e.2:Nat)]),?_⟩⟩;rw[w6,h];simp)
 rw[HN,ZR]at r;obtain⟨u,s,rfl⟩:=r (H_ _);rw[List.take_length]at v;have h:Dk [.int ((n:Int) - 1),.tup ((ts.map (ct (min a b) (max a b))).map Aj)]=some (Ah (n - 1) (ts.map (ct (min a b) (max a b)))):=(Ep (by simp)).trans (by rw[Ah,rZ z]);have y:M3 [.lst ((ts.map (ct (min a b) (max a b))).map Aj)]=some (.tup ((ts.map (ct (min a b) (max a b))).map Aj)):=rfl;generalize Ah (n - 1) (ts.map (ct (min a b) (max a b)))=W,(ts.map (ct (min a b) (max a b))).map Aj=X,ts.map Aj=T at *;refine Av (Ad (Ai (d:=.int (min a b:Nat)) (by simp[Aa,lM])) (Ad (Ai (d:=.int (max a b:Nat)) (by simp[Aa,lN])) (Ad (Ai (d:=.lst []) (by simp[Qk])) (Ad (Jb (ds:=T) (by simp[Aa,Lx]) v) (Am ?_)))));simp[y,h]
theorem jz0(z:1<=n)(s:ts[t]? = some e)(E:ts.length<=900)(i:e.1<=e.2):Ef [Ah n ts,.int (t:Int)]=.ok (if e.1=e.2 then Ah n (del ts t) else Ah (n - 1) ((del ts t).map (ct e.1 e.2))):=by
 have y:t<ts.length:=(MT.mp s).1;have x:=Gd n ts;have C:=Tj (n:=n) y (by omega);have B:ixD (.tup (ts.map Aj)) (.int (t:Int))=some (Aj e):=cV (by rw[QC,s];rfl);have r:(del ts t).length<=900:=by unfold del;rw[PQ,YH,YG];lia
 have u:=Yb (n:=n) (ts:=del ts t) (a:=e.1) (b:=e.2) z r;rw[YF i,nU i]at u;have o:ixD (Ah n (del ts t)) (.int 0)=some (.int (n:Int)):=Bp;have j:=Gd n (del ts t);have A:gT [2,3] (Aj e) [some (Ah n ts),some (.int (t:Int)),none,none,none]=.ok [some (Ah n ts),some (.int (t:Int)),some (.int (e.1:Int)),some (.int (e.2:Int)),none]:=rfl;generalize Ah n ts=W,Ah n (del ts t)=v,Ah (n - 1) ((del ts t).map (ct e.1 e.2))=F,Aj e=TE at *;refine Av (Ad (ρ1:=[some W,some (.int (t:Int)),some (.int (e.1:Int)),some (.int (e.2:Int)),none]) (by simp[Aa,x,B,A]) (Ad (ρ1:=[some W,some (.int (t:Int)),some (.int (e.1:Int)),some (.int (e.2:Int)),some v]) (Ai (d:=v) (by simp[C])) ?_));by_cases h:e.1=e.2
 ·rw[if_pos h];exact Jg ((Fe (by simp[h])).trans (Am (by simp)))
 ·rw[if_neg h];exact Ad ((Bm (by simp;lia)).trans rfl) (Am (by simp[o,j,u]))
theorem Vr(z:ts.length+us.length<=900):Eo [Ah n ts,Ah m us]=.ok (Ah (n+m) (ts++us.map (sh n))):=by
 have h:ixD (Ah n ts) (.int 0)=some (.int (n:Int)):=Bp;have o:ixD (Ah n ts) (.int 1)=some (.tup (ts.map Aj)):=Ds;have j:ixD (Ah m us) (.int 0)=some (.int (m:Int)):=Bp;have i:ixD (Ah m us) (.int 1)=some (.tup (us.map Aj)):=Ds;have u:Dc (itS (b2 (gv 1) (kd (.int 1)) ixD)) 2 [0] (gT [0,1]) yes (bA (zv (b2 (gv 0) (b2 (gv 2) (kd (.int 0)) ixD) Bj) (zv (b2 (gv 1) (b2 (gv 2) (kd (.int 0)) ixD) Bj) a0)) Dk) [some (Ah n ts),some (Ah m us)]=.ok (.lst ((us.map (sh n)).map Aj)):=by refine Fj (ds:=us.map Aj) (by simp[i]) ?_ (by simp only[HN];lia);rw[RB];refine Xo us λe y=>?_;have s:R.ok ((Aj∘sh n) e)=R.ok (D.tup [.int ((e.1:Int)+(n:Int)),.int ((e.2:Int)+(n:Int))]):=rfl;rw[s];generalize Ah n ts=W at *;simp[Lr,Ep,h]
 have v:Bj (.tup (ts.map Aj)) (.tup ((us.map (sh n)).map Aj))=some (.tup ((ts++us.map (sh n)).map Aj)):=by rw[Ze (by simp only[HN];lia),bH]
 have mk:Dk [.int ((n:Int)+(m:Int)),.tup ((ts++us.map (sh n)).map Aj)]=some (Ah (n+m) (ts++us.map (sh n))):=by rw[Ep (by simp)];unfold Ah;rw[wN]
 have r:M3 [.lst ((us.map (sh n)).map Aj)]=some (.tup ((us.map (sh n)).map Aj)):=rfl;generalize Ah (n+m) (ts++us.map (sh n))=A,(ts++us.map (sh n)).map Aj=B,(us.map (sh n)).map Aj=C,Ah n ts=W,Ah m us=x at *;refine Av (Am ?_);show bA (zv (b2 (b2 (gv 0) (kd (.int 0)) ixD) (b2 (gv 1) (kd (.int 0)) ixD) Bj) (zv (b2 (b2 (gv 0) (kd (.int 1)) ixD) (bA (zv (Dc (itS (b2 (gv 1) (kd (.int 1)) ixD)) 2 [0] (gT [0,1]) yes (bA (zv (b2 (gv 0) (b2 (gv 2) (kd (.int 0)) ixD) Bj) (zv (b2 (gv 1) (b2 (gv 2) (kd (.int 0)) ixD) Bj) a0)) Dk)) a0) M3) Bj) a0)) Dk [some W,some x]=_;rw[Rk,Dp,Dp,J3 (f1:=b2 (gv 0) (kd (.int 1)) ixD),Rk (g:=M3),Dp,u];simp[h,j,o,r,v,mk]
theorem jn1(A:1<=n)(z:p<n)(u:ts.length+us.length<=900):Cy [Ah n ts,.int (p:Int),Ah m us,.int (q:Int)]=.ok (Ah (n+m - 1) ((ts++us.map (sh n)).map (ct p (n+q)))):=by
 have x:=Vr (n:=n) (m:=m) u;have o:=Yb (n:=n+m) (ts:=ts++us.map (sh n)) (a:=p) (b:=n+q) (by omega) (by simp;omega);rw[YF (by omega),nU (by omega)]at o;have j:ixD (Ah n ts) (.int 0)=some (.int (n:Int)):=Bp;have i:ixD (Ah (n+m) (ts++us.map (sh n))) (.int 0)=some (.int ((n+m:Nat):Int)):=Bp;have h:=Gd (n+m) (ts++us.map (sh n));have s:(n:Int)+(q:Int)=((n+q:Nat):Int):=by lia
 generalize Ah (n+m - 1) ((ts++us.map (sh n)).map (ct p (n+q)))=B,Ah (n+m) (ts++us.map (sh n))=r,(ts++us.map (sh n)).map Aj=C,Ah n ts=W,Ah m us=y at *;refine Av (Ad (ρ1:=[some W,some (.int (p:Int)),some y,some (.int (q:Int)),some r]) (Ai (d:=r) (by simp[Aa,x])) (Am ?_));have v:Bj (.int (n:Int)) (.int (q:Int))=some (.int ((n+q:Nat):Int)):=by rw[mK,s]
 generalize D.int ((n+q:Nat):Int)=Q at *;generalize D.int ((n+m:Nat):Int)=E at *;simp[j,i,h,v,o]
theorem jz1(n:Nat)(ts:Bs):Eg [Ah n ts]=.ok (.bl (decide (6<n) ||decide (9<ts.length))):=by
 have i:ixD (Ah n ts) (.int 0)=some (.int (n:Int)):=Bp;have o:=Gd n ts;have r:Eh [.tup (ts.map Aj)]=some (.int (ts.length:Int)):=by show some (D.int _)=_;rw[HN]
 generalize Ah n ts=W,ts.map Aj=T at *;refine Av (Am ?_);show vo (b2 (b2 (gv 0) (kd (.int 0)) ixD) (kd (.int 6)) gtD) (b2 (bA (zv (b2 (gv 0) (kd (.int 1)) ixD) a0) Eh) (kd (.int 9)) gtD) [some W]=_;by_cases h:6<n
 ·have j:6<(n:Int):=by lia
  simp[i,h,j]
 ·have j:¬ 6<(n:Int):=by lia
  have s:(9<(ts.length:Int))↔9<ts.length:=by lia
  simp[i,o,r,h,j,s]
open PD L2 Gr PySem.W
abbrev Wb:=Nat×Bs
abbrev Std:=List (Nat×Wb)
def nmc:Nat->List Nat
 |0=>[97] |1=>[97,98] |2=>[97,98,99] |3=>[98] |4=>[119,101,98] |5=>[100,114,97,119,110,97,97,98] |_=>[]
abbrev nm(i:Nat):PySem.Str:=tx (nmc i)
def sH:∀i<6,∀j<6,nm i=nm j->i=j:=by decide +kernel
def wD(w:Wb):D:=Ah w.1 w.2
def ksD(L:Std):List D:=L.map λx=>.str (nm x.1)
def wsD(L:Std):List D:=L.map λx=>wD x.2
def lk:Std->Nat->Option Wb
 | [],_=>none
 | (j,w)::r,i=>if j=i then some w else lk r i
def pt:Std->Nat->Wb->Std
 | [],i,w=>[(i,w)]
 | (j,u)::r,i,w=>if j=i then(j,w)::r else(j,u)::pt r i w
structure Dv(L:Std):Prop where
 ky:∀x∈L,x.1<6
 wb:∀x∈L,G3 x.2.1 x.2.2 6 9
 nd:(L.map (·.1)).Nodup
theorem sI{i:Type}[DecidableEq i]:∀{l m:List i},l.Nodup->(∀x∈l,x∈m)->l.length<=m.length
 | [],m,_,_=>WQ _
 |a::l,m,h,o=>by have⟨u,s⟩:=VB.mp h;have r:=o a MF;have:=sI (l:=l) (m:=m.erase a) s λx j=>(List.mem_erase_of_ne (λ(z:x=a)=>u (z ▸ j))).mpr (o x (KQ _ j));rw[List.length_erase_of_mem r]at this;have v:0<m.length:=List.length_pos_of_mem r;rw[L_];lia
def Dv.len{L:Std}(h:Dv L):L.length<=6:=by
 have o:(L.map (·.1)).length<=(List.range 6).length:=sI h.nd λx j=>by obtain⟨y,i,rfl⟩:=TX.mp j;exact dF.mpr (h.ky y i)
 simpa using o
def sO:∀{L:Std}{i:Nat}{w:Wb},lk L i=some w->(i,w)∈L
 | (j,u)::r,i,w,h=>by
  unfold lk at h;by_cases e:j=i
  ·rw[if_pos e]at h;cases h;rw[e];exact MF
  ·rw[if_neg e]at h;exact KQ _ (sO h)
def Ej{L:Std}(h:Dv L){i:Nat}{w:Wb}(e:lk L i=some w):G3 w.1 w.2 6 9:=h.wb _ (sO e)
def Kc:∀{L:Std}{i:Nat},(∀x∈L,x.1<6)->i<6->Bv (ksD L) (wsD L) (.inr (nm i))=(lk L i).map wD
 | [],_,_,_=>rfl
 | (j,u)::r,i,h,o=>by
  show(if kyO (.str (nm j))=some (.inr (nm i)) then some (wD u) else Bv (ksD r) (wsD r) (.inr (nm i)))=_;unfold lk;by_cases e:j=i
  ·subst e;rw[if_pos (show kyO (.str (nm j))=some (.inr (nm j)) from rfl),if_pos rfl];rfl
  ·have:¬ kyO (.str (nm j))=some (.inr (nm i)):=λz=>e (sH j (h _ MF) i o (by injection (Option.some.inj z)));rw[if_neg this,if_neg e];exact Kc (λx s=>h x (KQ _ s)) o
def Za:∀{L:Std}{i:Nat}(w:Wb),(∀x∈L,x.1<6)->i<6->Cu (ksD L) (wsD L) (.inr (nm i)) (wD w)=(ksD (pt L i w),wsD (pt L i w))
 | [],_,_,_,_=>rfl
 | (j,u)::r,i,w,h,o=>by
  show Cu (.str (nm j)::ksD r) (wD u::wsD r) (.inr (nm i)) (wD w)=_;unfold Cu pt;by_cases e:j=i
  ·subst e;rw[if_pos (show kyO (.str (nm j))=some (.inr (nm j)) from rfl),if_pos rfl];rfl
  ·have:¬ kyO (.str (nm j))=some (.inr (nm i)):=λz=>e (sH j (h _ MF) i o (by injection (Option.some.inj z)));rw[if_neg this,if_neg e,Za w (λx s=>h x (KQ _ s)) o];rfl
def gP:∀{L:Std}{i:Nat}{w:Wb}{x:Nat×Wb},x∈pt L i w->x∈L\/x=(i,w)
 | [],_,_,x,h=>.inr (NT.mp h)
 | (j,u)::r,i,w,x,h=>by
  unfold pt at h;by_cases e:j=i
  ·rw[if_pos e]at h;rcases I_.mp h with z |z
   ·exact .inr (by rw[z,e])
   ·exact .inl (KQ _ z)
  ·rw[if_neg e]at h;rcases I_.mp h with z |z
   ·exact .inl (by rw[z];exact MF)
   ·exact(gP z).imp (KQ _) id
def ky3:∀{L:Std}{i:Nat}{w:Wb}{k:Nat},k∈(pt L i w).map (·.1)->k∈L.map (·.1)\/k=i:=λ{L i w k} h=>by
 obtain⟨x,j,rfl⟩:=TX.mp h;rcases gP j with z |z
 ·exact .inl (xP z)
 ·exact .inr (by rw[z])
def p8:∀{L:Std}{i:Nat}{w:Wb},(L.map (·.1)).Nodup->((pt L i w).map (·.1)).Nodup
 | [],_,_,_=>by simp[pt]
 | (j,u)::r,i,w,h=>by
  have o:=VB.mp h;unfold pt;by_cases e:j=i
  ·rw[if_pos e];exact h
  ·rw[if_neg e];refine VB.mpr ⟨λz=>?_,p8 o.2⟩;rcases ky3 z with z |z
   ·exact o.1 z
   ·exact e z
def Dv.pt{L:Std}(h:Dv L){i:Nat}{w:Wb}(r:i<6)(o:G3 w.1 w.2 6 9):Dv (pt L i w):=by
 refine⟨λx j=>?_,λx j=>?_,p8 h.nd⟩
 ·rcases gP j with z |z
  ·exact h.ky x z
  ·rw[z];exact r
 ·rcases gP j with z |z
  ·exact h.wb x z
  ·rw[z];exact o
def qI:∀{L:Std}{i:Nat}{w:Wb},lk (pt L i w) i=some w
 | [],i,w=>by simp[Law.pt,lk]
 | (j,u)::r,i,w=>by
  unfold Law.pt;by_cases e:j=i
  ·rw[if_pos e];unfold lk;rw[if_pos e]
  ·rw[if_neg e];unfold lk;rw[if_neg e];exact qI
def sU(L:Std):(ksD L).length=L.length:=HN ..
inductive Hnd where
 |new (i:Nat) |nam (i:Nat) |num (z:Int) |txt (l:List Nat)
def kvD:Hnd->D
 | .new i=>.tup [.str "new",.str (nm i)]
 | .nam i=>.tup [.str "name",.str (nm i)]
 | .num z=>.tup [.str "number",.int z]
 | .txt l=>.tup [.str "text",.str (tx l)]
def knd:Hnd->D
 | .new _=>.str "new"
 | .nam _=>.str "name"
 | .num _=>.str "number"
 | .txt _=>.str "text"
def raw:Hnd->D
 | .new i=>.str (nm i)
 | .nam i=>.str (nm i)
 | .num z=>.int z
 | .txt l=>.str (tx l)
def j6(h:Hnd):kvD h=.tup [knd h,raw h]:=by cases h<;>rfl
def fnd(L:Std):Hnd->Bool
 | .nam i=>(lk L i).isSome
 |_=>true
def vlD(L:Std):Hnd->D
 | .nam i=>((lk L i).map wD).getD .non
 |h=>raw h
def hOk:Hnd->Bool
 | .new i=>decide (i<6)
 | .nam i=>decide (i<6)
 |_=>true
abbrev dkL(c:PySem.Str)(L:Std):D:=.exc c (ksD L) (wsD L)
def noN:D:=.exc "NoName" [] []
def jm7:∀i<6,M9 [.str (nm i)]=.ok (.bl true):=λi h=>by
 match i,h with
 |0,_=>kernel_rfl
 |1,_=>kernel_rfl
 |2,_=>kernel_rfl
 |3,_=>kernel_rfl
 |4,_=>kernel_rfl
 |5,_=>kernel_rfl
variable {h:Hnd}
theorem ya0{c:PySem.Str}(C:dkN c=true){L:Std}(u:∀x∈L,x.1<6)(s:hOk h=true):Bb [dkL c L,knd h,raw h]=if fnd L h=true then .ok .non else .exc noN:=by
 have y:=Hu C (ksD L) (wsD L);cases h with
 |new i =>
  have e:=jm7 i (of_decide_eq_true s);show Bb [dkL c L,.str "new",.str (nm i)]=.ok .non;have o:tan (tb (b2 (gv 1) (kd (.str "new")) eqD)) (nt (tt (cl (zv (gv 2) a0) M9))) [some (dkL c L),some (.str "new"),some (.str (nm i))]=.ok false:=by rw[Va,show tb (b2 (gv 1) (kd (.str "new")) eqD) [some (dkL c L),some (.str "new"),some (.str (nm i))]=.ok true from by kernel_rfl,R.ok_bind,if_pos rfl];generalize D.str (nm i)=A at *;simp[e,eG]
  have j:tan (tb (b2 (gv 1) (kd (.str "name")) eqD)) (tb (b2 (gv 2) (gv 0) bZ)) [some (dkL c L),some (.str "new"),some (.str (nm i))]=.ok false:=by rw[Va,show tb (b2 (gv 1) (kd (.str "name")) eqD) [some (dkL c L),some (.str "new"),some (.str (nm i))]=.ok false from by kernel_rfl,R.ok_bind];rfl
  show Be 3 Cz _=_;rw[G8,show Cz (Aa 3 [dkL c L,.str "new",.str (nm i)])=.ok (.nx (Aa 3 [dkL c L,.str "new",.str (nm i)])) from Ad ((Bm o).trans rfl) ((Bm j).trans rfl),Rm]
 |nam i =>
  have v:i<6:=of_decide_eq_true s;have E:=Kc u v;have o:tan (tb (b2 (gv 1) (kd (.str "new")) eqD)) (nt (tt (cl (zv (gv 2) a0) M9))) [some (dkL c L),some (.str "name"),some (.str (nm i))]=.ok false:=by rw[Va,show tb (b2 (gv 1) (kd (.str "new")) eqD) [some (dkL c L),some (.str "name"),some (.str (nm i))]=.ok false from by kernel_rfl,R.ok_bind];rfl
  have nw:bZ (.str (nm i)) (dkL c L)=some (.bl (!(lk L i).isSome)):=by show((kyO (.str (nm i))).bind λk=>(Jt (dkL c L)).map λp=>D.bl (!(Bv p.1 p.2 k).isSome))=_;rw[y];show some (D.bl (!(Bv (ksD L) (wsD L) (.inr (nm i))).isSome))=_;rw[E,dO]
  have j:tan (tb (b2 (gv 1) (kd (.str "name")) eqD)) (tb (b2 (gv 2) (gv 0) bZ)) [some (dkL c L),some (.str "name"),some (.str (nm i))]=.ok (!(lk L i).isSome):=by rw[Va,show tb (b2 (gv 1) (kd (.str "name")) eqD) [some (dkL c L),some (.str "name"),some (.str (nm i))]=.ok true from by kernel_rfl,R.ok_bind,if_pos rfl];generalize D.str (nm i)=A,dkL c L=B at *;simp[nw]
  show Be 3 Cz [dkL c L,.str "name",.str (nm i)]=if(lk L i).isSome=true then _ else _
  cases r:(lk L i).isSome with
  |true=>rw[r]at j;rw[if_pos rfl,G8,show Cz (Aa 3 [dkL c L,.str "name",.str (nm i)])=.ok (.nx (Aa 3 [dkL c L,.str "name",.str (nm i)])) from Ad ((Bm o).trans rfl) ((Bm j).trans rfl),Rm]
  |false=>rw[r]at j;rw[if_neg (by decide),G8,show Cz (Aa 3 [dkL c L,.str "name",.str (nm i)])=.exc noN from Ad ((Bm o).trans rfl) ((Fe j).trans rfl)];rfl
 |num z=>exact(show Bb [dkL c L,.str "number",.int z]=.ok .non by kernel_rfl)
 |txt l=>exact(show Bb [dkL c L,.str "text",.str (tx l)]=.ok .non by kernel_rfl)
variable {s u:Ev->R Fl}
def jC{d:D}(h:s ρ=.exc d):sq s u ρ=.exc d:=by rw[b_,h];rfl
def jD(h:s ρ=.bad):sq s u ρ=.bad:=by rw[b_,h];rfl
variable {ds:List D}
def qW{g:Ev->R Fl}{d:D}(h:g (Aa n ds)=.exc d):Be n g ds=.exc d:=by rw[G8,h];rfl
def kW{g:Ev->R Fl}(h:g (Aa n ds)=.bad):Be n g ds=.bad:=by rw[G8,h];rfl
def lnD(w0:List Nat)(hs:List Hnd):D:=.tup [.str (tx w0),.lst (hs.map kvD)]
variable {hs:List Hnd}{row w0:List Nat}{L:Std}
variable {o4 o7 o5 o6:Option D}
section
variable {c:PySem.Str}
theorem rR(j:dkN c=true):mtA (gv 0) (zv (gv 5) (zv (gv 6) a0)) [some (dkL c L),o1,o2,o3,o4,some (knd h),some (raw h),o7]=.ok [dkL c L,knd h,raw h]:=by have i:Jt (dkL c L)=some (ksD L,wsD L):=Hu j (ksD L) (wsD L);generalize dkL c L=d at *;simp[mtA,i]
def wn9:gT [5,6] (kvD h) [o0,o1,o2,o3,o4,o5,o6,o7]=.ok [o0,o1,o2,o3,o4,some (knd h),some (raw h),o7]:=by rw[j6];rfl
def Q6(i:dkN c=true)(y:∀x∈L,x.1<6):∀(hs:List Hnd)(o1 o2 o3 o4 o5 o6 o7:Option D),(∀h∈hs,hOk h=true) ->
  (hs.all (fnd L)=true->∃o j,Bu (hs.map kvD) (gT [5,6]) (drp (clX (mtA (gv 0) (zv (gv 5) (zv (gv 6) a0))) Bb)) [some (dkL c L),o1,o2,o3,o4,o5,o6,o7]=.ok (.nx [some (dkL c L),o1,o2,o3,o4,o,j,o7])
   /\ Bu (hs.map kvD) (gT [5,6]) (drp (cl (mtA (gv 0) (zv (gv 5) (zv (gv 6) a0))) Bb)) [some (dkL c L),o1,o2,o3,o4,o5,o6,o7]=.ok (.nx [some (dkL c L),o1,o2,o3,o4,o,j,o7]))
  /\ (hs.all (fnd L)=false->Bu (hs.map kvD) (gT [5,6]) (drp (clX (mtA (gv 0) (zv (gv 5) (zv (gv 6) a0))) Bb)) [some (dkL c L),o1,o2,o3,o4,o5,o6,o7]=.exc noN)
 | [],o1,o2,o3,o4,o5,o6,o7,_=>⟨λ_=>⟨o5,o6,rfl,rfl⟩,λh=>by cases h⟩
 |h::hs,o1,o2,o3,o4,o5,o6,o7,v=>by
  have A:=Q6 i y hs o1 o2 o3 o4 (some (knd h)) (some (raw h)) o7 λx B=>v x (KQ _ B);have r:=ya0 i y (v h MF);have b1:drp (clX (mtA (gv 0) (zv (gv 5) (zv (gv 6) a0))) Bb) [some (dkL c L),o1,o2,o3,o4,some (knd h),some (raw h),o7]=if fnd L h=true then .ok (.nx [some (dkL c L),o1,o2,o3,o4,some (knd h),some (raw h),o7]) else .exc noN:=by rw[gF];show R.bind ((mtA _ _ _).bind Bb) _=_;rw[rR i,R.ok_bind,r];cases fnd L h<;>rfl
  rw[KH,Bu,Bu,wn9,R.ok_bind,R.ok_bind,YD];rw[b1];cases C:fnd L h with
  |false=>refine⟨λz=>(by cases z),λ_=>rfl⟩
  |true =>
   have b2:drp (cl (mtA (gv 0) (zv (gv 5) (zv (gv 6) a0))) Bb) [some (dkL c L),o1,o2,o3,o4,some (knd h),some (raw h),o7]=.ok (.nx [some (dkL c L),o1,o2,o3,o4,some (knd h),some (raw h),o7]):=by rw[C,if_pos rfl]at r;rw[gF,ZJ,rR i,R.ok_bind,r];rfl
   rw[b2,if_pos rfl];exact A
theorem m6(y:dkN c=true)(v:∀x∈L,x.1<6)(o:∀h∈hs,hOk h=true)(j:hs.all (fnd L)=true)(B:hs.length<=100):
  Dc (itS (gv 4)) 2 [0] (gT [0,1]) yes (ife (tb (b2 (gv 0) (kd (.str "name")) eqD)) (jK (gv 2) (gv 1)) (gv 1)) [some (dkL c L),o1,o2,o3,some (.lst (hs.map kvD)),o5,o6,o7]=.ok (.lst (hs.map (vlD L))):=by
 refine Fj (ds:=hs.map kvD) (by simp[Lx]) ?_ (by rw[HN];omega);refine G4 hs λh r=>⟨[some (knd h),some (raw h),some (dkL c L)],by rw[j6];rfl,?_⟩;have o:=o h r;have j:=SN.mp j h r;cases h with
 |new i=>rw[cW,show tb (b2 (gv 0) (kd (.str "name")) eqD) [some (knd (.new i)),some (raw (.new i)),some (dkL c L)]=.ok false from by kernel_rfl];rfl
 |num z=>rw[cW,show tb (b2 (gv 0) (kd (.str "name")) eqD) [some (knd (.num z)),some (raw (.num z)),some (dkL c L)]=.ok false from by kernel_rfl];rfl
 |txt l=>rw[cW,show tb (b2 (gv 0) (kd (.str "name")) eqD) [some (knd (.txt l)),some (raw (.txt l)),some (dkL c L)]=.ok false from by kernel_rfl];rfl
 |nam i =>
  rw[cW,show tb (b2 (gv 0) (kd (.str "name")) eqD) [some (knd (.nam i)),some (raw (.nam i)),some (dkL c L)]=.ok true from by kernel_rfl,R.ok_bind,if_pos rfl];have A:=Kc v (of_decide_eq_true o);show(R.of (Jt (dkL c L))).bind (λp=>R.of ((kyO (.str (nm i))).bind (Bv p.1 p.2)))=_;rw[Hu y,R.of_some,R.ok_bind];show R.of (Bv (ksD L) (wsD L) (.inr (nm i)))=.ok (((lk L i).map wD).getD .non);rw[A];have j:(lk L i).isSome=true:=j;cases e:lk L i with
  |none=>rw[e]at j;cases j
  |some w=>rfl
theorem wo3(A:dkN c=true)(y:∀x∈L,x.1<6)(v:Aq [.str (tx row)]=.ok (lnD w0 hs))(r:∀h∈hs,hOk h=true)(z:hs.all (fnd L)=false):J9 [dkL c L,.str (tx row)]=.exc noN:=by have B:clX (zv (gv 1) a0) Aq [some (dkL c L),some (.str (tx row)),none,none,none,none,none,none]=.ok (lnD w0 hs):=v;have o:ixD (lnD w0 hs) (.int 0)=some (.str (tx w0)):=Bp;have j:ixD (lnD w0 hs) (.int 1)=some (.lst (hs.map kvD)):=Ds;have i:=(Q6 A y hs (some (.str (tx row))) (some (lnD w0 hs)) (some (.str (tx w0))) (some (.lst (hs.map kvD))) none none none r).2 z;generalize lnD w0 hs=E,D.str (tx w0)=C at *;refine qW (Ad ((Ai B).trans rfl) (Ad (Ai (d:=C) (by simp[o])) (Ad (Ai (d:=.lst (hs.map kvD)) (by simp[j])) (jC ?_))));exact Jb (ds:=hs.map kvD) (by simp[Lx]) i
theorem nD(M:dkN c=true)(J:∀x∈L,x.1<6)(hl:Aq [.str (tx row)]=.ok (lnD w0 (.new i::hs)))(I:∀h∈Hnd.new i::hs,hOk h=true)(K:hs.all (fnd L)=true)(hz:hs.length<=50):
  J9 [dkL c L,.str (tx row)]=match Ay [.str (tx w0),.lst (hs.map (vlD L))] with
   | .exc e=>.exc e
   |_=>.bad:=by
 have e1:clX (zv (gv 1) a0) Aq [some (dkL c L),some (.str (tx row)),none,none,none,none,none,none]=.ok (lnD w0 (.new i::hs)):=hl;have Y:ixD (lnD w0 (.new i::hs)) (.int 0)=some (.str (tx w0)):=Bp;have X:ixD (lnD w0 (.new i::hs)) (.int 1)=some (.lst ((Hnd.new i::hs).map kvD)):=Ds;have⟨o,j,T,_⟩:=(Q6 M J (.new i::hs) (some (.str (tx row))) (some (lnD w0 (.new i::hs))) (some (.str (tx w0))) (some (.lst ((Hnd.new i::hs).map kvD))) none none none I).1 K;have O:=m6 (c:=c) (L:=L) M J I K (by simp;omega) (o1:=some (.str (tx row))) (o2:=some (lnD w0 (.new i::hs))) (o3:=some (.str (tx w0))) (o5:=o) (o6:=j) (o7:=none);have P:tb (b2 (b2 (b2 (gv 4) (kd (.int 0)) ixD) (kd (.int 0)) ixD) (kd (.str "new")) eqD) [some (dkL c L),some (.str (tx row)),some (lnD w0 (.new i::hs)),some (.str (tx w0)),some (.lst ((Hnd.new i::hs).map kvD)),o,j,some (.lst ((Hnd.new i::hs).map (vlD L)))]=.ok true:=by
  have G:ixD (.lst ((Hnd.new i::hs).map kvD)) (.int 0)=some (kvD (.new i)):=Ro;have F:ixD (kvD (.new i)) (.int 0)=some (.str "new"):=Bp;have E:eqD (.str "new") (.str "new")=some (.bl true):=by kernel_rfl
  generalize (Hnd.new i::hs).map kvD=A at *;generalize kvD (.new i)=B,D.str (PySem.Str.ofString "new")=C at *;simp[G,F,E]
 have Q:slA (.lst ((Hnd.new i::hs).map (vlD L))) (some 1) none=some (.lst (hs.map (vlD L))):=lF _ _;have ar:(zv (gv 3) (zv (bS (gv 7) (p1 (kd (.int 1))) p0 slA) a0)) [some (dkL c L),some (.str (tx row)),some (lnD w0 (.new i::hs)),some (.str (tx w0)),some (.lst ((Hnd.new i::hs).map kvD)),o,j,some (.lst ((Hnd.new i::hs).map (vlD L)))]=.ok [.str (tx w0),.lst (hs.map (vlD L))]:=by generalize (Hnd.new i::hs).map (vlD L)=A at *;generalize D.str (tx w0)=H at *;simp[Q]
 have v:gA (clX (zv (gv 3) (zv (bS (gv 7) (p1 (kd (.int 1))) p0 slA) a0)) Ay) [some (dkL c L),some (.str (tx row)),some (lnD w0 (.new i::hs)),some (.str (tx w0)),some (.lst ((Hnd.new i::hs).map kvD)),o,j,some (.lst ((Hnd.new i::hs).map (vlD L)))]=match Ay [.str (tx w0),.lst (hs.map (vlD L))] with
   | .exc e=>.exc e
   |_=>.bad:=by
  show((zv _ _ _).bind Ay).bind _=_;rw[ar,R.ok_bind];cases Ay [.str (tx w0),.lst (hs.map (vlD L))]<;>rfl
 have pre:∀r:R Fl,(∀d,r≠.ok d)->sq (gA (clX (zv (gv 3) (zv (bS (gv 7) (p1 (kd (.int 1))) p0 slA) a0)) Ay)) (Ew (kd (.str "ok"))) [some (dkL c L),some (.str (tx row)),some (lnD w0 (.new i::hs)),some (.str (tx w0)),some (.lst ((Hnd.new i::hs).map kvD)),o,j,some (.lst ((Hnd.new i::hs).map (vlD L)))]=r->j9 (Aa 8 [dkL c L,.str (tx row)])=r:=by
  intro r Z e;generalize lnD w0 (.new i::hs)=U at *;generalize D.str (tx w0)=H at *;generalize (Hnd.new i::hs).map kvD=A at *;refine Ad ((Ai e1).trans rfl) (Ad (Ai (d:=H) (by simp[Y])) (Ad (Ai (d:=.lst A) (by simp[X])) (Ad (Jb (ds:=A) (by simp[Lx]) T) (Ad ((Ai O).trans rfl) ?_))));have:ifS (tb (b2 (b2 (b2 (gv 4) (kd (.int 0)) ixD) (kd (.int 0)) ixD) (kd (.str "new")) eqD)) (sq (gA (clX (zv (gv 3) (zv (bS (gv 7) (p1 (kd (.int 1))) p0 slA) a0)) Ay)) (Ew (kd (.str "ok")))) nop [some (dkL c L),some (.str (tx row)),some U,some H,some (.lst A),o,j,some (.lst ((Hnd.new i::hs).map (vlD L)))]=r:=(Fe P).trans e;cases r with
  |ok d=>exact absurd rfl (Z d)
  |exc x=>exact jC this
  |bad=>exact jD this
 cases y:Ay [.str (tx w0),.lst (hs.map (vlD L))] with
 |exc x=>rw[y]at v;exact qW (pre _ (λd z=>by cases z) (jC v))
 |ok x=>rw[y]at v;exact kW (pre _ (λd z=>by cases z) (jD v))
 |bad=>rw[y]at v;exact kW (pre _ (λd z=>by cases z) (jD v))
end
def Np(w l:List Nat):List Nat:=[119,101,98,32]++(w++32::l)
def kp8(i:32∉w):spl 32 (Np w l)=[119,101,98]::w::spl 32 l:=by unfold Np;rw[show [119,101,98,32]++(w++32::l)=[119,101,98]++32::(w++32::l) from rfl,Uq (by decide),Uq i]
def knW:D:=.tup [.str "new",.str "text"]
def qK(w l:List Nat):D:=.tup [.str (tx [119,101,98]),.lst [.tup [.str "new",.str (tx w)],.tup [.str "text",.str (tx l)]]]
def ya4(x y:D)(xs:List D):slA (.lst (x::y::xs)) (some 1) (some 2)=some (.lst [y]):=by show some (D.lst (cutD (x::y::xs) (some 1) (some 2)))=_;unfold cutD;have j:HT.sIx (x::y::xs).length 0 (some 1)=min 1 (x::y::xs).length:=HT.Lb _ _ 1;have i:HT.sIx (x::y::xs).length (x::y::xs).length (some 2)=min 2 (x::y::xs).length:=HT.Lb _ _ 2;rw[j,i,YF (by simp),YF (by simp)];rfl
def yS(x y:D)(xs:List D):slA (.lst (x::y::xs)) (some 2) none=some (.lst xs):=by show some (D.lst (cutD (x::y::xs) (some 2) none))=_;unfold cutD;have j:HT.sIx (x::y::xs).length 0 (some 2)=min 2 (x::y::xs).length:=HT.Lb _ _ 2;have i:HT.sIx (x::y::xs).length (x::y::xs).length none=(x::y::xs).length:=rfl;rw[j,i,YF (by simp)];show some (D.lst (((x::y::xs).drop 2).take _))=_;simp
theorem tR(c:Nat):∀l:List Nat,tot (spl c l)=l.length+1
 | []=>rfl
 |y::l=>by
  have i:=tR c l;rw[spl,L_];split
  ·show 0+1+tot (spl c l)=_;omega
  ·cases hs:spl c l with
   |nil=>exact absurd hs (R5 c l)
   |cons v j=>rw[hs]at i;unfold tot at i ⊢;rw[KH,dB]at i ⊢;rw[L_];omega
theorem wq8(G:l.length<=2000):Hz [.lst (txs ([119,101,98]::w::spl 32 l)),knW]=.ok (.lst [.str (tx w),.str (tx l)]):=by
 have hs:=R5 32 l;have y:(tan (tb (b2 (b2 (gv 1) (b1 (kd (.int 1)) fH) ixD) (kd (.str "text")) eqD)) (tb (b2 (bA (zv (gv 0) a0) Eh) (bA (zv (gv 1) a0) Eh) gtD))) [some (.lst (txs ([119,101,98]::w::spl 32 l))),some knW]=.ok true:=by
  have H:1<=(spl 32 l).length:=by
   cases h:spl 32 l with
   |nil=>exact absurd h hs
   |cons a b=>simp
  have r:tb (b2 (b2 (gv 1) (b1 (kd (.int 1)) fH) ixD) (kd (.str "text")) eqD) [some (.lst (txs ([119,101,98]::w::spl 32 l))),some knW]=.ok true:=by kernel_rfl
  have o:tb (b2 (bA (zv (gv 0) a0) Eh) (bA (zv (gv 1) a0) Eh) gtD) [some (.lst (txs ([119,101,98]::w::spl 32 l))),some knW]=.ok true:=by
   have z:Eh [.lst (txs ([119,101,98]::w::spl 32 l))]=some (.int ((spl 32 l).length+2:Nat)):=by rw[wh4];congr 2;unfold txs;rw[HN];rfl
   have i:Eh [knW]=some (.int 2):=by kernel_rfl
   generalize txs ([119,101,98]::w::spl 32 l)=A at *;generalize knW=B at *;simp[z,i];omega
  rw[Va,r];exact o
 have j:=ya4 (.str (tx [119,101,98])) (.str (tx w)) (txs (spl 32 l));have v:=yS (.str (tx [119,101,98])) (.str (tx w)) (txs (spl 32 l));have x:XQ (kd (.str " ")) (bS (gv 0) (p1 (bA (zv (gv 1) a0) Eh)) p0 slA) [some (.lst (txs ([119,101,98]::w::spl 32 l))),some knW]=.ok (.str (tx l)):=by
  have:=Zf (f1:=kd (.str " ")) (f2:=bS (gv 0) (p1 (bA (zv (gv 1) a0) Eh)) p0 slA) (ρ:=[some (.lst (txs ([119,101,98]::w::spl 32 l))),some knW]) (c:=32) (ws:=spl 32 l) (by rw[Ji,blank]) ?_ (by rw[tR];omega)
  ·rwa [sW]at this
  ·show bS (gv 0) (p1 (bA (zv (gv 1) a0) Eh)) p0 slA [some (.lst (.str (tx [119,101,98])::.str (tx w)::txs (spl 32 l))),some knW]=_;have i:Eh [knW]=some (.int 2):=by kernel_rfl
   generalize (D.str (tx [119,101,98])::.str (tx w)::txs (spl 32 l))=A at *;generalize knW=B,txs (spl 32 l)=C at *;simp[i,v]
 refine Av (Jg ((Fe y).trans (Am ?_)));show b2 (bS (gv 0) (p1 (kd (.int 1))) (p1 (bA (zv (gv 1) a0) Eh)) slA) (bA (zv (XQ (kd (.str " ")) (bS (gv 0) (p1 (bA (zv (gv 1) a0) Eh)) p0 slA)) a0) Q3) Bj [some (.lst (txs ([119,101,98]::w::spl 32 l))),some knW]=_;rw[J3,Rk,Dp,x];have i:Eh [knW]=some (.int 2):=by kernel_rfl
 have F:Bj (.lst [.str (tx w)]) (.lst [.str (tx l)])=some (.lst [.str (tx w),.str (tx l)]):=mJ (by simp);change slA (.lst (txs ([119,101,98]::w::spl 32 l))) (some 1) (some 2)=_ at j;generalize txs ([119,101,98]::w::spl 32 l)=A at *;generalize knW=B,D.str (tx w)=C,D.str (tx l)=E at *;simp[i,j,F,Qk]
theorem kv5(H:32∉w)(J:∀c∈w,c<128)(I:∀c∈l,c<128)(G:w.length<=20)(C:l.length<=2000):Aq [.str (tx (Np w l))]=.ok (qK w l):=by
 have asc:∀c∈Np w l,c<128:=λc j=>by
  unfold Np at j;simp only[ZV,I_,RC,or_false]at j;rcases j with j |j |j |j
  ·omega
  ·exact J c j
  ·omega
  ·exact I c j
 have len:(Np w l).length<=3000:=by unfold Np;simp;omega
 have cnt:∀l:List Nat,(spl 32 l).length<=l.length+1:=λl=>Nh l;have v:XM (gv 0) (kd (.str " ")) [some (.str (tx (Np w l))),none,none,none]=.ok (.lst (txs (spl 32 (Np w l)))):=mC (c:=32) rfl (by rw[Ji,blank]) asc (by decide) (by omega) (by have:=cnt (Np w l);omega);rw[kp8 H]at v;have K:=wq8 (w:=w) (l:=l) C;have o:ixD (.lst (txs ([119,101,98]::w::spl 32 l))) (.int 0)=some (.str (tx [119,101,98])):=S5 (i:=0) rfl;have x:jE FT (.str (tx [119,101,98]))=some (.bl false):=by kernel_rfl
 have z:jL FT (.str (tx [119,101,98]))=some knW:=by kernel_rfl
 have r:∀A:D,Y6 (itZ (zv (gv 2) (zv (gv 3) a0))) 2 [] (gT [0,1]) (bA (zv (gv 0) (zv (clX (zv (gv 0) (zv (gv 1) a0)) Dz) a0)) Dk) [some (.str (tx (Np w l))),some A,some knW,some (.lst [.str (tx w),.str (tx l)])]=.ok (.lst [.tup [.str "new",.str (tx w)],.tup [.str "text",.str (tx l)]]):=λA=>by kernel_rfl
 have y:tb (b2 (bA (zv (gv 3) a0) Eh) (bA (zv (gv 2) a0) Eh) neD) [some (.str (tx (Np w l))),some (.lst (txs ([119,101,98]::w::spl 32 l))),some knW,some (.lst [.str (tx w),.str (tx l)])]=.ok false:=by kernel_rfl
 have r:=r (.lst (txs ([119,101,98]::w::spl 32 l)));generalize txs ([119,101,98]::w::spl 32 l)=A at *;refine Av (Ad ((Ai v).trans rfl) (Ad ((Bm ?_).trans rfl) (Ad (ρ1:=[some (.str (tx (Np w l))),some (.lst A),some knW,none]) (Ai (d:=knW) ?_) (Ad (ρ1:=[some (.str (tx (Np w l))),some (.lst A),some knW,some (.lst [.str (tx w),.str (tx l)])]) (Ai (d:=.lst [.str (tx w),.str (tx l)]) ?_) (Ad ((Bm y).trans rfl) (Am ?_))))))
 ·generalize D.str (tx (Np w l))=E,D.str (tx [119,101,98])=F at *;simp[o,x,Aa]
 ·generalize D.str (tx (Np w l))=E,D.str (tx [119,101,98])=F,knW=B at *;simp[o,z,Aa]
 ·generalize knW=B at *;simp[K]
 ·rw[Rk,Dp,Dp,r];unfold qK;generalize D.lst [D.tup [D.str (PySem.Str.ofString "new"),D.str (tx w)],D.tup [D.str (PySem.Str.ofString "text"),D.str (tx l)]]=E,D.str (tx [119,101,98])=F at *;simp[o,Ep]
def Wh{u:Ev->R D}{ρ1:Ev}{r:R D}(h:s ρ=.ok (.nx ρ1))(i:u ρ1=r):sqT s u ρ=r:=by unfold sqT;rw[h];exact i
def wd:Hnd->List Nat
 | .new i=>nmc i
 | .nam i=>nmc i
 | .num z=>[48+z.toNat]
 | .txt l=>l
def WM:Hnd->Bool
 | .new i=>decide (i<6)
 | .nam i=>decide (i<6)
 | .num z=>decide (0<=z/\z<10)
 | .txt _=>false
def Zx:∀i<6,(∀c∈nmc i,c<128)/\32∉nmc i/\(nmc i).length<=8:=by decide +kernel
theorem fX(j:WM h=true):(∀c∈wd h,c<128)/\32∉wd h/\(wd h).length<=8:=by
 cases h with
 |new i=>exact Zx i (of_decide_eq_true j)
 |nam i=>exact Zx i (of_decide_eq_true j)
 |num z =>
  have:=of_decide_eq_true j;refine⟨λc o=>?_,λo=>?_,by simp[wd]⟩
  ·rw[NT.mp o];omega
  ·have:=NT.mp o;omega
 |txt l=>cases j
def wq7:∀t<10,Dz [.str "number",.str (tx [48+t])]=.ok (.int (t:Int)):=λt i=>by
 match t,i with
 |0,_=>kernel_rfl
 |1,_=>kernel_rfl
 |2,_=>kernel_rfl
 |3,_=>kernel_rfl
 |4,_=>kernel_rfl
 |5,_=>kernel_rfl
 |6,_=>kernel_rfl
 |7,_=>kernel_rfl
 |8,_=>kernel_rfl
 |9,_=>kernel_rfl
theorem yc4(j:WM h=true):Dz [knd h,.str (tx (wd h))]=.ok (raw h):=by
 cases h with
 |new i=>exact(show Dz [.str "new",.str (tx (nmc i))]=.ok (.str (tx (nmc i))) by kernel_rfl)
 |nam i=>exact(show Dz [.str "name",.str (tx (nmc i))]=.ok (.str (tx (nmc i))) by kernel_rfl)
 |num z=>have o:=of_decide_eq_true j;have:=wq7 z.toNat (by omega);rw[show((z.toNat:Nat):Int)=z by omega]at this;exact this
 |txt l=>cases j
theorem rF:∀(hs:List Hnd),(∀h∈hs,WM h=true)->(jn 32 (hs.map wd)).length<=9 * hs.length
 | [],_=>by simp[jn]
 | [h],i=>by have:=(fX (i h MF)).2.2;simp[jn];omega
 |h::r::hs,i=>by have:=(fX (i h MF)).2.2;have j:=rF (r::hs) λx o=>i x (KQ _ o);simp only[KH,jn,PQ,L_]at j ⊢;omega
theorem Q0{h1:Hnd}(o:(∀c∈w0,c<128)/\32∉w0/\w0.length<=20)(r:∀h∈h1::hs,WM h=true)(O:hs.length<=8)(C:jE FT (.str (tx w0))=some (.bl false))(k0:jL FT (.str (tx w0))=some (.tup ((h1::hs).map knd)))
  (M:Hz [.lst (txs (w0::(h1::hs).map wd)),.tup ((h1::hs).map knd)]=.ok (.lst (txs ((h1::hs).map wd))))(H:∀E A,itZ (zv (gv 2) (zv (gv 3) a0)) [E,A,some (.tup ((h1::hs).map knd)),some (.lst (txs ((h1::hs).map wd)))]=.ok ((h1::hs).map λh=>.tup [knd h,.str (tx (wd h))]))
  (G:∀E A,tb (b2 (bA (zv (gv 3) a0) Eh) (bA (zv (gv 2) a0) Eh) neD) [E,A,some (.tup ((h1::hs).map knd)),some (.lst (txs ((h1::hs).map wd)))]=.ok false):
  Aq [.str (tx (jn 32 (w0::(h1::hs).map wd)))]=.ok (lnD w0 (h1::hs)):=by
 have wall:∀w∈w0::(h1::hs).map wd,(∀c∈w,c<128)/\32∉w:=λw j=>by
  rcases I_.mp j with rfl |j
  ·exact⟨o.1,o.2.1⟩
  ·obtain⟨h,v,rfl⟩:=TX.mp j;exact⟨(fX (r h v)).1,(fX (r h v)).2.1⟩
 have y:spl 32 (jn 32 (w0::(h1::hs).map wd))=w0::(h1::hs).map wd:=lE (by simp) λw j=>(wall w j).2;have asc:∀c∈jn 32 (w0::(h1::hs).map wd),c<128:=λc I=>by
  rcases sX I with rfl | ⟨w,o,j⟩
  ·decide
  ·exact(wall w o).1 c j
 have len:(jn 32 (w0::(h1::hs).map wd)).length<=200:=by have:=rF (h1::hs) r;simp only[KH,jn,PQ,L_]at this ⊢;have:=o.2.2;omega
 generalize P:jn 32 (w0::(h1::hs).map wd)=row at *;have z:XM (gv 0) (kd (.str " ")) [some (.str (tx row)),none,none,none]=.ok (.lst (txs (spl 32 row))):=mC (c:=32) rfl (by rw[Ji,blank]) asc (by decide) (by omega) (by have:=Nh (c:=32) row;omega);rw[y]at z;have x:ixD (.lst (txs (w0::(h1::hs).map wd))) (.int 0)=some (.str (tx w0)):=S5 (i:=0) rfl;have J:∀E A,Y6 (itZ (zv (gv 2) (zv (gv 3) a0))) 2 [] (gT [0,1]) (bA (zv (gv 0) (zv (clX (zv (gv 0) (zv (gv 1) a0)) Dz) a0)) Dk) [E,A,some (.tup ((h1::hs).map knd)),some (.lst (txs ((h1::hs).map wd)))]=.ok (.lst ((h1::hs).map kvD)):=λE A=>by
  unfold Y6;rw[H,R.ok_bind,if_pos (by simp;omega),G4 (enc:=λh=>.tup [knd h,.str (tx (wd h))]) (out:=kvD) (h1::hs) λh v=>⟨[some (knd h),some (.str (tx (wd h)))],rfl,?_⟩]
  ·rfl
  ·have e:clX (zv (gv 0) (zv (gv 1) a0)) Dz [some (knd h),some (.str (tx (wd h)))]=.ok (raw h):=yc4 (r h v);rw[Rk,Dp,Dp,e,j6];rfl
 generalize txs (w0::(h1::hs).map wd)=A at *;generalize txs ((h1::hs).map wd)=B at *;generalize D.tup ((h1::hs).map knd)=K at *;refine Av (Ad ((Ai z).trans rfl) (Ad ((Bm ?_).trans rfl) (Ad (ρ1:=[some (.str (tx row)),some (.lst A),some K,none]) (Ai (d:=K) ?_) (Ad (ρ1:=[some (.str (tx row)),some (.lst A),some K,some (.lst B)]) (Ai (d:=.lst B) ?_) (Ad ((Bm (G _ _)).trans rfl) (Am ?_))))))
 ·generalize D.str (tx row)=E,D.str (tx w0)=F at *;simp[x,C,Aa]
 ·generalize D.str (tx row)=E,D.str (tx w0)=F at *;simp[x,k0,Aa]
 ·simp[M]
 ·rw[Rk,Dp,Dp,J];unfold lnD;generalize D.lst ((h1::hs).map kvD)=E at *;generalize D.str (tx w0)=F at *;simp[x,Ep]
def W_:List Nat:=[119,105,116,104,111,117,116]
def XC:List Nat:=[100,114,97,119,110]
def XD:List Nat:=[98,101,115,105,100,101]
def RV:List Nat:=[106,111,105,110,101,100]
def QH:List Nat:=[115,104,111,119]
variable {j:Nat}
def kv8{i:Nat}{t:Int}(r:i<6)(o:j<6)(ht:0<=t/\t<10):Aq [.str (tx (jn 32 [W_,nmc i,nmc j,[48+t.toNat]]))]=.ok (lnD W_ [.new i,.nam j,.num t]):=
 Q0 (w0:=W_) (h1:=.new i) (hs:=[.nam j,.num t]) (by decide) (by simp[WM,r,o,ht]) (by simp) (by kernel_rfl) (by kernel_rfl) (by kernel_rfl) (λ_ _=>by kernel_rfl) (λ_ _=>by kernel_rfl)
def kv4{i:Nat}{t:Int}(r:i<6)(o:j<6)(ht:0<=t/\t<10):Aq [.str (tx (jn 32 [XC,nmc i,nmc j,[48+t.toNat]]))]=.ok (lnD XC [.new i,.nam j,.num t]):=
 Q0 (w0:=XC) (h1:=.new i) (hs:=[.nam j,.num t]) (by decide) (by simp[WM,r,o,ht]) (by simp) (by kernel_rfl) (by kernel_rfl) (by kernel_rfl) (λ_ _=>by kernel_rfl) (λ_ _=>by kernel_rfl)
def kv3{i k:Nat}(v:i<6)(r:j<6)(o:k<6):Aq [.str (tx (jn 32 [XD,nmc i,nmc j,nmc k]))]=.ok (lnD XD [.new i,.nam j,.nam k]):=
 Q0 (w0:=XD) (h1:=.new i) (hs:=[.nam j,.nam k]) (by decide) (by simp[WM,v,r,o]) (by simp) (by kernel_rfl) (by kernel_rfl) (by kernel_rfl) (λ_ _=>by kernel_rfl) (λ_ _=>by kernel_rfl)
def kv6{i k:Nat}{p q:Int}(y:i<6)(x:j<6)(v:k<6)(r:0<=p/\p<10)(o:0<=q/\q<10):Aq [.str (tx (jn 32 [RV,nmc i,nmc j,[48+p.toNat],nmc k,[48+q.toNat]]))]=.ok (lnD RV [.new i,.nam j,.num p,.nam k,.num q]):=
 Q0 (w0:=RV) (h1:=.new i) (hs:=[.nam j,.num p,.nam k,.num q]) (by decide) (by simp[WM,y,x,v,r,o]) (by simp) (by kernel_rfl) (by kernel_rfl) (by kernel_rfl) (λ_ _=>by kernel_rfl) (λ_ _=>by kernel_rfl)
def kv7{i:Nat}(o:i<6):Aq [.str (tx (jn 32 [QH,nmc i]))]=.ok (lnD QH [.nam i]):=
 Q0 (w0:=QH) (h1:=.nam i) (hs:=[]) (by decide) (by simp[WM,o]) (by simp) (by kernel_rfl) (by kernel_rfl) (by kernel_rfl) (λ_ _=>by kernel_rfl) (λ_ _=>by kernel_rfl)
theorem ki1{i:Nat}(o:i<6)(h:Sm n ts):Aq [.str (tx (jn 32 [[119,101,98],nmc i,gd n ts]))]=.ok (lnD [119,101,98] [.new i,.txt (gd n ts)]):=by have⟨v,r,x⟩:=Zx i o;have⟨s,u⟩:=Ox h;exact kv5 (w:=nmc i) (l:=gd n ts) r v s (by omega) (by omega)
variable {i:Nat}
variable {r:D}
section
variable {c:PySem.Str}
theorem km7(z:dkN c=true)(Z:c ≠ "Desk")(x:Dv L)(hl:Aq [.str (tx row)]=.ok (lnD w0 (.new i::hs)))(y:∀h∈Hnd.new i::hs,hOk h=true)(I:hs.all (fnd L)=true)(hz:hs.length<=50){w:Wb}
  (hm:Ay [.str (tx w0),.lst (hs.map (vlD L))]=.ok (wD w)):Gj [dkL c L,.str (tx row)]=.ok (dkL c (pt L i w)):=by
 have hi:i<6:=of_decide_eq_true (y (.new i) MF);have e1:cl (zv (gv 1) a0) Aq [some (dkL c L),some (.str (tx row)),none,none,none,none,none,none]=.ok (lnD w0 (.new i::hs)):=by rw[ZJ,show zv (gv 1) a0 [some (dkL c L),some (.str (tx row)),none,none,none,none,none,none]=.ok [.str (tx row)] from rfl,R.ok_bind,hl];rfl
 have Y:ixD (lnD w0 (.new i::hs)) (.int 0)=some (.str (tx w0)):=Bp;have X:ixD (lnD w0 (.new i::hs)) (.int 1)=some (.lst ((Hnd.new i::hs).map kvD)):=Ds;have⟨v,o,_,Q⟩:=(Q6 z x.ky (.new i::hs) (some (.str (tx row))) (some (lnD w0 (.new i::hs))) (some (.str (tx w0))) (some (.lst ((Hnd.new i::hs).map kvD))) none none none y).1 I;have K:=m6 (c:=c) (L:=L) z x.ky y I (by simp;omega) (o1:=some (.str (tx row))) (o2:=some (lnD w0 (.new i::hs))) (o3:=some (.str (tx w0))) (o5:=v) (o6:=o) (o7:=none);have M:tb (b2 (b2 (b2 (gv 4) (kd (.int 0)) ixD) (kd (.int 0)) ixD) (kd (.str "new")) eqD) [some (dkL c L),some (.str (tx row)),some (lnD w0 (.new i::hs)),some (.str (tx w0)),some (.lst ((Hnd.new i::hs).map kvD)),v,o,some (.lst ((Hnd.new i::hs).map (vlD L)))]=.ok true:=by
  have H:ixD (.lst ((Hnd.new i::hs).map kvD)) (.int 0)=some (kvD (.new i)):=Ro;have G:ixD (kvD (.new i)) (.int 0)=some (.str "new"):=Bp;have F:eqD (.str "new") (.str "new")=some (.bl true):=by kernel_rfl
  generalize (Hnd.new i::hs).map kvD=A at *;generalize kvD (.new i)=B,D.str (PySem.Str.ofString "new")=C at *;simp[H,G,F]
 have O:slA (.lst ((Hnd.new i::hs).map (vlD L))) (some 1) none=some (.lst (hs.map (vlD L))):=lF _ _;have U:ixD (.lst ((Hnd.new i::hs).map (vlD L))) (.int 0)=some (.str (nm i)):=Ro;have hg:Zm (Aa 8 [dkL c L,.str (tx row)])=.ok (dkL c (pt L i w)):=by
  have E:ifT (tb (b2 (b2 (b2 (gv 4) (kd (.int 0)) ixD) (kd (.int 0)) ixD) (kd (.str "new")) eqD)) (puS 0 (b2 (gv 7) (kd (.int 0)) ixD) (cl (zv (gv 3) (zv (bS (gv 7) (p1 (kd (.int 1))) p0 slA) a0)) Ay)) [some (dkL c L),some (.str (tx row)),some (lnD w0 (.new i::hs)),some (.str (tx w0)),some (.lst ((Hnd.new i::hs).map kvD)),v,o,some (.lst ((Hnd.new i::hs).map (vlD L)))]=.ok (dkL c (pt L i w)):=by
   show(R.nox _).bind _=_;rw[M,R.nox_ok,R.ok_bind,if_pos rfl];have ar:(zv (gv 3) (zv (bS (gv 7) (p1 (kd (.int 1))) p0 slA) a0)) [some (dkL c L),some (.str (tx row)),some (lnD w0 (.new i::hs)),some (.str (tx w0)),some (.lst ((Hnd.new i::hs).map kvD)),v,o,some (.lst ((Hnd.new i::hs).map (vlD L)))]=.ok [.str (tx w0),.lst (hs.map (vlD L))]:=by generalize (Hnd.new i::hs).map (vlD L)=A at *;generalize D.str (tx w0)=J at *;simp[O]
   have T:b2 (gv 7) (kd (.int 0)) ixD [some (dkL c L),some (.str (tx row)),some (lnD w0 (.new i::hs)),some (.str (tx w0)),some (.lst ((Hnd.new i::hs).map kvD)),v,o,some (.lst ((Hnd.new i::hs).map (vlD L)))]=.ok (.str (nm i)):=by generalize (Hnd.new i::hs).map (vlD L)=A at *;generalize D.str (nm i)=B at *;simp[U]
   have P:=Za w x.ky hi;unfold puS;rw[ZJ,ar,R.ok_bind,hm,R.nox_ok,R.nox_ok,R.ok_bind,wv6 (d:=dkL c L) rfl,R.ok_bind];show(if dkN c=true/\c ≠ "Desk" then _ else _)=_;rw[if_pos ⟨z,Z⟩,T,R.nox_ok,R.ok_bind,if_pos (by rw[sU];have:=x.len;omega)];show R.ok (D.exc c (Cu (ksD L) (wsD L) (.inr (nm i)) (wD w)).1 (Cu (ksD L) (wsD L) (.inr (nm i)) (wD w)).2)=_;rw[P]
  generalize lnD w0 (.new i::hs)=ln at *;generalize D.str (tx w0)=J at *;generalize (Hnd.new i::hs).map kvD=A at *;exact Wh ((Ai e1).trans rfl) (Wh (Ai (d:=J) (by simp[Y])) (Wh (Ai (d:=.lst A) (by simp[X])) (Wh (Jb (ds:=A) (by simp[Lx]) Q) (Wh ((Ai K).trans rfl) E))))
 show(Zm (Aa 8 [dkL c L,.str (tx row)])).bind _=_;rw[hg,R.ok_bind];exact if_pos rfl
theorem tY(F:dkN c=true)(v:Dv L)(C:i<6){w:Wb}(o:lk L i=some w):J9 [dkL c L,.str (tx (jn 32 [QH,nmc i]))]=.ok (.str (tx (gd w.1 w.2))):=by
 have O:=kv7 C;have H:=T4 (Ej v o);have B:∀h∈[Hnd.nam i],hOk h=true:=λh P=>by rw[NT.mp P];exact decide_eq_true C
 have E:[Hnd.nam i].all (fnd L)=true:=by simp[fnd,o]
 generalize Z:jn 32 [QH,nmc i]=row at *;have U:clX (zv (gv 1) a0) Aq [some (dkL c L),some (.str (tx row)),none,none,none,none,none,none]=.ok (lnD QH [.nam i]):=O;have M:ixD (lnD QH [.nam i]) (.int 0)=some (.str (tx QH)):=Bp;have K:ixD (lnD QH [.nam i]) (.int 1)=some (.lst ([Hnd.nam i].map kvD)):=Ds;have⟨z,y,J,_⟩:=(Q6 F v.ky [.nam i] (some (.str (tx row))) (some (lnD QH [.nam i])) (some (.str (tx QH))) (some (.lst ([Hnd.nam i].map kvD))) none none none B).1 E;have x:=m6 (c:=c) (L:=L) F v.ky B E (by simp) (o1:=some (.str (tx row))) (o2:=some (lnD QH [.nam i])) (o3:=some (.str (tx QH))) (o5:=z) (o6:=y) (o7:=none);have Q:[Hnd.nam i].map (vlD L)=[wD w]:=by simp[vlD,o]
 rw[Q]at x;have G:tb (b2 (b2 (b2 (gv 4) (kd (.int 0)) ixD) (kd (.int 0)) ixD) (kd (.str "new")) eqD) [some (dkL c L),some (.str (tx row)),some (lnD QH [.nam i]),some (.str (tx QH)),some (.lst ([Hnd.nam i].map kvD)),z,y,some (.lst [wD w])]=.ok false:=by kernel_rfl
 have an:wA [.str (tx QH),.lst [wD w]]=.ok (.str (tx (gd w.1 w.2))):=by have I:Js [wD w]=.ok (.str (tx (gd w.1 w.2))):=kn2 H;refine Av (Jg ((Fe (by kernel_rfl)).trans (Am ?_)));show cl (zv (b2 (gv 1) (kd (.int 0)) ixD) a0) Js [some (.str (tx QH)),some (.lst [wD w])]=_;generalize wD w=W,D.str (tx (gd w.1 w.2))=T,D.str (tx QH)=S at *;simp[I]
 generalize lnD QH [.nam i]=Y,D.str (tx QH)=X,[Hnd.nam i].map kvD=A at *;refine Av (Ad ((Ai U).trans rfl) (Ad (Ai (d:=X) (by simp[M])) (Ad (Ai (d:=.lst A) (by simp[K])) (Ad (Jb (ds:=A) (by simp[Lx]) J) (Ad ((Ai x).trans rfl) (Ad ((Bm G).trans rfl) (Am ?_)))))));generalize D.str (tx (gd w.1 w.2))=T at *;simp[an]
theorem Ui(v:dkN c=true):mtA (gv 0) (zv (gv 1) a0) [some (dkL c L),some r,none]=.ok [dkL c L,r]:=by have o:Jt (dkL c L)=some (ksD L,wsD L):=Hu v (ksD L) (wsD L);generalize dkL c L=d at *;simp[mtA,o]
def nameA:D:=.tup [.str "name",.non]
def bQ(t:Int):D:=.tup [.str "tie",.int t]
def lX:D:=.tup [.str "great",.non]
def kc6(o:dkN c=true)(h:J9 [dkL c L,r]=.exc noN):Ar [dkL c L,r]=.ok nameA:=by refine Av ?_;show(R.nox (mtA (gv 0) (zv (gv 1) a0) [some (dkL c L),some r,none])).bind _=_;rw[Ui o,R.nox_ok,R.ok_bind,h];kernel_rfl
def kq7(o:dkN c=true){t:Int}(h:J9 [dkL c L,r]=.exc (cP t)):Ar [dkL c L,r]=.ok (bQ t):=by refine Av ?_;show(R.nox (mtA (gv 0) (zv (gv 1) a0) [some (dkL c L),some r,none])).bind _=_;rw[Ui o,R.nox_ok,R.ok_bind,h];kernel_rfl
def jv0(o:dkN c=true)(h:J9 [dkL c L,r]=.exc cO):Ar [dkL c L,r]=.ok lX:=by refine Av ?_;show(R.nox (mtA (gv 0) (zv (gv 1) a0) [some (dkL c L),some r,none])).bind _=_;rw[Ui o,R.nox_ok,R.ok_bind,h];kernel_rfl
def kq6(o:dkN c=true)(h:J9 [dkL c L,r]=.bad):Ar [dkL c L,r]=.bad:=by refine kW ?_;show(R.nox (mtA (gv 0) (zv (gv 1) a0) [some (dkL c L),some r,none])).bind _=_;rw[Ui o,R.nox_ok,R.ok_bind,h]
end
def cM{r:R D}(h:f ρ=r):Ew f ρ=r.bind λd=>.ok (.rt d):=by rw[mF,h]
def cX{g:Ev->R Fl}{r:R D}(h:g (Aa n ds)=r.bind λd=>.ok (.rt d)):Be n g ds=r:=by rw[G8,h];cases r<;>rfl
def e_{r:R D}(h:s ρ=r.bind λd=>.ok (.rt d)):sq s u ρ=r.bind λd=>.ok (.rt d):=by rw[b_,h];cases r<;>rfl
variable {x:D}
def wg2{m:List D->R D}(h:f ρ=.ok x):clX (zv f a0) m ρ=m [x]:=by rw[gG,Dp,h];rfl
variable {y:D}
def U7{g:Ev->R D}{m:List D->R D}(h:f ρ=.ok x)(o:g ρ=.ok y):clX (zv f (zv g a0)) m ρ=m [x,y]:=by rw[gG,Dp,Dp,h,o];rfl
def Ms{S:D}(h:xs[i]? = some x):b2 (gv 1) (kd (.int (i:Int))) ixD [some S,some (.lst xs)]=.ok x:=by have:=S5 h;rw[J3,show gv 1 [some S,some (.lst xs)]=.ok (.lst xs) from rfl,Ji,R.ok_bind,R.ok_bind,this];rfl
def wl2:Ay [.str (tx [119,101,98]),.lst [.str (tx l)]]=K3 [.str (tx l)]:=
 cX (e_ ((Fe (by kernel_rfl)).trans (cM (wg2 (Ms (i:=0) rfl)))))
def qC:Ay [.str (tx W_),.lst [x,y]]=Nb [x,y]:=
 cX (Ad ((Bm (by kernel_rfl)).trans rfl) (e_ ((Fe (by kernel_rfl)).trans (cM (U7 (Ms (i:=0) rfl) (Ms (i:=1) rfl))))))
def qF:Ay [.str (tx XC),.lst [x,y]]=Uj [x,y]:=
 cX (Ad ((Bm (by kernel_rfl)).trans rfl) (Ad ((Bm (by kernel_rfl)).trans rfl) (e_ ((Fe (by kernel_rfl)).trans (cM (U7 (Ms (i:=0) rfl) (Ms (i:=1) rfl)))))))
def qG:Ay [.str (tx XD),.lst [x,y]]=Qe [x,y]:=
 cX (Ad ((Bm (by kernel_rfl)).trans rfl) (Ad ((Bm (by kernel_rfl)).trans rfl) (Ad ((Bm (by kernel_rfl)).trans rfl) (e_ ((Fe (by kernel_rfl)).trans (cM (U7 (Ms (i:=0) rfl) (Ms (i:=1) rfl))))))))
theorem Yk(o:p<n):Hx [Ah n ts,.int (p:Int)]=.ok .non:=by
 have w0:ixD (Ah n ts) (.int 0)=some (.int (n:Int)):=Bp;generalize Ah n ts=W at *;have c:ch (kd (.int 0)) (gv 1) (b2 (gv 0) (kd (.int 0)) ixD) leD ltD (Aa 2 [W,.int (p:Int)])=.ok (.bl true):=by unfold ch;simp[Aa,w0,o]
 have e:Ft (Aa 2 [W,.int (p:Int)])=.ok (.nx (Aa 2 [W,.int (p:Int)])):=(Bm (by rw[Zg,Vb,c];simp)).trans rfl;show Be 2 Ft _=_;rw[G8,e,Rm]
theorem qD(F:p<n)(E:q<m):Ay [.str (tx RV),.lst [Ah n ts,.int (p:Int),Ah m us,.int (q:Int)]]=Qf [Ah n ts,.int (p:Int),Ah m us,.int (q:Int)]:=by
 have C:=Yk (ts:=ts) F;have B:=Yk (ts:=us) E;generalize Ah n ts=X,Ah m us=Y at *;have A:b2 (gv 1) (kd (.int 0)) ixD [some (.str (tx RV)),some (.lst [X,.int (p:Int),Y,.int (q:Int)])]=.ok X:=Ms (i:=0) rfl;have z:b2 (gv 1) (kd (.int 1)) ixD [some (.str (tx RV)),some (.lst [X,.int (p:Int),Y,.int (q:Int)])]=.ok (.int (p:Int)):=Ms (i:=1) rfl;have v:b2 (gv 1) (kd (.int 2)) ixD [some (.str (tx RV)),some (.lst [X,.int (p:Int),Y,.int (q:Int)])]=.ok Y:=Ms (i:=2) rfl;have o:b2 (gv 1) (kd (.int 3)) ixD [some (.str (tx RV)),some (.lst [X,.int (p:Int),Y,.int (q:Int)])]=.ok (.int (q:Int)):=Ms (i:=3) rfl;refine cX (Ad ((Bm (by kernel_rfl)).trans rfl) (Ad ((Bm (by kernel_rfl)).trans rfl) (Ad ((Bm (by kernel_rfl)).trans rfl) (Ad ((Bm (by kernel_rfl)).trans rfl) (Ad (ρ1:=[some (.str (tx RV)),some (.lst [X,.int (p:Int),Y,.int (q:Int)])]) ?_ (Ad (ρ1:=[some (.str (tx RV)),some (.lst [X,.int (p:Int),Y,.int (q:Int)])]) ?_ (cM ?_)))))))
 ·show drp (clX (zv (b2 (gv 1) (kd (.int 0)) ixD) (zv (b2 (gv 1) (kd (.int 1)) ixD) a0)) Hx) [some (.str (tx RV)),some (.lst [X,.int (p:Int),Y,.int (q:Int)])]=_;rw[gF,U7 A z,C];rfl
 ·rw[gF,U7 v o,B];rfl
 ·rw[gG,Dp,Dp,Dp,Dp,A,z,v,o];rfl
inductive Lq where
 |web (i:Nat) (w:Wb) |wo (i j t:Nat) |dr (i j t:Nat) |be (i j k:Nat) |jo (i j p k q:Nat)
inductive Due where
 |ok (w:Wb) |name |tie (t:Nat) |great
def Lq.to:Lq->Nat
 | .web i _=>i
 | .wo i _ _=>i
 | .dr i _ _=>i
 | .be i _ _=>i
 | .jo i _ _ _ _=>i
def U3(w:Wb):Due:=if 6<w.1\/9<w.2.length then .great else .ok w
def drW(w:Wb)(t:Nat):Wb:=match w.2[t]? with
 |some e=>if e.1=e.2 then(w.1,del w.2 t) else(w.1 - 1,(del w.2 t).map (ct e.1 e.2))
 |none=>w
def XJ(f:Wb->Nat->Wb)(t:Nat):Option Wb->Due
 |none=>.name
 |some w=>if t<w.2.length then .ok (f w t) else .tie t
def WN(f:Wb->Wb->Wb):Option Wb->Option Wb->Due
 |some w,some u=>U3 (f w u)
 |_,_=>.name
def beW(w u:Wb):Wb:=(w.1+u.1,w.2++u.2.map (sh w.1))
def joW(p q:Nat)(w u:Wb):Wb:=(w.1+u.1 - 1,(w.2++u.2.map (sh w.1)).map (ct p (w.1+q)))
def woW(w:Wb)(t:Nat):Wb:=(w.1,del w.2 t)
def Ja(L:Std):Lq->Due
 | .web _ w=>.ok w
 | .wo _ j t=>XJ woW t (lk L j)
 | .dr _ j t=>XJ drW t (lk L j)
 | .be _ j k=>WN beW (lk L j) (lk L k)
 | .jo _ j p k q=>WN (joW p q) (lk L j) (lk L k)
def Ly(L:Std):Lq->Prop
 | .web i w=>i<6/\G3 w.1 w.2 6 9
 | .wo i j t=>i<6/\j<6/\t<10
 | .dr i j t=>i<6/\j<6/\t<10
 | .be i j k=>i<6/\j<6/\k<6
 | .jo i j p k q=>i<6/\j<6/\k<6/\p<6/\q<6/\(∀w,lk L j=some w->p<w.1)/\(∀w,lk L k=some w->q<w.1)
def Ud:Lq->List Nat
 | .web i w=>jn 32 [[119,101,98],nmc i,gd w.1 w.2]
 | .wo i j t=>jn 32 [W_,nmc i,nmc j,[48+t]]
 | .dr i j t=>jn 32 [XC,nmc i,nmc j,[48+t]]
 | .be i j k=>jn 32 [XD,nmc i,nmc j,nmc k]
 | .jo i j p k q=>jn 32 [RV,nmc i,nmc j,[48+p],nmc k,[48+q]]
def Dq:Due->D
 | .ok w=>.tup [.str "ok",wD w]
 | .name=>nameA
 | .tie t=>bQ t
 | .great=>lX
def Lq.to_lt{d:Lq}(h:Ly L d):d.to<6:=by cases d<;>exact h.1
theorem kr6(h:t<ts.length):(del ts t).length=ts.length - 1:=by unfold del;simp;omega
def kr7(h:e∈del ts t):e∈ts:=by
 rcases ZV.mp h with z |z
 ·exact List.mem_of_mem_take z
 ·exact List.mem_of_mem_drop z
theorem lA(w:G3 n ts 6 9)(ht:t<ts.length):G3 n (del ts t) 6 9:=⟨w.pos,w.le,by rw[kr6 ht];have:=w.len;lia,λe o=>w.tie e (kr7 o)⟩
theorem gH(v:b<n)(z:a<b)(o:p<n):cp a b p<n - 1:=by
 unfold cp;split
 ·omega
 ·split<;>omega
theorem yc5(C:2<=n)(E:n<=7)(z:ts.length<=9)(ht:∀e∈ts,e.1<=e.2/\e.2<n)(o:a<b)(v:b<n):G3 (n - 1) (ts.map (ct a b)) 6 9:=by refine⟨by omega,by omega,by rw[HN];exact z,λe B=>?_⟩;obtain⟨f,A,rfl⟩:=TX.mp B;have:=ht f A;have G:=gH v o (show f.1<n by omega);have F:=gH v o this.2;show min _ _<=max _ _/\max _ _<_;omega
theorem rN(ht:∀e∈ts,e.1<=e.2/\e.2<n)(o:∀e∈us,e.1<=e.2/\e.2<m):∀e∈ts++us.map (sh n),e.1<=e.2/\e.2<n+m:=λe A=>by
 rcases ZV.mp A with z |z
 ·have:=ht e z;omega
 ·obtain⟨f,v,rfl⟩:=TX.mp z;have:=o f v;show f.1+n<=f.2+n/\f.2+n<n+m;omega
theorem yc6{w:Wb}(h:G3 w.1 w.2 6 9)(ht:t<w.2.length):G3 (drW w t).1 (drW w t).2 6 9:=by
 unfold drW;rw[MJ ht];have o:=h.tie _ (dJ ht);by_cases e:(w.2[t]).1=(w.2[t]).2
 ·show G3 (if _ then _ else _:Wb).1 (if _ then _ else _:Wb).2 6 9;rw[if_pos e];exact lA h ht
 ·show G3 (if _ then _ else _:Wb).1 (if _ then _ else _:Wb).2 6 9;rw[if_neg e];have:=lA h ht;exact yc5 (by omega) (by have:=h.le;omega) this.len this.tie (by omega) o.2
theorem wh0(B:Dv L){d:Lq}(h:Ly L d){w:Wb}(e:Ja L d=.ok w):G3 w.1 w.2 6 9:=by
 have big:∀{u:Wb},1<=u.1->(∀e∈u.2,e.1<=e.2/\e.2<u.1)->U3 u=.ok w->G3 w.1 w.2 6 9:=λ{u} F E e=>by
  unfold U3 at e;by_cases C:6<u.1\/9<u.2.length
  ·rw[if_pos C]at e;cases e
  ·rw[if_neg C]at e;cases e;exact⟨F,by omega,by omega,E⟩
 cases d with
 |web i u=>cases e;exact h.2
 |wo i j t =>
  have e:XJ woW t (lk L j)=.ok w:=e;cases o:lk L j with
  |none=>rw[o]at e;cases e
  |some u =>
   rw[o]at e;have e:(if t<u.2.length then Due.ok (woW u t) else .tie t)=.ok w:=e;by_cases A:t<u.2.length
   ·rw[if_pos A]at e;cases e;exact lA (Ej B o) A
   ·rw[if_neg A]at e;cases e
 |dr i j t =>
  have e:XJ drW t (lk L j)=.ok w:=e;cases o:lk L j with
  |none=>rw[o]at e;cases e
  |some u =>
   rw[o]at e;have e:(if t<u.2.length then Due.ok (drW u t) else .tie t)=.ok w:=e;by_cases A:t<u.2.length
   ·rw[if_pos A]at e;cases e;exact yc6 (Ej B o) A
   ·rw[if_neg A]at e;cases e
 |be i j k =>
  have e:WN beW (lk L j) (lk L k)=.ok w:=e;cases o:lk L j with
  |none=>rw[o]at e;cases e
  |some u =>
   cases z:lk L k with
   |none=>rw[o,z]at e;cases e
   |some v=>rw[o,z]at e;have a:=Ej B o;have b:=Ej B z;exact big (u:=beW u v) (by have:=a.pos;show 1<=u.1+v.1;omega) (rN a.tie b.tie) e
 |jo i j p k q =>
  have e:WN (joW p q) (lk L j) (lk L k)=.ok w:=e;obtain⟨F,E,T,Q,P,K,J⟩:=h;cases o:lk L j with
  |none=>rw[o]at e;cases e
  |some u =>
   cases z:lk L k with
   |none=>rw[o,z]at e;cases e
   |some v=>rw[o,z]at e;have a:=Ej B o;have b:=Ej B z;have O:=K u o;have M:=J v z;have H:=rN a.tie b.tie;refine big (u:=joW p q u v) (by have:=a.pos;have:=b.pos;show 1<=u.1+v.1 - 1;omega) (λx G=>?_) e;obtain⟨f,I,rfl⟩:=TX.mp G;have:=H f I;have X:=gH (a:=p) (b:=u.1+q) (n:=u.1+v.1) (by omega) (by omega) (show f.1<_ by omega);have U:=gH (a:=p) (b:=u.1+q) (n:=u.1+v.1) (by omega) (by omega) this.2;show min _ _<=max _ _/\max _ _<u.1+v.1 - 1;omega
def G7:dkN "Desk" = true:=by decide +kernel
def wg6(t:Nat):dkN (idn t)=true:=K6 (.inr rfl)
def wj3(t:Nat):idn t ≠ "Desk":=λz=>absurd (show(1:Nat)=4 from congrArg (λc:PySem.Str=>c.cps.size) z) (by decide)
def Ni(A:Dv L)(v:Aq [.str (tx row)]=.ok (lnD w0 (.new i::hs)))(o:∀h∈Hnd.new i::hs,hOk h=true)(z:hs.all (fnd L)=false):Ar [dkL "Desk" L,.str (tx row)]=.ok nameA:=
 kc6 G7 (wo3 G7 A.ky v o (by rw[YD,z];exact nR _))
def cJ(C:Dv L)(A:Aq [.str (tx row)]=.ok (lnD w0 (.new i::hs)))(v:∀h∈Hnd.new i::hs,hOk h=true)(B:hs.all (fnd L)=true)(o:hs.length<=50){w:Wb}(z:Ay [.str (tx w0),.lst (hs.map (vlD L))]=.ok (wD w)):
  Ar [dkL "Desk" L,.str (tx row)]=.bad/\∀t,Gj [dkL (idn t) L,.str (tx row)]=.ok (dkL (idn t) (pt L i w)):=
 ⟨kq6 G7 ((nD G7 C.ky A v B o).trans (by rw[z])),λt=>km7 (wg6 t) (wj3 t) C A v B o z⟩
def rJ(C:Dv L)(A:Aq [.str (tx row)]=.ok (lnD w0 (.new i::hs)))(v:∀h∈Hnd.new i::hs,hOk h=true)(B:hs.all (fnd L)=true)(o:hs.length<=50){t:Int}(z:Ay [.str (tx w0),.lst (hs.map (vlD L))]=.exc (cP t)):
  Ar [dkL "Desk" L,.str (tx row)]=.ok (bQ t):=kq7 G7 ((nD G7 C.ky A v B o).trans (by rw[z]))
def u6(C:Dv L)(A:Aq [.str (tx row)]=.ok (lnD w0 (.new i::hs)))(v:∀h∈Hnd.new i::hs,hOk h=true)(B:hs.all (fnd L)=true)(o:hs.length<=50)(z:Ay [.str (tx w0),.lst (hs.map (vlD L))]=.exc cO):
  Ar [dkL "Desk" L,.str (tx row)]=.ok lX:=jv0 G7 ((nD G7 C.ky A v B o).trans (by rw[z]))
def Step(L:Std)(d:Lq):Due->Prop
 | .ok w=>Ar [dkL "Desk" L,.str (tx (Ud d))]=.bad/\∀t,Gj [dkL (idn t) L,.str (tx (Ud d))]=.ok (dkL (idn t) (pt L d.to w))
 |x=>Ar [dkL "Desk" L,.str (tx (Ud d))]=.ok (Dq x)
theorem jw2(z:Dv L){d:Lq}(h:Ly L d):Step L d (Ja L d):=by
 cases d with
 |web i w =>
  obtain⟨G,C⟩:=h;exact cJ z (ki1 G (T4 C)) (λh H=>by
   simp only[I_,RC,or_false]at H;rcases H with rfl |rfl
   ·exact decide_eq_true G
   ·rfl) rfl (by simp) (show Ay [.str (tx [119,101,98]),.lst [.str (tx (gd w.1 w.2))]]=.ok (wD w) from wl2.trans (ka5 C))
 |wo i j t =>
  obtain⟨G,I,T⟩:=h;have A:=kv8 (t:=(t:Int)) G I ⟨by omega,by omega⟩;rw[VP]at A;have E:∀h∈[Hnd.new i,.nam j,.num (t:Int)],hOk h=true:=λh H=>by
   simp only[I_,RC,or_false]at H;rcases H with rfl |rfl |rfl
   ·exact decide_eq_true G
   ·exact decide_eq_true I
   ·rfl
  show Step L (.wo i j t) (XJ woW t (lk L j));cases o:lk L j with
  |none=>exact Ni z A E (by simp[fnd,o])
  |some w =>
   have J:[Hnd.nam j,.num (t:Int)].all (fnd L)=true:=by simp[fnd,o]
   have K:[Hnd.nam j,.num (t:Int)].map (vlD L)=[wD w,.int (t:Int)]:=by simp[vlD,o,raw]
   have C:=Ej z o;show Step L (.wo i j t) (if t<w.2.length then .ok (woW w t) else .tie t);by_cases F:t<w.2.length
   ·rw[if_pos F];exact cJ z A E J (by simp) (w:=woW w t) (by rw[K,qC];exact Wr F (by have:=C.len;omega))
   ·rw[if_neg F];exact rJ z A E J (by simp) (by rw[K,qC];exact Ws (.inr (by omega)) (by have:(2:Nat) ^ 10<=2 ^ 200:=xR (by decide) (by decide);omega))
 |dr i j t =>
  obtain⟨G,I,T⟩:=h;have A:=kv4 (t:=(t:Int)) G I ⟨by omega,by omega⟩;rw[VP]at A;have E:∀h∈[Hnd.new i,.nam j,.num (t:Int)],hOk h=true:=λh H=>by
   simp only[I_,RC,or_false]at H;rcases H with rfl |rfl |rfl
   ·exact decide_eq_true G
   ·exact decide_eq_true I
   ·rfl
  show Step L (.dr i j t) (XJ drW t (lk L j));cases o:lk L j with
  |none=>exact Ni z A E (by simp[fnd,o])
  |some w =>
   have J:[Hnd.nam j,.num (t:Int)].all (fnd L)=true:=by simp[fnd,o]
   have K:[Hnd.nam j,.num (t:Int)].map (vlD L)=[wD w,.int (t:Int)]:=by simp[vlD,o,raw]
   have C:=Ej z o;show Step L (.dr i j t) (if t<w.2.length then .ok (drW w t) else .tie t);by_cases F:t<w.2.length
   ·rw[if_pos F];refine cJ z A E J (by simp) (w:=drW w t) ?_;rw[K,qF];refine(kd8 C.pos (MJ F) (by have:=C.len;omega)).trans ?_;unfold drW wD;rw[MJ F];show _=R.ok (Ah (if _ then _ else _:Wb).1 (if _ then _ else _:Wb).2);split<;>rfl
   ·rw[if_neg F];exact rJ z A E J (by simp) (by rw[K,qF];exact kd9 (.inr (by omega)) (by have:(2:Nat) ^ 10<=2 ^ 200:=xR (by decide) (by decide);omega))
 |be i j k =>
  obtain⟨G,I,Q⟩:=h;have A:=kv3 G I Q;have E:∀h∈[Hnd.new i,.nam j,.nam k],hOk h=true:=λh H=>by
   simp only[I_,RC,or_false]at H;rcases H with rfl |rfl |rfl
   ·exact decide_eq_true G
   ·exact decide_eq_true I
   ·exact decide_eq_true Q
  show Step L (.be i j k) (WN beW (lk L j) (lk L k));cases o:lk L j with
  |none=>exact Ni z A E (by simp[fnd,o])
  |some w =>
   cases v:lk L k with
   |none=>exact Ni z A E (by simp[fnd,v])
   |some u =>
    have J:[Hnd.nam j,.nam k].all (fnd L)=true:=by simp[fnd,o,v]
    have K:[Hnd.nam j,.nam k].map (vlD L)=[wD w,wD u]:=by simp[vlD,o,v]
    have C:=Ej z o;have M:=Ej z v;show Step L (.be i j k) (U3 (beW w u));unfold U3;by_cases B:6<(beW w u).1\/9<(beW w u).2.length
    ·rw[if_pos B];refine u6 z A E J (by simp) ?_;rw[K,qG];have B:6<w.1+u.1\/9<(w.2++u.2.map (sh w.1)).length:=B;rw[PQ,HN]at B;exact jv3 C.pos (by have:=C.le;have:=M.le;omega) (by have:=C.len;have:=M.len;omega) B
    ·rw[if_neg B];refine cJ z A E J (by simp) (w:=beW w u) ?_;rw[K,qG];have B:¬ (6<w.1+u.1\/9<(w.2++u.2.map (sh w.1)).length):=B;rw[PQ,HN]at B;exact jv2 C.pos (by omega) (by omega)
 |jo i j p k q =>
  obtain⟨G,I,Q,X,U,P,O⟩:=h;have A:=kv6 (p:=(p:Int)) (q:=(q:Int)) G I Q ⟨by omega,by omega⟩ ⟨by omega,by omega⟩;rw[VP,VP]at A;have E:∀h∈[Hnd.new i,.nam j,.num (p:Int),.nam k,.num (q:Int)],hOk h=true:=λh H=>by
   simp only[I_,RC,or_false]at H;rcases H with rfl |rfl |rfl |rfl |rfl
   ·exact decide_eq_true G
   ·exact decide_eq_true I
   ·rfl
   ·exact decide_eq_true Q
   ·rfl
  show Step L (.jo i j p k q) (WN (joW p q) (lk L j) (lk L k));cases o:lk L j with
  |none=>exact Ni z A E (by simp[fnd,o])
  |some w =>
   cases v:lk L k with
   |none=>exact Ni z A E (by simp[fnd,v])
   |some u =>
    have J:[Hnd.nam j,.num (p:Int),.nam k,.num (q:Int)].all (fnd L)=true:=by simp[fnd,o,v]
    have K:[Hnd.nam j,.num (p:Int),.nam k,.num (q:Int)].map (vlD L)=[wD w,.int (p:Int),wD u,.int (q:Int)]:=by simp[vlD,o,v,raw]
    have C:=Ej z o;have M:=Ej z v;show Step L (.jo i j p k q) (U3 (joW p q w u));unfold U3;by_cases B:6<(joW p q w u).1\/9<(joW p q w u).2.length
    ·rw[if_pos B];refine u6 z A E J (by simp) ?_;rw[K];have B:6<w.1+u.1 - 1\/9<((w.2++u.2.map (sh w.1)).map (ct p (w.1+q))).length:=B;rw[HN,PQ,HN]at B;exact(qD (P w o) (O u v)).trans (jy3 C.pos M.pos (by have:=C.le;have:=M.le;omega) (by have:=C.len;have:=M.len;omega) (by omega))
    ·rw[if_neg B];refine cJ z A E J (by simp) (w:=joW p q w u) ?_;rw[K];have B:¬ (6<w.1+u.1 - 1\/9<((w.2++u.2.map (sh w.1)).map (ct p (w.1+q))).length):=B;rw[HN,PQ,HN]at B;exact(qD (P w o) (O u v)).trans (jy2 C.pos M.pos (by omega) (by omega))
def aK:D:=.str "web"
def sWo:D:=.str "without"
def sDr:D:=.str "drawn"
def sBe:D:=.str "beside"
def sJo:D:=.str "joined"
def Ck:Lq->D
 | .web i w=>.tup [aK,.str (nm i),wD w]
 | .wo i j t=>.tup [sWo,.str (nm i),.str (nm j),.int (t:Int)]
 | .dr i j t=>.tup [sDr,.str (nm i),.str (nm j),.int (t:Int)]
 | .be i j k=>.tup [sBe,.str (nm i),.str (nm j),.str (nm k)]
 | .jo i j p k q=>.tup [sJo,.str (nm i),.str (nm j),.int (p:Int),.str (nm k),.int (q:Int)]
abbrev rwF:Ev->R D:=(ife (tt (b1 (gv 0) (ZG "tuple"))) (cl (zv (gv 0) a0) Bl) (bA (zv (gv 0) a0) bT))
def Wd(x:D)(w:List Nat):Prop:=rwF [some x]=.ok (.str (tx w))
def El(w:List Nat):Wd (.str (tx w)) w:=by show rwF [some (.str (tx w))]=_;kernel_rfl
def gM:∀t<10,Wd (.int (t:Nat)) [48+t]:=λt o=>by
 unfold Wd
 match t,o with
 |0,_=>kernel_rfl
 |1,_=>kernel_rfl
 |2,_=>kernel_rfl
 |3,_=>kernel_rfl
 |4,_=>kernel_rfl
 |5,_=>kernel_rfl
 |6,_=>kernel_rfl
 |7,_=>kernel_rfl
 |8,_=>kernel_rfl
 |9,_=>kernel_rfl
theorem wq9{w:Wb}(h:Sm w.1 w.2):Wd (wD w) (gd w.1 w.2):=by
 have t:=m_ h;have i:b1 (gv 0) (ZG "tuple") [some (wD w)]=.ok (.bl true):=by kernel_rfl
 show ife (tt (b1 (gv 0) (ZG "tuple"))) (cl (zv (gv 0) a0) Bl) (bA (zv (gv 0) a0) bT) [some (wD w)]=_;rw[cW,jP,i];have t:Bl [wD w]=.ok (.str (tx (gd w.1 w.2))):=t;show cl (zv (gv 0) a0) Bl [some (wD w)]=_;generalize D.str (tx (gd w.1 w.2))=T,wD w=W at *;simp[t]
def ya2:aK=.str (tx [119,101,98]):=congrArg D.str (by decide +kernel)
def yU:sWo=.str (tx W_):=congrArg D.str (by decide +kernel)
def yW:sDr=.str (tx XC):=congrArg D.str (by decide +kernel)
def yX:sBe=.str (tx XD):=congrArg D.str (by decide +kernel)
def yV:sJo=.str (tx RV):=congrArg D.str (by decide +kernel)
theorem Q7{xs:List (D×List Nat)}(h:∀x∈xs,Wd x.1 x.2)(z:xs.length<=10)(ht:tot (xs.map (·.2))<=900):Dn [.tup (xs.map (·.1))]=.ok (.str (tx (jn 32 (xs.map (·.2))))):=by
 have v:Dc (itS (gv 0)) 1 [] (gN 0) yes rwF [some (.tup (xs.map (·.1))),none]=.ok (.lst (txs (xs.map (·.2)))):=by refine Fj (ds:=xs.map (·.1)) (by simp[Lx]) ?_ (by simp[txs];omega);rw[show txs (xs.map (·.2))=xs.map λx=>D.str (tx x.2) by unfold txs;rw[RB];rfl];exact G4 (enc:=λx:D×List Nat=>x.1) xs λx o=>⟨[some x.1],rfl,h x o⟩
 refine Av (Ad ((Ai v).trans rfl) (Am ?_));exact Zf (c:=32) (by rw[Ji,blank]) rfl (by omega)
def Je:∀i<6,(nmc i).length<=8:=λi o=>(Zx i o).2.2
theorem kw0{d:Lq}(h:Ly L d):Dn [Ck d]=.ok (.str (tx (Ud d))):=by
 cases d with
 |web i w =>
  have g:=(Ox (T4 h.2)).2;have v:=Je i h.1;refine Q7 (xs:=[(aK,[119,101,98]),(.str (nm i),nmc i),(wD w,gd w.1 w.2)]) (λx o=>?_) (by simp) (by simp[tot];omega);simp only[I_,RC,or_false]at o;rcases o with rfl |rfl |rfl
  ·rw[ya2];exact El _
  ·exact El _
  ·exact wq9 (T4 h.2)
 |wo i j t =>
  have v:=Je i h.1;have z:=Je j h.2.1;refine Q7 (xs:=[(sWo,W_),(.str (nm i),nmc i),(.str (nm j),nmc j),(.int (t:Int),[48+t])]) (λx o=>?_) (by simp) (by simp[tot,W_];omega);simp only[I_,RC,or_false]at o;rcases o with rfl |rfl |rfl |rfl
  ·rw[yU];exact El _
  ·exact El _
  ·exact El _
  ·exact gM t h.2.2
 |dr i j t =>
  have v:=Je i h.1;have z:=Je j h.2.1;refine Q7 (xs:=[(sDr,XC),(.str (nm i),nmc i),(.str (nm j),nmc j),(.int (t:Int),[48+t])]) (λx o=>?_) (by simp) (by simp[tot,XC];omega);simp only[I_,RC,or_false]at o;rcases o with rfl |rfl |rfl |rfl
  ·rw[yW];exact El _
  ·exact El _
  ·exact El _
  ·exact gM t h.2.2
 |be i j k =>
  have v:=Je i h.1;have z:=Je j h.2.1;have A:=Je k h.2.2;refine Q7 (xs:=[(sBe,XD),(.str (nm i),nmc i),(.str (nm j),nmc j),(.str (nm k),nmc k)]) (λx o=>?_) (by simp) (by simp[tot,XD];omega);simp only[I_,RC,or_false]at o;rcases o with rfl |rfl |rfl |rfl
  ·rw[yX];exact El _
  ·exact El _
  ·exact El _
  ·exact El _
 |jo i j p k q =>
  obtain⟨E,C,B,G,F,_⟩:=h;have v:=Je i E;have z:=Je j C;have A:=Je k B;refine Q7 (xs:=[(sJo,RV),(.str (nm i),nmc i),(.str (nm j),nmc j),(.int (p:Int),[48+p]),(.str (nm k),nmc k),(.int (q:Int),[48+q])]) (λx o=>?_) (by simp) (by simp[tot,RV];omega);simp only[I_,RC,or_false]at o;rcases o with rfl |rfl |rfl |rfl |rfl |rfl
  ·rw[yV];exact El _
  ·exact El _
  ·exact El _
  ·exact gM p (by omega)
  ·exact El _
  ·exact gM q (by omega)
abbrev sdL(L:Std):D:=XX (ksD L) (wsD L)
def wg5(o:∀x∈L,x.1<6)(v:j<6):aY (.str (nm j)) (sdL L)=some (.bl (lk L j).isSome):=by show((kyO (.str (nm j))).bind λk=>(Mr (sdL L)).map λp=>D.bl (Bv p.1 p.2 k).isSome)=_;rw[O2];show some (D.bl (Bv (ksD L) (wsD L) (.inr (nm j))).isSome)=_;rw[Kc o v,dO]
def Ri(o:∀x∈L,x.1<6)(v:j<6){w:Wb}(h:lk L j=some w):Ot (sdL L) (.str (nm j))=some (wD w):=by show Bv (ksD L) (wsD L) (.inr (nm j))=_;rw[Kc o v,h];rfl
def wnF:Ev->R D:=Dc (itS (bS (gv 0) (p1 (kd (.int 2))) p0 slA)) 1 [] (gN 0) (tt (b1 (gv 0) (ZG "str"))) (gv 0)
def alF:Ev->R Bool:=(tt (bA (zv (Dc (itS (gv 2)) 1 [1] (gN 0) yes (b2 (gv 0) (gv 1) aY)) a0) YB))
variable {js:List Nat}
theorem qX(o:∀x∈L,x.1<6)(v:∀j∈js,j<6)(E:js.length<=100):alF [o0,some (sdL L),some (.lst (js.map λj=>.str (nm j))),o3,o4]=.ok (js.all λj=>(lk L j).isSome):=by
 have C:Dc (itS (gv 2)) 1 [1] (gN 0) yes (b2 (gv 0) (gv 1) aY) [o0,some (sdL L),some (.lst (js.map λj=>.str (nm j))),o3,o4]=.ok (.lst ((js.map λj=>(lk L j).isSome).map .bl)):=by refine Fj (ds:=js.map λj=>.str (nm j)) (by simp[Lx]) ?_ (by simp;omega);rw[RB];refine G4 (enc:=λj:Nat=>D.str (nm j)) js λj z=>⟨[some (.str (nm j)),some (sdL L)],rfl,?_⟩;have:=wg5 o (v j z);generalize D.str (nm j)=A,sdL L=B at *;simp[this]
 unfold alF;rw[jP,Rk,Dp,C];show(R.of (YB [.lst ((js.map λj=>(lk L j).isSome).map .bl)])).bind _=_;rw[tM];show R.ok _=_;rw[List.all_map];rfl
variable {dd:D}
def Mj(A:∀x∈L,x.1<6)(B:∀j∈js,j<6)(v:js.length<=100)(z:wnF [some dd,some (sdL L),none,none,none]=.ok (.lst (js.map λj=>.str (nm j))))(C:(js.all λj=>(lk L j).isSome)=false):Dm [dd,sdL L]=.ok nameA:=by have o:=qX A B v (o0:=some dd) (o3:=none) (o4:=none);rw[C]at o;refine Av (Ad ((Ai z).trans rfl) (Jg ((Fe (show nt alF _=_ from ?_)).trans (Am rfl))));rw[Zg];show(alF [some dd,some (sdL L),some (.lst (js.map λj=>.str (nm j))),none,none]).bind _=_;rw[o];rfl
abbrev duR:Ev->R Fl:=(sq (ifS (tb (b2 (b2 (gv 0) (kd (.int 0)) ixD) (kd (.str "web")) eqD)) (Ew (bA (zv (kd (.str "ok")) (zv (b2 (gv 0) (kd (.int 2)) ixD) a0)) Dk)) nop)
 (sq (asg 3 (b2 (gv 1) (b2 (gv 0) (kd (.int 2)) ixD) Ot))
 (sq (ifS (tan (tb (b2 (b2 (gv 0) (kd (.int 0)) ixD) (kd (.tup [(.str "without"),(.str "drawn")])) inD)) (tb (b2 (b2 (gv 0) (kd (.int 3)) ixD) (bA (zv (b2 (gv 3) (kd (.int 1)) ixD) a0) Eh) geD))) (Ew (bA (zv (kd (.str "tie")) (zv (b2 (gv 0) (kd (.int 3)) ixD) a0)) Dk)) nop)
 (sq (ifS (tb (b2 (b2 (gv 0) (kd (.int 0)) ixD) (kd (.str "without")) eqD)) (Ew (bA (zv (kd (.str "ok")) (zv (cl (zv (gv 3) (zv (b2 (gv 0) (kd (.int 3)) ixD) a0)) Dy) a0)) Dk)) nop)
 (sq (ifS (tb (b2 (b2 (gv 0) (kd (.int 0)) ixD) (kd (.str "drawn")) eqD)) (Ew (bA (zv (kd (.str "ok")) (zv (cl (zv (gv 3) (zv (b2 (gv 0) (kd (.int 3)) ixD) a0)) Ef) a0)) Dk)) nop)
 (sq (ifS (tb (b2 (b2 (gv 0) (kd (.int 0)) ixD) (kd (.str "beside")) eqD)) (asg 4 (cl (zv (gv 3) (zv (b2 (gv 1) (b2 (gv 0) (kd (.int 3)) ixD) Ot) a0)) Eo)) (asg 4 (cl (zv (gv 3) (zv (b2 (gv 0) (kd (.int 3)) ixD) (zv (b2 (gv 1) (b2 (gv 0) (kd (.int 4)) ixD) Ot) (zv (b2 (gv 0) (kd (.int 5)) ixD) a0)))) Cy)))
 (sq (ifS (tt (cl (zv (gv 4) a0) Eg)) (Ew (kd (.tup [(.str "great"),.non]))) nop)
 (Ew (bA (zv (kd (.str "ok")) (zv (gv 4) a0)) Dk)))))))))
def Qj(B:∀x∈L,x.1<6)(C:∀j∈js,j<6)(v:js.length<=100)(z:wnF [some dd,some (sdL L),none,none,none]=.ok (.lst (js.map λj=>.str (nm j))))(E:(js.all λj=>(lk L j).isSome)=true)
  (h:∀A,duR [some dd,some (sdL L),some A,none,none]=.ok (.rt r)):Dm [dd,sdL L]=.ok r:=by
 have o:=qX B C v (o0:=some dd) (o3:=none) (o4:=none);rw[E]at o;refine Av (Ad ((Ai z).trans rfl) (Ad ((Bm (show nt alF _=_ from ?_)).trans rfl) (h _)));rw[Zg];show(alF [some dd,some (sdL L),some (.lst (js.map λj=>.str (nm j))),none,none]).bind _=_;rw[o];rfl
def ixk{r:Ev}(h:xs[i]? = some x):b2 (gv 0) (kd (.int (i:Int))) ixD (some (.tup xs)::r)=.ok x:=by have:=cV h;rw[J3,gv0,Ji,R.ok_bind,R.ok_bind,this];rfl
def Z0(h:f ρ=.ok x):bA (zv (kd (.str "ok")) (zv f a0)) Dk ρ=.ok (.tup [.str "ok",x]):=by rw[Rk,Dp,Dp,h,Ji];rfl
def mO{g:Ev->R D}{m:List D->R D}{z:D}(h:f ρ=.ok x)(v:g ρ=.ok y)(o:m [x,y]=.ok z):cl (zv f (zv g a0)) m ρ=.ok z:=by rw[ZJ,Dp,Dp,h,v];show R.nox (m [x,y])=_;rw[o];rfl
variable {A:D}
theorem ko4{w:Wb}{S a b:D}(hs:tb (b2 (b2 (gv 0) (kd (.int 0)) ixD) (kd (.tup [(.str "without"),(.str "drawn")])) inD) [some (.tup [S,a,b,.int (t:Int)]),some (sdL L),some A,some (wD w),none]=.ok true):
  tan (tb (b2 (b2 (gv 0) (kd (.int 0)) ixD) (kd (.tup [(.str "without"),(.str "drawn")])) inD)) (tb (b2 (b2 (gv 0) (kd (.int 3)) ixD) (bA (zv (b2 (gv 3) (kd (.int 1)) ixD) a0) Eh) geD)) [some (.tup [S,a,b,.int (t:Int)]),some (sdL L),some A,some (wD w),none]=.ok (decide (w.2.length<=t)):=by
 rw[Va,hs,R.ok_bind,if_pos rfl];have o:b2 (gv 0) (kd (.int 3)) ixD [some (.tup [S,a,b,.int (t:Int)]),some (sdL L),some A,some (wD w),none]=.ok (.int (t:Int)):=ixk (i:=3) rfl;have v:ixD (wD w) (.int 1)=some (.tup (w.2.map Aj)):=Gd w.1 w.2;have z:Eh [.tup (w.2.map Aj)]=some (.int (w.2.length:Int)):=by show some (D.int _)=_;rw[HN]
 rw[Vb,J3,o,R.ok_bind];generalize wD w=W,w.2.map Aj=T at *;simp[v,z]
theorem vO(v:Dv L){S:D}{f:Wb->Nat->Wb}{m:List D->R D}(F:j<6)(J:∀A B C,tb (b2 (b2 (gv 0) (kd (.int 0)) ixD) (kd (.str "web")) eqD) [some (.tup [S,.str (nm i),.str (nm j),.int (t:Int)]),A,B,C,none]=.ok false)
  (G:wnF [some (.tup [S,.str (nm i),.str (nm j),.int (t:Int)]),some (sdL L),none,none,none]=.ok (.lst [.str (nm j)]))
  (M:∀A B C,tb (b2 (b2 (gv 0) (kd (.int 0)) ixD) (kd (.tup [(.str "without"),(.str "drawn")])) inD) [some (.tup [S,.str (nm i),.str (nm j),.int (t:Int)]),A,B,C,none]=.ok true)
  (K:∀w,G3 w.1 w.2 6 9->t<w.2.length->∀A,(sq (ifS (tb (b2 (b2 (gv 0) (kd (.int 0)) ixD) (kd (.str "without")) eqD)) (Ew (bA (zv (kd (.str "ok")) (zv (cl (zv (gv 3) (zv (b2 (gv 0) (kd (.int 3)) ixD) a0)) Dy) a0)) Dk)) nop)
   (sq (ifS (tb (b2 (b2 (gv 0) (kd (.int 0)) ixD) (kd (.str "drawn")) eqD)) (Ew (bA (zv (kd (.str "ok")) (zv (cl (zv (gv 3) (zv (b2 (gv 0) (kd (.int 3)) ixD) a0)) Ef) a0)) Dk)) nop)
   (sq (ifS (tb (b2 (b2 (gv 0) (kd (.int 0)) ixD) (kd (.str "beside")) eqD)) (asg 4 (cl (zv (gv 3) (zv (b2 (gv 1) (b2 (gv 0) (kd (.int 3)) ixD) Ot) a0)) Eo)) (asg 4 (cl (zv (gv 3) (zv (b2 (gv 0) (kd (.int 3)) ixD) (zv (b2 (gv 1) (b2 (gv 0) (kd (.int 4)) ixD) Ot) (zv (b2 (gv 0) (kd (.int 5)) ixD) a0)))) Cy)))
   (sq (ifS (tt (cl (zv (gv 4) a0) Eg)) (Ew (kd (.tup [(.str "great"),.non]))) nop)
   (Ew (bA (zv (kd (.str "ok")) (zv (gv 4) a0)) Dk)))))) [some (.tup [S,.str (nm i),.str (nm j),.int (t:Int)]),some (sdL L),some A,some (wD w),none]=.ok (.rt (.tup [.str "ok",wD (f w t)]))):
  Dm [.tup [S,.str (nm i),.str (nm j),.int (t:Int)],sdL L]=.ok (Dq (XJ f t (lk L j))):=by
 cases o:lk L j with
 |none=>exact Mj v.ky (js:=[j]) (λx z=>by rw[NT.mp z];exact F) (by simp) G (by simp[o])
 |some w =>
  refine Qj v.ky (js:=[j]) (λx z=>by rw[NT.mp z];exact F) (by simp) G (by simp[o]) λA=>?_;have I:b2 (gv 0) (kd (.int 2)) ixD [some (.tup [S,.str (nm i),.str (nm j),.int (t:Int)]),some (sdL L),some A,none,none]=.ok (.str (nm j)):=ixk (i:=2) rfl;have P:=Ri v.ky F o;have O:b2 (gv 1) (b2 (gv 0) (kd (.int 2)) ixD) Ot [some (.tup [S,.str (nm i),.str (nm j),.int (t:Int)]),some (sdL L),some A,none,none]=.ok (wD w):=by rw[J3,XR,R.ok_bind,I,R.ok_bind,P];rfl
  refine Ad ((Bm (J _ _ _)).trans rfl) (Ad ((Ai O).trans rfl) ?_);have tt:=ko4 (A:=A) (M (some (sdL L)) (some A) (some (wD w)));show _=R.ok (Fl.rt (Dq (if t<w.2.length then .ok (f w t) else .tie t)));by_cases E:t<w.2.length
  ·rw[if_pos E];rw[decide_eq_false (by omega)]at tt;exact Ad ((Bm tt).trans rfl) (K w (Ej v o) E A)
  ·rw[if_neg E];rw[decide_eq_true (by omega)]at tt;have H:b2 (gv 0) (kd (.int 3)) ixD [some (.tup [S,.str (nm i),.str (nm j),.int (t:Int)]),some (sdL L),some A,some (wD w),none]=.ok (.int (t:Int)):=ixk (i:=3) rfl;refine Jg ((Fe tt).trans (Am ?_));rw[Rk,Dp,Dp,H,Ji];rfl
theorem u5{S:D}{W:Wb}{w:Wb}(J:Dv L)
  (z:∀A B C,tb (b2 (b2 (gv 0) (kd (.int 0)) ixD) (kd (.str "web")) eqD) [some (.tup (S::xs)),A,B,C,none]=.ok false)
  (H:∀A B C,tb (b2 (b2 (gv 0) (kd (.int 0)) ixD) (kd (.tup [(.str "without"),(.str "drawn")])) inD) [some (.tup (S::xs)),A,B,C,none]=.ok false)
  (G:∀A B C,tb (b2 (b2 (gv 0) (kd (.int 0)) ixD) (kd (.str "without")) eqD) [some (.tup (S::xs)),A,B,C,none]=.ok false)
  (F:∀A B C,tb (b2 (b2 (gv 0) (kd (.int 0)) ixD) (kd (.str "drawn")) eqD) [some (.tup (S::xs)),A,B,C,none]=.ok false)
  (I:b2 (gv 1) (b2 (gv 0) (kd (.int 2)) ixD) Ot [some (.tup (S::xs)),some (sdL L),some A,none,none]=.ok (wD w))
  (E:ifS (tb (b2 (b2 (gv 0) (kd (.int 0)) ixD) (kd (.str "beside")) eqD)) (asg 4 (cl (zv (gv 3) (zv (b2 (gv 1) (b2 (gv 0) (kd (.int 3)) ixD) Ot) a0)) Eo)) (asg 4 (cl (zv (gv 3) (zv (b2 (gv 0) (kd (.int 3)) ixD) (zv (b2 (gv 1) (b2 (gv 0) (kd (.int 4)) ixD) Ot) (zv (b2 (gv 0) (kd (.int 5)) ixD) a0)))) Cy)) [some (.tup (S::xs)),some (sdL L),some A,some (wD w),none]=.ok (.nx [some (.tup (S::xs)),some (sdL L),some A,some (wD w),some (wD W)])):
  duR [some (.tup (S::xs)),some (sdL L),some A,none,none]=.ok (.rt (Dq (U3 W))):=by
 refine Ad ((Bm (z _ _ _)).trans rfl) (Ad ((Ai I).trans rfl) (Ad ((Bm ?_).trans rfl) (Ad ((Bm (G _ _ _)).trans rfl) (Ad ((Bm (F _ _ _)).trans rfl) (Ad E ?_)))))
 ·rw[Va];show(tb (b2 (b2 (gv 0) (kd (.int 0)) ixD) (kd (.tup [(.str "without"),(.str "drawn")])) inD) [some (.tup (S::xs)),some (sdL L),some A,some (wD w),none]).bind _=_;rw[H];rfl
 ·have g:=jz1 W.1 W.2;have v:tt (cl (zv (gv 4) a0) Eg) [some (.tup (S::xs)),some (sdL L),some A,some (wD w),some (wD W)]=.ok (decide (6<W.1) ||decide (9<W.2.length)):=by rw[jP,ZJ];show(R.nox (Eg [Ah W.1 W.2])).bind _=_;rw[g];rfl
  unfold U3;by_cases o:6<W.1\/9<W.2.length
  ·rw[if_pos o];refine Jg ((Fe ?_).trans (Am rfl));rw[v];congr 1;simpa using o
  ·rw[if_neg o];refine Ad ((Bm ?_).trans rfl) (Am (Z0 rfl));rw[v];congr 1;simp;omega
theorem kv2(z:Dv L){d:Lq}(h:Ly L d):Dm [Ck d,sdL L]=.ok (Dq (Ja L d)):=by
 cases d with
 |web i w=>have J:∀A,b2 (gv 0) (kd (.int 2)) ixD [some (.tup [aK,.str (nm i),wD w]),some (sdL L),some A,none,none]=.ok (wD w):=λA=>ixk (i:=2) rfl;exact Qj z.ky (js:=[]) (λx H=>by cases H) (by simp) (by kernel_rfl) rfl λA=>Jg ((Fe (by kernel_rfl)).trans (Am (Z0 (J A))))
 |wo i j t=>obtain⟨P,I,Y⟩:=h;refine vO (S:=sWo) (f:=woW) (m:=Dy) z I (λ_ _ _=>by kernel_rfl) (by kernel_rfl) (λ_ _ _=>by kernel_rfl) λw F E A=>?_;have G:b2 (gv 0) (kd (.int 3)) ixD [some (.tup [sWo,.str (nm i),.str (nm j),.int (t:Int)]),some (sdL L),some A,some (wD w),none]=.ok (.int (t:Int)):=ixk (i:=3) rfl;exact Jg ((Fe (by kernel_rfl)).trans (Am (Z0 (mO aO G (Tj E (by have:=F.len;omega))))))
 |dr i j t =>
  obtain⟨P,I,Y⟩:=h;refine vO (S:=sDr) (f:=drW) (m:=Ef) z I (λ_ _ _=>by kernel_rfl) (by kernel_rfl) (λ_ _ _=>by kernel_rfl) λw F E A=>?_;have G:b2 (gv 0) (kd (.int 3)) ixD [some (.tup [sDr,.str (nm i),.str (nm j),.int (t:Int)]),some (sdL L),some A,some (wD w),none]=.ok (.int (t:Int)):=ixk (i:=3) rfl;have he:=F.tie _ (dJ E);have X:Ef [wD w,.int (t:Int)]=.ok (wD (drW w t)):=by refine(jz0 F.pos (MJ E) (by have:=F.len;omega) he.1).trans ?_;unfold drW wD;rw[MJ E];show _=R.ok (Ah (if _ then _ else _:Wb).1 (if _ then _ else _:Wb).2);split<;>rfl
  exact Ad ((Bm (by kernel_rfl)).trans rfl) (Jg ((Fe (by kernel_rfl)).trans (Am (Z0 (mO aO G X)))))
 |be i j k =>
  obtain⟨P,I,O⟩:=h;have B:wnF [some (.tup [sBe,.str (nm i),.str (nm j),.str (nm k)]),some (sdL L),none,none,none]=.ok (.lst [.str (nm j),.str (nm k)]):=by kernel_rfl
  have C:∀x∈[j,k],x<6:=λx H=>by simp only[I_,RC,or_false]at H;rcases H with rfl |rfl<;>assumption
  show Dm [.tup [sBe,.str (nm i),.str (nm j),.str (nm k)],sdL L]=.ok (Dq (WN beW (lk L j) (lk L k)));cases v:lk L j with
  |none=>exact Mj z.ky (js:=[j,k]) C (by simp) B (by simp[v])
  |some w =>
   cases o:lk L k with
   |none=>exact Mj z.ky (js:=[j,k]) C (by simp) B (by simp[o])
   |some u =>
    refine Qj z.ky (js:=[j,k]) C (by simp) B (by simp[v,o]) λA=>?_;have F:=Ej z v;have K:=Ej z o;have J:b2 (gv 0) (kd (.int 2)) ixD [some (.tup [sBe,.str (nm i),.str (nm j),.str (nm k)]),some (sdL L),some A,none,none]=.ok (.str (nm j)):=ixk (i:=2) rfl;have G:b2 (gv 0) (kd (.int 3)) ixD [some (.tup [sBe,.str (nm i),.str (nm j),.str (nm k)]),some (sdL L),some A,some (wD w),none]=.ok (.str (nm k)):=ixk (i:=3) rfl;have d3:b2 (gv 1) (b2 (gv 0) (kd (.int 3)) ixD) Ot [some (.tup [sBe,.str (nm i),.str (nm j),.str (nm k)]),some (sdL L),some A,some (wD w),none]=.ok (wD u):=by rw[J3,XR,R.ok_bind,G,R.ok_bind,Ri z.ky O o];rfl
    refine u5 (W:=beW w u) (w:=w) z (λ_ _ _=>by kernel_rfl) (λ_ _ _=>by kernel_rfl) (λ_ _ _=>by kernel_rfl) (λ_ _ _=>by kernel_rfl) ?_ ?_
    ·rw[J3,XR,R.ok_bind,J,R.ok_bind,Ri z.ky I v];rfl
    ·exact(Fe (by kernel_rfl)).trans ((Ai (mO aO d3 (Vr (n:=w.1) (m:=u.1) (by have:=F.len;have:=K.len;omega)))).trans rfl)
 |jo i j p k q =>
  obtain⟨P,I,O,hp,hq,M,Z⟩:=h;have B:wnF [some (.tup [sJo,.str (nm i),.str (nm j),.int (p:Int),.str (nm k),.int (q:Int)]),some (sdL L),none,none,none]=.ok (.lst [.str (nm j),.str (nm k)]):=by kernel_rfl
  have C:∀x∈[j,k],x<6:=λx H=>by simp only[I_,RC,or_false]at H;rcases H with rfl |rfl<;>assumption
  show Dm [.tup [sJo,.str (nm i),.str (nm j),.int (p:Int),.str (nm k),.int (q:Int)],sdL L]=.ok (Dq (WN (joW p q) (lk L j) (lk L k)));cases v:lk L j with
  |none=>exact Mj z.ky (js:=[j,k]) C (by simp) B (by simp[v])
  |some w =>
   cases o:lk L k with
   |none=>exact Mj z.ky (js:=[j,k]) C (by simp) B (by simp[o])
   |some u =>
    refine Qj z.ky (js:=[j,k]) C (by simp) B (by simp[v,o]) λA=>?_;have F:=Ej z v;have K:=Ej z o;have J:b2 (gv 0) (kd (.int 2)) ixD [some (.tup [sJo,.str (nm i),.str (nm j),.int (p:Int),.str (nm k),.int (q:Int)]),some (sdL L),some A,none,none]=.ok (.str (nm j)):=ixk (i:=2) rfl;have G:b2 (gv 0) (kd (.int 3)) ixD [some (.tup [sJo,.str (nm i),.str (nm j),.int (p:Int),.str (nm k),.int (q:Int)]),some (sdL L),some A,some (wD w),none]=.ok (.int (p:Int)):=ixk (i:=3) rfl;have T:b2 (gv 0) (kd (.int 4)) ixD [some (.tup [sJo,.str (nm i),.str (nm j),.int (p:Int),.str (nm k),.int (q:Int)]),some (sdL L),some A,some (wD w),none]=.ok (.str (nm k)):=ixk (i:=4) rfl;have Q:b2 (gv 0) (kd (.int 5)) ixD [some (.tup [sJo,.str (nm i),.str (nm j),.int (p:Int),.str (nm k),.int (q:Int)]),some (sdL L),some A,some (wD w),none]=.ok (.int (q:Int)):=ixk (i:=5) rfl;have d4:b2 (gv 1) (b2 (gv 0) (kd (.int 4)) ixD) Ot [some (.tup [sJo,.str (nm i),.str (nm j),.int (p:Int),.str (nm k),.int (q:Int)]),some (sdL L),some A,some (wD w),none]=.ok (wD u):=by rw[J3,XR,R.ok_bind,T,R.ok_bind,Ri z.ky O o];rfl
    have U:Cy [wD w,.int (p:Int),wD u,.int (q:Int)]=.ok (wD (joW p q w u)):=jn1 F.pos (M w v) (by have:=F.len;have:=K.len;omega);refine u5 (W:=joW p q w u) (w:=w) z (λ_ _ _=>by kernel_rfl) (λ_ _ _=>by kernel_rfl) (λ_ _ _=>by kernel_rfl) (λ_ _ _=>by kernel_rfl) ?_ ?_
    ·rw[J3,XR,R.ok_bind,J,R.ok_bind,Ri z.ky I v];rfl
    ·refine(Bm (by kernel_rfl)).trans ((Ai (d:=wD (joW p q w u)) ?_).trans rfl);rw[ZJ,Dp,Dp,Dp,Dp,aO,G,d4,Q];show R.nox (Cy [wD w,.int (p:Int),wD u,.int (q:Int)])=_;rw[U];rfl
def mG{a b:Int}(h:-(2 ^ 64)<b)(o:b<2 ^ 64):W6 (.int a) (.int b)=some (.int (a * b)):=by show(if _ then _ else _)=_;rw[if_pos (.inr (.inl ⟨h,o⟩))]
theorem ks0(c s:Int)(hs:0<=s)(I:s<=100)(m:Nat)(K:0<m):∃r:Nat,r<m/\Jr [.int c,.int s,.int (m:Int)]=.ok (.int (r:Int)):=by have H:W6 (.int 271) (.int s)=some (.int (271 * s)):=wh5 (by decide) (by decide);have G:W6 (.int (c+271 * s)) (.int 40503)=some (.int ((c+271 * s) * 40503)):=mG (by decide) (by decide);have F:Hc (.int ((c+271 * s) * 40503)) (.int 1000081)=some (.int ((c+271 * s) * 40503 % 1000081)):=Lg (by decide);generalize (c+271 * s) * 40503 % 1000081=A at *;have E:Fo (.int c) (.int 997)=some (.int (c / 997)):=K7 (by decide) (by decide);have C:W6 (.int (A+c / 997+s)) (.int 30011)=some (.int ((A+c / 997+s) * 30011)):=mG (by decide) (by decide);have z:Hc (.int ((A+c / 997+s) * 30011)) (.int 999671)=some (.int ((A+c / 997+s) * 30011 % 999671)):=Lg (by decide);generalize (A+c / 997+s) * 30011 % 999671=B at *;have v:Fo (.int B) (.int 3)=some (.int (B / 3)):=K7 (by decide) (by decide);have b1:=dG (B / 3) (b:=(m:Int)) (by lia);have J:=dR (B / 3) (b:=(m:Int)) (by lia);have o:Hc (.int (B / 3)) (.int (m:Int))=some (.int (B / 3 % m)):=Lg (by lia);refine⟨(B / 3 % (m:Int)).toNat,by lia,Av (Ad (ρ1:=[some (.int c),some (.int s),some (.int (m:Int)),some (.int A)]) (Ai (d:=.int A) (by simp[Aa,H,G,F])) (Ad (ρ1:=[some (.int c),some (.int s),some (.int (m:Int)),some (.int B)]) (Ai (d:=.int B) (by simp[E,C,z])) (Am ?_)))⟩;rw[iC b1];simp[v,o]
theorem wh9(m:Nat)(E:1<=m)(u v:Int)(C:0<=u)(z:u<m)(B:0<=v)(o:v<m):∃e:Nat×Nat,e.1<=e.2/\e.2<m/\D.tup [.int (min u v),.int (max u v)]=Aj e:=by refine⟨((min u v).toNat,(max u v).toNat),by simp;lia,by simp;lia,?_⟩;simp only[Aj];rw[iC (by lia),iC (by lia)]
def wbL:Ev->R Fl:=(sq (asg 5 (b2 (gv 0) (gv 1) Hc))
 (sq (asg 6 (b2 (b2 (gv 0) (gv 1) Fo) (gv 1) Hc))
 (sq (asg 0 (b2 (b2 (gv 0) (gv 1) Fo) (gv 1) Fo))
 (ZL 3 (bA (zv (bA (zv (gv 5) (zv (gv 6) a0)) minD) (zv (bA (zv (gv 5) (zv (gv 6) a0)) maxD) a0)) Dk)))))
theorem wb1{z:Int}(H:1<=m)(G:m<=100)(O:ts.length<100):∃(B:Int)(e:Nat×Nat)(E C:Option D),e.1<=e.2/\e.2<m /\
  wbL [some (.int z),some (.int (m:Int)),o2,some (.lst (ts.map Aj)),o4,o5,o6]=.ok (.nx [some (.int B),some (.int (m:Int)),o2,some (.lst ((ts++[e]).map Aj)),o4,E,C]):=by
 have v:∀z:Int,Fo (.int z) (.int (m:Int))=some (.int (z / m)):=λz=>K7 (by lia) (by lia);have o:∀z:Int,Hc (.int z) (.int (m:Int))=some (.int (z % m)):=λz=>Lg (by lia);have⟨e,M,K,J⟩:=wh9 m H (z % m) (z / m % m) (dG _ (by lia)) (dR _ (by lia)) (dG _ (by lia)) (dR _ (by lia));refine⟨z / m / m,e,some (.int (z % m)),some (.int (z / m % m)),M,K,?_⟩;have I:wbL [some (.int z),some (.int (m:Int)),o2,some (.lst (ts.map Aj)),o4,o5,o6]=.ok (.nx [some (.int (z / m / m)),some (.int (m:Int)),o2,some (.lst (ts.map Aj++[Aj e])),o4,some (.int (z % m)),some (.int (z / m % m))]):=by
  have F:(ts.map Aj).length<16777216:=by rw[HN];lia
  generalize ts.map Aj=TS at *;exact Ad (Ai (d:=.int (z % m)) (by simp[o])) (Ad (Ai (d:=.int (z / m % m)) (by simp[v,o])) (Ad (Ai (d:=.int (z / m / m)) (by simp[v])) ((kO (ds:=TS) (x:=Aj e) rfl (by simp[Ep,J]) F).trans rfl)))
 rw[I,bH];rfl
theorem kw3(z:Int):∃w:Wb,G3 w.1 w.2 6 9/\Oq [.int z]=.ok (wD w):=by
 obtain⟨m,em,o,K⟩:∃m:Nat,(1+z % 6:Int)=(m:Int)/\1<=m/\m<=6:=⟨(1+z % 6).toNat,by omega,by omega,by omega⟩;obtain⟨k,ek,hk⟩:∃k:Nat,(z / 6 % 10:Int)=(k:Int)/\k<=9:=⟨(z / 6 % 10).toNat,by omega,by omega⟩;have⟨T,el,B⟩:=Mt (g:=gN 4) (b:=wbL) (I:=λj ρ=>j<=k->∃(ts:Bs)(C:Int)(G F E:Option D),ts.length=j/\(∀e∈ts,e.1<=e.2/\e.2<m)/\ρ=[some (.int C),some (.int (m:Int)),some (.int (k:Int)),some (.lst (ts.map Aj)),G,F,E])
  (Lj (List.range k)) 0 [some (.int (z / 60)),some (.int (m:Int)),some (.int (k:Int)),some (.lst []),none,none,none] (λ_=>⟨[],z / 60,none,none,none,rfl,by simp,rfl⟩) (λi d ρ v B=>by
   rw[Ye]at v;cases M:(List.range k)[i]? with
   |none=>rw[M]at v;cases v
   |some j =>
    rw[M]at v;cases v;have⟨h1,Q⟩:=MT.mp M;simp at Q h1;subst Q;rw[ZR]at B ⊢;obtain⟨ts,C,G,F,E,P,J,rfl⟩:=B (by lia);have⟨U,e,q5,q6,e1,e2,e3⟩:=wb1 (z:=C) (m:=m) (o2:=some (.int (k:Int))) (o4:=some (.int (i:Int))) (o5:=F) (o6:=E) (ts:=ts) o (by lia) (by lia);refine⟨_,_,cB,.inl e3,λ_=>⟨ts++[e],U,_,_,_,by simp[P],λf hf=>?_,rfl⟩⟩;rcases ZV.mp hf with z |z
    ·exact J f z
    ·rw[NT.mp z];exact⟨e1,e2⟩)
 rw[Yg,w5,ZR]at B;obtain⟨ts,C,G,F,E,P,J,rfl⟩:=B (H_ _);have Z:∀z:Int,Hc (.int z) (.int 6)=some (.int (z % 6)):=λz=>Lg (by decide);have H:∀z:Int,Hc (.int z) (.int 10)=some (.int (z % 10)):=λz=>Lg (by decide);have d6:∀z:Int,Fo (.int z) (.int 6)=some (.int (z / 6)):=λz=>K7 (by decide) (by decide);have O:∀z:Int,Fo (.int z) (.int 60)=some (.int (z / 60)):=λz=>K7 (by decide) (by decide);refine⟨(m,ts),⟨o,K,by show ts.length<=9;omega,J⟩,Av (Ad (Ai (d:=.int (m:Int)) (by simp[Aa,Z,em])) (Ad (Ai (d:=.int (k:Int)) (by simp[Aa,d6,H,ek])) (Ad (Ai (d:=.int (z / 60)) (by simp[Aa,O])) (Ad (Ai (d:=.lst []) (by simp[Qk])) (Ad (Jb (ds:=Lj (List.range k)) (by simp[Aa,mD (n:=k) (by lia)]) el) (Am ?_))))))⟩;show _=R.ok (Ah m ts);have X:M3 [.lst (ts.map Aj)]=some (.tup (ts.map Aj)):=rfl;have Y:Dk [.int (m:Int),.tup (ts.map Aj)]=some (Ah m ts):=Ep (by simp);generalize Ah m ts=W,ts.map Aj=TS at *;simp[X,Y]
def mdL:Ev->R Fl:=(asg 1 (b2 (b2 (gv 1) (kd (.int 1009)) W6) (cl (zv (gv 0) (zv (b2 (kd (.int 11)) (gv 2) Bj) (zv (kd (.int 1009)) a0))) Jr) Bj))
theorem ki3(c:Int):∃z:Int,Sw [.int c]=.ok (.int z):=by
 have M:Fo (.int c) (.int 2)=some (.int (c / 2)):=K7 (by decide) (by decide);have v:aL (.int 10) (.int 18)=some (.int 1000000000000000000):=wu6 (by decide);have ch:tb (ch (kd (.int 0)) (gv 0) (b2 (kd (.int 10)) (kd (.int 18)) aL) leD ltD) [some (.int c),some (.int (c / 2)),none]=.ok (decide (0<=c/\c<1000000000000000000)):=by
  rw[Vb];unfold PD.ch;by_cases E:0<=c
  ·simp[v,E]
  ·simp[v,E]
 by_cases J:0<=c/\c<1000000000000000000
 ·rw[decide_eq_true J]at ch;have⟨O,Q,C⟩:=Mt (g:=gN 2) (b:=mdL) (I:=λj ρ=>j<=16->∃(o:Int)(F:Option D),ρ=[some (.int c),some (.int o),F])
   (Lj (List.range 16)) 0 [some (.int c),some (.int (c / 2)),none] (λ_=>⟨c / 2,none,rfl⟩) (λi d ρ B C=>by
    rw[Ye]at B;cases H:(List.range 16)[i]? with
    |none=>rw[H]at B;cases B
    |some j =>
     rw[H]at B;cases B;have⟨E,K⟩:=MT.mp H;simp at K E;subst K;rw[ZR]at C ⊢;obtain⟨o,F,rfl⟩:=C (by lia);have⟨r,_,G⟩:=ks0 c (11+(i:Int)) (by lia) (by lia) 1009 (by decide);have P:W6 (.int o) (.int 1009)=some (.int (o * 1009)):=mG (by decide) (by decide);refine⟨_,_,cB,.inl (Ai (d:=.int (o * 1009+r)) ?_),λ_=>⟨_,_,rfl⟩⟩;have G:Jr [.int c,.int (11+(i:Int)),.int 1009]=.ok (.int (r:Int)):=G;simp[P,G])
  rw[Yg,w5,ZR]at C;obtain⟨o,F,rfl⟩:=C (H_ _);exact⟨o,Av (Ad (Ai (d:=.int (c / 2)) (by simp[Aa,M])) (Ad ((Fe ch).trans (Jb (ds:=Lj (List.range 16)) (by rw[qQ,Dp,Ji];show R.of (cL [.int ((16:Nat):Int)])=_;rw[mD (by decide)];rfl) Q)) (Am (by simp))))⟩
 ·rw[decide_eq_false J]at ch;exact⟨c / 2,Av (Ad (Ai (d:=.int (c / 2)) (by simp[Aa,M])) (Ad ((Bm ch).trans rfl) (Am (by simp))))⟩
def Nk:D:=.lst [(.str "a"),(.str "ab"),(.str "abc"),(.str "b"),(.str "web"),(.str "drawnaab")]
def iY:D:=.lst [(.str "web"),(.str "web"),(.str "web"),(.str "without"),(.str "drawn"),(.str "beside"),(.str "joined")]
def wl5:∀i:Nat,i<6->ixD Nk (.int (i:Int))=some (.str (nm i)):=λi o=>by
 match i,o with
 |0,_=>kernel_rfl
 |1,_=>kernel_rfl
 |2,_=>kernel_rfl
 |3,_=>kernel_rfl
 |4,_=>kernel_rfl
 |5,_=>kernel_rfl
def ddL:Ev->R Fl:=(sq (ZL 5 (b2 (gv 2) (b2 (gv 3) (kd (.int 6)) Hc) ixD))
 (asg 3 (b2 (gv 3) (kd (.int 6)) Fo)))
theorem Y9(z:Int){ps:List D}(F:ps.length<10):∃i,i<6/\ddL [o0,o1,some Nk,some (.int z),o4,some (.lst ps),o6,o7]=.ok (.nx [o0,o1,some Nk,some (.int (z / 6)),o4,some (.lst (ps++[.str (nm i)])),o6,o7]):=by
 obtain⟨i,C,o⟩:∃i:Nat,(z % 6:Int)=(i:Int)/\i<6:=⟨(z % 6).toNat,by omega,by omega⟩;have B:Hc (.int z) (.int 6)=some (.int (i:Int)):=by rw[<-C];exact Lg (by decide)
 have E:Fo (.int z) (.int 6)=some (.int (z / 6)):=K7 (by decide) (by decide);have v:=wl5 i o;generalize Nk=N at *;refine⟨i,o,Ad (kO (ds:=ps) (x:=.str (nm i)) rfl (by simp[B,v]) (by omega)) ((Ai (d:=.int (z / 6)) (by simp[E])).trans rfl)⟩
def kr4(z:Int):∃i j k B C,i<6/\j<6/\k<6/\Bu (Lj (List.range 3)) (gN 6) ddL [o0,o1,some Nk,some (.int z),o4,some (.lst []),o6,o7]=.ok (.nx [o0,o1,some Nk,some (.int B),o4,some (.lst [.str (nm i),.str (nm j),.str (nm k)]),C,o7]):=by
 have⟨i,G,J⟩:=Y9 z (o0:=o0) (o1:=o1) (o4:=o4) (o6:=some (.int 0)) (o7:=o7) (ps:=[]) (by simp);have⟨j,F,I⟩:=Y9 (z / 6) (o0:=o0) (o1:=o1) (o4:=o4) (o6:=some (.int 1)) (o7:=o7) (ps:=[]++[.str (nm i)]) (by simp);have⟨k,E,H⟩:=Y9 (z / 6 / 6) (o0:=o0) (o1:=o1) (o4:=o4) (o6:=some (.int 2)) (o7:=o7) (ps:=[]++[.str (nm i)]++[.str (nm j)]) (by simp);refine⟨i,j,k,z / 6 / 6 / 6,some (.int 2),G,F,E,?_⟩;show Bu [.int 0,.int 1,.int 2] (gN 6) ddL _=_;have v:∀{d:D}{ds:List D}{ρ ρ1 o:Ev}{r:R Fl},gN 6 d ρ=.ok ρ1->ddL ρ1=.ok (.nx o)->Bu ds (gN 6) ddL o=r->Bu (d::ds) (gN 6) ddL ρ=r:=λa b c=>by rw[Bu,a,R.ok_bind,b];exact c
 exact v rfl J (v rfl I (v rfl H rfl))
def Mv:Option Wb->Nat
 |some w=>w.1
 |none=>6
def uO(o:∀x∈L,x.1<6)(v:j<6)(h1:gv 1 ρ=.ok (sdL L))(z:f ρ=.ok (.str (nm j))):b2 (dgS (gv 1) f (kd (.tup [(.int 6),(.tup [])]))) (kd (.int 0)) ixD ρ=.ok (.int (Mv (lk L j):Nat)):=by
 have e:dgS (gv 1) f (kd (.tup [(.int 6),(.tup [])])) ρ=.ok (((lk L j).map wD).getD (.tup [.int 6,.tup []])):=by unfold dgS;rw[h1,R.ok_bind,O2,R.of_some,R.ok_bind,z,R.ok_bind,Ji,R.ok_bind];show R.ok ((Bv (ksD L) (wsD L) (.inr (nm j))).getD _)=_;rw[Kc o v]
 rw[J3,e,R.ok_bind,Ji,R.ok_bind];cases lk L j with
 |none=>rfl
 |some w=>show R.of (ixD (Ah w.1 w.2) (.int 0))=_;rw[show ixD (Ah w.1 w.2) (.int 0)=some (.int (w.1:Int)) from Bp];rfl
theorem kh9(E:Dv L)(c:Int):∃d:Lq,Ly L d/\G5 [.int c,sdL L]=.ok (Ck d):=by
 have⟨z,hz⟩:=ki3 c;obtain⟨r,er,U⟩:∃r:Nat,(z % 7:Int)=(r:Int)/\r<7:=⟨(z % 7).toNat,by omega,by omega⟩;have m7:Hc (.int z) (.int 7)=some (.int (r:Int)):=by rw[<-er];exact Lg (by decide)
 have d7:Fo (.int z) (.int 7)=some (.int (z / 7)):=K7 (by decide) (by decide);obtain⟨x,o⟩:∃x,ixD iY (.int (r:Int))=some x:=by
  match r,U with
  |0,_=>exact⟨_,rfl⟩
  |1,_=>exact⟨_,rfl⟩
  |2,_=>exact⟨_,rfl⟩
  |3,_=>exact⟨_,rfl⟩
  |4,_=>exact⟨_,rfl⟩
  |5,_=>exact⟨_,rfl⟩
  |6,_=>exact⟨_,rfl⟩
 have O:x=aK\/x=sWo\/x=sDr\/x=sBe\/x=sJo:=by
  match r,U with
  |0,_=>cases o;exact .inl rfl
  |1,_=>cases o;exact .inl rfl
  |2,_=>cases o;exact .inl rfl
  |3,_=>cases o;exact .inr (.inl rfl)
  |4,_=>cases o;exact .inr (.inr (.inl rfl))
  |5,_=>cases o;exact .inr (.inr (.inr (.inl rfl)))
  |6,_=>cases o;exact .inr (.inr (.inr (.inr rfl)))
 have⟨i,j,k,y,K,J,I,Q,lp⟩:=kr4 (z / 7) (o0:=some (.int c)) (o1:=some (sdL L)) (o4:=some x) (o6:=none) (o7:=none);have pre:∀{d:D},(sq (ifS (tb (b2 (gv 4) (kd (.str "web")) eqD)) (Ew (bA (zv (gv 4) (zv (b2 (gv 5) (kd (.int 0)) ixD) (zv (cl (zv (gv 3) a0) Oq) a0))) Dk)) nop)
   (sq (ifS (tb (b2 (gv 4) (kd (.str "beside")) eqD)) (Ew (bA (zv (gv 4) (zv (b2 (gv 5) (kd (.int 0)) ixD) (zv (b2 (gv 5) (kd (.int 1)) ixD) (zv (b2 (gv 5) (kd (.int 2)) ixD) a0)))) Dk)) nop)
   (sq (ifS (tb (b2 (gv 4) (kd (.str "joined")) eqD)) (sq (asg 7 (bA (zv (b2 (gv 3) (b2 (dgS (gv 1) (b2 (gv 5) (kd (.int 1)) ixD) (kd (.tup [(.int 6),(.tup [])]))) (kd (.int 0)) ixD) Hc) (zv (b2 (b2 (gv 3) (kd (.int 6)) Fo) (b2 (dgS (gv 1) (b2 (gv 5) (kd (.int 2)) ixD) (kd (.tup [(.int 6),(.tup [])]))) (kd (.int 0)) ixD) Hc) a0)) Q3))
   (Ew (bA (zv (gv 4) (zv (b2 (gv 5) (kd (.int 0)) ixD) (zv (b2 (gv 5) (kd (.int 1)) ixD) (zv (b2 (gv 7) (kd (.int 0)) ixD) (zv (b2 (gv 5) (kd (.int 2)) ixD) (zv (b2 (gv 7) (kd (.int 1)) ixD) a0)))))) Dk))) nop)
   (Ew (bA (zv (gv 4) (zv (b2 (gv 5) (kd (.int 0)) ixD) (zv (b2 (gv 5) (kd (.int 1)) ixD) (zv (b2 (gv 3) (kd (.int 10)) Hc) a0)))) Dk))))) [some (.int c),some (sdL L),some Nk,some (.int y),some x,some (.lst [.str (nm i),.str (nm j),.str (nm k)]),K,none]=.ok (.rt d)->G5 [.int c,sdL L]=.ok d:=λ{d} h=>by
  generalize sdL L=S at *;refine Av (Ad (ρ1:=[some (.int c),some S,some Nk,none,none,none,none,none]) (Ai rfl) (Ad (ρ1:=[some (.int c),some S,some Nk,some (.int z),none,none,none,none]) (Ai (d:=.int z) (by simp[hz])) (Ad (ρ1:=[some (.int c),some S,some Nk,some (.int z),some x,none,none,none]) (Ai (d:=x) ?_) (Ad (ρ1:=[some (.int c),some S,some Nk,some (.int (z / 7)),some x,none,none,none]) (Ai (d:=.int (z / 7)) (by simp[d7])) (Ad (ρ1:=[some (.int c),some S,some Nk,some (.int (z / 7)),some x,some (.lst []),none,none]) (Ai (d:=.lst []) (by simp[Qk])) (Ad (Jb (ds:=Lj (List.range 3)) ?_ lp) h))))))
  ·show b2 (kd iY) (b2 (gv 3) (kd (.int 7)) Hc) ixD [some (.int c),some S,some Nk,some (.int z),none,none,none,none]=_;generalize iY=W at *;simp[m7,o]
  ·rw[qQ,Dp,Ji];show R.of (cL [.int ((3:Nat):Int)])=_;rw[mD (by decide)];rfl
 have v:Hc (.int y) (.int 10)=some (.int (y % 10)):=Lg (by decide);obtain⟨t,et,T⟩:∃t:Nat,(y % 10:Int)=(t:Int)/\t<10:=⟨(y % 10).toNat,by omega,by omega⟩;rw[et]at v;have G:ixD (.lst [.str (nm i),.str (nm j),.str (nm k)]) (.int 0)=some (.str (nm i)):=Ro;have F:ixD (.lst [.str (nm i),.str (nm j),.str (nm k)]) (.int 1)=some (.str (nm j)):=mH;have M:ixD (.lst [.str (nm i),.str (nm j),.str (nm k)]) (.int 2)=some (.str (nm k)):=S5 (i:=2) rfl;rcases O with rfl |rfl |rfl |rfl |rfl
 ·have⟨w,H,ew⟩:=kw3 y;refine⟨.web i w,⟨J,H⟩,pre (Jg ((Fe (by kernel_rfl)).trans (Am ?_)))⟩;show _=R.ok (D.tup [aK,.str (nm i),wD w]);generalize D.lst [.str (nm i),.str (nm j),.str (nm k)]=P,D.str (nm i)=A,wD w=W at *;simp[G,ew,Ep]
 ·refine⟨.wo i j t,⟨J,I,T⟩,pre (Ad ((Bm (by kernel_rfl)).trans rfl) (Ad ((Bm (by kernel_rfl)).trans rfl) (Ad ((Bm (by kernel_rfl)).trans rfl) (Am ?_))))⟩;show _=R.ok (D.tup [sWo,.str (nm i),.str (nm j),.int (t:Int)]);generalize D.lst [.str (nm i),.str (nm j),.str (nm k)]=P,D.str (nm i)=A,D.str (nm j)=B at *;simp[G,F,v,Ep]
 ·refine⟨.dr i j t,⟨J,I,T⟩,pre (Ad ((Bm (by kernel_rfl)).trans rfl) (Ad ((Bm (by kernel_rfl)).trans rfl) (Ad ((Bm (by kernel_rfl)).trans rfl) (Am ?_))))⟩;show _=R.ok (D.tup [sDr,.str (nm i),.str (nm j),.int (t:Int)]);generalize D.lst [.str (nm i),.str (nm j),.str (nm k)]=P,D.str (nm i)=A,D.str (nm j)=B at *;simp[G,F,v,Ep]
 ·refine⟨.be i j k,⟨J,I,Q⟩,pre (Ad ((Bm (by kernel_rfl)).trans rfl) (Jg ((Fe (by kernel_rfl)).trans (Am ?_))))⟩;show _=R.ok (D.tup [sBe,.str (nm i),.str (nm j),.str (nm k)]);generalize D.lst [.str (nm i),.str (nm j),.str (nm k)]=P,D.str (nm i)=A,D.str (nm j)=B,D.str (nm k)=C at *;simp[G,F,M,Ep]
 ·have aa:1<=Mv (lk L j)/\Mv (lk L j)<=6:=by
   cases e:lk L j with
   |none=>exact⟨by decide,by decide⟩
   |some w=>exact⟨(Ej E e).pos,(Ej E e).le⟩
  have Z:1<=Mv (lk L k)/\Mv (lk L k)<=6:=by
   cases e:lk L k with
   |none=>exact⟨by decide,by decide⟩
   |some w=>exact⟨(Ej E e).pos,(Ej E e).le⟩
  obtain⟨p,ep,Y⟩:∃p:Nat,(y % (Mv (lk L j):Nat):Int)=(p:Int)/\p<Mv (lk L j):=by have a:=dG y (b:=(Mv (lk L j):Nat)) (by omega);have b:=dR y (b:=(Mv (lk L j):Nat)) (by omega);exact⟨(y % (Mv (lk L j):Nat)).toNat,by omega,by omega⟩
  obtain⟨q,eq,X⟩:∃q:Nat,(y / 6 % (Mv (lk L k):Nat):Int)=(q:Int)/\q<Mv (lk L k):=by have a:=dG (y / 6) (b:=(Mv (lk L k):Nat)) (by omega);have b:=dR (y / 6) (b:=(Mv (lk L k):Nat)) (by omega);exact⟨(y / 6 % (Mv (lk L k):Nat)).toNat,by omega,by omega⟩
  have mp:Hc (.int y) (.int (Mv (lk L j):Nat))=some (.int (p:Int)):=by rw[<-ep];exact Lg (by omega)
  have mq:Hc (.int (y / 6)) (.int (Mv (lk L k):Nat))=some (.int (q:Int)):=by rw[<-eq];exact Lg (by omega)
  have d6:Fo (.int y) (.int 6)=some (.int (y / 6)):=K7 (by decide) (by decide);have s:=uO E.ky I (ρ:=[some (.int c),some (sdL L),some Nk,some (.int y),some sJo,some (.lst [.str (nm i),.str (nm j),.str (nm k)]),K,none]) (f:=b2 (gv 5) (kd (.int 1)) ixD) rfl (by rw[J3,oY,Ji,R.ok_bind,R.ok_bind,F];rfl);have u:=uO E.ky Q (ρ:=[some (.int c),some (sdL L),some Nk,some (.int y),some sJo,some (.lst [.str (nm i),.str (nm j),.str (nm k)]),K,none]) (f:=b2 (gv 5) (kd (.int 2)) ixD) rfl (by rw[J3,oY,Ji,R.ok_bind,R.ok_bind,M];rfl);refine⟨.jo i j p k q,⟨J,I,Q,by omega,by omega,λw H=>by rw[H]at Y;exact Y,λw H=>by rw[H]at X;exact X⟩,pre (Ad ((Bm (by kernel_rfl)).trans rfl) (Ad ((Bm (by kernel_rfl)).trans rfl) (Jg ((Fe (by kernel_rfl)).trans (Ad (Ai (d:=.lst [.int (p:Int),.int (q:Int)]) ?_) (Am ?_))))))⟩
  ·rw[Rk,Dp,Dp,J3 (f1:=gv 3),s,J3 (f1:=b2 (gv 3) (kd (.int 6)) Fo),u,aO,R.ok_bind,R.ok_bind,mp,J3,aO,Ji,R.ok_bind,R.ok_bind,d6,R.of_some,R.of_some,R.ok_bind,R.ok_bind,R.ok_bind,mq];rfl
  ·show bA (zv (gv 4) (zv (b2 (gv 5) (kd (.int 0)) ixD) (zv (b2 (gv 5) (kd (.int 1)) ixD) (zv (b2 (gv 7) (kd (.int 0)) ixD) (zv (b2 (gv 5) (kd (.int 2)) ixD) (zv (b2 (gv 7) (kd (.int 1)) ixD) a0)))))) Dk [some (.int c),some (sdL L),some Nk,some (.int y),some sJo,some (.lst [.str (nm i),.str (nm j),.str (nm k)]),K,some (.lst [.int (p:Int),.int (q:Int)])]=R.ok (D.tup [sJo,.str (nm i),.str (nm j),.int (p:Int),.str (nm k),.int (q:Int)]);generalize D.lst [.str (nm i),.str (nm j),.str (nm k)]=P,D.str (nm i)=A,D.str (nm j)=B,D.str (nm k)=C at *;simp[G,F,M,Ep]
def rO:∀i:Nat,i<6->Bj (.str "show ") (.str (nm i))=some (.str (tx (jn 32 [QH,nmc i]))):=λi o=>by
 match i,o with
 |0,_=>kernel_rfl
 |1,_=>kernel_rfl
 |2,_=>kernel_rfl
 |3,_=>kernel_rfl
 |4,_=>kernel_rfl
 |5,_=>kernel_rfl
def wu9{w:Wb}(h:Sm w.1 w.2):eqD (.str (tx (gd w.1 w.2))) (.str (tx (gd w.1 w.2)))=some (.bl true):=by rw[kI (Ox h).1 (Ox h).1,decide_eq_true rfl]
def ww4{w:Wb}(h:Sm w.1 w.2):neD (.str (tx (gd w.1 w.2))) (.str (tx (gd w.1 w.2)))=some (.bl false):=by rw[ww6 (Ox h).1 (Ox h).1,decide_eq_true rfl];rfl
def qJ:∀{L:Std}{x:Nat×Wb},(L.map (·.1)).Nodup->x∈L->lk L x.1=some x.2
 | (j,u)::r,x,z,v=>by
  have o:=VB.mp z;unfold lk;rcases I_.mp v with rfl |v
  ·rw[if_pos rfl]
  ·rw[if_neg (λe=>o.1 (by show j∈_;rw[e];exact xP (f:=(·.1)) v))];exact qJ o.2 v
theorem Yd(o:Dv L):Cr [dkL "Desk" L,sdL L]=.ok (.bl true):=by
 have O:Dc (itQ (gv 1)) 1 [0,1] (gN 0) yes (b2 (cl (mtA (gv 1) (zv (b2 (kd (.str "show ")) (gv 0) Bj) a0)) J9) (cl (zv (b2 (gv 2) (gv 0) Ot) a0) Bl) eqD) [some (dkL "Desk" L),some (sdL L)]=.ok (.lst ((L.map λ_=>true).map .bl)):=by
  refine Fj (ds:=ksD L) ?_ ?_ (by simp;have:=o.len;omega)
  ·unfold itQ;rw[XR,R.ok_bind,O2];rfl
  ·rw[RB];refine G4 (enc:=λx:Nat×Wb=>D.str (nm x.1)) L λx v=>⟨[some (.str (nm x.1)),some (dkL "Desk" L),some (sdL L)],rfl,?_⟩;have z:=o.ky x v;have G:=qJ o.nd v;have C:=T4 (o.wb x v);have I:=tY G7 o z G;have J:=rO x.1 z;have P:=Ri o.ky z G;have H:Bl [wD x.2]=.ok (.str (tx (gd x.2.1 x.2.2))):=m_ C;have M:=wu9 C;have K:Jt (dkL "Desk" L)=some (ksD L,wsD L):=Hu G7 _ _;show _=R.ok (D.bl true);generalize D.str (tx (gd x.2.1 x.2.2))=T,wD x.2=W,D.str (nm x.1)=A,D.str (tx (jn 32 [QH,nmc x.1]))=B,dkL "Desk" L=E,sdL L=F at *;simp[mtA,K,J,I,P,H,M]
 refine Av (Am ?_);show bA (zv (Dc (itQ (gv 1)) 1 [0,1] (gN 0) yes (b2 (cl (mtA (gv 1) (zv (b2 (kd (.str "show ")) (gv 0) Bj) a0)) J9) (cl (zv (b2 (gv 2) (gv 0) Ot) a0) Bl) eqD)) a0) YB [some (dkL "Desk" L),some (sdL L)]=_;rw[Rk,Dp,O];show R.of (YB [.lst ((L.map λ_=>true).map .bl)])=_;rw[tM];congr 2;simp
def kg6(ts:Bs):Bf (ts.map Aj)=true:=by
 induction ts with
 |nil=>rfl
 |cons e r o=>exact(show((Aj e).imm && Bf (r.map Aj))=true by rw[o];rfl)
def Zr(w:Wb):(wD w).imm=true:=by show(true && (Bf (w.2.map Aj) && true))=true;rw[kg6];rfl
def wj6(L:Std):Bf (wsD L)=true:=by
 induction L with
 |nil=>rfl
 |cons x r o=>exact(show((wD x.2).imm && Bf (wsD r))=true by rw[o,Zr];rfl)
def kg1(d:Lq):(Ck d).imm=true:=by
 cases d with
 |web i w=>show(true && (true && ((wD w).imm && true)))=true;rw[Zr];rfl
 |_=>rfl
def uK(x:Due):(Dq x).imm=true:=by
 cases x with
 |ok w=>show(true && ((wD w).imm && true))=true;rw[Zr];rfl
 |_=>rfl
abbrev dks(o:List Std):D:=.lst (o.map (dkL "Desk"))
abbrev sds(o:List Std):D:=.lst (o.map sdL)
def Yv{d:D}(h:f ρ=.ok d)(o:d.imm=true):Wu j f ρ=.ok (.nx (ρ.set j (some d))):=by unfold Wu;rw[h];exact if_pos o
def bU:Ev->R D:=(cl (mtA (b2 (gv 1) (gv 4) ixD) (zv (b2 (kd (.str "show ")) (b2 (gv 5) (kd (.int 1)) ixD) Bj) a0)) J9)
def lwB:Ev->R Fl:=(sq (Wu 4 (b2 (gv 3) (kd (.int 2)) Hc))
 (sq (Wu 5 (cl (zv (gv 3) (zv (b2 (gv 2) (gv 4) ixD) a0)) G5))
 (sq (Wu 6 (cl (zv (gv 5) (zv (b2 (gv 2) (gv 4) ixD) a0)) Dm))
 (sq (bB 7 (cl (zv (b2 (gv 1) (gv 4) ixD) (zv (cl (zv (gv 5) a0) Dn) a0)) Ar) (gv 4) (cl (zv (gv 5) a0) Dn) Gj)
 (ifS (tb (b2 (b2 (gv 6) (kd (.int 0)) ixD) (kd (.str "ok")) eqD)) (sq (cN (gv 4) (b2 (gv 5) (kd (.int 1)) ixD) (b2 (gv 6) (kd (.int 1)) ixD))
 (ifS (tor (tb (b2 (gv 7) (kd (.tup [(.str "ok"),(.str "ok")])) neD)) (tb (b2 bU (cl (zv (b2 (gv 6) (kd (.int 1)) ixD) a0) Bl) neD))) (Ew (kd (.bl false))) nop)) (ifS (tb (b2 (gv 7) (gv 6) neD)) (Ew (kd (.bl false))) nop))))))
def j7{o:Type}{f:o->D}{v:List o}{k:Nat}{L:o}(h:v[k]? = some L):ixD (.lst (v.map f)) (.int (k:Int))=some (f L):=S5 (by rw[QC,h];rfl)
def kd4{d:Lq}(h:Ly L d):ixD (Ck d) (.int 1)=some (.str (nm d.to)):=by cases d<;>exact Ds
def wl3:∀t:Nat,t<10->neD (bQ t) (bQ t)=some (.bl false):=λt o=>by
 match t,o with
 |0,_=>kernel_rfl
 |1,_=>kernel_rfl
 |2,_=>kernel_rfl
 |3,_=>kernel_rfl
 |4,_=>kernel_rfl
 |5,_=>kernel_rfl
 |6,_=>kernel_rfl
 |7,_=>kernel_rfl
 |8,_=>kernel_rfl
 |9,_=>kernel_rfl
def ks2{d:Lq}(h:Ly L d)(e:Ja L d=.tie t):t<10:=by
 have C:∀{f:Wb->Nat->Wb}{s:Nat}{o:Option Wb},s<10->XJ f s o=.tie t->t<10:=λ{f s o} hs e=>by
  cases o with
  |none=>cases e
  |some w =>
   have e:(if s<w.2.length then Due.ok (f w s) else .tie s)=.tie t:=e;by_cases v:s<w.2.length
   ·rw[if_pos v]at e;cases e
   ·rw[if_neg v]at e;cases e;exact hs
 have E:∀{u:Wb},U3 u≠.tie t:=λ{u} e=>by
  unfold U3 at e;by_cases v:6<u.1\/9<u.2.length
  ·rw[if_pos v]at e;cases e
  ·rw[if_neg v]at e;cases e
 have B:∀{f:Wb->Wb->Wb}{o z:Option Wb},WN f o z≠.tie t:=λ{f o z} e=>by
  cases o with
  |none=>cases z<;>cases e
  |some w =>
   cases z with
   |none=>cases e
   |some u=>exact E e
 cases d with
 |web i w=>cases e
 |wo i j s=>exact C h.2.2 e
 |dr i j s=>exact C h.2.2 e
 |be i j k=>exact absurd e B
 |jo i j p k q=>exact absurd e B
theorem kw2{o:List Std}(I:∀L∈o,Dv L)(h2:o.length=2)(c:Int):∃(K:List Std)(p4 p5 p6 p7:Option D),(∀L∈K,Dv L)/\K.length=2 /\
  lwB [o0,some (dks o),some (sds o),some (.int c),o4,o5,o6,o7]=.ok (.nx [o0,some (dks K),some (sds K),some (.int c),p4,p5,p6,p7]):=by
 obtain⟨k,ek,hk⟩:∃k:Nat,(c % 2:Int)=(k:Int)/\k<2:=⟨(c % 2).toNat,by omega,by omega⟩;have m2:Hc (.int c) (.int 2)=some (.int (k:Int)):=by rw[<-ek];exact Lg (by decide)
 obtain⟨L,H⟩:∃L,o[k]? = some L:=⟨_,MJ (by omega)⟩;have T:=I L (ZZ H);have⟨d,Q,ed⟩:=kh9 T c;have du:=kv2 T Q;have ro:=kw0 Q;have O:=jw2 T Q;have U:ixD (sds o) (.int (k:Int))=some (sdL L):=j7 (f:=sdL) H;have aa:ixD (dks o) (.int (k:Int))=some (dkL "Desk" L):=j7 (f:=dkL "Desk") H;have a4:Wu 4 (b2 (gv 3) (kd (.int 2)) Hc) [o0,some (dks o),some (sds o),some (.int c),o4,o5,o6,o7]=.ok (.nx [o0,some (dks o),some (sds o),some (.int c),some (.int (k:Int)),o5,o6,o7]):=Yv (d:=.int (k:Int)) (by simp[m2]) rfl;have a5:Wu 5 (cl (zv (gv 3) (zv (b2 (gv 2) (gv 4) ixD) a0)) G5) [o0,some (dks o),some (sds o),some (.int c),some (.int (k:Int)),o5,o6,o7]=.ok (.nx [o0,some (dks o),some (sds o),some (.int c),some (.int (k:Int)),some (Ck d),o6,o7]):=
  Yv (d:=Ck d) (by
   generalize sds o=S,Ck d=E,sdL L=F at *;simp[U,ed]) (kg1 d)
 have a6:Wu 6 (cl (zv (gv 5) (zv (b2 (gv 2) (gv 4) ixD) a0)) Dm) [o0,some (dks o),some (sds o),some (.int c),some (.int (k:Int)),some (Ck d),o6,o7]=.ok (.nx [o0,some (dks o),some (sds o),some (.int c),some (.int (k:Int)),some (Ck d),some (Dq (Ja L d)),o7]):=
  Yv (d:=Dq (Ja L d)) (by
   generalize sds o=S,Ck d=E,sdL L=F,Dq (Ja L d)=G at *;simp[U,du]) (uK _)
 have P:cl (zv (gv 5) a0) Dn [o0,some (dks o),some (sds o),some (.int c),some (.int (k:Int)),some (Ck d),some (Dq (Ja L d)),o7]=.ok (.str (tx (Ud d))):=by generalize Ck d=E,D.str (tx (Ud d))=G at *;simp[ro]
 have ca:cl (zv (b2 (gv 1) (gv 4) ixD) (zv (cl (zv (gv 5) a0) Dn) a0)) Ar [o0,some (dks o),some (sds o),some (.int c),some (.int (k:Int)),some (Ck d),some (Dq (Ja L d)),o7]=(Ar [dkL "Desk" L,.str (tx (Ud d))]).nox:=by rw[ZJ,Dp,Dp,P,J3];generalize dks o=S,D.str (tx (Ud d))=G at *;simp[aa]
 have pre:∀{r:R Fl},(sq (bB 7 (cl (zv (b2 (gv 1) (gv 4) ixD) (zv (cl (zv (gv 5) a0) Dn) a0)) Ar) (gv 4) (cl (zv (gv 5) a0) Dn) Gj)
   (ifS (tb (b2 (b2 (gv 6) (kd (.int 0)) ixD) (kd (.str "ok")) eqD)) (sq (cN (gv 4) (b2 (gv 5) (kd (.int 1)) ixD) (b2 (gv 6) (kd (.int 1)) ixD))
   (ifS (tor (tb (b2 (gv 7) (kd (.tup [(.str "ok"),(.str "ok")])) neD)) (tb (b2 bU (cl (zv (b2 (gv 6) (kd (.int 1)) ixD) a0) Bl) neD))) (Ew (kd (.bl false))) nop)) (ifS (tb (b2 (gv 7) (gv 6) neD)) (Ew (kd (.bl false))) nop))) [o0,some (dks o),some (sds o),some (.int c),some (.int (k:Int)),some (Ck d),some (Dq (Ja L d)),o7]=r ->
   lwB [o0,some (dks o),some (sds o),some (.int c),o4,o5,o6,o7]=r:=λh=>Ad a4 (Ad a5 (Ad a6 h))
 have err:∀{x:Due},Ja L d=x->(∀w,x≠.ok w)->Ar [dkL "Desk" L,.str (tx (Ud d))]=.ok (Dq x)->neD (Dq x) (Dq x)=some (.bl false)->tb (b2 (b2 (gv 6) (kd (.int 0)) ixD) (kd (.str "ok")) eqD) [o0,some (dks o),some (sds o),some (.int c),some (.int (k:Int)),some (Ck d),some (Dq x),some (Dq x)]=.ok false ->
   lwB [o0,some (dks o),some (sds o),some (.int c),o4,o5,o6,o7]=.ok (.nx [o0,some (dks o),some (sds o),some (.int c),some (.int (k:Int)),some (Ck d),some (Dq x),some (Dq x)]):=by
  intro x ex hx ea en et;subst ex;refine pre (Ad (ρ1:=[o0,some (dks o),some (sds o),some (.int c),some (.int (k:Int)),some (Ck d),some (Dq (Ja L d)),some (Dq (Ja L d))]) ?_ ((Bm et).trans ((Bm ?_).trans rfl)))
  ·unfold bB;rw[ca,ea];exact if_pos (uK _)
  ·generalize Dq (Ja L d)=G at *;simp[en]
 cases v:Ja L d with
 |name=>rw[v]at O;exact⟨o,_,_,_,_,I,h2,err v (λw z=>by cases z) O (by kernel_rfl) (by kernel_rfl)⟩
 |great=>rw[v]at O;exact⟨o,_,_,_,_,I,h2,err v (λw z=>by cases z) O (by kernel_rfl) (by kernel_rfl)⟩
 |tie t=>rw[v]at O;exact⟨o,_,_,_,_,I,h2,err v (λw z=>by cases z) O (wl3 t (ks2 Q v)) (by kernel_rfl)⟩
 |ok w =>
  rw[v]at O pre ca P;obtain⟨sb,sw⟩:=O;have hw:=wh0 T Q v;have J:=Lq.to_lt Q;have Z:=T.pt (i:=d.to) J hw;have ab:k<o.length:=by omega
  have wr:=wr2 (m:=Gj) (ks:=ksD L) (ws:=wsD L) (row:=.str (tx (Ud d))) (ks':=ksD (pt L d.to w)) (ws':=wsD (pt L d.to w)) sw;refine⟨o.set k (pt L d.to w),some (.int (k:Int)),some (Ck d),some (Dq (.ok w)),some (.tup [.str "ok",.str "ok"]),λM hM=>?_,by rw[RX];exact h2,?_⟩
  ·rcases List.mem_or_eq_of_mem_set hM with z |z
   ·exact I M z
   ·rw[z];exact Z
  ·have ag:dks (o.set k (pt L d.to w))=.lst ((o.map (dkL "Desk")).set k (dkL "Desk" (pt L d.to w))):=by unfold dks;rw[List.map_set]
   have af:sds (o.set k (pt L d.to w))=.lst ((o.map sdL).set k (sdL (pt L d.to w))):=by unfold sds;rw[List.map_set]
   have Y:(o.set k (pt L d.to w))[k]? = some (pt L d.to w):=QD ab;have X:ixD (dks (o.set k (pt L d.to w))) (.int (k:Int))=some (dkL "Desk" (pt L d.to w)):=j7 (f:=dkL "Desk") Y;have o1:=kd4 Q;have u1:ixD (Dq (.ok w)) (.int 1)=some (wD w):=Ds;have te:Bl [wD w]=.ok (.str (tx (gd w.1 w.2))):=m_ (T4 hw);have ss:=tY G7 Z J (qI (L:=L) (i:=d.to) (w:=w));have sa:=rO d.to J;have ng:=ww4 (T4 hw);have ae:Jt (dkL "Desk" (pt L d.to w))=some (ksD (pt L d.to w),wsD (pt L d.to w)):=Hu G7 _ _;refine pre (Ad (ρ1:=[o0,some (dks (o.set k (pt L d.to w))),some (sds o),some (.int c),some (.int (k:Int)),some (Ck d),some (Dq (.ok w)),some (.tup [.str "ok",.str "ok"])]) ?_ ((Fe (by kernel_rfl)).trans (Ad (ρ1:=[o0,some (dks (o.set k (pt L d.to w))),some (sds (o.set k (pt L d.to w))),some (.int c),some (.int (k:Int)),some (Ck d),some (Dq (.ok w)),some (.tup [.str "ok",.str "ok"])]) ?_ ((Bm ?_).trans rfl))))
   ·unfold bB;rw[ca,sb];have hq:(o.map (dkL "Desk"))[k]? = some (dkL "Desk" L):=by rw[QC,H];rfl
    rw[ag,P];show(match (o.map (dkL "Desk"))[k]? with
      |some (.exc _ ks ws)=>match wrM Gj ks ws (.str (tx (Ud d))) with
       | .ok r=>if Bf r.2=true then R.ok (Fl.nx [o0,some (.lst ((o.map (dkL "Desk")).set k (.exc "Desk" r.1 r.2))),some (sds o),some (.int c),some (.int (k:Int)),some (Ck d),some (Dq (.ok w)),some (.tup [.str "ok",.str "ok"])]) else .bad
       |_=>.bad
      |_=>.bad)=_
    rw[hq];show(match wrM Gj (ksD L) (wsD L) (.str (tx (Ud d))) with
       | .ok r=>if Bf r.2=true then R.ok (Fl.nx [o0,some (.lst ((o.map (dkL "Desk")).set k (.exc "Desk" r.1 r.2))),some (sds o),some (.int c),some (.int (k:Int)),some (Ck d),some (Dq (.ok w)),some (.tup [.str "ok",.str "ok"])]) else .bad
       |_=>.bad)=_
    rw[wr];exact if_pos (wj6 _)
   ·have v1:b2 (gv 6) (kd (.int 1)) ixD [o0,some (dks (o.set k (pt L d.to w))),some (sds o),some (.int c),some (.int (k:Int)),some (Ck d),some (Dq (.ok w)),some (.tup [.str "ok",.str "ok"])]=.ok (wD w):=by generalize Dq (.ok w)=G at *;simp[u1]
    have v2:b2 (gv 5) (kd (.int 1)) ixD [o0,some (dks (o.set k (pt L d.to w))),some (sds o),some (.int c),some (.int (k:Int)),some (Ck d),some (Dq (.ok w)),some (.tup [.str "ok",.str "ok"])]=.ok (.str (nm d.to)):=by generalize Ck d=G at *;simp[o1]
    have hq:(o.map sdL)[k]? = some (sdL L):=by rw[QC,H];rfl
    have pp:=Za w T.ky J;unfold cN;rw[v1,v2,af];show(match (o.map sdL)[k]?,kyO (.str (nm d.to)) with
      |some (.exc c' ks fs),some key=>if(wD w).imm=true/\ks.length<16777216 then R.ok (Fl.nx [o0,some (dks (o.set k (pt L d.to w))),some (.lst ((o.map sdL).set k (.exc "dictK" (Cu ks fs key (wD w)).1 (Cu ks fs key (wD w)).2))),some (.int c),some (.int (k:Int)),some (Ck d),some (Dq (.ok w)),some (.tup [.str "ok",.str "ok"])]) else .bad
      |_,_=>.bad)=_
    rw[hq];show(if(wD w).imm=true/\(ksD L).length<16777216 then R.ok (Fl.nx [o0,some (dks (o.set k (pt L d.to w))),some (.lst ((o.map sdL).set k (.exc "dictK" (Cu (ksD L) (wsD L) (.inr (nm d.to)) (wD w)).1 (Cu (ksD L) (wsD L) (.inr (nm d.to)) (wD w)).2))),some (.int c),some (.int (k:Int)),some (Ck d),some (Dq (.ok w)),some (.tup [.str "ok",.str "ok"])]) else .bad)=_;rw[if_pos ⟨Zr w,by rw[sU];have:=T.len;omega⟩,pp];rfl
   ·have n1:neD (.tup [.str "ok",.str "ok"]) (.tup [.str "ok",.str "ok"])=some (.bl false):=by kernel_rfl
    have sf:bU [o0,some (dks (o.set k (pt L d.to w))),some (sds (o.set k (pt L d.to w))),some (.int c),some (.int (k:Int)),some (Ck d),some (Dq (.ok w)),some (.tup [.str "ok",.str "ok"])]=.ok (.str (tx (gd w.1 w.2))):=by unfold bU;generalize dks (o.set k (pt L d.to w))=A,dkL "Desk" (pt L d.to w)=B,Ck d=C,D.str (nm d.to)=E,D.str (tx (jn 32 [QH,nmc d.to]))=F,D.str (tx (gd w.1 w.2))=G at *;simp[mtA,X,ae,o1,sa,ss]
    have tf:cl (zv (b2 (gv 6) (kd (.int 1)) ixD) a0) Bl [o0,some (dks (o.set k (pt L d.to w))),some (sds (o.set k (pt L d.to w))),some (.int c),some (.int (k:Int)),some (Ck d),some (Dq (.ok w)),some (.tup [.str "ok",.str "ok"])]=.ok (.str (tx (gd w.1 w.2))):=by generalize Dq (.ok w)=A,wD w=B,D.str (tx (gd w.1 w.2))=G at *;simp[u1,te]
    rw[wu7,Vb,Vb,J3 (f1:=bU),sf,tf];generalize D.str (tx (gd w.1 w.2))=G,D.tup [D.str (PySem.Str.ofString "ok"),D.str (PySem.Str.ofString "ok")]=F at *;simp[n1,ng]
def X6:∀o:List Int,Ln (o.map .int)=true
 | []=>by simp[Ln]
 |n::o=>by rw[KH,Ln,X6 o];rfl
def kd3(o:List Int)(v z:Option Int):∃B:List Int,slL (.lst (o.map .int)) v z=some (.lst (B.map .int)):=by refine⟨(o.drop (HT.sIx (o.map D.int).length 0 v)).take (HT.sIx (o.map D.int).length (o.map D.int).length z - HT.sIx (o.map D.int).length 0 v),?_⟩;rw[nP,nO];rfl
theorem law_true(F:List Int)(hn:F.length<=63):d_law [.lst (F.map .int)]=.ok (.bl true):=by
 have⟨M,Q⟩:=kd3 F none (some 63);have nS:Vu (.lst (F.map .int))=true:=X6 F;generalize D.lst (F.map .int)=C at *;have s0:∀L∈[([]:Std),[]],Dv L:=λL hL=>by
  have:L=[]:=by simpa using hL
  rw[this];exact⟨λx G=>(by cases G),λx G=>(by cases G),dC⟩
 have⟨ae,el,T⟩:=Mt (g:=Yn 3) (b:=lwB) (I:=λ_ ρ=>∃(E:List Std)(o3 o4 o5 o6 o7:Option D),(∀L∈E,Dv L)/\E.length=2/\ρ=[some C,some (dks E),some (sds E),o3,o4,o5,o6,o7])
  (M.map .int) 0 [some C,some (dks [[],[]]),some (sds [[],[]]),none,none,none,none,none] ⟨[[],[]],none,none,none,none,none,s0,rfl,rfl⟩ (λi d ρ H T=>by
   rw[QC]at H;cases ec:M[i]? with
   |none=>rw[ec]at H;cases H
   |some c =>
    rw[ec]at H;cases H;obtain⟨E,o3,o4,o5,o6,o7,K,U,rfl⟩:=T;have⟨ab,p4,p5,p6,p7,s,u,e⟩:=kw2 K U c (o0:=some C) (o4:=o4) (o5:=o5) (o6:=o6) (o7:=o7);exact⟨_,_,rfl,.inl e,ab,_,_,_,_,_,s,u,rfl⟩)
 obtain⟨E,o3,o4,o5,o6,o7,K,U,rfl⟩:=T;obtain⟨z,v,rfl⟩:∃z v,E=[z,v]:=by
  match E,U with
  | [a,b],_=>exact⟨a,b,rfl⟩
 have P:=Yd (K z (by simp));have O:=Yd (K v (by simp));have J:(M.map D.int).all fM=true:=by rw[SN];intro x G;obtain⟨c,_,rfl⟩:=TX.mp G;rfl
 have fo:aP 3 (bS (gv 0) p0 (p1 (kd (.int 63))) slL) lwB [some C,some (dks [[],[]]),some (sds [[],[]]),none,none,none,none,none]=.ok (.nx [some C,some (dks [z,v]),some (sds [z,v]),o3,o4,o5,o6,o7]):=by
  have e:bS (gv 0) p0 (p1 (kd (.int 63))) slL [some C,some (dks [[],[]]),some (sds [[],[]]),none,none,none,none,none]=.ok (.lst (M.map .int)):=by simp[Q]
  unfold aP;rw[e];show(if _ then _ else _)=_;rw[if_pos J];exact el
 have re:Ew (va (cl (zv (b2 (gv 1) (kd (.int 0)) ixD) (zv (b2 (gv 2) (kd (.int 0)) ixD) a0)) Cr) (cl (zv (b2 (gv 1) (kd (.int 1)) ixD) (zv (b2 (gv 2) (kd (.int 1)) ixD) a0)) Cr)) [some C,some (dks [z,v]),some (sds [z,v]),o3,o4,o5,o6,o7]=.ok (.rt (.bl true)):=by refine Am ?_;have aa:ixD (dks [z,v]) (.int 0)=some (dkL "Desk" z):=Ro;have Z:ixD (dks [z,v]) (.int 1)=some (dkL "Desk" v):=mH;have Y:ixD (sds [z,v]) (.int 0)=some (sdL z):=Ro;have X:ixD (sds [z,v]) (.int 1)=some (sdL v):=mH;generalize dks [z,v]=A,sds [z,v]=B,dkL "Desk" z=A0,dkL "Desk" v=A1,sdL z=B0,sdL v=B1 at *;simp[aa,Z,Y,X,P,O]
 refine Av ?_;show(if 2<(Aa 8 [C]).length/\((Ks (Aa 8 [C])).all λo=>o.elim true Vu)=true then _ else _)=_;rw[if_pos ⟨show 2<8 by decide,by show(Vu C && _)=true;rw[nS];rfl⟩];have:(sq (aP 3 (bS (gv 0) p0 (p1 (kd (.int 63))) slL) lwB) (Ew (va (cl (zv (b2 (gv 1) (kd (.int 0)) ixD) (zv (b2 (gv 2) (kd (.int 0)) ixD) a0)) Cr) (cl (zv (b2 (gv 1) (kd (.int 1)) ixD) (zv (b2 (gv 2) (kd (.int 1)) ixD) a0)) Cr)))) [some C,some (dks [[],[]]),some (sds [[],[]]),none,none,none,none,none]=.ok (.rt (.bl true)):=Ad fo re;show(match (sq (aP 3 (bS (gv 0) p0 (p1 (kd (.int 63))) slL) lwB) (Ew (va (cl (zv (b2 (gv 1) (kd (.int 0)) ixD) (zv (b2 (gv 2) (kd (.int 0)) ixD) a0)) Cr) (cl (zv (b2 (gv 1) (kd (.int 1)) ixD) (zv (b2 (gv 2) (kd (.int 1)) ixD) a0)) Cr)))) [some C,some (dks [[],[]]),some (sds [[],[]]),none,none,none,none,none] with
  | .ok (.rt d)=>R.ok (Fl.rt d)
  |_=>.bad)=_
 rw[this]
end Law
noncomputable def PySem.W.Fast.tw18389256864066923925 : PySem.Program := PySem.Challenge.pw_tietable_k81_webs_kept_by_a_desk
theorem PySem.W.Fast.te18389256864066923925 : PySem.Challenge.pw_tietable_k81_webs_kept_by_a_desk = PySem.W.Fast.tw18389256864066923925 := rfl
namespace PySem.W.Fast
def tw10151239561865377589:=0
def tw578339984508492909:=0
def tw11610597764506453764:=0
def tw3026147034215767439:=0
def tw8314090227980438325:=0
def tw10405614774648966964:=0
def tw8823496577535956741:=0
def tw6276962861662816706:=0
def tw17362635588834254258:=0
def tw3294408707164440218:=0
def tw12129659703585490399:=0
def tw10355981327259082128:=0
def tw17557816615179527977:=0
def tw6950816270663650751:=0
def tw683302876185863039:=0
def tw2509038277134991340:=0
def tw12935405096557849102:=0
def tw15299435702702618357:=0
def tw17322735258794364382:=0
def tw5600753955739290339:=0
def tw10448948860841624277:=0
def tw14171002376678818239:=0
def tw16309734999367024976:=0
def tw2004642458862233604:=0
def tw9405915822536206282:=0
def tw904619192279705783:=0
def tw680218203361956248:=0
def tw15923891735254978860:=0
def tw15528146582798421622:=0
def tw15439786441212161807:=0
def tw3485635441309783791:=0
def tw16428482673255929595:=0
def tw854238749517057200:=0
def tw2761836221846692596:=0
def tw17933724892991506897:=0
def tw2434761208238120459:=0
def tw4388277938166946334:=0
def tw10741803961093405719:=0
def tw7385579014813063078:=0
def tw14464332328882605332:=0
def tw12534759358498650465:=0
def tw5641753254155240615:=0
def tw9181548435170164197:=0
def tw18269034842606187092:=0
def tw157289067318078991:=0
def tw9193320051140927145:=0
def tw14942863705239073410:=0
def tw5651301242169809684:=0
def tw13582929645208898181:=0
def tw3619416366395327149:=0
def tw3126696274540524381:=0
def tw15794294826416534234:=0
def tw634764311179783942:=0
def tw5185461578629642942:=0
def tw10498660457865975052:=0
def tw1662817668109281388:=0
def tw551687163952170350:=0
def tw1720992994475066218:=0
def tw10831434934224994645:=0
def tw8167707715041151373:=0
def tw15391581264125786635:=0
def tw13189334634994580437:=0
def tw2449281504541118524:=0
def tw1360257325255758148:=0
def tw9400337577764149466:=0
def tw1902028324468847502:=0
def tw1004324226797185461:=0
def tw564019417387541840:=0
def tw15696833897192582240:=0
def tw3011794175370643571:=0
def tw2045389981961788426:=0
def tw11122503439738570629:=0
def tw15714290059705282786:=0
def tw13802047049175345899:=0
def tw6150049430484623004:=0
def tw11305170151487167020:=0
def tw10823294705698940606:=0
def tw4638035322142584458:=0
def tw13194960057733861672:=0
def tw14863861061741261177:=0
def tw13910627177666472025:=0
def tw13229228411002955703:=0
def tw13748590238252591407:=0
def tw12915262779921641728:=0
def tw9784638556404750133:=0
def tw12145806117559704722:=0
def tw1039732632898191537:=0
def tw13691388184262849259:=0
def tw6946120836489189633:=0
def tw12988082180652994238:=0
def tw3596016592432591094:=0
def tw2760544275255432911:=0
def tw3611857974524596435:=0
def tw5244009501771308670:=0
def tw3232088909314360416:=0
def tw4910351448290075078:=0
def tw18166317776113673685:=0
def tw12928582267264832149:=0
def tw12460837354988427838:=0
def tw154211397879132886:=0
def tw17762336390154759629:=0
def tw11747566271031070854:=0
def tw2952055131043814828:=0
def tw9985463657884899105:=0
def tw7578984457793745026:=0
def tw6195866457571434090:=0
def tw12222128126195711658:=0
def tw7476322559598726525:=0
def tw2163806044026224807:=0
def tw15740687339525708457:=0
def tw3477847609374842035:=0
def tw2213845404183554350:=0
def tw5088264680541203005:=0
def tw3272297809004197650:=0
def tw9377421034764172037:=0
def tw10926626669466933678:=0
def tw8774710836671319936:=0
def tw2573105990370772374:=0
def tw1363757400593965561:=0
def tw16138519600175781545:=0
def tw5690326805139334803:=0
def tw3377045869188213955:=0
def tw16374611165951232966:=0
def tw421267249802791349:=0
def tw6933392129675507113:=0
def tw2347792410426108168:=0
def tw1012883206158414809:=0
def tw7707278143992851893:=0
def tw16612461583104290670:=0
def tw6430883568378165762:=0
def tw15407686975602824130:=0
def tw10249283255791154007:=0
def tw8236163053569083377:=0
def tw9040886053427463584:=0
def tw10022506234059832478:=0
def tw14484710029666457850:=0
def tw12079934210129557287:=0
def tw10823056624516966360:=0
def tw15891015136440818345:=0
def tw9115803765120000588:=0
def tw11969690519909946628:=0
def tw2579607176582088137:=0
def tw8945012154732585335:=0
def tw13029615920446336752:=0
def tw1871814866084532512:=0
def tw7176419945260062434:=0
def tw541885696338822698:=0
def tw11007930664370657197:=0
def tw4491103151924837868:=0
def tw8139545413662218707:=0
def tw2009354988090264605:=0
def tw9350364968771084431:=0
def tw14290113864987123941:=0
def tw14864023723199718092:=0
def tw13314303062452632798:=0
def tw5828547380268040880:=0
def tw13947667976705717391:=0
def tw8351509187815683553:=0
def tw4800923192661619052:=0
def tw16483649367302535087:=0
def tw9526598985434148360:=0
def tw11851256112390971623:=0
def tw33333448628321878:=0
def tw17082851854803505806:=0
def tw2471720569807306748:=0
def tw12785123145349217872:=0
def tw4898761182715295469:=0
def tw8996932296270334192:=0
def tw8687553259641265417:=0
def tw7094343519113197883:=0
def tw8210001911432289484:=0
def tw13439874882573440158:=0
def tw13203613747316986492:=0
def tw17187059202793588377:=0
def tw15507252615888907296:=0
def tw4635439031316859035:=0
def tw617118191766218335:=0
def tw14305044436478563997:=0
def tw14555570997033475985:=0
def tw7460197537446897390:=0
def tw2955280898483434112:=0
def tw5796108696167961686:=0
def tw7413727073915940786:=0
def tw17200061449559654519:=0
def tw3984037467322115621:=0
def tw17617460744734093084:=0
def tw2617279269076799446:=0
def tw6425325167632510380:=0
def tw12113071806031194807:=0
def tw5771500769897950744:=0
def tw9778025745621298376:=0
def tw5016077746979562562:=0
def tw4450947495612554622:=0
def tw10830469718363325910:=0
def tw9661460282893523932:=0
def tw4573416975226892402:=0
def tw13459434623046042217:=0
def tw17099457887275837111:=0
def tw15172735617969837000:=0
def tw3521302412290363794:=0
def tw12859543551386030698:=0
def tw1680217095570958230:=0
def tw8892250400821821662:=0
def tw17167812941012718537:=0
def tw17427542372141626037:=0
def tw12871178883596577621:=0
def tw3640942497824552355:=0
def tw8071772119380464133:=0
def tw7367607540093526958:=0
def tw2466375302185157817:=0
def tw8136750455030144423:=0
def tw17139783137907820259:=0
def tw13616722061600281342:=0
def tw13843709461278640551:=0
def tw12285531455550161085:=0
def tw11705643700667295065:=0
def tw523366680754159819:=0
def tw6149053929220670507:=0
def tw14012839483632633880:=0
def tw4063839192568545103:=0
def tw5577254587747926547:=0
def tw10367800884746521561:=0
def tw7147124722116511145:=0
def tw11783649817614546163:=0
def tw18047474796637913635:=0
def tw10211574915928668430:=0
def tw14376985648114847212:=0
def tw4356371140370179861:=0
def tw12095041545684930172:=0
def tw17088505676414459427:=0
def tw1441749953956761383:=0
def tw17425708177473961355:=0
def tw8163443287269007818:=0
def tw13321422025224979765:=0
def tw10981088932118051703:=0
def tw15053763036060830127:=0
def tw7387501012236851430:=0
def tw15316922147459698846:=0
def tw15061227706290106446:=0
def tw2573345668931215770:=0
def tw6089032854233740063:=0
def tw7146867417370333550:=0
def tw13173778496909208867:=0
def tw15721352882141055482:=0
def tw16838960301740223504:=0
def tw4696844093125935037:=0
def tw1518599730513320829:=0
def tw12736996803960746926:=0
def tw14260316457075152367:=0
def tw6320789004282661363:=0
def tw11640646552266549739:=0
def tw1921276750916341018:=0
def tw5597450639501620011:=0
def tw12681447882725609927:=0
def tw8287010013958386222:=0
def tw2386394858840966191:=0
def tw5205016558169394711:=0
def tw7242401898410659324:=0
def tw12417660054667336030:=0
def tw4303521347910331930:=0
def tw14476653243405795353:=0
def tw2169724945249480640:=0
def tw9160307871239649509:=0
def tw7980120849763351464:=0
def tw10279867786435159418:=0
def tw13491753274135836098:=0
def tw4157051092257468583:=0
def tw17464745574375070759:=0
def tw18080883146766218166:=0
def tw2415878074995368453:=0
def tw2078082701555423773:=0
def tw16655417538109236078:=0
def tw14332000490445681981:=0
def tw16749519548214416928:=0
def tw16050900748482570073:=0
def tw13691347612425534041:=0
def tw7740808506227709994:=0
def tw2166507833607081734:=0
def tw16867314509051812614:=0
def tw12283786356460091640:=0
def tw3485093726664728660:=0
def tw16275352035970178550:=0
def tw10987033374262169955:=0
def tw10543014009086577815:=0
def tw15059963326324224691:=0
def tw15020181569875603765:=0
def tw14448373800075353665:=0
def tw11846224436011641058:=0
def tw8940005143701039205:=0
def tw7878822676917071784:=0
def tw17551374588102781418:=0
def tw13148524433960454208:=0
def tw15383078479361973653:=0
def tw6208231679609722270:=0
def tw17386151011476248381:=0
def tw13401867316776245417:=0
def tw6825790529846919728:=0
def tw6137409348807926548:=0
def tw13018574927185450359:=0
def tw15237197276373360203:=0
def tw7153253197606285766:=0
def tw12437448649041986920:=0
def tw14993211993197574071:=0
def tw17690110159249390568:=0
def tw8560828506081225637:=0
def tw1407432474833582735:=0
def tw1416545070000913166:=0
def tw11836436346412059582:=0
def tw12394030325603937156:=0
def tw7470531292085058317:=0
def tw5558955821909031422:=0
def tw6150662762424479081:=0
def tw12594797717946445765:=0
def tw16905890376927584008:=0
def tw17262878741435235892:=0
def tw18299202272437771047:=0
def tw6410622542183353376:=0
def tw4013299602083779046:=0
def tw14782000291459995055:=0
def tw9088002123614147187:=0
def tw15083029742672420795:=0
def tw1993182669408863352:=0
def tw13747695142952858789:=0
def tw8948282551272363888:=0
def tw16133857723392484167:=0
def tw1180536673734005582:=0
def tw13898314296107226426:=0
def tw2147138806863741904:=0
def tw12144693002242251591:=0
def tw8487198555212433431:=0
def tw11859592090580429002:=0
def tw9653364434797366954:=0
def tw5860200105507496283:=0
def tw18446128600489841534:=0
def tw9615746287219666789:=0
def tw10941130815409290435:=0
def tw10508474650059282861:=0
def tw218348031288109602:=0
def tw4670093513511693811:=0
def tw10787877086462545016:=0
def tw10204005395110745628:=0
def tw17315524142225437638:=0
def tw10558665947106547770:=0
def tw16152580205702855284:=0
def tw1519925101158616299:=0
def tw2849528344048657058:=0
def tw9254528473184442263:=0
def tw1157825068162700960:=0
def tw11125774001390923469:=0
def tw7131093033157553026:=0
def tw18336036332087744905:=0
def tw3374577852129552184:=0
def tw16277051795200727778:=0
def tw13542015439088650678:=0
def tw502438259632015567:=0
def tw4511305817190159877:=0
def tw9682541799065157715:=0
def tw17656051864926095115:=0
def tw5797446523698638650:=0
def tw16546460605215543224:=0
def tw15824112545899385592:=0
def tw8748553793293143217:=0
def tw3712943046336650888:=0
def tw14443955378711160807:=0
def tw16969467284758278993:=0
def tw8462228547564499113:=0
def tw12507255156156728291:=0
def tw12550845455943640224:=0
def tw5128685370847485984:=0
def tw4106713758504682242:=0
def tw12287978973052415209:=0
def tw4044373515801243794:=0
def tw6042436036911135238:=0
def tw10020811861703024818:=0
def tw16190103446830219672:=0
def tw16194183302380093849:=0
def tw15304334088438476910:=0
def tw17988477297016892486:=0
def tw14327364402525904458:=0
def tw1641467821861710428:=0
def tw10756370022179871674:=0
def tw11535108149988667956:=0
def tw2370325570769954565:=0
def tw17560641726923723355:=0
def tw1274258378641791299:=0
def tw5168961648354495835:=0
def tw5232941907880968935:=0
def tw18307562051351946457:=0
def tw5522071872122544418:=0
def tw14956715022209937991:=0
def tw5598324281382807874:=0
def tw17769707351058874476:=0
def tw11750871373063080351:=0
def tw12611782306773551196:=0
def tw3383878371908239663:=0
def tw12729586941921237989:=0
def tw5968219878521329521:=0
def tw3948238594205344422:=0
def tw14898878674334112343:=0
def tw5770819731152118570:=0
def tw17159517744210177239:=0
def tw15346588592496335632:=0
def tw3047347803689652529:=0
def tw7026082367925266112:=0
def tw8974834009037954377:=0
def tw6068941621247661652:=0
def tw8821168365446010915:=0
def tw7522310916405825482:=0
def tw6043682497897414592:=0
def tw5066171917011108816:=0
def tw12489618045485580590:=0
def tw9042065963150820964:=0
def tw12258952977943580600:=0
def tw8692984666236848:=0
def tw5052741673171339786:=0
def tw5374404988317252706:=0
def tw6117290746729495854:=0
def tw11257337266541757437:=0
def tw4573568314408354475:=0
def tw5481612107787504028:=0
def tw8564628414484153173:=0
def tw12894350305858073803:=0
def tw10562715356163094256:=0
def tw4416923215502588585:=0
def tw7184276377098743236:=0
def tw1833212624425352691:=0
def tw1942740943751032384:=0
def tw7322565401616109151:=0
def tw265993103582830085:=0
def tw4462301426525906869:=0
def tw16623008736410568108:=0
def tw18428406475692046824:=0
def tw3194318787145030425:=0
def tw2396522122544081216:=0
def tw2404776253634725304:=0
def tw2884643026858797032:=0
def tw12299680952813311665:=0
def tw13517393357874916852:=0
def tw7503716255509873718:=0
def tw896655612252403632:=0
def tw2598980455532346243:=0
def tw6070423780504462651:=0
def tw9439174671871895954:=0
def tw13965052164136830401:=0
def tw16104146273045083925:=0
def tw15424512662408709593:=0
def tw11143745038922929204:=0
def tw8945177571979604992:=0
def tw14704054250787156881:=0
def tw12398875399536471572:=0
def tw14296968125221883890:=0
def tw2819388866922121250:=0
def tw14453784131663215007:=0
def tw11129385735915028233:=0
def tw13403946194498223433:=0
def tw9407751586624081213:=0
def tw17130392895199524568:=0
def tw9702523236367727995:=0
def tw11884349101720580034:=0
def tw9310908013424843993:=0
def tw8371752062424848906:=0
def tw17670819101279167842:=0
def tw17930752792793353717:=0
def tw2976352663869736873:=0
def tw11902797601438502921:=0
def tw3442662950100041710:=0
def tw15865521963108087413:=0
def tw4781557927767864693:=0
def tw9441876663863674316:=0
def tw3565640701069564881:=0
def tw16333358103116024625:=0
def tw10398669744853378267:=0
def tw1654638993021709243:=0
def tw5374265490084506385:=0
def tw15230195933128067579:=0
def tw10157088901940261978:=0
def tw16318442748294561537:=0
def tw13097406828493061187:=0
def tw2723200158112439680:=0
def tw9958801119295795509:=0
def tw15098760719280001859:=0
def tw3711415433889965057:=0
def tw7456125908432632193:=0
def tw15195928774826122121:=0
def tw8226794407562264798:=0
def tw11320425278054674073:=0
def tw197903058384795885:=0
def tw16548896542830166475:=0
def tw6980936534282635445:=0
def tw15364593165243012796:=0
def tw5237263224490017411:=0
def tw4369933485963070141:=0
def tw3805362272263515705:=0
def tw15275615779465529675:=0
def tw12538602055482450948:=0
def tw17056316414574096147:=0
def tw4882263742017531358:=0
def tw11840297072612832780:=0
def tw7007984148725390762:=0
def tw16810628352684251936:=0
def tw17413393251261705326:=0
def tw11386709447947951143:=0
def tw6867301976602952322:=0
def tw12590835125914937304:=0
def tw1108209977817688460:=0
def tw10274066547987306808:=0
def tw16385046494356154511:=0
def tw13028190369933281907:=0
def tw8400071752902062656:=0
def tw5575392887733500000:=0
def tw15491511319592389150:=0
def tw8335761704426142235:=0
def tw3077955719212348240:=0
def tw13403617870850899719:=0
def tw12767908134667419315:=0
def tw10840193151654931901:=0
def tw12378050902499599771:=0
def tw11285421894635716148:=0
def tw14949479893701422868:=0
def tw5997418542576371477:=0
def tw350933173667847806:=0
def tw6654142060270630798:=0
def tw8018358012365212330:=0
def tw4115285953861529878:=0
def tw4250813649564687684:=0
def tw7783756685160354657:=0
def tw6593779418706755733:=0
def tw9361623751863841188:=0
def tw5549936797094173536:=0
def tw4535897497137295201:=0
def tw3236343882606782588:=0
def tw14861929249452298180:=0
def tw5832782601919179950:=0
def tw16647921335048280896:=0
def tw11211674480919665827:=0
def tw12595123546467277416:=0
def tw17086394851917519710:=0
def tw1112521550368289344:=0
def tw10298385646040372388:=0
def tw9250741191603231157:=0
def tw2453999884889191295:=0
def tw10175636962822339066:=0
def tw15628519537087831185:=0
def tw9663832330994021186:=0
def tw7156546940232331532:=0
def tw17652434149306546018:=0
def tw13318022990340411703:=0
def tw14371085862176617996:=0
def tw4519777918219488848:=0
def tw5149286405220306011:=0
def tw15095965294445293800:=0
def tw17444719826912713978:=0
def tw5312228219828619245:=0
def tw1107384737157031487:=0
def tw8338229034594390272:=0
def tw3449957764809720681:=0
def tw1500095882582970551:=0
def tw6885763166640836512:=0
def tw7901111942259748435:=0
def tw4445966781447137521:=0
def tw15821302096056423383:=0
def tw13064427751159830855:=0
def tw9803302062247562795:=0
def tw1120585407927650581:=0
def tw15060389385979464739:=0
def tw6989657853873883634:=0
def tw2747140101523657908:=0
def tw5508469486402896864:=0
def tw3410222189690666792:=0
def tw6710267712644572952:=0
def tw15573091092079730365:=0
def tw14314019440600310951:=0
def tw1134413893968743083:=0
def tw9774014777779211693:=0
def tw3634942676225709974:=0
def tw9301936067506538551:=0
def tw14742089877042415270:=0
def tw9853319698513924563:=0
def tw1357515689537675850:=0
def tw11471441674037727602:=0
def tw5368482155059074514:=0
def tw13747396376135464257:=0
def tw9215399165129874185:=0
def tw16251269894236376519:=0
def tw5300175943876745701:=0
def tw14021212115178818133:=0
def tw14244290287711421193:=0
def tw2334943940960361111:=0
def tw4064231340629952934:=0
def tw13601871850437190651:=0
def tw4405081543874148765:=0
def tw14541169768374567696:=0
def tw1431461152348014232:=0
def tw3576500064678406890:=0
def tw10047012038457769180:=0
def tw16817328943831093126:=0
def tw17463778810890221373:=0
def tw8679962649474027990:=0
def tw7144688658906389537:=0
def tw10537268237150209505:=0
def tw5688321021205667553:=0
def tw13760726094980525120:=0
def tw10364745379363891380:=0
def tw8498021169587208004:=0
def tw16743929552658889842:=0
def tw9346033844343769698:=0
def tw1276057997955358364:=0
def tw2062887706203392224:=0
def tw14146125164305527860:=0
def tw13456924867241437509:=0
def tw1529840600402738837:=0
def tw13591467213648967631:=0
def tw15172476688557468832:=0
def tw16298649984075943215:=0
def tw1357420854877851638:=0
def tw6895376705510858903:=0
def tw9459060727509191518:=0
def tw13082024628959305378:=0
def tw3306658972956876744:=0
def tw4922961454526686801:=0
def tw8981090339337538883:=0
def tw5486309176723174064:=0
def tw12853509586182661852:=0
def tw9128571103281077007:=0
def tw16296814397886215848:=0
def tw1041931717119322525:=0
def tw5476166994777359134:=0
def tw3439935303445097313:=0
def tw8292254464883003091:=0
def tw15761342656393259588:=0
def tw7016804663626120950:=0
def tw7108672797922795215:=0
def tw15281634035473559653:=0
def tw11902081514693402439:=0
def tw6649626198492337783:=0
def tw7946861595581450347:=0
def tw4167875096352877213:=0
def tw7546578696804484766:=0
def tw15527957786911323237:=0
def tw5807401340077561538:=0
def tw6176393871837159124:=0
def tw15350774882134156655:=0
def tw5981727862450548248:=0
def tw16082025013769635925:=0
def tw2677348594669361295:=0
def tw7459661904287357310:=0
def tw3790803566918326135:=0
def tw7583111016732691570:=0
def tw6380559658803936583:=0
def tw10119677498836411441:=0
def tw16610243155047019075:=0
def tw12105595043222320722:=0
def tw11117940937220945671:=0
def tw7602372640128780355:=0
def tw14670133226349782000:=0
def tw15760708522182421767:=0
def tw15792579279331589753:=0
def tw8627651124079464400:=0
def tw98107671330700439:=0
def tw17931626607818795282:=0
def tw8331949702377912601:=0
def tw17972128668307223324:=0
def tw5121371094287691670:=0
def tw9244334544277541788:=0
def tw13055944470977992718:=0
def tw2239275000242412839:=0
def tw7391600687905904736:=0
def tw160454309243274979:=0
def tw1462782855242832226:=0
def tw12908255960499108148:=0
def tw1918890213723012793:=0
def tw6557364421144890308:=0
def tw14387165888891126027:=0
def tw15778188904141059431:=0
def tw5439859559537159482:=0
def tw1928141357504943732:=0
def tw5935556337381533508:=0
def tw18036950483137369446:=0
def tw6649689919281192664:=0
def tw18193766020807058751:=0
def tw12208182929426641811:=0
def tw12362715444021717836:=0
def tw3164513537076067875:=0
def tw2840093764944450154:=0
def tw7947182542710528067:=0
def tw391134595469883478:=0
def tw1096341390407307233:=0
def tw8032080108428390804:=0
def tw5836519522705586315:=0
def tw1703934580002456081:=0
def tw7776558453960097663:=0
def tw17510181547571059699:=0
def tw11907200794903870941:=0
def tw11486538748438800152:=0
def tw1019819727738865560:=0
def tw6164247541409843623:=0
def tw16064749467158998579:=0
def tw11950474391708009573:=0
def tw1980611019319239327:=0
def tw2003811033042255644:=0
def tw14542168435470177903:=0
def tw13258149100641866925:=0
def tw137265324528129055:=0
def tw16930613991342622872:=0
def tw1365692969908420805:=0
def tw11102051931791902977:=0
def tw6614842974014458880:=0
def tw8514649545982455409:=0
def tw17147427993321594675:=0
def tw15343706450676245878:=0
def tw9708743134581952431:=0
def tw5604286772731600748:=0
def tw3517536798370010725:=0
def tw7244459439392080501:=0
def tw12007453039834561447:=0
def tw14566147821788569259:=0
def tw7231455283318405771:=0
def tw14261309331876219749:=0
def tw4197892306064931833:=0
def tw7535949087761879535:=0
def tw5678243113131743668:=0
def tw9158187964916713283:=0
def tw13066149997211392548:=0
def tw9632144273172872326:=0
def tw16033383212222708384:=0
def tw7483373480226707560:=0
def tw6363960645938422964:=0
def tw6781271856798419283:=0
def tw11048766595443878106:=0
def tw10318875672692022001:=0
def tw1614675845455001370:=0
def tw7014291991043264961:=0
def tw11573085432697538860:=0
def tw8620062022845231707:=0
def tw140525105382158088:=0
def tw10325484770216763711:=0
def tw7814735884733990282:=0
def tw15108435088670420067:=0
def tw12928570243392919139:=0
def tw13967064568006482907:=0
def tw6888364826074779577:=0
def tw17105016055481688812:=0
def tw598734863009066821:=0
def tw17721071856035973537:=0
def tw9783617265386187680:=0
def tw770084494042264409:=0
def tw12227079690660502574:=0
def tw8406189356729740870:=0
def tw12719594847545082888:=0
def tw11462709828738277211:=0
def tw14497934094249153506:=0
def tw5963446362973678655:=0
def tw12605087566487281509:=0
def tw3795232239882928974:=0
def tw421741687621645253:=0
def tw9410028514796171665:=0
def tw14416752207081169940:=0
def tw7088461113191365030:=0
def tw4476660195455580399:=0
def tw17325232652414239753:=0
def tw14433485371814706292:=0
def tw7115182308306042646:=0
def tw9931241822058248465:=0
def tw1997813792540213601:=0
end PySem.W.Fast
open PySem PySem.W PyProof.Rows
set_option maxRecDepth 100000 in
set_option maxHeartbeats 0 in
theorem PySem.Challenge.cw_tietable_k81_webs_kept_by_a_desk_holds : PySem.Challenge.rw_tietable_k81_webs_kept_by_a_desk.Holds := by
 w_on;o_law;k_head;(case hw=>w_witness2)
 k_fill
 refine PD.jy9 (l:=PySem.Challenge.rw_tietable_k81_webs_kept_by_a_desk) (k:=9) (x:="_law_script") (m:=Law.d_law) Law.law_true rfl rfl ⟨rfl,by decide,by decide,rfl⟩ (λw h Y=>PySem.W.km_in_of Y) ?F
 case F =>
  intro w e f h b G a
  refine' Law.all_mk b G a (PD.Bk ?_ ?_ ?_ ?_) (PD.Bk ?_ ?_ ?_ ?_) (PD.Bk ?_ ?_ ?_ ?_) (PD.Bk ?_ ?_ ?_ ?_) (PD.Bk ?_ ?_ ?_ ?_) (PD.Bk ?_ ?_ ?_ ?_) (PD.Bk ?_ ?_ ?_ ?_) (PD.Bk ?_ ?_ ?_ ?_) (PD.Bk ?_ ?_ ?_ ?_) (PD.Bk ?_ ?_ ?_ ?_) (PD.Bk ?_ ?_ ?_ ?_) (PD.Bk ?_ ?_ ?_ ?_) (PD.Bk ?_ ?_ ?_ ?_) (PD.Bk ?_ ?_ ?_ ?_) (PD.Bk ?_ ?_ ?_ ?_) (PD.Bk ?_ ?_ ?_ ?_) (PD.Bk ?_ ?_ ?_ ?_) (PD.Bk ?_ ?_ ?_ ?_) (PD.Bk ?_ ?_ ?_ ?_) (PD.Bk ?_ ?_ ?_ ?_) (PD.Bk ?_ ?_ ?_ ?_) (PD.Bk ?_ ?_ ?_ ?_) (PD.Bk ?_ ?_ ?_ ?_) (PD.Bk ?_ ?_ ?_ ?_) (PD.Bk ?_ ?_ ?_ ?_) (PD.Bk ?_ ?_ ?_ ?_) (PD.Bk ?_ ?_ ?_ ?_) (PD.Bk ?_ ?_ ?_ ?_) (PD.Bk ?_ ?_ ?_ ?_) (PD.Bk ?_ ?_ ?_ ?_) (PD.Bk ?_ ?_ ?_ ?_) (PD.Bk ?_ ?_ ?_ ?_) (PD.Bk ?_ ?_ ?_ ?_) (PD.Bk ?_ ?_ ?_ ?_) (PD.Bk ?_ ?_ ?_ ?_) (PD.Bk ?_ ?_ ?_ ?_) (PD.Bk ?_ ?_ ?_ ?_) (PD.Bk ?_ ?_ ?_ ?_) (PD.Bk ?_ ?_ ?_ ?_) (PD.Bk ?_ ?_ ?_ ?_) (PD.Bk ?_ ?_ ?_ ?_) (PD.Bk ?_ ?_ ?_ ?_) ?_ ?_ ?_ ?_ (PD.wt3 ?_ ?_ ?_ ?_ ?_ ?_) (PD.wt1 ?_ ?_ ?_ ?_ ?_ ?_ ?_) (PD.qH ?_ ?_ ?_ ?_ ?_) (PD.qH ?_ ?_ ?_ ?_ ?_) (PD.wi4 ?_ ?_ ?_ ?_) ?_ ?_ ?_ ?_ ?_ ?_ ?_ ?_ ?_ ?_ ?_ ?_ ?_ ?_ ?_ ?_ ?_ (PD.lQ ?_ ?_ ?_ ?_ ?_) (PD.lQ ?_ ?_ ?_ ?_ ?_) (PD.lQ ?_ ?_ ?_ ?_ ?_) (PD.sV ?_ ?_ ?_ ?_ ?_ ?_ ?_ ?_ ?_ ?_ ?_ ?_ ?_ ?_ ?_ ?_) (PD.sV ?_ ?_ ?_ ?_ ?_ ?_ ?_ ?_ ?_ ?_ ?_ ?_ ?_ ?_ ?_ ?_) (PD.lO ?_ ?_ ?_ ?_) (PD.lO ?_ ?_ ?_ ?_) (PD.lO ?_ ?_ ?_ ?_)
  any_goals k_is
  any_goals with_reducible rfl
  any_goals kernel_rfl
