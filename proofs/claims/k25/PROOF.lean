import PyProof.Rows.All
import Wide.All
import OpenK.AllK
import Wide.FinOn
import Lean
import PyProof.EqAt
import PyProof.EqKinds
import PyProof.TupleCall
import PyProof.MeetsSeq
import KE.KLam
import KE.KMinKey
import KE.KRevIter
import PySem.Challenge.RW_tietable_k25_whole_every_order_one_table
open PySem renaming wpAny_bind->jZa,wpAny_pure->jZb
open PySem.W (Frag)
open List renaming getElem?_eq_getElem->jAa,mem_cons_of_mem->jAb,length_map->jAd,mem_cons->jAe,mem_cons_self->jAf,mem_singleton->jAh,getD_eq_getElem?_getD->jAi,mem_filter->jAj,map_cons->jAk,getElem?_eq_some_iff->jAl,mem_map->jAm,mem_append_right->jAn,size_toArray->jAo,mem_append->jAq,length_append->jAs,mem_range->jAt,append_assoc->jAu,all_eq_true->jAw,length_cons->jAy,getElem?_set_ne->jAz,getElem?_map->jBa,length_range->jBb,map_append->jBc,length_take->jBd,map_map->jBe,getElem?_append_right->jBh,getElem_mem->jBi,nodup_cons->jBj,mem_append_left->jBk,perm_ext_iff_of_nodup->jBl,take_append_drop->jBm,pairwise_append->jBo,length_filter_le->jBp,sum_cons->jBq,length_drop->jBr,getElem?_append_left->jBu,mem_of_getElem?->jBv,drop_eq_getElem_cons->jBw,map_congr_left->jBy,mem_iff_getElem->jBz,toArray->jCg,idxOf_lt_length_of_mem->jCh,filter_cons_of_neg->jCl,filter_cons_of_pos->jCm,getElem?_set_self->jCn,drop_eq_nil_of_le->jCo,pairwise_lt_range->jCp,getElem?_eq_none->jCs,perm_append_comm->jCu,pairwise_iff_getElem->jCx,lookup_cons->jCz,append_nil->jDa,replicate_succ->jDb,take_of_length_le->jDc,ext_getElem->jDf,mem_reverse->jDg,nodup_range->jDh,zip_cons_cons->jDi,mem_of_mem_take->jDk,mem_of_mem_drop->jDl,length_zip->jDn,getElem_take->jDo,sum_append->jDp,not_mem_nil->jDs,getElem_idxOf->jDt,filter_append->jDu,length_replicate->jDv,flatten_cons->jDy,nodup_append->jDz,getElem?_replicate->jEe,map_nil->jEf,find?_cons->jEh,eq_nil_of_length_eq_zero->jEi,range_succ->jEj,pairwise_map->jEk,getElem_drop->jEl,pairwise_reverse->jEm,filter_congr->jEn,nodup_nil->jEo,any_cons->jEq,getElem?_zip_eq_some->jEr,filter_eq_self->jEs,foldl_cons->jEt,getElem?_take_of_lt->jEu,length_eq_zero_iff->jEy,all_cons->jFb,cons_append->jFc,map_drop->jFd,map_take->jFe,take_length->jFf,getElem?_append->jFi,of_mem_zip->jFj,filterMap_cons->jFn,pairwise_cons->jFo,ne_nil_of_mem->jFq,length_eraseIdx_of_lt->jFr,rel_of_pairwise_cons->jFy,take_add_one->jGb,mem_take_iff_getElem->jGc,mem_drop_iff_getElem->jGd,getElem_map->jGe,perm_middle->jGg,all_map->jGi,length_nil->jGj,length_singleton->jGl,set_append_right->jGm,eq_nil_or_concat->jGn,concat_eq_append->jGo,getElem_toArray->jGs,perm_singleton->jGt,take_add->jGu,mem_filterMap->jGv,getElem?_drop->jGx,take_sublist->jHd,getElem?_set->jHe,reverse_perm->jHg,mapM_toArray->jHh,foldl_append->jHi,flatMap_cons->jHj,range'_succ->jHl,forIn_cons->jHq,length_set->jHr,idxOf_cons->jHv,forIn_nil->jHx,take_zero->jHz,range_add->jIa
open PySem.Heap renaming get?_push_of_some->jAc,get?_push_size->jAp,lt_size->jAr,size_push->jCc,get?_update_self->jCj,get?_update_other->jEg,ExtBut->jFs
open Nat renaming le_refl->jAg,ne_of_lt->jAv,lt_of_lt_of_le->jAx,le_trans->jBt,lt_irrefl->jCf,ne_of_gt->jCq,zero_le->jCr,lt_succ_of_lt->jCt,min_eq_left->jCv,zero_add->jCw,min_eq_right->jDe,lt_of_le_of_lt->jDj,lt_succ_self->jDr,le_of_lt->jDx,pow_le_pow_right->jEa,le_total->jEv,add_sub_cancel_left->jEx,min_le_right->jFa,max_eq_right->jFg,max_eq_left->jFk,le_succ->jFt,le_of_succ_le->jFx,succ_ne_self->jGf,sub_succ_lt_self->jGq,lt_trans->jGz,sub_self->jHa,pow_succ->jHc,le_succ_of_le->jHf,le_of_not_lt->jHk,div_eq_of_lt->jHo,not_lt_zero->jHs,two_pow_pos->jHt
open Classical renaming byContradiction->jBf
open Bool renaming and_eq_true->jBg,false_eq_true->jBn,or_eq_true->jCb,false_ne_true->jCd,not_eq_true'->jCk,eq_iff_iff->jDm,not_true->jGa,false_and->jGp,and_false->jHw,not_false->jHy
open Option renaming getD_some->jBs,isSome_iff_exists->jEb,bind_eq_some_iff->jEw,map_eq_some_iff->jEz,isSome_some->jGw,map_some->jHu
open Array renaming getElem?_eq_getElem->jBx,length_toList->jCi,getElem?_toList->jDw,ext'->jEd,toList_setIfInBounds->jFu,perm_iff_toList_perm->jFv,toList_push->jFz,getElem_toList->jGr
open Int renaming toNat_natCast->jCa,mul_assoc->jCe,mul_one->jCy,mul_comm->jDd,pow_succ->jDq,toNat_of_nonneg->jEc,pow_zero->jEp,one_mul->jFh,mul_le_mul_of_nonneg_left->jFl,le_of_lt->jFm,emod_lt_of_pos->jFp,pow_add->jFw,le_trans->jGh,emod_nonneg->jGk,sub_add_cancel->jGy,mul_zero->jHb,mul_add->jHm,add_mul->jHn,min_eq_left->jHp
noncomputable section
namespace Xe
variable {a P:Prop}
theorem wb8{p0 p1:Prop}(k:p0->p1->a->P)(h:p0/\p1/\a):P:=h.elim λe h=>h.elim λc b=>k e c b
theorem wz8{p0 p1 e c b:Prop}(k:p0->p1->a->e->c->b->P)(h:p0/\p1/\a/\e/\c/\b):P:=h.elim λm h=>h.elim λl h=>h.elim λj h=>h.elim λi h=>h.elim λg f=>k m l j i g f
theorem Aq{c:Type}{p0 p1:c->Prop}(k:∀b,p0 b->p1 b->P)(h:∃b,p0 b/\p1 b):P:=h.elim λb h=>h.elim λf e=>k b f e
theorem G6{c:Type}{p0 p1 a:c->Prop}(k:∀b,p0 b->p1 b->a b->P)(h:∃b,p0 b/\p1 b/\a b):P:=h.elim λb h=>h.elim λg h=>h.elim λf e=>k b g f e
theorem wp5{c:Type}{p0 p1 a e:c->Prop}(k:∀b,p0 b->p1 b->a b->e b->P)(h:∃b,p0 b/\p1 b/\a b/\e b):P:=h.elim λb h=>h.elim λj h=>h.elim λi h=>h.elim λg f=>k b j i g f
theorem Bt{f e:Type}{p0 p1:f->e->Prop}(k:∀c b,p0 c b->p1 c b->P)(h:∃c b,p0 c b/\p1 c b):P:=h.elim λc h=>h.elim λb h=>h.elim λi g=>k c b i g
theorem Bu{f e:Type}{p0 p1 a:f->e->Prop}(k:∀c b,p0 c b->p1 c b->a c b->P)(h:∃c b,p0 c b/\p1 c b/\a c b):P:=h.elim λc h=>h.elim λb h=>h.elim λj h=>h.elim λi g=>k c b j i g
theorem X7{f e:Type}{p0 p1 a g:f->e->Prop}(k:∀c b,p0 c b->p1 c b->a c b->g c b->P)(h:∃c b,p0 c b/\p1 c b/\a c b/\g c b):P:=h.elim λc h=>h.elim λb h=>h.elim λm h=>h.elim λl h=>h.elim λj i=>k c b m l j i
theorem yh9{f e:Type}{p0 p1 a i g:f->e->Prop}(k:∀c b,p0 c b->p1 c b->a c b->i c b->g c b->P)(h:∃c b,p0 c b/\p1 c b/\a c b/\i c b/\g c b):P:=h.elim λc h=>h.elim λb h=>h.elim λo h=>h.elim λn h=>h.elim λm h=>h.elim λl j=>k c b o n m l j
theorem wp6{f e:Type}{p0 p1 a j i g:f->e->Prop}(k:∀c b,p0 c b->p1 c b->a c b->j c b->i c b->g c b->P)(h:∃c b,p0 c b/\p1 c b/\a c b/\j c b/\i c b/\g c b):P:=h.elim λc h=>h.elim λb h=>h.elim λq h=>h.elim λp h=>h.elim λo h=>h.elim λn h=>h.elim λm l=>k c b q p o n m l
theorem wz9{i g f:Type}{p0:i->g->f->Prop}(k:∀e c b,p0 e c b->P)(h:∃e c b,p0 e c b):P:=h.elim λe h=>h.elim λc h=>h.elim λb h=>k e c b h
theorem wb9{i g f:Type}{p0 p1:i->g->f->Prop}(k:∀e c b,p0 e c b->p1 e c b->P)(h:∃e c b,p0 e c b/\p1 e c b):P:=h.elim λe h=>h.elim λc h=>h.elim λb h=>h.elim λl j=>k e c b l j
theorem kp2{i g f:Type}{p0 p1 a:i->g->f->Prop}(k:∀e c b,p0 e c b->p1 e c b->a e c b->P)(h:∃e c b,p0 e c b/\p1 e c b/\a e c b):P:=h.elim λe h=>h.elim λc h=>h.elim λb h=>h.elim λm h=>h.elim λl j=>k e c b m l j
theorem wc0{i g f:Type}{p0 p1 a l j:i->g->f->Prop}(k:∀e c b,p0 e c b->p1 e c b->a e c b->l e c b->j e c b->P)(h:∃e c b,p0 e c b/\p1 e c b/\a e c b/\l e c b/\j e c b):P:=h.elim λe h=>h.elim λc h=>h.elim λb h=>h.elim λq h=>h.elim λp h=>h.elim λo h=>h.elim λn m=>k e c b q p o n m
theorem yi0{i g f:Type}{p0 p1 a p o n m l j:i->g->f->Prop}(k:∀e c b,p0 e c b->p1 e c b->a e c b->p e c b->o e c b->n e c b->m e c b->l e c b->j e c b->P)(h:∃e c b,p0 e c b/\p1 e c b/\a e c b/\p e c b/\o e c b/\n e c b/\m e c b/\l e c b/\j e c b):P:=h.elim λe h=>h.elim λc h=>h.elim λb h=>h.elim λz h=>h.elim λy h=>h.elim λx h=>h.elim λw h=>h.elim λv h=>h.elim λu h=>h.elim λs h=>h.elim λr q=>k e c b z y x w v u s r q
theorem ya0{l j i g:Type}{p0 p1 a m:l->j->i->g->Prop}(k:∀f e c b,p0 f e c b->p1 f e c b->a f e c b->m f e c b->P)(h:∃f e c b,p0 f e c b/\p1 f e c b/\a f e c b/\m f e c b):P:=h.elim λf h=>h.elim λe h=>h.elim λc h=>h.elim λb h=>h.elim λq h=>h.elim λp h=>h.elim λo n=>k f e c b q p o n
theorem yi1{l j i g:Type}{p0 p1 a n m:l->j->i->g->Prop}(k:∀f e c b,p0 f e c b->p1 f e c b->a f e c b->n f e c b->m f e c b->P)(h:∃f e c b,p0 f e c b/\p1 f e c b/\a f e c b/\n f e c b/\m f e c b):P:=h.elim λf h=>h.elim λe h=>h.elim λc h=>h.elim λb h=>h.elim λs h=>h.elim λr h=>h.elim λq h=>h.elim λp o=>k f e c b s r q p o
theorem wc1{l j i g:Type}{p0 p1 a p o n m:l->j->i->g->Prop}(k:∀f e c b,p0 f e c b->p1 f e c b->a f e c b->p f e c b->o f e c b->n f e c b->m f e c b->P)(h:∃f e c b,p0 f e c b/\p1 f e c b/\a f e c b/\p f e c b/\o f e c b/\n f e c b/\m f e c b):P:=h.elim λf h=>h.elim λe h=>h.elim λc h=>h.elim λb h=>h.elim λx h=>h.elim λw h=>h.elim λv h=>h.elim λu h=>h.elim λs h=>h.elim λr q=>k f e c b x w v u s r q
theorem ya1{n m l j i:Type}{p0 p1 a q p o:n->m->l->j->i->Prop}(k:∀g f e c b,p0 g f e c b->p1 g f e c b->a g f e c b->q g f e c b->p g f e c b->o g f e c b->P)(h:∃g f e c b,p0 g f e c b/\p1 g f e c b/\a g f e c b/\q g f e c b/\p g f e c b/\o g f e c b):P:=h.elim λg h=>h.elim λf h=>h.elim λe h=>h.elim λc h=>h.elim λb h=>h.elim λx h=>h.elim λw h=>h.elim λv h=>h.elim λu h=>h.elim λs r=>k g f e c b x w v u s r
theorem kp3{n m l j i:Type}{p0 p1 a r q p o:n->m->l->j->i->Prop}(k:∀g f e c b,p0 g f e c b->p1 g f e c b->a g f e c b->r g f e c b->q g f e c b->p g f e c b->o g f e c b->P)(h:∃g f e c b,p0 g f e c b/\p1 g f e c b/\a g f e c b/\r g f e c b/\q g f e c b/\p g f e c b/\o g f e c b):P:=h.elim λg h=>h.elim λf h=>h.elim λe h=>h.elim λc h=>h.elim λb h=>h.elim λz h=>h.elim λy h=>h.elim λx h=>h.elim λw h=>h.elim λv h=>h.elim λu s=>k g f e c b z y x w v u s
end Xe
set_option Elab.async false
set_option linter.all false
set_option maxRecDepth 100000
namespace L2
open PySem PySem.Spec PyProof.Rows
abbrev Key:=Sum Int Str
def Zc:Key->Value->Bool
 | .inl k,v=>Value.isInt k v
 | .inr x,v=>Value.isStrOf x v
def yk4(w:World):Key->Int
 | .inl k=>hashInt k
 | .inr x=>hashStr w x
theorem Dr:∀{k:Key}{v:Value},Zc k v=true->(∃i t,k=Sum.inl i/\v=Value.int i t)\/(∃x t,k=Sum.inr x/\v=Value.str x t)
 | .inl i,v,h=>by have⟨t,e⟩:=Value.isInt_shape (k:=i) (v:=v) h;exact .inl ⟨i,t,rfl,e⟩
 | .inr x,v,h=>by have⟨t,e⟩:=Value.isStrOf_shape (x:=x) (v:=v) h;exact .inr ⟨x,t,rfl,e⟩
theorem ki1(i:Int)(t:Tok):Zc (.inl i) (.int i t)=true:=by simp[Zc,Value.isInt]
theorem ki2(x:Str)(t:Tok):Zc (.inr x) (.str x t)=true:=by simp[Zc,Value.isStrOf]
theorem wr8(a b:Int):decide ((Sum.inl a:Key)=Sum.inl b)=(a == b):=by
 by_cases e:a=b
 ·subst e;simp
 ·have h:¬ (Sum.inl a:Key)=Sum.inl b:=λq=>e (Sum.inl.inj q);rw[decide_eq_false h];exact(beq_eq_false_iff_ne.mpr e).symm
theorem ws1(a b:Str):decide ((Sum.inr a:Key)=Sum.inr b)=decide (a=b):=by
 by_cases e:a=b
 ·subst e;simp
 ·have h:¬ (Sum.inr a:Key)=Sum.inr b:=λq=>e (Sum.inr.inj q);rw[decide_eq_false h,decide_eq_false e]
theorem wr9(a:Int)(b:Str):decide ((Sum.inl a:Key)=Sum.inr b)=false:=decide_eq_false (λq=>nomatch q)
theorem ws0(a:Str)(b:Int):decide ((Sum.inr a:Key)=Sum.inl b)=false:=decide_eq_false (λq=>nomatch q)
def Dh(prog:Program)(w:World):PySem.KeyKind prog w Key where
 is:=Zc
 hash:=yk4 w
 inj:=λv a b ha hb=>by
  rcases Dr ha with ⟨i,t,rfl,rfl⟩ | ⟨x,t,rfl,rfl⟩
  ·rcases Dr hb with ⟨j,u,rfl,e⟩ | ⟨y,u,rfl,e⟩
   ·injection e with e1 _;rw[e1]
   ·exact nomatch e
  ·rcases Dr hb with ⟨j,u,rfl,e⟩ | ⟨y,u,rfl,e⟩
   ·exact nomatch e
   ·injection e with e1 _;rw[e1]
 byValue:=λk v h=>by rcases Dr h with ⟨i,t,rfl,rfl⟩ | ⟨x,t,rfl,rfl⟩<;>rfl
 pyHash:=λhv h=>by
  rcases Dr hv with ⟨i,t,rfl,rfl⟩ | ⟨x,t,rfl,rfl⟩
  ·exact wpAny_pyHash_int h
  ·exact wpAny_pyHash_str h
 eqBool:=λhu hv h=>by
  rcases Dr hu with ⟨i,t,rfl,rfl⟩ | ⟨x,t,rfl,rfl⟩
  ·rcases Dr hv with ⟨j,u,rfl,rfl⟩ | ⟨y,u,rfl,rfl⟩
   ·rw[wr8]at h;exact wpAny_eqBool_int h
   ·rw[wr9]at h;exact SeqAt.EqAt.int_str i t y u _ _ _ _ h
  ·rcases Dr hv with ⟨j,u,rfl,rfl⟩ | ⟨y,u,rfl,rfl⟩
   ·rw[ws0]at h;exact SeqAt.EqAt.str_int x t j u _ _ _ _ h
   ·rw[ws1]at h;exact wpAny_eqBool_str h
 «strs»:=λk x t v h=>by
  rcases Dr h with ⟨i,u,rfl,e⟩ | ⟨y,u,rfl,e⟩
  ·exact nomatch e
  ·injection e with e1 _;subst e1;cases v<;>rfl
theorem jk8(prog:Program)(w:World)(i:Int)(t:Tok):(Dh prog w).is (.inl i) (.int i t)=true:=ki1 i t
theorem jk9(prog:Program)(w:World)(x:Str)(t:Tok):(Dh prog w).is (.inr x) (.str x t)=true:=ki2 x t
inductive V where
 |non |bl (b:Bool) |int (i:Int) |str (x:Str) |byt (b:Array UInt8) |flt (b:UInt64) |ref (a:Addr) |ty (n:String)
 deriving DecidableEq
def RelV:V->Value->Prop
 | .non,u=>u=Value.none
 | .bl b,u=>u=Value.bool b
 | .int i,u=>∃t,u=Value.int i t
 | .str x,u=>∃t,u=Value.str x t
 | .byt b,u=>∃t,u=Value.bytes b t
 | .flt b,u=>∃t,u=Value.float b t
 | .ref a,u=>u=Value.ref a
 | .ty n,u=>u=Value.type n
abbrev Vals:List V->List Value->Prop:=Paired RelV
variable {xs:List V}{us:List Value}
theorem Vals.length(r:Vals xs us):xs.length=us.length:=Paired.length r
theorem Vals.get:∀{xs:List V}{us:List Value}{i:Nat}{x:V},Vals xs us->xs[i]? = some x->∃u,us[i]? = some u/\RelV x u
 |_,_,_,_,.nil,e=>by simp at e
 |_,_,0,_,.cons r _,e=>by simp at e;subst e;exact⟨_,rfl,r⟩
 |_,_,i+1,x,.cons _ t,e=>by have⟨u,b,a⟩:=Vals.get (i:=i) (x:=x) t (by simpa using e);exact⟨u,by simpa using b,a⟩
variable {ys:List V}
theorem Vals.append{a:List Value}(h:Vals xs us)(s:Vals ys a):Vals (xs++ys) (us++a):=by
 induction h with
 |nil=>exact s
 |cons r t b=>exact .cons r b
theorem Vals.take:∀{xs:List V}{us:List Value}(n:Nat),Vals xs us->Vals (xs.take n) (us.take n)
 |_,_,0,_=>.nil
 |_,_,_+1,.nil=>.nil
 |_,_,n+1,.cons r t=>.cons r (Vals.take n t)
theorem Vals.drop:∀{xs:List V}{us:List Value}(n:Nat),Vals xs us->Vals (xs.drop n) (us.drop n)
 |_,_,0,r=>r
 |_,_,_+1,.nil=>.nil
 |_,_,n+1,.cons _ t=>Vals.drop n t
def S8:Option V->Option Value->Prop
 |some v,some u=>RelV v u
 |none,none=>True
 |_,_=>False
def KV{a:Type}:List (a×V)->List (a×Value)->Prop:=Paired λ(p:a×V)(q:a×Value)=>p.1=q.1/\RelV p.2 q.2
def kV:Key->V
 | .inl i=>.int i
 | .inr x=>.str x
inductive HO where
 |lst (xs:List V)
 |tup (xs:List V)
 |dK (kvs:List (Key×V)) |dT (kvs:List (List Key×V))
 |set (S:Int->Bool) (n:Nat)
 |ins (C dx:Addr) (fs:List (Str×V))
 |own (x:Addr)
 |xd (fs:List (Str×V))
 |met (f x:Addr)
 |rng (lo hi:Int)
 |frz (o:Obj) (u:HO)
 |tbl (ps:Array Value)
 |ext (φ:Heap->Prop)
abbrev Hp:=Addr->Option HO
def upd(H:Hp)(a:Addr)(o:HO):Hp:=λb=>if b=a then some o else H b
theorem Ao{H:Hp}{a:Addr}{o:HO}:upd H a o a=some o:=by unfold upd;rw[if_pos rfl]
theorem Aj{H:Hp}{a b:Addr}{o:HO}(h:b≠a):upd H a o b=H b:=by unfold upd;rw[if_neg h]
theorem yc9{H:Hp}{a b:Addr}{o u:HO}(h:H a=some o)(h':H b=some u)(d:o≠u):a≠b:=by intro e;subst e;rw[h]at h';exact d (Option.some.inj h')
theorem Bv{H:Hp}{a b:Addr}{o:HO}(h:H a=some o)(h':H b=none):a≠b:=by intro e;subst e;rw[h]at h';cases h'
section
variable (P:Program)(w:World)
def Dj(H:Hp)(h:Heap)(a:Addr):HO->Prop
 | .lst xs=>xs.length<=sizeLine/\∃(its:List Value)(n:Nat),Vals xs its/\h.get? a=some {cls:=.type "list",data:=.seq its.toArray n}
 | .tup xs=>xs.length<=sizeLine/\∃its:List Value,Vals xs its/\IsTup h a its.toArray
 | .dK e=>e.length<=sizeLine/\(a == sysModules)=false/\∃vs,KV e vs/\h.DictOf (Dh P w) a vs
 | .dT e=>e.length<=sizeLine/\(a == sysModules)=false/\∃xs:List (List Key×Addr×Value),
   Paired (λ(p:List Key×V)(q:List Key×Addr×Value)=>p.1=q.1/\H q.2.1=some (.tup (p.1.map kV))/\RelV p.2 q.2.2) e xs /\
   ∃o y B,h.get? a=some o/\o.ExactDict/\o.data=.dict y B/\y.toList=xs.map (entryOfKey (tupleKind (Dh P w)))/\(xs.map (·.1)).Nodup
 | .set S n=>h.SetOf (intKind P w) a S n
 | .ins C j i=>H j=some (.own a)/\i.length<=1000/\j≠a/\h.get? a=some (W.instObj C j) /\
   ∃g,h.Ns1 j g/\(∀f,S8 (i.lookup f) (g f))/\PySem.Within g (i.map (·.1))
 | .own _=>∃o,h.get? a=some o
 | .xd i=>∃g,h.Ns1 a g/\∀f,S8 (i.lookup f) (g f)
 | .rng z A=>∃t u v,h.get? a=some {cls:=.type "range",data:=.fields #[.int z t,.int A u,.int 1 v] }
 | .frz o u=>h.get? a=some o/\Dj H h a u
 | .tbl ps=>∃m:Array Value,h.get? a=some {cls:=.none,data:=.fields m}/\(m = #[]\/∃(l c:Value)(q:Str)(t:Tok)(b:Addr)(o:Obj)(vs:Array Value)(t':Tok),ps = #[l,c,.str q t]/\m = #[l,c,.ref b]/\H b=some (.frz o (.own a))/\o.data=.fields vs/\vs[1]? = some (.str q t'))
 | .met f x=>h.get? a=some (W.methodObj (.ref f) (.ref x))
 | .ext k=>k h/\(∃o,h.get? a=some o)/\∀s r:Heap,k s->(∀o,s.get? a=some o->r.get? a=some o)->k r
def HOk(H:Hp)(h:Heap):Prop:=∀a o,H a=some o->Dj P w H h a o
end
variable {a:Addr}{o:HO}{h h':Heap}{H H':Hp}{P:Program}{w:World}
theorem Dj.lt(x:Dj P w H h a o):a<h.objs.size:=by
 cases o with
 |lst xs=>obtain⟨_,_,_,_,e⟩:=x;exact jAr e
 |tup xs=>obtain⟨_,_,_,p⟩:=x;exact p.lt
 |dK b=>obtain⟨_,_,_,_,o,_,_,e,_⟩:=x;exact jAr e
 |dT b=>obtain⟨_,_,_,_,o,_,_,e,_⟩:=x;exact jAr e
 |set S n=>obtain⟨o,_,_,_,e,_⟩:=x;exact jAr e
 |ins C l c=>obtain⟨_,_,_,e,_⟩:=x;exact jAr e
 |own y=>obtain⟨_,e⟩:=x;exact jAr e
 |xd c=>obtain⟨_,⟨_,_,_,e,_⟩,_⟩:=x;exact jAr e
 |rng j k=>obtain⟨_,_,_,e⟩:=x;exact jAr e
 |frz i u=>obtain⟨e,_⟩:=x;exact jAr e
 |tbl ps=>obtain⟨_,e,_⟩:=x;exact jAr e
 |met f y=>exact jAr (show h.get? a=some _ from x)
 |ext g=>obtain⟨_,⟨_,e⟩,_⟩:=x;exact jAr e
theorem Paired.mapP{e c:Type}{F G:e->c->Prop}{l₁:List e}{l₂:List c}(h:Paired F l₁ l₂)(f:∀a b,F a b->G a b):Paired G l₁ l₂:=by
 induction h with
 |nil=>exact .nil
 |cons r t g=>exact .cons (f _ _ r) g
theorem Dj.stay(x:Dj P w H h a o)(k:∀b u,(b=a\/H b=some (.own a))->h.get? b=some u->h'.get? b=some u)
  (M:∀b,H b=some (.own a)->H' b=some (.own a))(L:∀b xs,H b=some (.tup xs)->H' b=some (.tup xs))
  (O:∀b o y,H b=some (.frz o (.own y))->H' b=some (.frz o (.own y)):=by first |exact λ_ _ _ q=>q | (intro b o y q;rw[Aj (Bv q (by assumption))];exact q)):Dj P w H' h' a o:=by
 induction o with
 |lst xs=>obtain⟨z,m,n,r,e⟩:=x;exact⟨z,m,n,r,k _ _ (.inl rfl) e⟩
 |tup xs=>obtain⟨z,m,r,g,e,c⟩:=x;exact⟨z,m,r,g,k _ _ (.inl rfl) e,c⟩
 |dK E=>obtain⟨z,y,s,r,g,i,j,e,c⟩:=x;exact⟨z,y,s,r,g,i,j,k _ _ (.inl rfl) e,c⟩
 |dT E=>obtain⟨z,y,xs,r,g,i,j,e,c⟩:=x;exact⟨z,y,xs,Paired.mapP r λp q z=>⟨z.1,L _ _ z.2.1,z.2.2⟩,g,i,j,k _ _ (.inl rfl) e,c⟩
 |set S n=>obtain⟨g,i,j,t,e,c⟩:=x;exact⟨g,i,j,t,k _ _ (.inl rfl) e,c⟩
 |ins C Z Q=>obtain⟨d,z,ne,e,B,⟨A,i,j,F,c⟩,r⟩:=x;exact⟨M _ d,z,ne,k _ _ (.inl rfl) e,B,⟨A,i,j,k _ _ (.inr d) F,c⟩,r⟩
 |own y=>obtain⟨g,e⟩:=x;exact⟨g,k _ _ (.inl rfl) e⟩
 |xd Q=>obtain⟨B,⟨A,i,j,e,c⟩,r⟩:=x;exact⟨B,⟨A,i,j,k _ _ (.inl rfl) e,c⟩,r⟩
 |rng X Y=>obtain⟨t,u,v,e⟩:=x;exact⟨t,u,v,k _ _ (.inl rfl) e⟩
 |frz g u K=>obtain⟨e,q⟩:=x;exact⟨k _ _ (.inl rfl) e,K q⟩
 |tbl ps=>obtain⟨J,e,z⟩:=x;exact⟨J,k _ _ (.inl rfl) e,z.imp id λ⟨l,c,q,t,b,o,s,I,T,F,d,r⟩=>⟨l,c,q,t,b,o,s,I,T,F,O _ _ _ d,r⟩⟩
 |met f y=>have e:h.get? a=some (W.methodObj (.ref f) (.ref y)):=x;show h'.get? a=some (W.methodObj (.ref f) (.ref y));exact k a _ (.inl rfl) e
 |ext U=>obtain⟨p,⟨o,e⟩,G⟩:=x;exact⟨G _ _ p λo q=>k _ _ (.inl rfl) q,⟨o,k _ _ (.inl rfl) e⟩,G⟩
theorem HOk.lt(x:HOk P w H h)(e:H a=some o):a<h.objs.size:=(x a o e).lt
theorem HOk.fresh(x:HOk P w H h)(e:h.objs.size<=a):H a=none:=by
 cases q:H a with
 |none=>rfl
 |some u=>exact absurd (jAx (x.lt q) e) (jCf _)
theorem HOk.kept(x:HOk P w H h)(k:∀b u,h.get? b=some u->h'.get? b=some u):HOk P w H h':=λa o e =>
 (x a o e).stay (λb u _ q=>k b u q) (λ_ q=>q) λ_ _ q=>q
theorem HOk.laid(x:HOk P w H h)(k:∀b u,h.get? b=some u->h'.get? b=some u)(i:h.objs.size<=a)(new:Dj P w (upd H a o) h' a o):HOk P w (upd H a o) h':=λb u e=>by
 have f:=x.fresh i;by_cases g:b=a
 ·subst g;rw[Ao]at e;cases e;exact new
 ·rw[Aj g]at e;exact(x b u e).stay (λc v _ q=>k c v q) (λc q=>by rw[Aj (Bv q f)];exact q) λc xs q=>by rw[Aj (Bv q f)];exact q
def Rd(H:Hp)(a:Addr)(u:HO):Prop:=H a=some u\/∃o,H a=some (.frz o u)
theorem Rd.ok{u:HO}(r:Rd H a u)(x:HOk P w H h):Dj P w H h a u:=by
 rcases r with r | ⟨o,r⟩
 ·exact x a u r
 ·have⟨_,q⟩:=x a _ r;exact q
def Mut:Option HO->Prop
 |some (.lst _)=>True
 |some (.dK _)=>True
 |some (.dT _)=>True
 |some (.set _ _)=>True
 |some (.ins _ _ _)=>True
 |some (.ext _)=>True
 |_=>False
variable {x:Addr}
section
variable {e:Addr}{o':HO}
theorem HOk.write(ok:HOk P w H h)(i:Mut (H x))(s:e=x\/H e=some (.own x))(k:∀b u,b≠e->h.get? b=some u->h'.get? b=some u)(n:∃u,h'.get? e=some u)
  (new:Dj P w (upd H x o') h' x o'):HOk P w (upd H x o') h':=λb u q=>by
 have g:∀c y,H c=some (.own y)->c≠x:=λc y r z=>by subst z;rw[r]at i;exact i
 have j:∀c xs,H c=some (.tup xs)->c≠x:=λc xs r z=>by subst z;rw[r]at i;exact i
 by_cases m:b=x
 ·subst m;rw[Ao]at q;cases q;exact new
 ·rw[Aj m]at q;by_cases f:b=e
  ·have p:H b=some (.own x):=by
    rcases s with z |z
    ·exact absurd (f.trans z) m
    ·rw[f];exact z
   rw[q]at p;cases p;obtain⟨v,A⟩:=n;exact⟨v,by rw[f];exact A⟩
  ·refine(ok b u q).stay (λc v l r=>k c v ?_ r) (λc r=>by rw[Aj (g c b r)];exact r) (λc xs r=>by rw[Aj (j c xs r)];exact r) λc o y r=>by rw[Aj (λz=>by subst z;rw[r]at i;exact i)];exact r
   rcases l with rfl |l
   ·exact f
   ·rintro rfl;rcases s with z |z
    ·exact g c b l z
    ·rw[l]at z;cases z;exact m rfl
end
structure Un(fs ex:List Addr)(H H':Hp)(h h':Heap):Prop where
 keep:∀b o,h.get? b=some o->H b=none->b∉fs->b∉ex->h'.get? b=some o
 slot:∀b o,h.get? b=some o->H b=none->b∈fs->b∉ex->∃sl,h'.get? b=some {o with slots:=sl}
 free:∀b o,h.get? b=some o->H b=none->b∉ex->H' b=none
 there:∀b o,h.get? b=some o->b∉ex->∃o',h'.get? b=some o'
 tups:∀b xs,H b=some (.tup xs)->H' b=some (.tup xs)
 frzs:∀b o u,H b=some (.frz o u)->H' b=some (.frz o u)
 tbls:∀b ps,H b=some (.tbl ps)->∃more,H' b=some (.tbl (ps++more))
section
variable {fs b ex f:List Addr}{g j:Hp}{c i:Heap}{e:Addr}
theorem Un.any(u:Un fs ex H g h c){b:Addr}{k:Obj}(q:h.get? b=some k)(n:H b=none)(l:b∉ex):∃p,c.get? b=some {k with slots:=p}:=by
 by_cases m:b∈fs
 ·exact u.slot b k q n m l
 ·exact⟨k.slots,u.keep b k q n m l⟩
theorem Un.kept(k:∀b u,h.get? b=some u->h'.get? b=some u):Un fs ex H H h h':=
 ⟨λb l q _ _ _=>k b l q,λb l q _ _ _=>⟨l.slots,k b l q⟩,λ_ _ _ n _=>n,λb l q _=>⟨l,k b l q⟩,λ_ _ q=>q,λ_ _ _ q=>q,λ_ ps q=>⟨#[],by rw[q];simp⟩⟩
theorem Un.refl:Un fs ex H H h h:=Un.kept λ_ _ q=>q
theorem Un.laid(k:∀b u,h.get? b=some u->h'.get? b=some u)(hp:h.objs.size<=a)(hn:H a=none):Un fs ex H (upd H a o) h h' where
 keep:=λb u q _ _ _=>k b u q
 slot:=λb u q _ _ _=>⟨u.slots,k b u q⟩
 free:=λb u q n _=>by rw[Aj (jAv (jAx (jAr q) hp))];exact n
 there:=λb u q _=>⟨u,k b u q⟩
 tups:=λb xs q=>by rw[Aj (Bv q hn)];exact q
 frzs:=λb u xs q=>by rw[Aj (Bv q hn)];exact q
 tbls:=λb ps q=>⟨#[],by rw[Aj (Bv q hn),q];simp⟩
theorem Un.write(m:Mut (H x))(B:e=x\/H e=some (.own x))(k:∀b u,b≠e->h.get? b=some u->h'.get? b=some u)(s:∃u,h'.get? e=some u):Un fs ex H (upd H x o) h h':=by
 have v:∀b,H b=none->b≠x:=λb n z=>by subst z;rw[n]at m;exact m
 have y:∀b,H b=none->b≠e:=λb n z=>by
  subst z;rcases B with r |r
  ·exact v b n r
  ·rw[n]at r;cases r
 have p:∀b u,H b=some u->¬ Mut (some u)->b≠x:=λb u q A z=>by subst z;rw[q]at m;exact A m
 refine⟨λb u q n _ _=>k b u (y b n) q,λb u q n _ _=>⟨u.slots,k b u (y b n) q⟩,λb u q n _=>by rw[Aj (v b n)];exact n,λb u q _=>?_,
  λb xs q=>by rw[Aj (p b _ q λz=>z)];exact q,λb u xs q=>by rw[Aj (p b _ q λz=>z)];exact q,λb ps q=>⟨#[],by rw[Aj (p b _ q λz=>z),q];simp⟩⟩
 by_cases l:b=e
 ·subst l;exact s
 ·exact⟨u,k b u l q⟩
end
def trk(h:Heap)(H:Hp):List Addr:=(List.range h.objs.size).filter λa=>(H a).isSome
def Wm(h:Heap)(H:Hp):Heap:=W.hideAll h (trk h H)
theorem kh2(h:Heap)(H:Hp):(Wm h H).objs.size=h.objs.size:=W.hideAll_size _ _
theorem kr2{b:Addr}{o:Obj}(e:h.get? b=some o)(n:H b=none):(Wm h H).get? b=some o:=
 W.hideAll_get _ e λc=>by have q:(H b).isSome=true:=(jAj.mp c).2;rw[n]at q;simp at q
theorem wg9{b:Addr}{o:Obj}(e:(Wm h H).get? b=some o):h.get? b=some o/\H b=none:=by
 have c:h.get? b=some o:=W.of_hideAll (trk h H) e;refine⟨c,?_⟩;cases q:H b with
 |none=>rfl
 |some x=>have f:b∈trk h H:=jAj.mpr ⟨jAt.mpr (jAr c),by simp[q]⟩;have z:(Wm h H).get? b=none:=W.hideAll_none (trk h H) f;rw[z]at e;cases e
structure Mod(K:Frag)(mg:Str->Option Value)(base:Heap):Prop where
 kin:K.In base
 glob:base.Ns mainGlobals mg
 blt:∃mb,base.Ns builtinsNs mb/\∀x:Str,x ≠ "__name__"->mb x=bootBuiltins x
 nolimit:base.NoLimit
structure Cx where
 prog:Program
 w:World
 K:Frag
 mg:Str->Option Value
 base:Heap
 A:Around
 N:List Str
 s₀:Shared
 H₀:Hp
 env:Env
 outer:List Env
 stack:List Env
 ex:List Addr
 fn:Str->Bool
 calm:Bool
 pn:List (Addr×Obj)
 xe:Value->Shared->Prop
def frs(l:List Env):List Addr:=l.filterMap (·.frame)
abbrev Cx.fs(X:Cx):List Addr:=frs X.outer
def Vis(sc:Scope)(x:Str):Prop:=sc.names.lookup x=some .local\/sc.names.lookup x=some .cell\/sc.names.lookup x=some .free
def Loc(sc:Scope)(x:Str):Prop:=sc.names.lookup x=some .local\/sc.names.lookup x=some .cell
def Look(env:Env)(h:Heap)(m:Str->Option Value)(x:Str)(u:Value):Prop:=
 (env.kindOf x=some .local/\m x=some u)\/((env.kindOf x=some .cell\/env.kindOf x=some .free)/\∃c,env.cells.lookup x=some c/\h.IsCell c (some u))
structure Cx.Ok(X:Cx):Prop where
 mod:Mod X.K X.mg X.base
 kind:X.env.scope.kind=.function
 glob:X.env.globals=mainGlobals
 blt:X.env.builtins=builtinsNs
 above:X.s₀.heap.objs.size<=X.env.locals
 inj:∀x y c,X.env.cells.lookup x=some c->X.env.cells.lookup y=some c->x=y
 has:∀x,(X.env.kindOf x=some .cell\/X.env.kindOf x=some .free)->∃c,X.env.cells.lookup x=some c
 cab:∀x c,X.fn x=true->X.env.cells.lookup x=some c->X.s₀.heap.objs.size<=c
 hd:X.calm=true->X.A.handled=none
 frames:X.A.frames=some X.stack
 stk:X.stack=X.outer\/(X.stack=X.env::X.outer/\X.env.frame=some X.env.locals)
 exf:∀b∈X.ex,b≠X.env.locals/\∀x c,X.env.cells.lookup x=some c->c≠b
 bs:∀b o,X.base.get? b=some o->X.s₀.heap.get? b=some o/\X.H₀ b=none
 bsz:X.base.objs.size<=X.s₀.heap.objs.size
 noex:∀b o,X.base.get? b=some o->b∉X.ex
 exfs:∀b∈X.ex,b∉X.fs
 funs:X.s₀.heap.FunFrames X.base X.outer
 frf:∀b∈X.fs,X.H₀ b=none
structure Inv(X:Cx)(pins:List (Addr×Obj))(σ:List (Option V))(H:Hp)(s:Shared):Prop where
 ok:X.Ok
 os:s.os=X.s₀.os
 bare:AllBare s.gens
 base:Un X.fs X.ex X.H₀ H X.s₀.heap s.heap
 loc:∃m,s.heap.Ns X.env.locals m/\∀(i:Nat)(x:Str)(v:V),X.N[i]? = some x->σ[i]? = some (some v)->Vis X.env.scope x->∃u,RelV v u/\Look X.env s.heap m x u
 cell:∀x c,X.env.cells.lookup x=some c->∃v,s.heap.IsCell c v
 free:H X.env.locals=none
 freeC:∀x c,X.env.cells.lookup x=some c->H c=none
 pin:∀p∈X.pn++pins,s.heap.get? p.1=some p.2/\H p.1=none/\p.1≠X.env.locals/\p.1∉X.fs/\∀v,p.2.data≠.cell v
 hok:HOk X.prog X.w H s.heap
 len:σ.length=X.N.length
variable {X:Cx}{pins:List (Addr×Obj)}{s:Shared}
variable {u:Value}{t' i j:Nat}{it:Addr}{A:Around}{E:Value->Shared->Prop}{v:V}{s':Shared}
section
variable {σ:List (Option V)}
theorem Cx.Ok.nofr(ok:X.Ok){b:Addr}{o:Obj}(e:X.base.get? b=some o):b∉X.fs:=λc=>by have:=(ok.funs.mem c).1;rw[e]at this;cases this
theorem Inv.bs(I:Inv X pins σ H s):∀b o,X.base.get? b=some o->s.heap.get? b=some o/\H b=none:=λb o e =>
 ⟨I.base.keep b o (I.ok.bs b o e).1 (I.ok.bs b o e).2 (I.ok.nofr e) (I.ok.noex b o e),I.base.free b o (I.ok.bs b o e).1 (I.ok.bs b o e).2 (I.ok.noex b o e)⟩
theorem Inv.bk(I:Inv X pins σ H s):∀b o,X.base.get? b=some o->s.heap.get? b=some o:=λb o e=>(I.bs b o e).1
theorem Inv.mod(I:Inv X pins σ H s):Mod X.K X.mg X.base:=I.ok.mod
theorem Inv.kIn(I:Inv X pins σ H s):X.K.In s.heap:=I.ok.mod.kin.keeps I.bk
theorem Inv.nolimit(I:Inv X pins σ H s):s.heap.NoLimit:=I.ok.mod.nolimit.keeps I.bk
theorem Inv.lt(I:Inv X pins σ H s):X.env.locals<s.heap.objs.size:=let ⟨_,b,_⟩:=I.loc;b.lt
theorem Inv.sz(I:Inv X pins σ H s):X.s₀.heap.objs.size<=s.heap.objs.size:=jBt I.ok.above (jDx I.lt)
theorem Inv.nofs(I:Inv X pins σ H s)(h:s.heap.objs.size<=a):a∉X.fs:=λc=>by have⟨_,o,b,_⟩:=I.ok.funs.mem c;exact absurd (jAx (jAr b) (jBt I.sz h)) (jCf _)
theorem Inv.cne(I:Inv X pins σ H s):∀x c,X.env.cells.lookup x=some c->c≠X.env.locals:=λx c e z=>by have⟨v,o,g,k⟩:=I.cell x c e;obtain⟨m,⟨l,n,p,b,f,_⟩,_⟩:=I.loc;rw[z,b]at g;cases g;rw[f]at k;cases k
theorem Inv.funs(I:Inv X pins σ H s):s.heap.FunFrames X.base X.outer:=by
 have all:∀(l:List Env),(∀b∈frs l,b∈X.fs)->X.s₀.heap.FunFrames X.base l->s.heap.FunFrames X.base l:=by
  intro l;induction l with
  |nil=>intro _ _;trivial
  |cons env r m=>intro k y;obtain⟨B,⟨L,o,c,q,p,C⟩,n⟩:=y;have g:L∈X.fs:=k L (by unfold frs;rw[jFn,c];exact jAf);have⟨F,e⟩:=I.base.slot L o p (I.ok.frf L g) g λz=>I.ok.exfs L z g;exact⟨B,⟨L,_,c,q,e,C⟩,m (λb f=>k b (by unfold frs;rw[jFn,c];exact jAb _ f)) n⟩
 exact all X.outer (λ_ f=>f) I.ok.funs
theorem Inv.stack(I:Inv X pins σ H s):s.heap.FunFrames X.base X.stack:=by
 rcases I.ok.stk with e | ⟨e,c⟩
 ·rw[e];exact I.funs
 ·rw[e];obtain⟨m,b,_⟩:=I.loc;refine .cons (by rw[I.ok.kind];decide) c b ?_ I.funs;exact Heap.get?_none_of_le (jBt I.ok.bsz I.ok.above)
theorem Inv.stkSub(I:Inv X pins σ H s):∀b∈frs X.stack,b∈X.env.locals::X.fs:=λb c=>by
 rcases I.ok.stk with e | ⟨e,f⟩
 ·rw[e]at c;exact jAb _ c
 ·rw[e]at c;unfold frs at c;rw[jFn,f]at c;exact c
theorem Inv.stkFree(I:Inv X pins σ H s):∀b∈frs X.stack,H b=none:=λb c=>by
 rcases jAe.mp (I.stkSub b c) with e |c
 ·rw[e];exact I.free
 ·have⟨_,o,f,_⟩:=I.ok.funs.mem c;exact I.base.free b o f (I.ok.frf b c) λz=>I.ok.exfs b z c
theorem Inv.step{g':Array GenState}{d':Drawn}{ch:List Addr}(I:Inv X pins σ H s)
  (y:∀b∈ch,(b∈X.ex\/X.s₀.heap.objs.size<=b)/\b≠X.env.locals/\(∀x c,X.env.cells.lookup x=some c->c≠b)/\∀p∈X.pn++pins,p.1≠b)
  (keep:∀b o,b≠X.env.locals->b∉X.fs->b∉ch->s.heap.get? b=some o->H b=none->h'.get? b=some o)
  (slot:∀b o,b≠X.env.locals->b∈X.fs->b∉ch->s.heap.get? b=some o->H b=none->∃T,h'.get? b=some {o with slots:=T})(free:∀b o,b∉ch->s.heap.get? b=some o->H b=none->H' b=none)
  (there:∀b o,b∉ch->s.heap.get? b=some o->∃K,h'.get? b=some K)
  (tups:∀b xs,H b=some (.tup xs)->H' b=some (.tup xs))(M:∀b o u,H b=some (.frz o u)->H' b=some (.frz o u))(J:∀b ps,H b=some (.tbl ps)->∃more,H' b=some (.tbl (ps++more)))
  (ns:∀m,s.heap.Ns X.env.locals m->h'.Ns X.env.locals m)(U:HOk X.prog X.w H' h')(hg:AllBare g'):
  Inv X pins σ H' {s with heap:=h',gens:=g',drawn:=d',toks:=t'}:=by
 have L:∀b o,X.s₀.heap.get? b=some o->b≠X.env.locals:=λb o e=>jAv (jAx (jAr e) I.ok.above);have B:∀b o,X.s₀.heap.get? b=some o->b∉X.ex->b∉ch:=λb o e f F=>by
  rcases(y b F).1 with z |z
  ·exact f z
  ·exact absurd (jAx (jAr e) z) (jCf _)
 have cellK:∀x c,X.env.cells.lookup x=some c->∀v,s.heap.IsCell c v->h'.IsCell c v:=λx c e v ⟨o,G,Y⟩=>by
  have g:c∉ch:=λz=>(y c z).2.2.1 x c e rfl;by_cases hc:c∈X.fs
  ·have⟨T,q⟩:=slot c o (I.cne x c e) hc g G (I.freeC x c e);exact⟨_,q,Y⟩
  ·exact⟨o,keep c o (I.cne x c e) hc g G (I.freeC x c e),Y⟩
 refine⟨I.ok,I.os,hg,⟨λb o e n F f=>?_,λb o e n F f=>?_,λb o e n f=>?_,λb o e f=>?_,λb xs e=>tups b xs (I.base.tups b xs e),λb o xs e=>M b o xs (I.base.frzs b o xs e),λb ps e=>?_⟩,?_,λx c e=>?_,?_,λx c e=>?_,λp hp=>?_,U,I.len⟩
 ·exact keep b o (L b o e) F (B b o e f) (I.base.keep b o e n F f) (I.base.free b o e n f)
 ·have⟨T,C⟩:=I.base.slot b o e n F f;have⟨Q,O⟩:=slot b _ (L b o e) F (B b o e f) C (I.base.free b o e n f);exact⟨Q,O⟩
 ·have⟨K,C⟩:=I.base.there b o e f;exact free b K (B b o e f) C (I.base.free b o e n f)
 ·have⟨K,C⟩:=I.base.there b o e f;exact there b K (B b o e f) C
 ·have⟨m1,C⟩:=I.base.tbls b ps e;have⟨m2,O⟩:=J b _ C;exact⟨m1++m2,by rw[O,Array.append_assoc]⟩
 ·obtain⟨m,hn,hl⟩:=I.loc;refine⟨m,ns m hn,λi x v C O e3=>?_⟩;have⟨u,r,l⟩:=hl i x v C O e3;refine⟨u,r,?_⟩;rcases l with l | ⟨k,c,e,z⟩
  ·exact .inl l
  ·exact .inr ⟨k,c,e,cellK x c e _ z⟩
 ·have⟨v,z⟩:=I.cell x c e;exact⟨v,cellK x c e v z⟩
 ·obtain⟨m,⟨o,_,_,G,_⟩,_⟩:=I.loc;exact free _ o (λz=>(y _ z).2.1 rfl) G I.free
 ·have⟨v,o,G,Y⟩:=I.cell x c e;exact free c o (λz=>(y c z).2.2.1 x c e rfl) G (I.freeC x c e)
 ·have⟨e,n,ne,Z,d⟩:=I.pin p hp;have g:p.1∉ch:=λz=>(y p.1 z).2.2.2 p hp rfl;exact⟨keep p.1 p.2 ne Z g e n,free p.1 p.2 g e n,ne,Z,d⟩
theorem Inv.un(I:Inv X pins σ H s)(u:Un X.fs [] H H' s.heap h')(f:HOk X.prog X.w H' h'):Inv X pins σ H' {s with heap:=h',toks:=t'}:=by
 have⟨m,⟨o,J,K,p,r⟩,_⟩:=id I.loc;have⟨C,B⟩:=u.any p I.free (by simp);exact I.step (g':=s.gens) (d':=s.drawn) (ch:=[]) (λ_ z=>nomatch z) (λb o _ g _ e n=>u.keep b o e n g (by simp)) (λb o _ g _ e n=>u.slot b o e n g (by simp)) (λb o _ e n=>u.free b o e n (by simp)) (λb o _ e=>u.there b o e (by simp)) u.tups u.frzs u.tbls (λG y=>by
  obtain⟨F,k,l,c,q⟩:=y;rw[p]at c;cases c;exact⟨_,k,l,B,q⟩) f I.bare
theorem Inv.call{g':Array GenState}{d':Drawn}{ch:List Addr}(I:Inv X pins σ H s)(u:Un (frs X.stack) ch H H' s.heap h')(l:HOk X.prog X.w H' h')(J:AllBare g')
  (k:∀b∈ch,(b∈X.ex\/X.s₀.heap.objs.size<=b)/\b≠X.env.locals/\(∀x c,X.env.cells.lookup x=some c->c≠b)/\∀p∈X.pn++pins,p.1≠b):
  Inv X pins σ H' {s with heap:=h',gens:=g',drawn:=d',toks:=t'}:=by
 have⟨m,⟨o,Q,T,C,r⟩,_⟩:=id I.loc;have⟨L,q⟩:=u.any C I.free λz=>(k _ z).2.1 rfl;exact I.step (ch:=ch) k (λb o q K f e n=>u.keep b o e n (λz=>(jAe.mp (I.stkSub b z)).elim q K) f) (λb o _ _ f e n=>u.any e n f) (λb o f e n=>u.free b o e n f) (λb o f e=>u.there b o e f) u.tups u.frzs u.tbls (λO G=>by
  obtain⟨M,y,B,g,F⟩:=G;rw[C]at g;cases g;exact⟨_,y,B,q,F⟩) l J
theorem Inv.turned(I:Inv X pins σ H s)(k:∀b o,b≠it->s.heap.get? b=some o->h'.get? b=some o)(hn:H it=none)(l:it≠X.env.locals)
  (J:it∈X.ex\/X.s₀.heap.objs.size<=it)(G:∀x c,X.env.cells.lookup x=some c->c≠it)(F:∀p∈X.pn++pins,p.1≠it):Inv X pins σ H {s with heap:=h',toks:=t'}:=by
 have g:∀b u,H b=some u->b≠it:=λb u e z=>by rw[z,hn]at e;cases e
 refine I.step (g':=s.gens) (d':=s.drawn) (ch:=[it]) (λb C=>?_) (λb o _ _ f e _=>k b o (λz=>f (by simp[z])) e) (λb o _ _ f e _=>⟨o.slots,k b o (λz=>f (by simp[z])) e⟩) (λ_ _ _ _ n=>n)
  (λb o f e=>⟨o,k b o (λz=>f (by simp[z])) e⟩) (λ_ _ e=>e) (λ_ _ _ e=>e) (λb ps e=>⟨#[],by rw[e];simp⟩) (λm B=>?_) (λb u e=>?_) I.bare
 ·have e:b=it:=by simpa using C
  subst e;exact⟨J,l,G,F⟩
 ·obtain⟨o,K,L,y,r⟩:=B;exact⟨o,K,L,k _ o (Ne.symm l) y,r⟩
 ·refine(I.hok b u e).stay (λc v f q=>k c v ?_ q) (λ_ q=>q) λ_ _ q=>q;rcases f with z |z
  ·rw[z];exact g b u e
  ·exact g c _ z
theorem Inv.tok(I:Inv X pins σ H s)(t:Nat):Inv X pins σ H {s with toks:=t}:=I.un (h':=s.heap) (t':=t) Un.refl I.hok
theorem Inv.kept(I:Inv X pins σ H s)(k:∀b u,s.heap.get? b=some u->h'.get? b=some u):Inv X pins σ H {s with heap:=h',toks:=t'}:=I.un (Un.kept k) (I.hok.kept k)
theorem Inv.laid(I:Inv X pins σ H s)(k:∀b u,s.heap.get? b=some u->h'.get? b=some u)(c:s.heap.objs.size<=a)(new:Dj X.prog X.w (upd H a o) h' a o):
  Inv X pins σ (upd H a o) {s with heap:=h',toks:=t'}:=I.un (Un.laid k c (I.hok.fresh c)) (I.hok.laid k c new)
theorem Inv.write{e:Addr}(I:Inv X pins σ H s)(f:Mut (H x))(g:e=x\/H e=some (.own x))(k:∀b u,b≠e->s.heap.get? b=some u->h'.get? b=some u)(c:∃u,h'.get? e=some u)
  (new:Dj X.prog X.w (upd H x o) h' x o):Inv X pins σ (upd H x o) {s with heap:=h',toks:=t'}:=I.un (Un.write f g k c) (I.hok.write f g k c new)
theorem Inv.pins_of{b:List (Addr×Obj)}(I:Inv X pins σ H s)(h:∀p∈b,s.heap.get? p.1=some p.2/\H p.1=none/\p.1≠X.env.locals/\p.1∉X.fs/\∀v,p.2.data≠.cell v):Inv X b σ H s:=
 ⟨I.ok,I.os,I.bare,I.base,I.loc,I.cell,I.free,I.freeC,λp c=>(jAq.mp c).elim (λz=>I.pin p (jBk _ z)) (h p),I.hok,I.len⟩
theorem jl2{N:List Str}(c:N.Nodup){x:Str}(a:N[i]? = some x)(b:N[j]? = some x):i=j:=by have⟨k,f⟩:=jAl.mp a;have⟨g,e⟩:=jAl.mp b;exact(List.getElem_inj c).mp (f.trans e.symm)
theorem Zy{M:Model}{x:Str}{Q:Unit->Shared->Prop}(I:Inv X pins σ H s)(hN:X.N.Nodup)(hi:X.N[i]? = some x)(B:Loc X.env.scope x)(r:RelV v u)
  (h:∀s',Inv X pins (σ.set i (some v)) H s'->(∃a,Heap.SameBut a s.heap s'.heap/\(a=X.env.locals\/X.env.cells.lookup x=some a))->Q () s')(hf:X.fn x=true\/X.env.scope.names.lookup x=some .local:=by first |exact .inl rfl |exact .inr rfl |assumption):wpAny M A (storeName X.env x u) Q E s:=by
 have⟨m,hn,hl⟩:=id I.loc;have Y:(X.env.scope.kind == .class || (X.env.scope.kind == .module && X.env.locals != X.env.globals))=false:=by rw[I.ok.kind];rfl
 have J:i<σ.length:=by rw[I.len];exact(jAl.mp hi).1
 have cne:=I.cne;have tracked:∀{a:Addr}{h':Heap},(∃o,s.heap.get? a=some o/\H a=none)->Heap.SameBut a s.heap h'->HOk X.prog X.w H h':=λ{a h'} ha f b ob e=>by
  obtain⟨_,_,C⟩:=ha;refine(I.hok b ob e).stay (λc w' l q=>(f.2 c ?_).trans q) (λ_ q=>q) λ_ _ q=>q;rintro rfl;rcases l with rfl |l
  ·rw[C]at e;cases e
  ·rw[C]at l;cases l
 rcases B with G |G
 ·refine wpAny_storeName_local G hn (λh' ae f=>?_) Y;have⟨oL,_,_,ab,_⟩:=id hn;refine h _ ⟨I.ok,I.os,I.bare,⟨λb o e n O B=>?_,λb o e n O B=>?_,I.base.free,λb o e B=>?_,I.base.tups,I.base.frzs,I.base.tbls⟩,⟨_,ae,λj y v' g F e3=>?_⟩,λy c e=>?_,I.free,I.freeC,λp hp=>?_,tracked ⟨oL,ab,I.free⟩ f,by simpa using I.len⟩ ⟨_,f,.inl rfl⟩
  ·exact(f.2 b (jAv (jAx (jAr e) I.ok.above))).trans (I.base.keep b o e n O B)
  ·have⟨sl,g⟩:=I.base.slot b o e n O B;exact⟨sl,(f.2 b (jAv (jAx (jAr e) I.ok.above))).trans g⟩
  ·have⟨o',g⟩:=I.base.there b o e B;exact⟨o',(f.2 b (jAv (jAx (jAr e) I.ok.above))).trans g⟩
  ·by_cases K:j=i
   ·subst K;rw[hi]at g;cases g;rw[jCn J]at F;cases F;exact⟨u,r,.inl ⟨G,by simp⟩⟩
   ·rw[jAz (Ne.symm K)]at F;have⟨u',r',q⟩:=hl j y v' g F e3;refine⟨u',r',?_⟩;rcases q with ⟨k,e⟩ | ⟨k,c,e,z⟩
    ·refine .inl ⟨k,?_⟩;have:y≠x:=λe=>K (jl2 hN g (e ▸ hi));simp[this,e]
    ·exact .inr ⟨k,c,e,z.sameBut f (cne y c e)⟩
  ·have⟨w',z⟩:=I.cell y c e;exact⟨w',z.sameBut f (cne y c e)⟩
  ·have⟨e,n,ne,nf,d⟩:=I.pin p hp;exact⟨(f.2 p.1 ne).trans e,n,ne,nf,d⟩
 ·have L:X.fn x=true:=by
   rcases hf with z |z
   ·exact z
   ·rw[z]at G;cases G
  have⟨c,l⟩:=I.ok.has x (.inl G);have⟨w',z⟩:=I.cell x c l;refine wpAny_storeName_cell I.ok.kind G l z (λh' aa f=>?_);have⟨oc,U,T⟩:=id z;refine h {s with heap:=h'} ⟨I.ok,I.os,I.bare,⟨λb o e n O B=>?_,λb o e n O B=>?_,I.base.free,λb o e B=>?_,I.base.tups,I.base.frzs,I.base.tbls⟩,⟨m,hn.sameBut f (Ne.symm (cne x c l)),λj y v' g F e3=>?_⟩,λy c' e=>?_,I.free,I.freeC,λp hp=>?_,tracked ⟨oc,U,I.freeC x c l⟩ f,by simpa using I.len⟩ ⟨c,f,.inr l⟩
  ·exact(f.2 b (jAv (jAx (jAr e) (I.ok.cab x c L l)))).trans (I.base.keep b o e n O B)
  ·have⟨sl,g⟩:=I.base.slot b o e n O B;exact⟨sl,(f.2 b (jAv (jAx (jAr e) (I.ok.cab x c L l)))).trans g⟩
  ·have⟨o',g⟩:=I.base.there b o e B;exact⟨o',(f.2 b (jAv (jAx (jAr e) (I.ok.cab x c L l)))).trans g⟩
  ·by_cases K:j=i
   ·subst K;rw[hi]at g;cases g;rw[jCn J]at F;cases F;exact⟨u,r,.inr ⟨.inl G,c,l,aa⟩⟩
   ·rw[jAz (Ne.symm K)]at F;have⟨u',r',q⟩:=hl j y v' g F e3;refine⟨u',r',?_⟩;rcases q with q | ⟨k,c',e,z'⟩
    ·exact .inl q
    ·refine .inr ⟨k,c',e,z'.sameBut f ?_⟩;rintro rfl;exact K (jl2 hN g (I.ok.inj _ _ _ e l ▸ hi))
  ·by_cases Z:c'=c
   ·subst Z;exact⟨_,aa⟩
   ·have⟨w2,z2⟩:=I.cell y c' e;exact⟨w2,z2.sameBut f Z⟩
  ·have⟨e,n,ne,nf,d⟩:=I.pin p hp;refine⟨(f.2 p.1 ?_).trans e,n,ne,nf,d⟩;intro q;rw[q,U]at e;have q':oc=p.2:=Option.some.inj e;exact d w' (by rw[<-q'];exact T)
theorem jo7{M:Model}{x:Str}{Q:Unit->Shared->Prop}(I:Inv X pins σ H s)(e:X.N.Nodup)(hi:X.N[i]? = some x)(b:Loc X.env.scope x)(r:RelV v u)
  (h:∀s',Inv X pins (σ.set i (some v)) H s'->Q () s')(c:X.fn x=true\/X.env.scope.names.lookup x=some .local:=by first |exact .inl rfl |exact .inr rfl |assumption):wpAny M A (storeName X.env x u) Q E s:=
 Zy I e hi b r (λs' f _=>h s' f) c
theorem Inv.call'{ch:List Addr}(I:Inv X pins σ H s)(l:s'.os=s.os)(u:Un (frs X.stack) ch H H' s.heap s'.heap)(f:HOk X.prog X.w H' s'.heap)(m:AllBare s'.gens)
  (g:∀b∈ch,(b∈X.ex\/X.s₀.heap.objs.size<=b)/\b≠X.env.locals/\(∀x c,X.env.cells.lookup x=some c->c≠b)/\∀p∈X.pn++pins,p.1≠b):Inv X pins σ H' s':=by
 obtain⟨h',g',d',t',k⟩:=s';have e:k=s.os:=l;subst e;exact I.call (g':=g') (t':=t') (d':=d') u f m g
end
abbrev XK:=Value->Option Addr->Hp->Prop
abbrev St:=List (Option V)
abbrev VK:=V->Hp->Prop
abbrev TE:=St->Hp->VK->Prop
abbrev TT:=St->Hp->(Bool->Hp->Prop)->Prop
abbrev TA:=St->Hp->(List V->Hp->Prop)->Prop
structure Ends where
 nx:St->Hp->Prop
 rt:VK
 bk:St->Hp->Prop:=λ_ _=>False
 ct:St->Hp->Prop:=λ_ _=>False
abbrev TS:=Ends->St->Hp->Prop
def EP(X:Cx)(pins:List (Addr×Obj))(b:St)(Q:VK)(u:Value)(s':Shared):Prop:=∃v H',Inv X pins b H' s'/\RelV v u/\Q v H'
def TP(X:Cx)(pins:List (Addr×Obj))(c:St)(Q:Bool->Hp->Prop)(b:Bool)(s':Shared):Prop:=∃H',Inv X pins c H' s'/\Q b H'
def AP(X:Cx)(pins:List (Addr×Obj))(c:St)(Q:List V->Hp->Prop)(us:List Value)(s':Shared):Prop:=∃b H',Inv X pins c H' s'/\Vals b us/\Q b H'
def SP(X:Cx)(pins:List (Addr×Obj))(D:Ends)(f:Flow)(s':Shared):Prop:=
 match f with
 | .next=>∃b H',Inv X pins b H' s'/\D.nx b H'
 | .brk=>∃b H',Inv X pins b H' s'/\D.bk b H'
 | .cont=>∃b H',Inv X pins b H' s'/\D.ct b H'
 | .ret u=>∃v b H',Inv X pins b H' s'/\RelV v u/\D.rt v H'
def PE(X:Cx)(e:Expr)(t:TE):Prop:=
 ∀(pins:List (Addr×Obj))(s:Shared)(b:St)(H:Hp)(Q:VK),Inv X pins b H s->t b H Q->wpAny (model X.prog X.w) X.A (eval e X.env) (EP X pins b Q) X.xe s
def PT(X:Cx)(e:Expr)(t:TT):Prop:=
 ∀(pins:List (Addr×Obj))(s:Shared)(b:St)(H:Hp)(Q:Bool->Hp->Prop),Inv X pins b H s->t b H Q->wpAny (model X.prog X.w) X.A (isTrue e X.env (eval e X.env)) (TP X pins b Q) X.xe s
def PW(X:Cx)(e:Expr)(t:TT):Prop:=
 ∀(whole:Sem Value)(pins:List (Addr×Obj))(s:Shared)(b:St)(H:Hp)(Q:Bool->Hp->Prop),Inv X pins b H s->t b H Q->wpAny (model X.prog X.w) X.A (isTrue e X.env whole) (TP X pins b Q) X.xe s
theorem PW.pt{e:Expr}{t:TT}(h:PW X e t):PT X e t:=h _
def PA(X:Cx)(es:List Expr)(t:TA):Prop:=
 ∀(pos:Pos)(pins:List (Addr×Obj))(s:Shared)(b:St)(H:Hp)(Q:List V->Hp->Prop),Inv X pins b H s->t b H Q->wpAny (model X.prog X.w) X.A (spliced (backTo pos (starEach es X.env))) (AP X pins b Q) X.xe s
def PS(X:Cx)(st:Stmt)(t:TS):Prop:=
 ∀(pins:List (Addr×Obj))(s:Shared)(b:St)(H:Hp)(D:Ends),Inv X pins b H s->t D b H->wpAny (model X.prog X.w) X.A (exec st X.env) (SP X pins D) X.xe s
def PSs(X:Cx)(st:List Stmt)(t:TS):Prop:=
 ∀(pins:List (Addr×Obj))(s:Shared)(b:St)(H:Hp)(D:Ends),Inv X pins b H s->t D b H->wpAny (model X.prog X.w) X.A (execs st X.env) (SP X pins D) X.xe s
theorem thn{b:Type}{t:Sem b}{Q c:b->Shared->Prop}{M:Model}(h:wpAny M A t Q E s)(e:∀a s,Q a s->c a s):wpAny M A t c E s:=wpAny_mono h e λ_ _ x=>x
theorem thG{e b:Type}{t:Sem b}{c:St}{R:e->b->Prop}{Q:e->Hp->Prop}{f:b->Shared->Prop}{M:Model}
  (h:wpAny M A t (λu s'=>∃v H',Inv X pins c H' s'/\R v u/\Q v H') E s)(k:∀u s' v H',Inv X pins c H' s'->R v u->Q v H'->f u s'):wpAny M A t f E s:=wpAny_mono h (λu s' q=>let ⟨v,H',I,r,z⟩:=q;k u s' v H' I r z) λ_ _ x=>x
variable {b:Expr}{pos:Pos}{B:TE}
variable {Q:Value->Shared->Prop}
section
def wk7(i:Nat):TE:=λc H Q=>∃v,c[i]? = some (some v)/\Q v H
def tC(v:V):TE:=λ_ H Q=>Q v H
theorem wu8{x:Str}(J:X.N[i]? = some x)(z:Vis X.env.scope x)(n:(x == ("__debug__" : Str))=false:=by decide)(p:(x == ("__classdict__" : Str))=false:=by decide):PE X (.Name x pos) (wk7 i):=by
 intro pins s y H Q I h;obtain⟨v,e,h⟩:=h;obtain⟨m,C,G⟩:=I.loc;have⟨u,r,l⟩:=G i x v J e z;have k:EP X pins y Q u s:=⟨v,H,I,r,h⟩;rcases l with ⟨g,F⟩ | ⟨g,c,q,f⟩
 ·exact wpAny_Name (wpAny_loadName_local I.ok.kind g C F k) n
 ·rcases g with g |g
  ·exact wpAny_Name (wpAny_loadName_cell I.ok.kind g q f k) n
  ·exact wpAny_Name (wpAny_loadName_free I.ok.kind g q f k p) n
theorem wu4{i j pos}:PE X (.Constant (.int i) j pos) (tC (.int i)):=λ_ _ _ H _ I h=>wpAny_Constant_int ⟨.int i,H,I.tok _,⟨_,rfl⟩,h⟩
theorem ye5{b j pos}:PE X (.Constant (.bool b) j pos) (tC (.bl b)):=λ_ _ _ H _ I h=>Constant_bool ⟨.bl b,H,I,rfl,h⟩
def Gl(X:Cx)(x:Str):Prop:=X.env.kindOf x=some .globalImplicit
theorem wf8{c:St}{x:Str}(I:Inv X pins c H s)(f:Gl X x)(e:X.mg x=some u)(h:Q u s)
  (g:(x == ("__debug__" : Str))=false:=by decide):wpAny (model X.prog X.w) X.A (eval (.Name x pos) X.env) Q E s:=
 Calls.Name_function_global I.ok.kind f (Calls.loadGlobal_global (by rw[I.ok.glob];exact I.mod.glob.keeps I.bk) e h) g
theorem Tv{c:St}{x:Str}(I:Inv X pins c H s)(g:Gl X x)(f:X.mg x=none)(e:bootBuiltins x=some u)(h:Q u s)
  (hn:x ≠ "__name__":=by decide)(k:(x == ("__debug__" : Str))=false:=by decide):wpAny (model X.prog X.w) X.A (eval (.Name x pos) X.env) Q E s:=by
 obtain⟨n,m,l⟩:=I.mod.blt;exact Calls.Name_function_global I.ok.kind g (Calls.loadGlobal_builtin (by rw[I.ok.glob];exact I.mod.glob.keeps I.bk) f (by rw[I.ok.blt];exact m.keeps I.bk) ((l x hn).trans e) h) k
theorem wh7{x:Str}(f:Gl X x)(e:X.mg x=none)(c:bootBuiltins x=some u)(r:RelV v u)(hn:x ≠ "__name__":=by decide)(g:(x == ("__debug__" : Str))=false:=by decide):PE X (.Name x pos) (tC v):=
 λ_ _ _ H _ I h=>Tv I f e c ⟨v,H,I,r,h⟩ hn g
variable {a:Expr}{tb:TE}
variable {f g:TT}{e:List Expr}
def ym0(t u:TT):TT:=λk H Q=>t k H λc l=>if c=true then u k l Q else Q false l
def tOr(t u:TT):TT:=λk H Q=>t k H λc l=>if c=true then Q true l else u k l Q
def ym7(t:TT):TT:=λk H Q=>t k H λc l=>Q (!c) l
theorem wi8(l:PT X a f):PW X (.BoolOp .And [a] pos) f:=by
 intro m pins s k H Q I h;refine isTrue_and (thn (l pins s k H Q I h) λc n e=>?_);cases c with
 |true=>exact isTrue_and_nil e
 |false=>exact e
theorem wv7(l:PT X a f):PW X (.BoolOp .Or [a] pos) f:=by
 intro m pins s k H Q I h;refine isTrue_or (thn (l pins s k H Q I h) λc n e=>?_);cases c with
 |false=>exact isTrue_or_nil e
 |true=>exact e
theorem wv6(z:PT X a f)(y:PW X (.BoolOp .And (b::e) pos) g):PW X (.BoolOp .And (a::b::e) pos) (ym0 f g):=by
 intro q pins s l H Q I h;refine isTrue_and (thn (z pins s l H _ I h) λc r k=>?_);obtain⟨p,n,m⟩:=k;cases c with
 |true=>exact y q pins r l p Q n m
 |false=>exact⟨p,n,m⟩
theorem ye9(z:PT X a f)(y:PW X (.BoolOp .Or (b::e) pos) g):PW X (.BoolOp .Or (a::b::e) pos) (tOr f g):=by
 intro q pins s l H Q I h;refine isTrue_or (thn (z pins s l H _ I h) λc r k=>?_);obtain⟨p,n,m⟩:=k;cases c with
 |true=>exact⟨p,n,m⟩
 |false=>exact y q pins r l p Q n m
theorem wv4(l:PT X a f):PT X (.UnaryOp .Not a pos) (ym7 f):=by intro pins s k H Q I h;exact isTrue_not (l pins s k H (λc m=>Q (!c) m) I h)
def yf9(B tb:TE):TE:=λk H Q=>B k H λx l=>∃c,x=.bl c/\if c=true then tb k l Q else Q (.bl false) l
def ym8(B tb:TE):TE:=λk H Q=>B k H λx l=>∃c,x=.bl c/\if c=true then Q (.bl true) l else tb k l Q
def yg6(B:TE):TE:=λk H Q=>B k H λx l=>∃c,x=.bl c/\Q (.bl (!c)) l
theorem wu7{op}{t:TE}(h:PE X a t):PE X (.BoolOp op [a] pos) t:=λpins s c H Q I k=>BoolOp_one (h pins s c H Q I k)
theorem wu2(y:PE X a B)(r:PE X (.BoolOp .And (b::e) pos) tb):PE X (.BoolOp .And (a::b::e) pos) (yf9 B tb):=by
 intro pins s l H Q I h;refine BoolOp_and (thG (y pins s l H _ I h) λv p x n m q k=>?_);obtain⟨c,rfl,k⟩:=k;cases q;refine wpAny_truthy_bool ?_;cases c with
 |true=>exact r pins p l n Q m k
 |false=>exact⟨.bl false,n,m,rfl,k⟩
theorem ye7(y:PE X a B)(r:PE X (.BoolOp .Or (b::e) pos) tb):PE X (.BoolOp .Or (a::b::e) pos) (ym8 B tb):=by
 intro pins s l H Q I h;refine BoolOp_or (thG (y pins s l H _ I h) λv p x n m q k=>?_);obtain⟨c,rfl,k⟩:=k;cases q;refine wpAny_truthy_bool ?_;cases c with
 |false=>exact r pins p l n Q m k
 |true=>exact⟨.bl true,n,m,rfl,k⟩
theorem wu6(n:PE X a B):PE X (.UnaryOp .Not a pos) (yg6 B):=by intro pins s l H Q I h;refine UnaryOp_ (thG (n pins s l H _ I h) λv r x q p m k=>?_);obtain⟨c,rfl,k⟩:=k;cases m;exact not_of (wpAny_truthy_bool ⟨.bl (!c),q,p,rfl,k⟩)
def tIf(t:TT)(B tb:TE):TE:=λk H Q=>t k H λc l=>if c=true then B k l Q else tb k l Q
theorem kw4{c:Expr}(r:PT X c f)(z:PE X a B)(y:PE X b tb):PE X (.IfExp c a b pos) (tIf f B tb):=by
 intro pins s k H Q I h;refine wpAny_IfExp (thn (r pins s k H _ I h) λd m l=>?_);obtain⟨q,p,n⟩:=l;cases d with
 |true=>exact z pins m k q Q p n
 |false=>exact y pins m k q Q p n
end
def SqL(K:Frag)(H:Hp)(a:Addr)(xs:List V):Prop:=
 Rd H a (.lst xs) \/
  ∃(o:Obj)(its:Array Value)(n:Nat),K.lookup a=some o/\o.cls=.type "list"/\o.dict=none/\o.data=.seq its n/\its.size<=sizeLine/\Vals xs its.toList
def SqT(K:Frag)(H:Hp)(a:Addr)(xs:List V):Prop:=
 Rd H a (.tup xs) \/
  ∃(o:Obj)(its:Array Value)(n:Nat),K.lookup a=some o/\o.cls=.type "tuple"/\o.data=.seq its n/\its.size<=sizeLine/\Vals xs its.toList
def yh8:Value->Option V
 | .none=>some .non
 | .bool b=>some (.bl b)
 | .int i _=>some (.int i)
 | .str x _=>some (.str x)
 | .bytes b _=>some (.byt b)
 | .float b _=>some (.flt b)
 | .ref a=>some (.ref a)
 | .type n=>some (.ty n)
 |_=>none
theorem RelV.abs{x:V}(r:RelV x u):yh8 u=some x:=by
 cases x with
 |non=>cases r;rfl
 |bl _=>cases r;rfl
 |int _=>obtain⟨t,rfl⟩:=r;rfl
 |str _=>obtain⟨t,rfl⟩:=r;rfl
 |byt _=>obtain⟨t,rfl⟩:=r;rfl
 |flt _=>obtain⟨t,rfl⟩:=r;rfl
 |ref _=>cases r;rfl
 |ty _=>cases r;rfl
variable {y:V}
theorem RelV.inj{x:V}(r:RelV x u)(q:RelV y u):x=y:=Option.some.inj (r.abs.symm.trans q.abs)
theorem Vals.inj(h:Vals xs us):Vals ys us->xs=ys:=by
 induction h generalizing ys with
 |nil=>intro c;cases c;rfl
 |cons r t f =>
  intro c;cases c with
  |cons e t'=>rw[r.inj e,f t']
variable {σ:St}
variable {K:Frag}
section
variable {xs ys:List V}
theorem SqL.of(h:H a=some (.lst xs)):SqL K H a xs:=.inl (.inl h)
theorem SqT.of(h:H a=some (.tup xs)):SqT K H a xs:=.inl (.inl h)
theorem Inv.list(I:Inv X pins σ H s)(h:SqL X.K H a xs):∃c:List Value,Vals xs c/\PlainL s.heap a c.toArray/\xs.length<=sizeLine:=by
 rcases h with h | ⟨o,c,n,g,l,k,f,m,r⟩
 ·have⟨z,c,n,r,e⟩:=h.ok I.hok;exact⟨c,r,⟨_,n,e,rfl,rfl,rfl⟩,z⟩
 ·refine⟨c.toList,r,⟨o,n,I.kIn a o g,l,k,by simpa using f⟩,?_⟩;have e:=r.length;simp only[jCi]at e;lia
theorem Inv.tuple(I:Inv X pins σ H s)(h:SqT X.K H a xs):∃c:List Value,Vals xs c/\IsTup s.heap a c.toArray/\xs.length<=sizeLine:=by
 rcases h with h | ⟨o,c,n,g,k,f,l,r⟩
 ·have⟨z,c,r,p⟩:=h.ok I.hok;exact⟨c,r,p,z⟩
 ·refine⟨c.toList,r,⟨o,I.kIn a o g,k,n,by simpa using f⟩,?_⟩;have e:=r.length;simp only[jCi]at e;lia
theorem Inv.list_inj(I:Inv X pins σ H s)(h:SqL X.K H a xs)(h':SqL X.K H a ys):xs=ys:=by
 have⟨f,r,⟨o,n,e,_,_,d⟩,_⟩:=I.list h;have⟨c,l,⟨p,q,g,_,_,k⟩,_⟩:=I.list h';rw[e]at g;cases g;rw[d]at k;injection k with m _;have:f=c:=by simpa using congrArg Array.toList m
 subst this;exact r.inj l
theorem Inv.tuple_inj(I:Inv X pins σ H s)(h:SqT X.K H a xs)(h':SqT X.K H a ys):xs=ys:=by
 have⟨f,r,⟨o,e,_,n,d⟩,_⟩:=I.tuple h;have⟨c,l,⟨p,g,_,q,k⟩,_⟩:=I.tuple h';rw[e]at g;cases g;rw[d]at k;injection k with m _;have:f=c:=by simpa using congrArg Array.toList m
 subst this;exact r.inj l
end
abbrev Cx.wish(X:Cx)(E:Value->Shared->Prop):Cx:={X with xe:=E}
abbrev Cx.nox(X:Cx):Cx:=X.wish λ_ _=>False
theorem Cx.Ok.wish(ok:X.Ok)(E:Value->Shared->Prop):(X.wish E).Ok:=
 ⟨ok.mod,ok.kind,ok.glob,ok.blt,ok.above,ok.inj,ok.has,ok.cab,ok.hd,ok.frames,ok.stk,ok.exf,ok.bs,ok.bsz,ok.noex,ok.exfs,ok.funs,ok.frf⟩
theorem Cx.Ok.unwish(ok:(X.wish E).Ok):X.Ok:=
 ⟨ok.mod,ok.kind,ok.glob,ok.blt,ok.above,ok.inj,ok.has,ok.cab,ok.hd,ok.frames,ok.stk,ok.exf,ok.bs,ok.bsz,ok.noex,ok.exfs,ok.funs,ok.frf⟩
section
variable {E:Value->Shared->Prop}
theorem Inv.wish(I:Inv X pins σ H s)(E:Value->Shared->Prop):Inv (X.wish E) pins σ H s:=⟨I.ok.wish E,I.os,I.bare,I.base,I.loc,I.cell,I.free,I.freeC,I.pin,I.hok,I.len⟩
theorem Inv.unwish(I:Inv (X.wish E) pins σ H s):Inv X pins σ H s:=⟨I.ok.unwish,I.os,I.bare,I.base,I.loc,I.cell,I.free,I.freeC,I.pin,I.hok,I.len⟩
theorem SP.unwish{D:Ends}{f:Flow}(h:SP (X.wish E) pins D f s'):SP X pins D f s':=by
 cases f with
 |next=>obtain⟨c,H',I,q⟩:=h;exact⟨c,H',I.unwish,q⟩
 |brk=>obtain⟨c,H',I,q⟩:=h;exact⟨c,H',I.unwish,q⟩
 |cont=>obtain⟨c,H',I,q⟩:=h;exact⟨c,H',I.unwish,q⟩
 |ret u=>obtain⟨v,c,H',I,r,q⟩:=h;exact⟨v,c,H',I.unwish,r,q⟩
theorem PSs.nox{st:List Stmt}{t:TS}(h:PSs X.nox st t):PSs X st t:=λpins s σ H D I c =>
 wpAny_mono (h pins s σ H D (I.wish _) c) (λ_ _ q=>q.unwish) λ_ _ z=>False.elim z
end
variable {e:Expr}{F:TE}
section
variable {st:Stmt}{c:List Stmt}{t u:TS}
def yg4:TS:=λD σ H=>D.nx σ H
def yn0(t u:TS):TS:=λD σ H=>t {D with nx:=u D} σ H
theorem wi6:PSs X [] yg4:=λ_ _ σ H _ I h=>wpAny_execs_nil ⟨σ,H,I,h⟩
theorem jm6(m:PS X st t)(l:PSs X c u):PSs X (st::c) (yn0 t u):=by
 intro pins s σ H D I h;refine wpAny_execs_cons (thn (m pins s σ H {D with nx:=u D} I h) λf k q=>?_);cases f with
 |next=>obtain⟨g,H',n,q⟩:=q;exact l pins k g H' D n q
 |ret v=>exact q
 |brk=>exact q
 |cont=>exact q
theorem jc9(g:PS X st t):PSs X [st] t:=by
 intro pins s σ H D I h;refine wpAny_execs_cons (thn (g pins s σ H D I h) λf k q=>?_);cases f with
 |next=>exact wpAny_execs_nil q
 |ret v=>exact q
 |brk=>exact q
 |cont=>exact q
theorem Inv.quiet(I:Inv X pins σ H s):interactive X.env=false:=by simp[interactive,I.ok.kind]
def yg2(F:TE):TS:=λD σ H=>F σ H λ_ f=>D.nx σ f
theorem R4(k:PE X e F)(g:swapsWith e none pos.line X.env=pure false:=by rfl):PS X (.Expr e pos) (yg2 F):=by intro pins s σ H D I h;exact wpAny_Expr_any (thG (k pins s σ H _ I h) λv n x m l p f=>⟨σ,m,l,f⟩) I.quiet g
def ym9(F:TE):TS:=λD σ H=>F σ H D.rt
theorem jv6(k:PE X e F):PS X (.Return (some e) pos) (ym9 F):=by intro pins s σ H D I h;exact wpAny_Return_some (thG (k pins s σ H _ I h) λv n x m l f g=>⟨x,σ,m,l,f,g⟩)
def ym5(c:TT)(t u:TS):TS:=λD σ H=>c σ H λb f=>if b=true then t D σ f else u D σ f
theorem ye8{c:Expr}{a b:List Stmt}{q:TT}(n:PT X c q)(r:PSs X a t)(p:PSs X b u):PS X (.If c a b pos) (ym5 q t u):=by
 intro pins s σ H D I h;refine wpAny_If (thn (n pins s σ H _ I h) λd g f=>?_);obtain⟨m,l,k⟩:=f;cases d with
 |true=>exact r pins g σ m D l k
 |false=>exact p pins g σ m D l k
def wx0:TS:=λ_ _ _=>False
theorem kx2:PS X st wx0:=λ_ _ _ _ _ _ h=>h.elim
end
abbrev TG:=V->St->Hp->(St->Hp->Prop)->Prop
abbrev TGs:=List V->St->Hp->(St->Hp->Prop)->Prop
def PG(X:Cx)(target:Expr)(t:TG):Prop:=
 ∀(pins:List (Addr×Obj))(s:Shared)(σ:St)(H:Hp)(v:V)(u:Value)(Q:St->Hp->Prop),Inv X pins σ H s->RelV v u->t v σ H Q ->
  wpAny (model X.prog X.w) X.A (assign target X.env u) (λ_ s'=>∃c H',Inv X pins c H' s'/\Q c H') X.xe s
def PGs(X:Cx)(ts:List Expr)(t:TGs):Prop:=
 ∀(pins:List (Addr×Obj))(s:Shared)(σ:St)(H:Hp)(vs:List V)(us:List Value)(Q:St->Hp->Prop),Inv X pins σ H s->Vals vs us->t vs σ H Q ->
  wpAny (model X.prog X.w) X.A (assignInOrder ((assignEach ts X.env).map (·.2)) us) (λ_ s'=>∃c H',Inv X pins c H' s'/\Q c H') X.xe s
def wm0(i:Nat):TG:=λv σ H Q=>Q (σ.set i (some v)) H
theorem kc0{x:Str}(g:X.N.Nodup)(hi:X.N[i]? = some x)(c:Loc X.env.scope x)(f:X.fn x=true\/X.env.scope.names.lookup x=some .local:=by first |exact .inl rfl |exact .inr rfl |assumption):PG X (.Name x pos) (wm0 i):=by intro pins s σ H v u Q I r h;exact wpAny_assign_Name (jo7 I g hi c r (λs' k=>⟨_,H,k,h⟩) f)
def yj8:TGs:=λc σ H Q=>c=[]/\Q σ H
def yb7(t:TG)(u:TGs):TGs:=λf σ H Q=>∃v r,f=v::r/\t v σ H λc H'=>u r c H' Q
theorem wi1:PGs X [] yj8:=by intro pins s σ H c us Q I r h;obtain⟨e,h⟩:=h;subst e;cases r;exact assignInOrder_nil ⟨σ,H,I,h⟩
theorem kw7{es:List Expr}{t:TG}{u:TGs}(p:PG X e t)(n:PGs X es u)
  (m:(assignEach (e::es) X.env).map (·.2)=assign e X.env::(assignEach es X.env).map (·.2):=by rfl):PGs X (e::es) (yb7 t u):=by
 intro pins s σ H G us Q I r h;obtain⟨v,J,q,h⟩:=h;subst q;cases r with
 |cons r k=>rw[m];refine assignInOrder_cons (thn (p pins s σ H _ _ _ I r h) λ_ g f=>?_);obtain⟨c,C,z,l⟩:=f;exact n pins g c C _ _ Q z k l
def yj9(K:Frag)(n:Nat)(t:TGs):TG:=λv σ H Q=>∃a xs,v=.ref a/\SqT K H a xs/\xs.length=n/\t xs σ H Q
variable {k n:Nat}
theorem wu9{es:List Expr}{t:TGs}(C:X.calm=true)(h:PGs X es t)
  (hn:(assignEach es X.env).length=n:=by rfl)(f:(assignEach es X.env).findIdx? (·.1)=none:=by rfl):PG X (.Tuple es k pos) (yj9 X.K n t):=by
 intro pins s σ H v u Q I r c;obtain⟨a,xs,G,q,z,c⟩:=c;subst G;cases r;have⟨l,g,p,L⟩:=I.tuple q;refine assign_Tuple_tuple (I.ok.hd C) p (by simp[hn,<-z,g.length]) f λh' m=>?_;have J:Inv X pins σ H {s with heap:=h'}:=I.kept (t':=s.toks) λb o e=>m b o (jAv (jAr e)) e;exact h pins _ σ H xs _ Q J (by simpa using g) c
def yg0(F:TE)(g:TG):TS:=λD σ H=>F σ H λx c=>g x σ c D.nx
variable {tg:Expr}
theorem wv2{g:TG}(z:PE X e F)(r:PG X tg g)(p:swapsWithSole [tg] e pos.line X.env=pure false:=by rfl)(m:swappedStores [tg] e X.env=pure none:=by rfl)
  (C:(assignEach [tg] X.env).map (·.2)=[assign tg X.env]:=by rfl):PS X (.Assign [tg] e pos) (yg0 F g):=by
 intro pins s σ H D I h;refine wpAny_Assign_stores (thG (z pins s σ H _ I h) λv c x J G f l=>?_) p m;rw[C];exact thn (r pins c σ J x v _ G f l) λ_ L q=>q
theorem jv7{x:Str}{pos':Pos}(q:X.N.Nodup)(hi:X.N[i]? = some x)(g:Loc X.env.scope x)(p:PE X e F)(l:swapsWith e (some (.Name x pos')) pos.line X.env=pure false:=by rfl)(m:X.fn x=true\/X.env.scope.names.lookup x=some .local:=by first |exact .inl rfl |exact .inr rfl |assumption):
  PS X (.Assign [.Name x pos'] e pos) (yg0 F (wm0 i)):=by
 intro pins s σ H D I h;refine wpAny_Assign_Name (thG (p pins s σ H _ I h) λv J y C z c f=>?_) l;exact jo7 z q hi g c (λG r=>⟨_,C,r,f⟩) m
structure It where
 go:Nat->Hp->Prop
 yld:Nat->Hp->V->Hp->Prop
 stop:Nat->Hp->Prop
def Q5(X:Cx)(pins:List (Addr×Obj))(H:Hp)(b:Addr):Prop:=
 H b=none/\b≠X.env.locals/\b∉X.fs/\(b∈X.ex\/X.s₀.heap.objs.size<=b)/\(∀x c,X.env.cells.lookup x=some c->c≠b)/\∀p∈X.pn++pins,p.1≠b
theorem Inv.fpOk{b:Addr}(I:Inv X pins σ H s)(f:s.heap.objs.size<=b)(hn:H' b=none):Q5 X pins H' b:=by
 refine⟨hn,jCq (jAx I.lt f),I.nofs f,.inr (jBt I.sz f),λx c e z=>?_,λp g z=>?_⟩
 ·have⟨v,q⟩:=I.cell x c e;exact absurd (jAx q.lt (by rw[z];exact f)) (jCf _)
 ·exact absurd (jAx (jAr (I.pin p g).1) (by rw[z];exact f)) (jCf _)
structure Turn(P:Program)(w:World)(K:Frag)(tg:Expr)(J:It)(fp:List Addr)(it:Addr)(tn:Nat->Heap->Prop):Prop where
 mem:it∈fp
 obj:∀i h,tn i h->∀b∈fp,∃o,h.get? b=some o/\∀v,o.data≠.cell v
 keep:∀i h h',tn i h->(∀b∈fp,∀o,h.get? b=some o->h'.get? b=some o)->tn i h'
 item:∀(X:Cx),X.prog=P->X.w=w->X.K=K->X.calm=true->∀(i:Nat)(pins:List (Addr×Obj))(s:Shared)(σ:St)(H:Hp)(E:Value->Shared->Prop),Inv X pins σ H s->(∀b∈fp,Q5 X pins H b)->tn i s.heap->J.go i H ->
  wpAny (model P w) X.A (pyNext (.ref it)) (λr s1=>∃u,r=some u /\
   wpAny (model P w) X.A (letOwnedTupleGo tg (.ref it) u) (λ_ s2=>∃x H',Inv X pins σ H' s2/\RelV x u/\J.yld i H x H'/\tn (i+1) s2.heap/\∀b∈fp,H' b=none) E s1) E s
 done:∀(X:Cx),X.prog=P->X.w=w->X.K=K->X.calm=true->∀(i:Nat)(pins:List (Addr×Obj))(s:Shared)(σ:St)(H:Hp)(E:Value->Shared->Prop),Inv X pins σ H s->(∀b∈fp,Q5 X pins H b)->tn i s.heap->J.stop i H ->
  wpAny (model P w) X.A (pyNext (.ref it)) (λr s1=>r=none/\Inv X pins σ H s1) E s
 self:∀(A:Around)(i:Nat)(s:Shared)(Q:Value->Shared->Prop)(E:Value->Shared->Prop),tn i s.heap->Q (.ref it) s->wpAny (model P w) A (pyIter (.ref it)) Q E s
abbrev TI:=St->Hp->(It->Hp->Prop)->Prop
def PIE(X:Cx)(pins:List (Addr×Obj))(σ:St)(tg:Expr)(R:It->Hp->Prop)(c:Value)(f:Shared):Prop:=
 ∃(it:Addr)(g:List Addr)(tn:Nat->Heap->Prop)(J:It)(H':Hp),c=.ref it/\Inv X pins σ H' f/\Turn X.prog X.w X.K tg J g it tn/\tn 0 f.heap/\(∀b∈g,Q5 X pins H' b)/\R J H'
def PI(X:Cx)(tg iter:Expr)(c:TI):Prop:=
 ∀(pins:List (Addr×Obj))(s:Shared)(σ:St)(H:Hp)(R:It->Hp->Prop),Inv X pins σ H s->c σ H R ->
  wpAny (model X.prog X.w) X.A (eval iter X.env) (λv f=>wpAny (model X.prog X.w) X.A (pyIter v) (PIE X pins σ tg R) X.xe f) X.xe s
theorem ka2{M:Model}{o:Obj}{n:String}{vs:Array Value}{Q:Unit->Shared->Prop}(f:s.heap.get? it=some o)(l:o.cls=.type n)(g:o.data=.fields vs)
  (hn:["enumerate","zip","dict_itemiterator","dict_reverseitemiterator","odict_iterator","itertools.zip_longest","itertools.pairwise"].contains n=false)(c:Q () s):wpAny M A (letOwnedTupleGo tg (.ref it) u) Q E s:=by
 unfold letOwnedTupleGo;cases tg<;>first
  |exact jZb c
  | (cases u<;>first
    |exact jZb c
    | (refine jZa (wpAny_load f ?_)
       rw[l,g];show wpAny M A (if(["enumerate","zip","dict_itemiterator","dict_reverseitemiterator","odict_iterator","itertools.zip_longest","itertools.pairwise"].contains n && vs[0]? == some (rawInt _))=true then _ else _) Q E s;rw[if_neg (by intro h;rw[hn,jGp]at h;cases h)];exact jZb c))
def Itl(K:Frag)(a:Addr):It:=
 ⟨λi H=>∃xs x,SqL K H a xs/\xs[i]? = some x,λi H x H'=>H'=H/\∀xs,SqL K H a xs->xs[i]? = some x,λi H=>∃xs,SqL K H a xs/\xs.length<=i⟩
def Itt(K:Frag)(a:Addr):It:=
 ⟨λi H=>∃xs x,SqT K H a xs/\xs[i]? = some x,λi H x H'=>H'=H/\∀xs,SqT K H a xs->xs[i]? = some x,λi H=>∃xs,SqT K H a xs/\xs.length<=i⟩
def Itr(lo:Int)(n:Nat):It:=⟨λi _=>i<n,λi H x H'=>H'=H/\x=.int (lo+i),λi _=>n<=i⟩
theorem km0(a it:Addr):Turn P w K tg (Itl K a) [it] it (λi h=>h.IsListIter it a i) where
 mem:=by simp
 obj:=λi h st b hb=>by
  have e:b=it:=by simpa using hb
  subst e;obtain⟨o,e,c,d⟩:=st;exact⟨o,e,λv z=>by rw[d]at z;cases z⟩
 keep:=λi h h' st k=>st.at λo e=>k it (by simp) o e
 item:=by intro X hP hw hK hc i pins s σ H E I hf st hg;subst hP hw hK;obtain⟨xs,x,hq,hx⟩:=hg;have⟨its,rv,p,hz⟩:=I.list hq;have⟨u,hu,ru⟩:=rv.get hx;have⟨f0,f1,f2,f3,f4,f5⟩:=hf it (by simp);refine wpAny_pyNext_list_item st p.isList (x:=u) (by simpa using hu) λh' st' sb=>?_;have I1:Inv X pins σ H {s with heap:=h'}:=I.turned (t':=s.toks) (λb o hb e=>(sb.2 b hb).trans e) f0 f1 f3 f4 f5;have⟨o,e,c,d⟩:=id st';exact⟨u,rfl,ka2 (s:={s with heap:=h'}) e c d (by decide) ⟨x,H,I1,ru,⟨rfl,λys hy=>by rw[I.list_inj hy hq];exact hx⟩,st',λb hb=>(hf b hb).1⟩⟩
 done:=by intro X hP hw hK hc i pins s σ H E I hf st hg;subst hP hw hK;obtain⟨xs,hq,hx⟩:=hg;have⟨its,rv,p,hz⟩:=I.list hq;have⟨f0,f1,f2,f3,f4,f5⟩:=hf it (by simp);have hl:=rv.length;exact wpAny_pyNext_list_end (I.ok.hd hc) st p.isList (by simp;lia) λh' eb=>⟨rfl,I.turned (t':=s.toks) (λb o hb e=>eb b o hb e) f0 f1 f3 f4 f5⟩
 self:=λ_ _ _ _ _ st h=>wpAny_pyIter_listiter st h
theorem jx3(a it:Addr):Turn P w K tg (Itt K a) [it] it (λi h=>h.IsTupleIter it a i) where
 mem:=by simp
 obj:=λi h st b hb=>by
  have e:b=it:=by simpa using hb
  subst e;obtain⟨o,e,c,d⟩:=st;exact⟨o,e,λv z=>by rw[d]at z;cases z⟩
 keep:=λi h h' st k=>st.at λo e=>k it (by simp) o e
 item:=by intro X hP hw hK hc i pins s σ H E I hf st hg;subst hP hw hK;obtain⟨xs,x,hq,hx⟩:=hg;have⟨its,rv,p,hz⟩:=I.tuple hq;have⟨u,hu,ru⟩:=rv.get hx;have⟨f0,f1,f2,f3,f4,f5⟩:=hf it (by simp);refine wpAny_pyNext_tuple_item st (show s.heap.IsTuple a its.toArray from p) (x:=u) (by simpa using hu) λh' st' sb=>?_;have I1:Inv X pins σ H {s with heap:=h'}:=I.turned (t':=s.toks) (λb o hb e=>(sb.2 b hb).trans e) f0 f1 f3 f4 f5;have⟨o,e,c,d⟩:=id st';exact⟨u,rfl,ka2 (s:={s with heap:=h'}) e c d (by decide) ⟨x,H,I1,ru,⟨rfl,λys hy=>by rw[I.tuple_inj hy hq];exact hx⟩,st',λb hb=>(hf b hb).1⟩⟩
 done:=by intro X hP hw hK hc i pins s σ H E I hf st hg;subst hP hw hK;obtain⟨xs,hq,hx⟩:=hg;have⟨its,rv,p,hz⟩:=I.tuple hq;have⟨f0,f1,f2,f3,f4,f5⟩:=hf it (by simp);have hl:=rv.length;exact wpAny_pyNext_tuple_end (I.ok.hd hc) st (show s.heap.IsTuple a its.toArray from p) (by simp;lia) λh' eb=>⟨rfl,I.turned (t':=s.toks) (λb o hb e=>eb b o hb e) f0 f1 f3 f4 f5⟩
 self:=λ_ _ _ _ _ st h=>wpAny_pyIter_tupleiter st h
theorem jx2(it:Addr)(lo:Int)(n:Nat):Turn P w K tg (Itr lo n) [it] it (λi h=>IsRangeIter h it (lo+(i:Nat) * 1) ((n:Int) - (i:Nat)) 1) where
 mem:=by simp
 obj:=λi h st b hb=>by
  have e:b=it:=by simpa using hb
  subst e;exact⟨_,st,λv z=>by
   have z':Data.fields _=Data.cell v:=z;cases z'⟩
 keep:=λi h h' st k=>k it (by simp) _ st
 item:=by intro X hP hw hK hc i pins s σ H E I hf st hg;subst hP hw hK;have⟨f0,f1,f2,f3,f4,f5⟩:=hf it (by simp);have W:=Walks.range (prog:=X.prog) (w:=X.w) (I.ok.hd hc) it lo 1 n;refine W.item i s _ _ hg st λv h' tk hv st' kk=>?_;obtain⟨t,rfl⟩:=hv;have I1:Inv X pins σ H {s with heap:=h',toks:=tk}:=I.turned (λb o hb e=>kk b o (by simpa using hb) e) f0 f1 f3 f4 f5;refine⟨_,rfl,ka2 (s:={s with heap:=h',toks:=tk}) (n:="range_iterator") st' rfl rfl (by decide) ⟨.int (lo+i),H,I1,⟨t,?_⟩,⟨rfl,rfl⟩,st',λb hb=>(hf b hb).1⟩⟩;rw[jCy]
 done:=by intro X hP hw hK hc i pins s σ H E I hf st hg;subst hP hw hK;have⟨f0,f1,f2,f3,f4,f5⟩:=hf it (by simp);exact wpAny_pyNext_range_end (I.ok.hd hc) st (by have:n<=i:=hg;lia) λh' eb=>⟨rfl,I.turned (t':=s.toks) (λb o hb e=>eb b o hb e) f0 f1 f3 f4 f5⟩
 self:=λ_ _ _ _ _ st h=>wpAny_pyIter_rangeiter st h
variable {fp:List Addr}{z:List Stmt}
section
variable {tg:Expr}
theorem kx6{R:It->Hp->Prop}{lo hi:Int}{t u v:Tok}{tk:Nat}(I:Inv X pins σ H s)(p:-(2 ^ 62)<=lo)(m:lo<2 ^ 62)(l:-(2 ^ 62)<=hi)(g:hi<2 ^ 62)
  (q:R (Itr lo (hi - lo).toNat) H):wpAny (model X.prog X.w) X.A (pyIter (.ref s.heap.objs.size)) (PIE X pins σ tg R) E {s with heap:=s.heap.push {cls:=.type "range",data:=.fields #[.int lo t,.int hi u,.int 1 v] },toks:=tk}:=by
 refine wpAny_pyIter_range (IsRange.new ..) (small_one p m l g) ?_;have c:Inv X pins σ H {s with heap:=s.heap.push {cls:=.type "range",data:=.fields #[.int lo t,.int hi u,.int 1 v] },toks:=tk}:=I.kept λb o e=>jAc _ e;refine⟨(s.heap.push {cls:=.type "range",data:=.fields #[.int lo t,.int hi u,.int 1 v] }).objs.size,[(s.heap.push {cls:=.type "range",data:=.fields #[.int lo t,.int hi u,.int 1 v] }).objs.size],_,_,H,rfl,
  c.kept (t':=tk) λb o e=>jAc _ e,jx2 _ lo (hi - lo).toNat,?_,λb f=>?_,q⟩
 ·have C:lo+((0:Nat):Int) * 1=lo:=by simp
  have r:(((hi - lo).toNat:Nat):Int) - ((0:Nat):Int)=Builtin.Range.rangeSize lo hi 1:=by rw[rangeSize_one];split<;>lia
  show IsRangeIter _ _ (lo+((0:Nat):Int) * 1) ((((hi - lo).toNat:Nat):Int) - ((0:Nat):Int)) 1;rw[C,r];exact jAp _ rfl
 ·have e:b=(s.heap.push {cls:=.type "range",data:=.fields #[.int lo t,.int hi u,.int 1 v] }).objs.size:=by simpa using f
  subst e;exact c.fpOk (jAg _) (c.hok.fresh (jAg _))
def yc3(B:TA):TI:=λσ H R=>B σ H λc f=>∃j:Int,c=[.int j]/\-(2 ^ 62)<=j/\j<2 ^ 62/\R (Itr 0 j.toNat) f
theorem kk3{a:Expr}{B:TA}{p:Pos}(G:Gl X "range")(C:X.mg "range" = none)(J:PA X [a] B)(m:starEach [a] X.env=[(false,eval a X.env)]:=by rfl):PI X tg (.Call (.Name "range" p) [a] [] pos) (yc3 B):=by
 intro pins s σ H R I h;refine Call_ (Tv I G C boot_range (PyProof.Rows.callWith_type1 (thG (J pos pins s σ H _ I h) λus O M T L g c=>?_) m rfl));obtain⟨j,e,c,l,q⟩:=c;subst e;cases g with
 |cons r f=>cases f;obtain⟨t,rfl⟩:=r;exact call_range_1 (kx6 L (by lia) (by lia) c l (by simpa using q))
def ym4(p:TI)(g:TG)(tb:TS):TS:=λD σ H=>p σ H λJ r=>∃W:Nat->Nat->St->Hp->Prop,(∃m,W 0 m σ r)/\∀i m σ H,W i m σ H ->
 (J.stop i H/\D.nx σ H)\/(J.go i H/\∃N:St->Hp->Prop,(∀c H',N c H'->∃l,l<m/\W (i+1) l c H')/\∀x H',J.yld i H x H'->g x σ H' λf q=>tb {D with nx:=N,ct:=N,bk:=D.nx} f q)
def W9(fp:List Addr)(h:Heap):List (Addr×Obj):=fp.filterMap λb=>(h.get? b).map λo=>(b,o)
theorem Lx{b:Addr}{o:Obj}(c:b∈fp)(e:h.get? b=some o):(b,o)∈W9 fp h:=jGv.mpr ⟨b,c,by rw[e];rfl⟩
theorem kj9{p:Addr×Obj}(c:p∈W9 fp h):p.1∈fp/\h.get? p.1=some p.2:=by
 have⟨b,f,e⟩:=jGv.mp c;cases q:h.get? b with
 |none=>rw[q]at e;cases e
 |some o=>rw[q]at e;have g:(b,o)=p:=Option.some.inj e;subst g;exact⟨f,q⟩
theorem Inv.pinned(I:Inv X pins σ H s)(m:∀b∈fp,Q5 X pins H b)(l:∀b∈fp,∃o,s.heap.get? b=some o/\∀v,o.data≠.cell v):Inv X (pins++W9 fp s.heap) σ H s:=
 I.pins_of λp g=>(jAq.mp g).elim (λz=>I.pin p (jAn _ z)) λz=>by have⟨c,e⟩:=kj9 z;have⟨C,r,q,_⟩:=m p.1 c;have⟨o,f,d⟩:=l p.1 c;rw[e]at f;cases f;exact⟨e,C,r,q,d⟩
theorem Inv.unpinned{pl:List (Addr×Obj)}(I:Inv X (pins++pl) σ H s):Inv X pins σ H s:=I.pins_of λp c=>I.pin p (jAn _ (jBk _ c))
theorem nn0{p:Prop}(h:(p->False)->False):p:=jBf h
inductive LpI(X:Cx)(pins:List (Addr×Obj))(tn:Nat->Heap->Prop)(fp:List Addr)(W:Nat->Nat->St->Hp->Prop)(n:Nat)(s:Shared):Prop
 |mk (i:Nat) (σ:St) (H:Hp) (I:Inv X pins σ H s) (st:tn i s.heap) (fr:∀b∈fp,H b=none) (w:W i n σ H):LpI X pins tn fp W n s
theorem wv3{iter:Expr}{wi:TI}{g:TG}{tb:TS}(hp:PassesOwn (model X.prog X.w) X.A X.env X.xe)(hc:X.calm=true)(hi:PI X tg iter wi)(hg:PG X tg g)(C:PSs X z tb)
  (hs:∀x,foldedSetIterable iter X.env x=pure x:=by intro _;rfl):PS X (.For tg iter z [] pos) (ym4 wi g tb):=by
 intro pins s σ H D I h;refine wpAny_For (thn (hi pins s σ H _ I h) λv s1 h1=>thn h1 λaf s2 h2=>?_) hs;refine nn0 λM=>?_;obtain⟨it,fp,tn,J,H2,e,I2,T,Z,f2,W,⟨m0,w0⟩,turn⟩:=h2;subst e;refine M (codeAny_forLoop_any (LpI X pins tn fp W) ?_ m0 (.mk 0 σ H2 I2 Z (λb C=>(f2 b C).1) w0));clear M;have p:∀{H':Hp},(∀b∈fp,H' b=none)->∀b∈fp,Q5 X pins H' b:=λhn b C=>⟨hn b C,(f2 b C).2⟩;clear f2 I2 Z w0 h;intro n s3 q;refine nn0 λM=>?_;obtain⟨i,l,H3,I3,Y,aa,w3⟩:=q;rcases turn i n l H3 w3 with ⟨stop,qn⟩ | ⟨go,N,hN,step⟩
 ·refine M (wpAny_passesOwn hp (thn (T.done X rfl rfl rfl hc i pins s3 l H3 X.xe I3 (p aa) Y stop) λr s4 q=>?_));obtain⟨rfl,I4⟩:=q;exact wpAny_execs_nil ⟨l,H3,I4,qn⟩
 ·refine M (wpAny_passesOwn hp (thn (T.item X rfl rfl rfl hc i pins s3 l H3 X.xe I3 (p aa) Y go) λr s4 q=>?_));clear M;obtain⟨u,rfl,h4⟩:=q;refine wpAny_passesOwn hp (thn h4 λ_ s5 q=>?_);refine nn0 λM=>?_;obtain⟨x,H5,I5,r5,y5,U,ae⟩:=q;refine M (wpAny_passesOwn hp (thn (hg _ s5 l H5 x u _ (I5.pinned (p ae) (T.obj _ _ U)) r5 (step x H5 y5)) λ_ s6 q=>?_));clear M;obtain⟨ab,H6,I6,q6⟩:=q;refine wpAny_passesOwn hp (thn (C _ s6 ab H6 _ I6 q6) λf s7 O=>?_);clear I6 q6 I5 y5 step w3 I3 go;have again:∀{c:St}{L:Hp},Inv X (pins++W9 fp s5.heap) c L s7->N c L->∃m,m<n/\LpI X pins tn fp W m s7:=λ{c L} G n7=>by have⟨m',hm,w7⟩:=hN c L n7;refine⟨m',hm,.mk (i+1) c L G.unpinned (T.keep _ _ _ U λb C o e=>(G.pin (b,o) (jAn _ (jAn _ (Lx C e)))).1) (λb C=>?_) w7⟩;have⟨o,e,d⟩:=T.obj _ _ U b C;exact(G.pin (b,o) (jAn _ (jAn _ (Lx C e)))).2.1
  cases f with
  |next=>obtain⟨c,L,G,n7⟩:=O;exact again G n7
  |cont=>obtain⟨c,L,G,n7⟩:=O;exact again G n7
  |brk=>obtain⟨c,L,G,O⟩:=O;exact⟨c,L,G.unpinned,O⟩
  |ret v=>obtain⟨x7,c,L,G,r7,O⟩:=O;exact⟨x7,c,L,G.unpinned,r7,O⟩
end
abbrev R2:=V->V->Hp->VK->Prop
def OpR(X:Cx)(f:Value->Value->Sem Value)(r:R2):Prop:=
 ∀(pins:List (Addr×Obj))(s:Shared)(σ:St)(H:Hp)(x y:V)(v u:Value)(Q:VK),Inv X pins σ H s->RelV x v->RelV y u->r x y H Q ->
  wpAny (model X.prog X.w) X.A (f v u) (EP X pins σ Q) X.xe s
def Eh(X:Cx)(f:Value)(r:List V->Hp->VK->Prop):Prop:=
 ∀(pins:List (Addr×Obj))(s:Shared)(σ:St)(H:Hp)(xs:List V)(us:List Value)(Q:VK),Inv X pins σ H s->Vals xs us->r xs H Q ->
  wpAny (model X.prog X.w) X.A (call f us) (EP X pins σ Q) X.xe s
def yh7(X:Cx)(r:V->Hp->(Bool->Hp->Prop)->Prop):Prop:=
 ∀(pins:List (Addr×Obj))(s:Shared)(σ:St)(H:Hp)(x:V)(v:Value)(Q:Bool->Hp->Prop),Inv X pins σ H s->RelV x v->r x H Q ->
  wpAny (model X.prog X.w) X.A (truthy v) (TP X pins σ Q) X.xe s
def tOp(r:R2)(B tb:TE):TE:=λσ H Q=>B σ H λx f=>tb σ f λy c=>r x y c Q
def rI(C:Int->Int->Prop)(g:Int->Int->V):R2:=λx y H Q=>∃i j,x=.int i/\y=.int j/\C i j/\Q (g i j) H
def rI0(g:Int->Int->V):R2:=λx y H Q=>∃i j,x=.int i/\y=.int j/\Q (g i j) H
variable {c:Expr}{q:TE}
variable {g:Int->Int->Int}{r:R2}
section
variable {a:Expr}{tb:TE}
theorem wn8(Z:PE X a B)(Y:PE X b tb){R:V->V->Hp->Prop}(I:Inv X pins σ H s)
  (h:B σ H λx G=>tb σ G λy l=>R x y l){f:Value->Value->Sem Value}
  (U:∀v u C x y l,Inv X pins σ l C->RelV x v->RelV y u->R x y l->wpAny (model X.prog X.w) X.A (f v u) Q X.xe C):
  wpAny (model X.prog X.w) X.A (eval a X.env) (λv p=>wpAny (model X.prog X.w) X.A (eval b X.env) (λu m=>wpAny (model X.prog X.w) X.A (f v u) Q X.xe m) X.xe p) X.xe s:=by
 refine thG (Z pins s σ H _ I h) λv J x G I1 M T=>?_;refine thG (Y pins J σ G _ I1 T) λu C y l I2 L O=>?_;exact U v u C x y l I2 M L O
theorem wm2{f:Operator}(C:OpR X (binaryOp f) r)(J:PE X a B)(G:PE X b tb):PE X (.BinOp a f b pos) (tOp r B tb):=by intro pins s σ H Q I h;exact wpAny_BinOp (wn8 J G I h λv u l x y M L p m q=>C pins l σ M x y v u Q L p m q)
theorem opI{f:Value->Value->Sem Value}{C:Int->Int->Prop}
  (rule:∀(i j:Int)(t u:Tok)(s:Shared)(Q:Value->Shared->Prop)(E:Value->Shared->Prop),C i j->Q (.int (g i j) s.toks) {s with toks:=s.toks+1}->wpAny (model X.prog X.w) X.A (f (.int i t) (.int j u)) Q E s):
  OpR X f (rI C λi j=>.int (g i j)):=by
 intro pins s σ H x y v u Q I m l h;obtain⟨i,j,rfl,rfl,p,q⟩:=h;obtain⟨t,rfl⟩:=m;obtain⟨t',rfl⟩:=l;exact rule i j t t' s _ _ p ⟨.int (g i j),H,I.tok _,⟨_,rfl⟩,q⟩
theorem ye0{f:Value->Value->Sem Value}
  (rule:∀(i j:Int)(t u:Tok)(s:Shared)(Q:Value->Shared->Prop)(E:Value->Shared->Prop),Q (.int (g i j) s.toks) {s with toks:=s.toks+1}->wpAny (model X.prog X.w) X.A (f (.int i t) (.int j u)) Q E s):
  OpR X f (rI0 λi j=>.int (g i j)):=by
 intro pins s σ H x y v u Q I m l h;obtain⟨i,j,rfl,rfl,q⟩:=h;obtain⟨t,rfl⟩:=m;obtain⟨t',rfl⟩:=l;exact rule i j t t' s _ _ ⟨.int (g i j),H,I.tok _,⟨_,rfl⟩,q⟩
theorem wh3{f:Value->Value->Sem Value}{g:Int->Int->Bool}
  (rule:∀(i j:Int)(t u:Tok)(s:Shared)(Q:Value->Shared->Prop)(E:Value->Shared->Prop),Q (.bool (g i j)) s->wpAny (model X.prog X.w) X.A (f (.int i t) (.int j u)) Q E s):
  OpR X f (rI0 λi j=>.bl (g i j)):=by
 intro pins s σ H x y v u Q I m l h;obtain⟨i,j,rfl,rfl,q⟩:=h;obtain⟨t,rfl⟩:=m;obtain⟨t',rfl⟩:=l;exact rule i j t t' s _ _ ⟨.bl (g i j),H,I,rfl,q⟩
def yh6(i j:Int):Prop:=0<=j/\j<=1000000/\i.natAbs<2 ^ 64
theorem wt7:OpR X (binaryOp .Add) (rI0 λi j=>.int (i+j)):=ye0 λ_ _ _ _ _ _ _ q=>add_int q
theorem wu1:OpR X (binaryOp .Sub) (rI0 λi j=>.int (i - j)):=ye0 λ_ _ _ _ _ _ _ q=>sub_int q
theorem wt8:OpR X (binaryOp .Mod) (rI (λ_ j=>0<j) λi j=>.int (i % j)):=opI λi j _ _ _ _ _ f q=>by have l:(0:Int)<j:=f;exact mod_int' (by lia) (by rw[Int.fmod_eq_emod_of_nonneg i (by lia)];exact q)
theorem wt9:OpR X (binaryOp .Pow) (rI yh6 λi j=>.int (i ^ j.toNat)):=opI λ_ _ _ _ _ _ _ f q=>pow_int_small f.1 f.2.1 f.2.2 q
end
section
variable {a:Expr}{tb:TE}
theorem ye4:OpR X (compareOp .Lt) (rI0 λi j=>.bl (decide (i<j))):=wh3 λ_ _ _ _ _ _ _ q=>lt_int q
theorem ye3:OpR X (compareOp .LtE) (rI0 λi j=>.bl (decide (i<=j))):=wh3 λ_ _ _ _ _ _ _ q=>le_int q
theorem ye2:OpR X (compareOp .Gt) (rI0 λi j=>.bl (decide (j<i))):=wh3 λ_ _ _ _ _ _ _ q=>gt_int q
theorem ye1:OpR X (compareOp .GtE) (rI0 λi j=>.bl (decide (j<=i))):=wh3 λ_ _ _ _ _ _ _ q=>ge_int q
theorem Nr(b:Expr){f:CmpOp}(h:f≠.In:=by decide)(l:f≠.NotIn:=by decide):behindInMarks f b=false:=by
 have p:(f == CmpOp.In)=false:=by cases f<;>first |rfl |exact absurd rfl h
 have m:(f == CmpOp.NotIn)=false:=by cases f<;>first |rfl |exact absurd rfl l
 cases b<;>simp[behindInMarks,p,m]
theorem wh8{f:CmpOp}(C:OpR X (compareOp f) r)(L:PE X a B)(J:PE X b tb)(G:behindInMarks f b=false):PE X (.Compare a [f] [b] pos) (tOp r B tb):=by intro pins s σ H Q I h;exact wpAny_Compare1 (wn8 L J I h λv u l x y O M p m q=>C pins l σ O x y v u Q M p m q) G
def wm7(t:TE):TT:=λσ H Q=>t σ H λx H'=>∃k,x=.bl k/\Q k H'
theorem wi7{f:CmpOp}(O:OpR X (compareOp f) r)(Y:PE X a B)(U:PE X b tb)(T:behindInMarks f b=false):PT X (.Compare a [f] [b] pos) (wm7 (tOp r B tb)):=by
 intro pins s σ H Q I h;refine wpAny_isTrue_Compare1 (thG (Y pins s σ H _ I h) λv m x H1 I1 G M=>thn (U pins m σ H1 _ I1 M) λu l ⟨y,H2,I2,C,L⟩ =>
  thn (O pins l σ H2 x y v u _ I2 G C L) λc s3 ⟨z,H3,Z,p,k,e,J⟩=>?_) T
 subst e;cases p;exact wpAny_truthy_bool ⟨H3,Z,J⟩
def kz0(r m:R2)(B tb q:TE):TE:=λσ H Q=>B σ H λx G=>tb σ G λy C=>r x y C λz f=>∃k,z=.bl k /\
 (if k=true then q σ f λl p=>m y l p Q else Q (.bl false) f)
theorem kx3{m l:CmpOp}{G:R2}(ho:OpR X (compareOp m) r)(p:OpR X (compareOp l) G)(ha:PE X a B)(hb:PE X b tb)(hc:PE X c q)
  (hm:lastMarks [m,l] [b,c]=false:=by with_unfolding_all rfl):PT X (.Compare a [m,l] [b,c] pos) (wm7 (kz0 r G B tb q)):=by
 intro pins s σ H Q I h;refine isTrue_chain (thG (ha pins s σ H _ I h) λv s1 x H1 I1 r1 q1=>test_link (thn (hb pins s1 σ H1 _ I1 q1) λu Z ⟨y,H2,I2,C,q2⟩ =>
  thn (ho pins Z σ H2 x y v u _ I2 r1 C q2) λd Y ⟨z,M,L,r3,k,e,J⟩=>?_)) hm
 subst e;cases r3;refine wpAny_truthy_bool ?_;cases k with
 |false=>obtain⟨k',e',q'⟩:=J;cases e';exact ite_ff ⟨M,L,q'⟩
 |true=>refine ite_tt (test_last (thG (hc pins Y σ M _ L J) λT U O H4 I4 r4 q4=>thG (p pins U σ H4 y O u T _ I4 C r4 q4) λd' s5 z2 H5 I5 r5 f=>?_));obtain⟨k2,e2,q5⟩:=f;subst e2;cases r5;exact wpAny_truthy_bool ⟨H5,I5,q5⟩
def wy3(K:Frag)(x:V)(H:Hp)(k:Bool):Prop:=
 match x with
 | .non=>k=false
 | .bl b=>k=b
 | .int i=>k=(i != 0)
 | .str y=>y.length<=sizeLine/\k=((y.length:Int) != 0)
 | .byt y=>y.size<=sizeLine/\k=((y.size:Int) != 0)
 | .ref p=>(∃xs,SqL K H p xs/\k = !xs.isEmpty)\/(∃xs,SqT K H p xs/\k = !xs.isEmpty)\/∃f,H p=some (.dK f)/\k = !f.isEmpty
 |_=>False
theorem jt3{l:Type}{f:List (l×V)}{vs:List (l×Value)}(r:KV f vs):(!vs.isEmpty) = !f.isEmpty:=by cases r<;>rfl
theorem Wt{its:List Value}(r:Vals xs its):(!its.toArray.isEmpty) = !xs.isEmpty:=by cases r<;>simp
theorem Tz:(sizeLine:Nat)<2 ^ 63:=by rw[sizeLine_eq];decide
theorem wx4:yh7 X (λx H Q=>∃k,wy3 X.K x H k/\Q k H):=by
 intro pins s σ H x v Q I G h;obtain⟨k,e,q⟩:=h;have Z:=Tz;have Y:sizeLine=16777216:=sizeLine_eq;cases x with
 |non=>cases G;have f:k=false:=e;subst f;exact truthy_none ⟨H,I,q⟩
 |bl b=>cases G;have f:k=b:=e;subst f;exact wpAny_truthy_bool ⟨H,I,q⟩
 |int i=>obtain⟨t,rfl⟩:=G;have f:k=(i != 0):=e;subst f;exact PySem.P.truthy_int ⟨H,I,q⟩
 |str y=>obtain⟨t,rfl⟩:=G;obtain⟨T,f⟩:y.length<=sizeLine/\k=((y.length:Int) != 0):=e;subst f;exact PySem.P.truthy_str (by lia) ⟨H,I.tok _,q⟩
 |byt y=>obtain⟨t,rfl⟩:=G;obtain⟨T,f⟩:y.size<=sizeLine/\k=((y.size:Int) != 0):=e;subst f;exact W.truthy_bytes (by lia) ⟨H,I.tok _,q⟩
 |ref p =>
  cases G;have f:(∃xs,SqL X.K H p xs/\k = !xs.isEmpty)\/(∃xs,SqT X.K H p xs/\k = !xs.isEmpty)\/∃l,H p=some (.dK l)/\k = !l.isEmpty:=e;rcases f with ⟨xs,J,f⟩ | ⟨xs,J,f⟩ | ⟨l,J,f⟩
  ·subst f;have⟨M,r,pl,O⟩:=I.list J;have C:=r.length;exact wpAny_truthy_list pl.isList (by simp only[jAo];lia) ⟨H,I.tok _,by rw[Wt r];exact q⟩
  ·subst f;have⟨M,r,pl,O⟩:=I.tuple J;have C:=r.length;exact truthy_tuple pl (by simp only[jAo];lia) ⟨H,I.tok _,by rw[Wt r];exact q⟩
  ·subst f;obtain⟨O,U,L,r,m⟩:l.length<=sizeLine/\(p == sysModules)=false/\∃L,KV l L/\s.heap.DictOf (Dh X.prog X.w) p L:=I.hok p _ J;have C:l.length=L.length:=Paired.length r;exact wpAny_truthy_dict U m (by lia) ⟨H,I.tok _,by rw[jt3 r];exact q⟩
 |_=>exact(show False from e).elim
theorem kx4(C:PE X a B)(p:∀whole,isTrue a X.env whole=(do let v <-whole;standAt a.pos;holding [v] (truthy v))):
  PT X a (λσ H Q=>B σ H λx H'=>∃k,wy3 X.K x H' k/\Q k H'):=by
 intro pins s σ H Q I h;exact isTrue_plain (thG (C pins s σ H _ I h) λv f x J G l m=>wx4 pins f σ J x v Q G l m) (p _)
theorem jv1:OpR X (binaryOp .Add) (λx y H Q=>∃i j,x=.str i/\y=.str j/\i.length+j.length<=sizeLine/\Q (.str (i++j)) H):=by intro pins s σ H x y v u Q I l f h;obtain⟨i,j,rfl,rfl,m,q⟩:=h;obtain⟨t,rfl⟩:=l;obtain⟨t',rfl⟩:=f;exact add_str (λt' p=>⟨.str (i++j),H,I.tok _,⟨_,rfl⟩,q⟩) m
theorem vals1{x:V}(r:Vals [x] us):∃u,us=[u]/\RelV x u:=by
 cases r with
 |cons l f=>cases f;exact⟨_,rfl,l⟩
theorem vals2{x:V}(r:Vals [x,y] us):∃u f,us=[u,f]/\RelV x u/\RelV y f:=by
 cases r with
 |cons C p =>
  cases p with
  |cons m l=>cases l;exact⟨_,_,rfl,C,m⟩
theorem kf2(l:X.calm=true):Eh X (.builtin "max") (λxs H Q=>∃i j,xs=[.int i,.int j]/\Q (.int (if j>i then j else i)) H):=by
 intro pins s σ H xs us Q I r h;obtain⟨i,j,rfl,q⟩:=h;obtain⟨u,m,rfl,⟨t,rfl⟩,⟨t',rfl⟩⟩:=vals2 r;refine max_two_ints (I.ok.hd l) λh' p k=>⟨_,H,I.kept k,?_,q⟩;by_cases f:j>i
 ·rw[if_pos f,if_pos f];exact⟨_,rfl⟩
 ·rw[if_neg f,if_neg f];exact⟨_,rfl⟩
theorem kf3(l:X.calm=true):Eh X (.builtin "min") (λxs H Q=>∃i j,xs=[.int i,.int j]/\Q (.int (if j<i then j else i)) H):=by
 intro pins s σ H xs us Q I r h;obtain⟨i,j,rfl,q⟩:=h;obtain⟨u,m,rfl,⟨t,rfl⟩,⟨t',rfl⟩⟩:=vals2 r;refine min_two_ints (I.ok.hd l) λh' p k=>⟨_,H,I.kept k,?_,q⟩;by_cases f:j<i
 ·rw[if_pos f,if_pos f];exact⟨_,rfl⟩
 ·rw[if_neg f,if_neg f];exact⟨_,rfl⟩
end
theorem S8.some_of{o:Option Value}(r:S8 (some v) o):∃u,o=some u/\RelV v u:=by
 cases o with
 |none=>exact(show False from r).elim
 |some u=>exact⟨u,rfl,r⟩
structure Gq(k:Nat)(A:Around):Prop where
 hd:A.handled=none
 dp:A.depth+3 * k+5<recursionLimit
 un:A.units+16 * k+200<cLine
 gd:A.guards=some []
theorem Gq.mono(r:Gq k A)(h:j<=k):Gq j A:=⟨r.hd,by have:=r.dp;lia,by have:=r.un;lia,r.gd⟩
theorem Gq.deeper(r:Gq (k+1) A)(env:Env):Gq k (A.deeper env):=
 ⟨r.hd,by have:=r.dp;show A.depth+1+3 * k+5<_;lia,by have:=r.un;show A.units+3+16 * k+200<_;lia,r.gd⟩
theorem Gq.in1(r:Gq (k+1) A):Gq k A.in1:=
 ⟨r.hd,by have:=r.dp;show A.depth+3 * k+5<_;lia,by have:=r.un;show A.units+1+16 * k+200<_;lia,r.gd⟩
theorem Gq.depth(r:Gq k A):A.depth<recursionLimit:=by have:=r.dp;lia
def yg5:TA:=λ_ H Q=>Q [] H
def wm6(B:TE)(f:TA):TA:=λσ H Q=>B σ H λx m=>f σ m λxs l=>Q (x::xs) l
variable {es:List Expr}
section
variable {t:TA}
theorem Mi:PA X [] yg5:=λ_ _ _ _ H Q I h=>Calls.spliced_nil ⟨[],H,I,.nil,h⟩
theorem G3(L:PE X e F)(J:PA X es t)(G:starEach (e::es) X.env=(false,eval e X.env)::starEach es X.env:=by rfl):PA X (e::es) (wm6 F t):=by intro pos pins s σ H Q I h;rw[G];show wpAny _ _ (spliced ((false,eval e X.env)::backTo pos (starEach es X.env))) _ _ s;refine Calls.spliced_cons (thG (L pins s σ H _ I h) λu f x U O m C=>?_);exact thG (J pos pins f σ U _ O C) λus Y xs T M l p=>⟨x::xs,T,M,.cons m l,p⟩
def yn1(t:TA):TE:=λσ H Q=>t σ H λxs f=>xs.length<=sizeLine/\∀p,f p=none->Q (.ref p) (upd f p (.tup xs))
def ym6(t:TA):TE:=λσ H Q=>t σ H λxs f=>xs.length<=sizeLine/\∀p,f p=none->Q (.ref p) (upd f p (.lst xs))
theorem jv2{x1}(h:PA X es t):PE X (.Tuple es x1 pos) (yn1 t):=by intro pins s σ H Q I p;refine wpAny_Tuple_spliced (thn (h pos pins s σ H _ I p) λus f ⟨xs,m,l,r,z,q⟩=>⟨by rw[<-r.length];exact z,?_⟩);have C:m f.heap.objs.size=none:=l.hok.fresh (jAg _);refine⟨.ref f.heap.objs.size,upd m f.heap.objs.size (.tup xs),l.laid (t':=f.toks) (λb u e=>jAc _ e) (jAg _) ?_,rfl,q _ C⟩;exact⟨z,us,r,⟨_,jAp _ rfl,rfl,_,rfl⟩⟩
theorem wu5(h:PA X es t):PE X (.List es pos) (ym6 t):=by intro pins s σ H Q I p;refine wpAny_List_spliced (thn (h pos pins s σ H _ I p) λus f ⟨xs,m,l,r,z,q⟩=>⟨by rw[<-r.length];exact z,?_⟩);have C:m f.heap.objs.size=none:=l.hok.fresh (jAg _);refine⟨.ref f.heap.objs.size,upd m f.heap.objs.size (.lst xs),l.laid (t':=f.toks) (λb u e=>jAc _ e) (jAg _) ?_,rfl,q _ C⟩;exact⟨z,us,0,r,jAp _ rfl⟩
end
abbrev Sp:=List V->Hp->VK->XK->Prop
abbrev CXT:=List Env->Hp->Shared->XK->Value->Shared->Prop
structure wa3(P:Program)(w:World)(K:Frag)(mg:Str->Option Value)(base:Heap)(A:Around)(outer:List Env)(s:Shared)(H:Hp):Prop where
 frames:A.frames=some outer
 mod:Mod K mg base
 bs:∀b o,base.get? b=some o->s.heap.get? b=some o/\H b=none
 bsz:base.objs.size<=s.heap.objs.size
 funs:s.heap.FunFrames base outer
 frf:∀b∈frs outer,H b=none
 hok:HOk P w H s.heap
 bare:AllBare s.gens
def CE(f:List Env)(P:Program)(w:World)(H:Hp)(s:Shared)(Q:VK)(u:Value)(s':Shared):Prop:=
 ∃v H',s'.os=s.os/\AllBare s'.gens/\Un (frs f) [] H H' s.heap s'.heap/\HOk P w H' s'.heap/\RelV v u/\Q v H'
def CR(l:CXT)(f:List Env)(P:Program)(w:World)(H:Hp)(s:Shared)(Q:VK)(E:XK)(r:Result)(s':Shared):Prop:=
 match r with
 | .ok (.ret u)=>CE f P w H s Q u s'
 | .ok _=>False
 | .error e=>l f H s E e s'
structure Bq(P:Program)(w:World)(K:Frag)(mg:Str->Option Value)(base:Heap)(CX:CXT)(k:Nat)(f:Addr)(fd:FuncData)(ps:List Str)(sp:Sp):Prop where
 len:∀vs H Q E,sp vs H Q E->vs.length=ps.length
 run:∀(A:Around)(outer:List Env)(s:Shared)(H:Hp)(args:Args)(us:List Value)(vs:List V)(Q:VK)(E:XK),Gq k A->wa3 P w K mg base A outer s H->BindsTo s fd args (ps.zip us)->Vals vs us->sp vs H Q E ->
  codeAny (model P w) A (.call (.ref f) args) (CR CX outer P w H s Q E) s
variable {mg:Str->Option Value}{base:Heap}{CX:CXT}{f:Addr}{fd:FuncData}{sp:Sp}
theorem Bq.imp{ps:List Str}{p:Sp}(F:Bq P w K mg base CX k f fd ps sp)
  (h:∀m H Q E,p m H Q E->sp m H Q E):Bq P w K mg base CX k f fd ps p:=
 ⟨λm H Q E q=>F.len m H Q E (h _ _ _ _ q),λA l s H args us m Q E I J L C G=>F.run A l s H args us m Q E I J L C (h _ _ _ _ G)⟩
section
variable {s':Shared}
theorem Inv.env0(I:Inv X pins σ H s):wa3 X.prog X.w X.K X.mg X.base X.A X.stack s H:=
 ⟨I.ok.frames,I.ok.mod,I.bs,jBt I.ok.bsz I.sz,I.stack,I.stkFree,I.hok,I.bare⟩
theorem Inv.after{Q:VK}(I:Inv X pins σ H s)(h:CE X.stack X.prog X.w H s Q u s'):EP X pins σ Q u s':=by obtain⟨v,H',p,bare,un,m,r,q⟩:=h;obtain⟨C,g,d,t,l⟩:=s';obtain rfl:l=s.os:=p;exact⟨v,H',I.call (h':=C) (g':=g) (d':=d) (t':=t) (ch:=[]) un m bare (λb z=>absurd z (by simp)),r,q⟩
end
def yg1(sp:Sp)(l:List V)(E:XK)(t:TA):TE:=λσ H Q=>t σ H λm p=>sp (m++l) p Q E
def Binds(K:Frag)(fd:FuncData)(ps:List Str)(ds:List Value):Prop:=
 ∀(s:Shared)(us:List Value),K.In s.heap->(us++ds).length=ps.length->BindsTo s fd ⟨us,[]⟩ (ps.zip (us++ds))
theorem Binds.all{ps:List Str}(h:∀us:List Value,us.length=ps.length->bindArgs fd ⟨us,[]⟩=pure (ps.zip us)):Binds K fd ps []:=λs us _ l=>by rw[jDa]at l ⊢;exact .of_eq (h us l)
def Passes(CX:CXT)(X:Cx)(E:XK):Prop:=∀(pins:List (Addr×Obj))(σ:St)(H:Hp)(s:Shared)(e:Value)(s':Shared),Inv X pins σ H s->CX X.stack H s E e s'->X.xe e s'
variable {p:Pos}
variable {vs:List V}
section
variable {CX:CXT}{k:Nat}{f C:Addr}{fd:FuncData}{ps:List Str}{sp:Sp}{l:List V}{ds:List Value}{E:XK}{x m:Str}{apos:Pos}{o:Expr}{t:TA}
theorem ww0{Q:VK}(F:Bq X.prog X.w X.K X.mg X.base CX k f fd ps sp)(M:Gq k X.A)(U:Binds X.K fd ps ds)(T:Vals l ds)(L:Passes CX X E)
  (I:Inv X pins σ H s)(r:Vals vs us)(h:sp (vs++l) H Q E):wpAny (model X.prog X.w) X.A (call (.ref f) us) (EP X pins σ Q) X.xe s:=by
 have J:Vals (vs++l) (us++ds):=r.append T;have O:(us++ds).length=ps.length:=by rw[<-J.length];exact F.len _ _ _ _ h
 refine wpAny_call (codeAny_mono (F.run X.A X.stack s H ⟨us,[]⟩ (us++ds) (vs++l) Q E M I.env0 (U s us I.kIn O) J h) λr s' G=>?_);cases r with
 |error e=>exact L pins σ H s e s' I G
 |ok Y =>
  cases Y with
  |ret u=>exact I.after G
  |next=>exact False.elim G
  |brk=>exact False.elim G
  |cont=>exact False.elim G
theorem Vo(F:Bq X.prog X.w X.K X.mg X.base CX k f fd ps sp)(O:Gq k X.A)(Y:Gl X x)(T:X.mg x=some (.ref f))(U:W.keepIn X.K (.ref f)=true)(hb:Binds X.K fd ps ds)(hd:Vals l ds)(M:Passes CX X E)
  (ha:PA X (e::es) t)(J:(x == ("__debug__" : Str))=false:=by decide)(Z:starEach (e::es) X.env=(false,eval e X.env)::starEach es X.env:=by rfl)(G:(backTo pos (starEach es X.env)).any (·.1)=false:=by rfl):
  PE X (.Call (.Name x p) (e::es) [] pos) (yg1 sp l E t):=by
 intro pins s σ H Q I h;refine wpAny_Call_Name_kw (wf8 I Y T ?_ J);refine W.callWith_K (h₀:=X.base) I.ok.mod.kin U (thG (ha pos pins s σ H _ I h) λus s1 vs H1 L r q=>⟨L.kIn,?_⟩) Z G;exact ww0 F O hb hd M L r q
end
structure Am(N P:List Str)(sc:Scope):Prop where
 kind:sc.kind=.function
 co:sc.isCoroutine=false
 gen:sc.isGenerator=false
 nd:N.Nodup
 pre:N.take P.length=P
 par:∀x∈P,sc.names.lookup x=some .local\/sc.names.lookup x=some .cell
 nofree:∀y∈sc.names,y.2≠.free
theorem Yw{kindOf:Str->Option NameKind}{x:Str}:∀{binds:List (Str×Value)}{m:Str->Option Value},(∀v,(x,v)∉binds)->bindL kindOf binds m x=m x
 | [],_,_=>rfl
 | (n,v)::r,m,h=>by
  unfold bindL;rw[Yw λw l=>h w (jAb _ l)];split
  ·have:x≠n:=by rintro rfl;exact h v jAf
   simp[this]
  ·rfl
theorem Yu{kindOf:Str->Option NameKind}{x:Str}:∀{binds:List (Str×Value)}{m:Str->Option Value},(∀v,(x,v)∉binds)->bindC kindOf binds m x=m x
 | [],_,_=>rfl
 | (n,v)::r,m,h=>by
  unfold bindC;rw[Yu λw l=>h w (jAb _ l)];split
  ·rfl
  ·have:x≠n:=by rintro rfl;exact h v jAf
   simp[this]
theorem Yv{kindOf:Str->Option NameKind}{x:Str}{v:Value}:∀{P:List Str}{vs:List Value}{i:Nat}{m:Str->Option Value},P.Nodup->P[i]? = some x->vs[i]? = some v->kindOf x=some .local ->
  bindL kindOf (P.zip vs) m x=some v
 | [],_,_,_,_,h,_,_=>by simp at h
 |_::_,[],_,_,_,_,h,_=>by simp at h
 |p::P,w::vs,0,m,G,C,l,I=>by simp at C l;subst C;subst l;show bindL kindOf ((p,w)::P.zip vs) m p=_;unfold bindL;rw[Yw λv J=>(jBj.mp G).1 (jFj J).1,if_pos I];simp
 |p::P,w::vs,i+1,m,G,C,l,I=>by show bindL kindOf ((p,w)::P.zip vs) m x=_;unfold bindL;exact Yv (i:=i) (jBj.mp G).2 (by simpa using C) (by simpa using l) I
theorem Yt{kindOf:Str->Option NameKind}{x:Str}{v:Value}:∀{P:List Str}{vs:List Value}{i:Nat}{m:Str->Option Value},P.Nodup->P[i]? = some x->vs[i]? = some v->kindOf x≠some .local ->
  bindC kindOf (P.zip vs) m x=some v
 | [],_,_,_,_,h,_,_=>by simp at h
 |_::_,[],_,_,_,_,h,_=>by simp at h
 |p::P,w::vs,0,m,G,C,l,I=>by simp at C l;subst C;subst l;show bindC kindOf ((p,w)::P.zip vs) m p=_;unfold bindC;rw[Yu λv J=>(jBj.mp G).1 (jFj J).1,if_neg I];simp
 |p::P,w::vs,i+1,m,G,C,l,I=>by show bindC kindOf ((p,w)::P.zip vs) m x=_;unfold bindC;exact Yt (i:=i) (jBj.mp G).2 (by simpa using C) (by simpa using l) I
def start(N:List Str)(vs:List V):St:=vs.map some++List.replicate (N.length - vs.length) none
def V3(CX:CXT)(P:Program)(w:World)(K:Frag)(mg:Str->Option Value)(base:Heap)(N:List Str)(qual:Str)(scope:Scope)(f:Addr)(cd:Value)(A:Around)(outer:List Env)(s:Shared)(H:Hp)(E:XK):Cx where
 prog:=P
 w:=w
 K:=K
 mg:=mg
 base:=base
 A:=A.deeper (envOfC qual scope s.heap.objs.size f cd)
 N:=N
 s₀:=s
 H₀:=H
 env:=envOfC qual scope s.heap.objs.size f cd
 outer:=outer
 stack:=envOfC qual scope s.heap.objs.size f cd::outer
 ex:=[]
 calm:=true
 fn:=λ_=>true
 pn:=[]
 xe:=λe s'=>wpAny (model P w) (A.deeper (envOfC qual scope s.heap.objs.size f cd)) (leaving (envOfC qual scope s.heap.objs.size f cd) e) (λ_ s''=>CX outer H s E e s'') (λe' s''=>CX outer H s E e' s'') s'
theorem jg4{sc:Scope}{x:Str}(h:sc.names.lookup x=some .cell):∃c,(cellsFrom n sc.names []).lookup x=some c:=by have q:=W.cellsFrom_some sc.names n [] (.inl h);exact jEb.mp q
variable {qual:Str}
theorem kh8{N ps:List Str}{l:Scope}{cd:Value}{m:List Env}{U:Shared}{E:XK}
  (S:Am N ps l)(hd:A.handled=none)(G:wa3 P w K mg base A m s H)(hl:vs.length=ps.length)(r:Vals vs us)
  (x:InCallC s s.heap.objs.size (bindL (envOfC qual l s.heap.objs.size f cd).kindOf (ps.zip us) λ_=>none) (cellsFrom (s.heap.objs.size+1) l.names []) (bindC (envOfC qual l s.heap.objs.size f cd).kindOf (ps.zip us) λ_=>none) U):
  Inv (V3 CX P w K mg base N qual l f cd A m s H E) [] (start N vs) H U:=by
 have aa:ps.length<=N.length:=by have:=congrArg List.length S.pre;rw[jBd]at this;lia
 obtain⟨T,tk,rfl,Z⟩:=x.done;have I:∀b:Addr,b∉(V3 CX P w K mg base N qual l f cd A m s H E).ex:=λb z=>absurd (show b∈([]:List Addr) from z) (by simp);refine⟨⟨G.mod,S.kind,rfl,rfl,jAg _,λy z c T C=>?_,λy J=>?_,λy c _ h=>?_,λ_=>hd,Around.frames_deeper G.frames,.inr ⟨rfl,rfl⟩,λb z=>absurd z (I b),G.bs,G.bsz,λb _ _=>I b,λb z=>absurd z (I b),G.funs,G.frf⟩,
  rfl,G.bare,Un.kept Z,⟨_,x.toInCall.ns,λi y v T C h3=>?_⟩,λy c h=>⟨_,x.cell y c h⟩,G.hok.fresh (jAg _),λy c h=>?_,λp M=>absurd (show p∈([]:List (Addr×Obj)) from M) (by simp),G.hok.kept Z,?_⟩
 ·exact name_of_addr x.apart (PySem.mem_of_lookup T) (PySem.mem_of_lookup C)
 ·have J:l.names.lookup y=some .cell\/l.names.lookup y=some .free:=J;rcases J with J |J
  ·exact jg4 J
  ·exact absurd rfl (S.nofree _ (PySem.mem_of_lookup J))
 ·exact jDx (x.above y c (PySem.mem_of_lookup h))
 ·have O:i<vs.length:=by
   unfold start at C;by_cases O:i<vs.length
   ·exact O
   ·rw[jBh (by simpa using O)]at C;rw[jEe]at C;split at C<;>cases C
  have ha:vs[i]? = some v:=by
   unfold start at C;rw[jBu (by simpa using O),jBa]at C;cases e:vs[i]? with
   |none=>rw[e]at C;cases C
   |some a=>rw[e]at C;cases C;rfl
  have⟨u,Y,rv⟩:=r.get ha;have M:ps[i]? = some y:=by rw[<-S.pre,jEu (by lia)];exact T
  have L:ps.Nodup:=by rw[<-S.pre];exact S.nd.sublist (jHd _ _)
  refine⟨u,rv,?_⟩;rcases S.par y (jBv M) with k |k
  ·exact .inl ⟨k,Yv L M Y k⟩
  ·have⟨c,e⟩:=jg4 (n:=s.heap.objs.size+1) k;refine .inr ⟨.inl k,c,e,?_⟩;have q:=x.cell y c e;rw[Yt L M Y (by show l.names.lookup y≠_;rw[k];decide)]at q;exact q
 ·exact G.hok.fresh (jDx (x.above y c (PySem.mem_of_lookup h)))
 ·unfold start;show _=N.length;rw[jAs,jAd,jDv];lia
theorem kq5{name:Str}{params:Arguments}{l:Scope}{dV kV Z pm C ct oc:Value}{an od:Option Addr}
  {aa:Array (Option Value)}{N ps:List Str}(lk:K.lookup f=some ⟨oc,od,.func (W.fnOf name qual params z l dV kV Z pm an C ct),aa⟩)(ab:W.codeIn K C qual=true)(S:Am N ps l)
  (len:∀vs H Q E,sp vs H Q E->vs.length=ps.length)
  (M:∀(A:Around)(m:List Env)(s:Shared)(H:Hp)(vs:List V)(Q:VK)(E:XK),Gq k (A.deeper (envOfC qual l s.heap.objs.size f C))->sp vs H Q E ->
   ∃t,PSs (V3 CX P w K mg base N qual l f C A m s H E) z t/\t {nx:=λ_ H'=>Q .non H',rt:=Q} (start N vs) H):
  Bq P w K mg base CX (k+1) f (W.fnOf name qual params z l dV kV Z pm an C ct) ps sp:=by
 refine⟨len,λA m s H args us vs Q E hr Y hb r T=>?_⟩;have hl:=len _ _ _ _ T;have KX:K.In s.heap:=Y.mod.kin.keeps λb o e=>(Y.bs b o e).1;have lim:s.heap.NoLimit:=Y.mod.nolimit.keeps λb o e=>(Y.bs b o e).1;have L:∀y∈ps.zip us,l.names.lookup y.1=some .local\/(l.names.lookup y.1=some .cell/\((cellsFrom (s.heap.objs.size+1) l.names []).lookup y.1).isSome=true):=λ⟨n,v⟩ hy=>by
  rcases S.par n (jFj hy).1 with q |q
  ·exact .inl q
  ·exact .inr ⟨q,W.cellsFrom_some _ _ _ (.inl q)⟩
 refine codeAny_call_function hr.depth (KX _ _ lk) rfl S.co S.gen rfl (W.codeRec_of KX ab) (hb _ _ _ _ ?_);refine wpAny_newFunctionEnv_cells S.kind L λenv he s1 x=>?_;subst he;refine⟨lim.keeps x.toInCall.keep,codeAny_func ?_⟩;have⟨t,ht,hq⟩:=M A m s H vs Q E (hr.deeper _) T;have I:Inv (V3 CX P w K mg base N qual l f C A m s H E) [] (start N vs) H s1:=kh8 S hr.hd Y hl r x;refine wpAny_mono (ht [] s1 (start N vs) H _ I hq) (λfl s' O=>?_) λe s' O=>O;have U:∀{G:St}{H':Hp}{v:V}{u:Value},Inv (V3 CX P w K mg base N qual l f C A m s H E) [] G H' s'->RelV v u->Q v H'->CE m P w H s Q u s':=
  λ{G H' v u} J rv q=>⟨v,H',J.os,J.bare,J.base,J.hok,rv,q⟩
 cases fl with
 |ret u=>obtain⟨v,G,H',J,rv,q⟩:=O;exact U J rv q
 |next=>obtain⟨G,H',J,q⟩:=O;exact U (v:=V.non) (u:=Value.none) J rfl q
 |brk=>obtain⟨_,_,_,q⟩:=O;exact False.elim q
 |cont=>obtain⟨_,_,_,q⟩:=O;exact False.elim q
section
variable {x:Str}{t:TA}{l T:String}{r:List V->Hp->VK->Prop}
def tCB(r:List V->Hp->VK->Prop)(t:TA):TE:=λσ H Q=>t σ H λvs m=>r vs m Q
theorem R1(Z:Eh X (.builtin l) r)(U:Gl X x)(O:X.mg x=none)(M:bootBuiltins x=some (.builtin l))(ha:PA X (e::es) t)(hn:x ≠ "__name__":=by decide)(C:(x == ("__debug__" : Str))=false:=by decide)
  (Y:starEach (e::es) X.env=(false,eval e X.env)::starEach es X.env:=by rfl)(m:(backTo pos (starEach es X.env)).any (·.1)=false:=by rfl):PE X (.Call (.Name x p) (e::es) [] pos) (tCB r t):=by
 intro pins s σ H Q I h;refine wpAny_Call_Name_kw (Tv I U O M ?_ hn C);exact PyProof.Rows.callWith_builtin1 (thG (ha pos pins s σ H _ I h) λus G vs H1 I1 J L=>Z pins G σ H1 vs us Q I1 J L) Y m
theorem Hf(Z:Eh X (.type T) r)(U:Gl X x)(O:X.mg x=none)(M:bootBuiltins x=some (.type T))(ha:PA X (e::es) t)(hn:x ≠ "__name__":=by decide)(C:(x == ("__debug__" : Str))=false:=by decide)
  (Y:starEach (e::es) X.env=(false,eval e X.env)::starEach es X.env:=by rfl)(m:(backTo pos (starEach es X.env)).any (·.1)=false:=by rfl):PE X (.Call (.Name x p) (e::es) [] pos) (tCB r t):=by
 intro pins s σ H Q I h;refine wpAny_Call_Name_kw (Tv I U O M ?_ hn C);exact PyProof.Rows.callWith_type1 (thG (ha pos pins s σ H _ I h) λus G vs H1 I1 J L=>Z pins G σ H1 vs us Q I1 J L) Y m
end
end L2
namespace HT
open PySem PyProof.Rows
theorem kx8(A:Around)(s:Shared)(a:Int)(t:Tok)(c:Int)(u:Tok)(prog:Program)(w:World)(E:Value->Shared->Prop)(Q:Value->Shared->Prop)(h:Q (.bool (decide (a<c))) s):
  wpAny (model prog w) A (richCompare .Lt (.int a t) (.int c u)) Q E s:=
 (PyProof.Rows.lt_int h:wpAny (model prog w) A (compareOp .Lt (.int a t) (.int c u)) Q E s)
variable {Q:Value->Shared->Prop}{sl:Addr}{b a:Value}{lo hi:Option Int}
section
variable {prog:Program}{w:World}{A:Around}{E:Value->Shared->Prop}{s:Shared}
theorem wb3{t b:Addr}{vs c:List Value}(u:IsTup s.heap t vs.toArray)(v:IsTup s.heap b c.toArray)(m:vs≠[])
  (y:c=[]->Q (.ref t) s)(x:c≠[]->Q (.ref s.heap.objs.size) {s with heap:=s.heap.push {cls:=.type "tuple",data:=.seq (vs++c).toArray} })
  (hsz:vs.length+c.length<=sizeLine):wpAny (model prog w) A (binaryOp .Add (.ref t) (.ref b)) Q E s:=by
 have⟨⟨cls,q,data,sl⟩,k,p,n,o⟩:=id u;have⟨⟨r,i,data2,g⟩,f,h,l,hd2⟩:=id v;simp only at p o h hd2;subst p o h hd2;have e:vs.toArray++c.toArray=(vs++c).toArray:=by simp
 by_cases j:c=[]
 ·exact concat_meets ⟨_,k,rfl⟩ ⟨_,f,rfl⟩ noFill_tuple_add seq_tuple_add PySem.F.slot_tuple_add PySem.F.entry_tuple_add (PySem.F.args_tuple_add_2 _ _)
   (tuple_addW1 t b vs.toArray c.toArray n l q i sl g (by simpa using m) (by simp[j])) ⟨k,f,y j⟩
 ·refine concat_meets ⟨_,k,rfl⟩ ⟨_,f,rfl⟩ noFill_tuple_add seq_tuple_add PySem.F.slot_tuple_add PySem.F.entry_tuple_add (PySem.F.args_tuple_add_2 _ _)
   (tuple_addW2 t b vs.toArray c.toArray n l q i sl g (by simpa using m) (by simpa using j) (by rw[jAo,jAo];exact hsz)) ⟨k,f,?_⟩
  rw[e];exact x j
def sIx(n d:Nat):Option Int->Nat
 |none=>d
 |some v=>if v<0 then(v+(n:Int)).toNat else min v.toNat n
theorem K5(n d:Nat):sIx n d none=d:=rfl
theorem Kd(n d k:Nat):sIx n d (some (k:Int))=min k n:=by show(if(k:Int)<0 then((k:Int)+(n:Int)).toNat else min (k:Int).toNat n)=min k n;rw[if_neg (by lia),jCa]
theorem ww1(n d:Nat)(e:d<=n)(o:Option Int):sIx n d o<=n:=by
 cases o with
 |none=>exact e
 |some v =>
  show(if v<0 then(v+(n:Int)).toNat else min v.toNat n)<=n;by_cases c:v<0
  ·rw[if_pos c];lia
  ·rw[if_neg c];exact jFa _ _
theorem yk7(a b:Nat):((min a b:Nat):Int)=min (a:Int) b:=by
 rcases jEv a b with h |h
 ·rw[jCv h,jHp (Int.ofNat_le.mpr h)]
 ·rw[jDe h,Int.min_eq_right (Int.ofNat_le.mpr h)]
theorem ja2(v:Int)(n d:Nat):(if v<0 then max (v+(n:Int)) 0 else min v (n:Int))=((sIx n d (some v):Nat):Int):=by
 show(if v<0 then max (v+(n:Int)) 0 else min v (n:Int))=(((if v<0 then(v+(n:Int)).toNat else min v.toNat n):Nat):Int);by_cases c:v<0
 ·rw[if_pos c,if_pos c];exact(Int.toNat_eq_max _).symm
 ·rw[if_neg c,if_neg c,yk7,jEc (Int.not_lt.mp c)]
theorem jg5(v:Int)(n d:Nat):max 0 (min (if v<0 then v+(n:Int) else v) (n:Int))=((sIx n d (some v):Nat):Int):=by
 rw[<-ja2 v n d];by_cases c:v<0
 ·rw[if_pos c,if_pos c,Int.max_comm,jHp (jGh (Int.add_le_add_right (jFm c) _) (Int.le_of_eq (Int.zero_add _)))]
 ·rw[if_neg c,if_neg c,Int.max_eq_right (Int.le_min.mpr ⟨Int.not_lt.mp c,Int.natCast_nonneg n⟩)]
theorem jq7(lo hi:Option Int)(n:Nat):Builtin.Slice.sliceAdjust lo hi 1 (n:Int)=(((sIx n 0 lo:Nat):Int),((sIx n n hi:Nat):Int)):=by
 have c:¬ ((1:Int)<0):=by lia
 unfold Builtin.Slice.sliceAdjust;simp only[c,if_false];refine Prod.ext ?_ ?_
 ·cases lo with
  |none=>rfl
  |some v=>exact ja2 v n 0
 ·cases hi with
  |none=>rfl
  |some v=>exact ja2 v n n
theorem jv4(i j:Nat):Builtin.Slice.slicePlaces (i:Int) (j:Int) 1=j - i:=by
 unfold Builtin.Slice.slicePlaces;have c:(1:Int)>0:=by lia
 simp only[c,if_true,Int.ediv_one];split<;>lia
theorem Xu{v:Value}{o:Option Int}{Q:Option Int->Shared->Prop}(p:IsPart v o)(h:Q o s):wpAny (model prog w) A (Builtin.Slice.slicePartIndex v) Q E s:=by
 cases p with
 |none=>exact slicePart_none h
 |int i t=>exact slicePart_int h
theorem Uk{n:Nat}{Q:Int×Int×Nat->Shared->Prop}(g:s.heap.IsSliceOf sl b a .none)(pl:IsPart b lo)(f:IsPart a hi)
  (h:Q (((sIx n 0 lo:Nat):Int),1,sIx n n hi - sIx n 0 lo) s):wpAny (model prog w) A (Builtin.Slice.sliceApplied (.ref sl) (pure (n:Int))) Q E s:=by
 have⟨j,c,i,e⟩:=id g;unfold Builtin.Slice.sliceApplied Builtin.Slice.sliceFields;refine jZa (jZa (wpAny_field c e (x:=b) rfl (jZa (wpAny_field c e (x:=a) rfl (jZa (wpAny_field c e (x:=.none) rfl (jZb ?_)))))));refine jZa (slicePart_none ?_);show wpAny _ _ (if((1:Int) == 0)=true then _ else _) _ _ s;rw[if_neg (by decide)];refine jZa (Xu pl (jZa (Xu f (jZa (jZb ?_)))));show wpAny _ _ (match Builtin.Slice.sliceAdjust lo hi 1 (n:Int) with | (lo,hi)=>pure (lo,(1:Int),Builtin.Slice.slicePlaces lo hi 1)) _ _ s;rw[jq7 lo hi n];show wpAny _ _ (pure (((sIx n 0 lo:Nat):Int),(1:Int),Builtin.Slice.slicePlaces ((sIx n 0 lo:Nat):Int) ((sIx n n hi:Nat):Int) 1)) _ _ s;rw[jv4];exact jZb h
theorem kw9(xs:Array Value)(i k:Nat):((List.range k).filterMap λ(m:Nat)=>xs[((i:Int)+(m:Int) * 1).toNat]?).toArray=((xs.toList.drop i).take k).toArray:=by
 have e:(λ(m:Nat)=>xs[((i:Int)+(m:Int) * 1).toNat]?)=λm=>xs[i+m]?:=by
  funext m;have:((i:Int)+(m:Int) * 1).toNat=i+m:=by lia
  rw[this]
 rw[e];have:=pick_run xs i k;rw[List.filterMap_map]at this;have c:((λx=>xs[x]?)∘λx=>i+x)=λm=>xs[i+m]?:=rfl;rw[c]at this;rw[this]
theorem Rj{t:Addr}{items:Array Value}(e:IsTup s.heap t items)(k:s.heap.IsSliceOf sl b a .none)(pl:IsPart b lo)(l:IsPart a hi)
  (o:¬ (sIx items.size 0 lo=0/\sIx items.size items.size hi=items.size))
  (h:Q (.ref s.heap.objs.size) {s with heap:=s.heap.push {cls:=.type "tuple",data:=.seq ((items.toList.drop (sIx items.size 0 lo)).take (sIx items.size items.size hi - sIx items.size 0 lo)).toArray} })
  (hsz:items.size<=sizeLine):wpAny (model prog w) A (getItem (.ref t) (.ref sl)) Q E s:=by
 have c:sizeOk (.seq ((items.toList.drop (sIx items.size 0 lo)).take (sIx items.size items.size hi - sIx items.size 0 lo)).toArray):=by show((items.toList.drop (sIx items.size 0 lo)).take (sIx items.size items.size hi - sIx items.size 0 lo)).toArray.size<=sizeLine;rw[jAo,jBd,jBr,jCi];exact jBt (jBt (jFa _ _) (Nat.sub_le _ _)) hsz
 have v:sIx items.size items.size hi<=items.size:=ww1 _ _ (jAg _) hi;have⟨n,f,i,p⟩:=id k;have j:s.TypeIs (.ref sl) "slice":=⟨n,f,i⟩;unfold getItem
 try with_reducible refine wpAny_holding ?_
 first |refine jZa (jZb ?_) |skip
 refine jZa (wpAny_sequenceKey e.typeIs (by decide) ?_);refine jZa (wpAny_callSpecial?_slot (name:=Str.ofString "__getitem__") e.typeIs PyProof.Rows.slot_tuple_getitem
  (wpAny_call_entry PyProof.Rows.slot_tuple_getitem e.typeIs entry_tuple_getitem ?_ (args_tuple_getitem _ _)))
 show wpAny _ _ (Builtin.Tuple.tupleItemsOf (.ref t) >>= _) _ _ s;refine jZa (tupleItemsOf_ e ?_);refine jZa (wpAny_typeOf j ?_);rw[if_pos (by decide)];refine jZa (Uk k pl l ?_);have g:¬ ((((sIx items.size 0 lo:Nat):Int) == 0 && (1:Int) == 1 && (sIx items.size items.size hi - sIx items.size 0 lo) == items.size)=true):=by intro q;rw[jBg,jBg]at q;have u:((sIx items.size 0 lo:Nat):Int)=0:=eq_of_beq q.1.1;have r:sIx items.size items.size hi - sIx items.size 0 lo=items.size:=eq_of_beq q.2;exact o ⟨by lia,by lia⟩
 show wpAny _ _ (if(((sIx items.size 0 lo:Nat):Int) == 0 && (1:Int) == 1 && (sIx items.size items.size hi - sIx items.size 0 lo) == items.size)=true then _ else _) _ _ s;rw[if_neg g,kw9]
 first
  |exact jZa (m:=Builtin.Tuple.tupleExact _) (wpAny_newObj_type (jZb ⟨_,rfl,jZb h⟩) c)
  |exact jZa (m:=Builtin.Tuple.tupleExact _) (wpAny_newObj_type (jZa (jZb (jZb ⟨_,rfl,jZb h⟩))) c)
  |exact jZa (jZa (m:=Builtin.Tuple.tupleExact _) (wpAny_newObj_type (jZb (jZb ⟨_,rfl,jZb h⟩)) c))
  |exact jZa (jZa (m:=Builtin.Tuple.tupleExact _) (wpAny_newObj_type (jZb ⟨_,rfl,jZb h⟩) c))
end
end HT
namespace L2
open PySem PySem.Spec PyProof.Rows
abbrev TO:=St->Hp->(Option Int->Hp->Prop)->Prop
def PO(X:Cx)(e:Option Expr)(t:TO):Prop:=
 ∀(a:List (Addr×Obj))(s:Shared)(b:St)(H:Hp)(Q:Option Int->Hp->Prop),Inv X a b H s->t b H Q ->
  wpAny (model X.prog X.w) X.A (evalPart e X.env) (λu f=>∃o c,Inv X a b c f/\IsPart u o/\Q o c) X.xe s
def wk6:TO:=λ_ H Q=>Q none H
def yg7(t:TE):TO:=λa H Q=>t a H λx b=>∃i,x=.int i/\Q (some i) b
variable {X:Cx}{e:Expr}{pos:Pos}
variable {r:V->Option Int->Option Int->Hp->VK->Prop}{xs:List V}{us:List Value}
section
variable {a:TE}{lo hi:Option Expr}{c f:TO}{g:Pos}
theorem wi4:PO X none wk6:=by intro b s i H Q I h;rw[evalPart_none];exact jZb ⟨none,H,I,.none,h⟩
theorem wi5(h:PE X e a):PO X (some e) (yg7 a):=by intro b s j H Q I m;rw[evalPart_some];refine thG (h b s j H _ I m) λu p x o n k l=>?_;obtain⟨i,rfl,q⟩:=l;obtain⟨t,rfl⟩:=k;exact⟨some i,o,n,.int i t,q⟩
def SlR(X:Cx)(r:V->Option Int->Option Int->Hp->VK->Prop):Prop:=
 ∀(b:List (Addr×Obj))(s:Shared)(h:St)(H:Hp)(x:V)(v j i:Value)(lo hi:Option Int)(k:Addr)(Q:VK),Inv X b h H s->RelV x v->s.heap.IsSliceOf k j i .none->IsPart j lo->IsPart i hi->r x lo hi H Q ->
  ∃T l,typeLookup (.type T) "__getitem__" = pure (some (.builtin l))/\s.TypeIs v T/\wpAny (model X.prog X.w) X.A (getItem v (.ref k)) (EP X b h Q) X.xe s
theorem SlR.or{n:V->Option Int->Option Int->Hp->VK->Prop}(h:SlR X r)(h':SlR X n):SlR X (λx lo hi H Q=>r x lo hi H Q\/n x lo hi H Q):=by
 intro b s i H x v k j lo hi l Q I m p pl o q;rcases q with q |q
 ·exact h b s i H x v k j lo hi l Q I m p pl o q
 ·exact h' b s i H x v k j lo hi l Q I m p pl o q
def tSl(r:V->Option Int->Option Int->Hp->VK->Prop)(a:TE)(c f:TO):TE:=λb H Q=>a b H λx j=>c b j λl i=>f b i λu h=>r x l u h Q
theorem kw5(K:SlR X r)(M:PE X e a)(hl:PO X lo c)(G:PO X hi f):PE X (.Subscript e (.Slice lo hi none g) pos) (tSl r a c f):=by intro i s k H Q I h;refine Subscript_ (thG (M i s k H _ I h) λv y x H1 Z z E=>?_);refine wpAny_Slice (thG (hl i y k H1 _ Z E) λn p l H2 Y pl C=>thG (G i p k H2 _ Y C) λm j u o U F B=>?_);rw[evalPart_none];refine jZb ?_;have P:Inv X i k o {j with heap:=j.heap.push {cls:=.type "slice",data:=.fields #[n,m,.none] } }:=U.kept (t':=j.toks) λb ob q=>jAc _ q;have⟨T,id,O,J,L⟩:=K i {j with heap:=j.heap.push {cls:=.type "slice",data:=.fields #[n,m,.none] } } k o x v n m l u j.heap.objs.size Q P z (Heap.IsSliceOf.new ..) pl F B;show wpAny (model X.prog X.w) X.A (subscriptTail e (.Slice lo hi none g) v (.ref j.heap.objs.size)) (EP X i k Q) X.xe {j with heap:=j.heap.push {cls:=.type "slice",data:=.fields #[n,m,.none] } };exact tail_any (ops:=[.ref j.heap.objs.size,v]) J O L (by with_unfolding_all rfl)
def jg8(xs:List V)(lo hi:Option Int):List V:=(xs.drop (HT.sIx xs.length 0 lo)).take (HT.sIx xs.length xs.length hi - HT.sIx xs.length 0 lo)
theorem Us(xs:List V)(lo hi:Option Int):(jg8 xs lo hi).length<=xs.length:=by unfold jg8;rw[jBd,jBr];exact jBt (jFa _ _) (Nat.sub_le _ _)
def yl7(K:Frag):V->Option Int->Option Int->Hp->VK->Prop:=λx lo hi H Q=>∃a xs,x=.ref a/\SqT K H a xs /\
 ¬ (HT.sIx xs.length 0 lo=0/\HT.sIx xs.length xs.length hi=xs.length)/\∀p,H p=none->Q (.ref p) (upd H p (.tup (jg8 xs lo hi)))
theorem ww4:SlR X (yl7 X.K):=by
 intro k s z H x v B A lo hi C Q I n y pl p h;obtain⟨a,xs,rfl,u,w,q⟩:=h;cases n;have⟨j,r,m,l⟩:=I.tuple u;have i:j.toArray.size=xs.length:=by rw[jAo];exact r.length.symm
 refine⟨"tuple",_,PyProof.Rows.slot_tuple_getitem.lookup,m.typeIs,?_⟩;refine HT.Rj m y pl p (by rw[i];exact w) ?_ (by rw[i];exact l);rw[i];refine⟨.ref s.heap.objs.size,_,I.laid (t':=s.toks) (o:=.tup (jg8 xs lo hi)) (λb E q=>jAc _ q) (jAg _) ?_,rfl,q _ (I.hok.fresh (jAg _))⟩;exact⟨jBt (Us xs lo hi) l,_,(r.drop (HT.sIx xs.length 0 lo)).take (HT.sIx xs.length xs.length hi - HT.sIx xs.length 0 lo),IsTup.new _ _⟩
def yf0(K:Frag):R2:=λx y H Q=>∃a b xs h,x=.ref a/\y=.ref b/\SqT K H a xs/\SqT K H b h/\xs≠[]/\xs.length+h.length<=sizeLine /\
 (h=[]->Q (.ref a) H)/\(h≠[]->∀p,H p=none->Q (.ref p) (upd H p (.tup (xs++h))))
theorem Vals.nil_iff(r:Vals xs us):us=[]↔xs=[]:=by
 cases r with
 |nil=>simp
 |cons _ _=>simp
theorem wh5:OpR X (binaryOp .Add) (yf0 X.K):=by intro k s L H x y v u Q I A p h;obtain⟨a,b,xs,n,rfl,rfl,J,G,F,m,C,B⟩:=h;cases A;cases p;have⟨E,j,p1,_⟩:=I.tuple J;have⟨l,i,g,_⟩:=I.tuple G;refine HT.wb3 p1 g (λz=>F (j.nil_iff.mp z)) (λz=>⟨.ref a,H,I,rfl,C (i.nil_iff.mp z)⟩) (λz=>?_) (by rw[<-j.length,<-i.length];exact m);refine⟨.ref s.heap.objs.size,_,I.laid (t':=s.toks) (o:=.tup (xs++n)) (λb M q=>jAc _ q) (jAg _) ?_,rfl,B (λw=>z (i.nil_iff.mpr w)) _ (I.hok.fresh (jAg _))⟩;exact⟨by rw[jAs];exact m,_,j.append i,IsTup.new _ _⟩
end
def ixN(n:Nat)(i:Int):Option Nat:=if 0<=i then(if i<n then some i.toNat else none) else if -(n:Int)<=i then some (i+n).toNat else none
def atI{a:Type}(xs:List a)(i:Int):Option a:=(ixN xs.length i).bind λj=>xs[j]?
variable {n:Nat}{i:Int}
theorem wf2{j:Nat}(h:ixN n i=some j):seqIndex? i n=some j/\j<n/\-(n:Int)<=i/\i<n:=by
 unfold ixN at h;by_cases b:0<=i
 ·rw[if_pos b]at h;by_cases a:i<n
  ·rw[if_pos a]at h;have e:i.toNat=j:=Option.some.inj h;exact⟨by rw[seqIndex_of b a,e],by lia,by lia,a⟩
  ·rw[if_neg a]at h;cases h
 ·rw[if_neg b]at h;by_cases a:-(n:Int)<=i
  ·rw[if_pos a]at h;have e:(i+n).toNat=j:=Option.some.inj h;exact⟨by rw[seqIndex_neg (by lia) a,e],by lia,a,by lia⟩
  ·rw[if_neg a]at h;cases h
theorem Z8{a:Type}{xs:List a}{v:a}(h:atI xs i=some v):∃j,seqIndex? i xs.length=some j/\xs[j]? = some v/\j<xs.length/\-(xs.length:Int)<=i/\i<xs.length:=by
 unfold atI at h;cases e:ixN xs.length i with
 |none=>rw[e]at h;cases h
 |some j=>rw[e]at h;have⟨g,f,c,b⟩:=wf2 e;exact⟨j,g,h,f,c,b⟩
def jx5(b:Expr):Prop:=∀o i,subscripted b false o i=operate [o,i] (getItem o i)
def IxR(X:Cx)(r:R2):Prop:=
 ∀(value slice:Expr)(a:List (Addr×Obj))(s:Shared)(b:St)(H:Hp)(x y:V)(v u:Value)(Q:VK),Inv X a b H s->RelV x v->RelV y u->r x y H Q ->
  subscripted slice false v u=operate [v,u] (getItem v u)->wpAny (model X.prog X.w) X.A (subscriptTail value slice v u) (EP X a b Q) X.xe s
def MtR(X:Cx)(c:String)(r:V->List V->Hp->VK->Prop):Prop:=
 ∀(a:List (Addr×Obj))(s:Shared)(b:St)(H:Hp)(x:V)(xs:List V)(v:Value)(us:List Value)(Q:VK),Inv X a b H s->RelV x v->Vals xs us->r x xs H Q ->
  wpAny (model X.prog X.w) X.A (call (.builtin c) (v::us)) (EP X a b Q) X.xe s
variable {x:V}
section
variable {a b:Expr}{g tb:TE}
theorem ye6{r:R2}(o:IxR X r)(w:PE X a g)(p:PE X b tb)(m:jx5 b):PE X (.Subscript a b pos) (tOp r g tb):=by intro c s f H Q I h;exact Subscript_ (wn8 w p I h λv u j x y A z l k q=>o a b c j f A x y v u Q z l k q (m _ _))
def yl2(K:Frag):R2:=λx y H Q=>∃p xs i v,x=.ref p/\y=.int i/\SqL K H p xs/\atI xs i=some v/\Q v H
def yl4(K:Frag):R2:=λx y H Q=>∃p xs i v,x=.ref p/\y=.int i/\SqT K H p xs/\atI xs i=some v/\Q v H
def yl3:R2:=λx y H Q=>∃z i c,x=.str z/\y=.int i/\z.length<=sizeLine/\atI z.cps.toList i=some c/\Q (.str ⟨#[c]⟩) H
theorem wf3:IxR X (yl2 X.K):=by
 intro value slice c s A H x y v u Q I J G h B;obtain⟨p,xs,i,z,rfl,rfl,L,O,q⟩:=h;cases J;obtain⟨t,rfl⟩:=G;have⟨m,r,pl,Y⟩:=I.list L;have⟨j,k,U,h3,T,P⟩:=Z8 O;have⟨w,E,l⟩:=r.get U;have M:=r.length;have Z:=Tz;have f:EP X c A Q w s:=⟨z,H,I,l,q⟩;by_cases C:0<=i
 ·have o:i.toNat=j:=by rw[seqIndex_of C P]at k;exact Option.some.inj k
  exact item_listR pl.isList C (by lia) (by rw[o];simpa using E) f B
 ·have o:(i+(m.toArray.size:Int)).toNat=j:=by rw[seqIndex_neg (by lia) T]at k;rw[jAo,<-M];exact Option.some.inj k
  exact subscriptTail_builtinR (x:=w) pl.isList.typeIs slot_list_getitem.lookup
   (wpAny_getItem_list_neg (Q:=λr F=>r=w/\EP X c A Q r F) pl.isList (by lia) (by rw[jAo]<;>lia) (by lia) (by rw[o];simpa using E) ⟨rfl,f⟩) B
theorem wr7:IxR X (yl4 X.K):=by
 intro value slice c s l H x y v u Q I A o h C;obtain⟨p,xs,i,z,rfl,rfl,E,G,q⟩:=h;cases A;obtain⟨t,rfl⟩:=o;have⟨B,r,pl,O⟩:=I.tuple E;have⟨j,L,J,Y,U,T⟩:=Z8 G;have⟨w,M,f⟩:=r.get J;have F:=r.length;have P:=Tz;have k:EP X c l Q w s:=⟨z,H,I,f,q⟩;exact subscriptTail_builtinR (x:=w) pl.typeIs slot_tuple_getitem.lookup
  (getItem_tuple (j:=j) (Q:=λr m=>r=w/\EP X c l Q r m) pl (by lia) (by lia) (by rw[jAo,<-F];exact L) (by simpa using M) ⟨rfl,k⟩) C
theorem wr6:IxR X yl3:=by
 intro value slice f s G H x y v u Q I m l h o;obtain⟨z,i,c,rfl,rfl,K,w,q⟩:=h;obtain⟨t,rfl⟩:=m;obtain⟨J,rfl⟩:=l;have⟨j,k,C,M,B,A⟩:=Z8 w;have p:z.cps.toList.length=z.length:=by simp[Str.length]
 rw[p]at k B A;have L:=Tz;exact tail_any (typeIs_str s z t) slot_str_getitem.lookup (getItem_str (c:=c) (by
  have F:decide (i < -(2 ^ 63:Int))=false:=decide_eq_false (by lia);have E:decide (i≥2 ^ 63)=false:=decide_eq_false (by lia);rw[F,E,Bool.or_false]) (by rw[k];simpa using C) ⟨.str ⟨#[c]⟩,H,I.tok _,⟨_,rfl⟩,q⟩) o
theorem je3(lo hi:Option Int)(n:Nat):(sliceBounds lo hi none n).1=((HT.sIx n 0 lo:Nat):Int)/\(sliceBounds lo hi none n).2.1=((HT.sIx n n hi:Nat):Int)/\(sliceBounds lo hi none n).2.2=1:=by
 refine⟨?_,?_,rfl⟩
 ·cases lo with
  |none=>rfl
  |some i=>exact HT.jg5 i n 0
 ·cases hi with
  |none=>rfl
  |some i=>exact HT.jg5 i n n
theorem Yq(its:List Value)(lo hi:Option Int):slicePick its.toArray lo hi none=((its.drop (HT.sIx its.length 0 lo)).take (HT.sIx its.length its.length hi - HT.sIx its.length 0 lo)).toArray:=by have⟨h,f,c⟩:=je3 lo hi its.toArray.size;unfold slicePick;rw[h,f,c];simp only[sliceRange_one,pick_run,jAo]<;>rfl
def yl6(K:Frag):V->Option Int->Option Int->Hp->VK->Prop:=λx c f H Q=>∃a xs,x=.ref a/\SqL K H a xs/\∀p,H p=none->Q (.ref p) (upd H p (.lst (jg8 xs c f)))
theorem wk0:SlR X (yl6 X.K):=by intro k s A H x v C B f j E Q I m z pl p h;obtain⟨a,xs,rfl,y,q⟩:=h;cases m;have⟨u,r,l,w⟩:=I.list y;have c:=r.length;refine⟨"list",_,slot_list_getitem.lookup,l.isList.typeIs,?_⟩;refine wpAny_getItem_list_slice l.isList z pl p .none (by simp) ?_ (by rw[jAo]<;>lia);rw[Yq,<-c];refine⟨.ref s.heap.objs.size,_,I.laid (t':=s.toks) (o:=.lst (jg8 xs f j)) (λb F q=>jAc _ q) (jAg _) ?_,rfl,q _ (I.hok.fresh (jAg _))⟩;exact⟨jBt (Us xs f j) w,_,0,(r.drop (HT.sIx xs.length 0 f)).take (HT.sIx xs.length xs.length j - HT.sIx xs.length 0 f),jAp _ rfl⟩
theorem Q9:Eh X (.builtin "len") (λxs H Q=>∃p f,xs=[.ref p]/\(SqL X.K H p f\/SqT X.K H p f)/\Q (.int f.length) H):=by
 intro m s w H xs us Q I r h;obtain⟨p,f,rfl,j,q⟩:=h;obtain⟨u,rfl,o⟩:=vals1 r;cases o;have y:=Tz;rcases j with j |j
 ·have⟨l,k,pl,v⟩:=I.list j;have c:=k.length;exact Calls.call_len_list pl.isList (by simp only[jAo]<;>lia) ⟨.int f.length,H,I.tok _,⟨s.toks+1,by rw[jAo,c]⟩,q⟩
 ·have⟨l,k,pl,v⟩:=I.tuple j;have c:=k.length;exact len_tuple pl (by simp only[jAo]<;>lia) ⟨.int f.length,H,I.tok _,⟨s.toks+1,by rw[jAo,c]⟩,q⟩
theorem Z9:Eh X (.builtin "len") (λxs H Q=>∃z,xs=[.str z]/\z.length<=sizeLine/\Q (.int z.length) H):=by intro c s f H xs us Q I r h;obtain⟨z,rfl,j,q⟩:=h;obtain⟨u,rfl,t,rfl⟩:=vals1 r;have k:=Tz;exact len_str (by lia) ⟨.int z.length,H,I.tok _,⟨_,rfl⟩,q⟩
theorem Ra:Eh X (.type "list") (λxs H Q=>∃p c,xs=[.ref p]/\(SqL X.K H p c\/SqT X.K H p c)/\∀l,H l=none->Q (.ref l) (upd H l (.lst c))):=by
 intro j s F H xs us Q I r h;obtain⟨p,c,rfl,v,q⟩:=h;obtain⟨u,rfl,G⟩:=vals1 r;cases G;have z:∀(its:List Value),Vals c its->c.length<=sizeLine->∀(h':Heap)(c':Nat),(∀b E,s.heap.get? b=some E->h'.get? b=some E) ->
   h'.get? s.heap.objs.size=some {cls:=.type "list",dict:=none,data:=.seq its.toArray c',slots:=#[] }->EP X j F Q (.ref s.heap.objs.size) {s with heap:=h'}:=λits f m h' c' k e =>
  ⟨.ref s.heap.objs.size,_,I.laid (t':=s.toks) k (jAg _) (show Dj X.prog X.w _ h' _ (.lst c) from⟨m,its,c',f,e⟩),rfl,q _ (I.hok.fresh (jAg _))⟩
 rcases v with v |v
 ·have⟨its,f,pl,m⟩:=I.list v;have y:=f.length;obtain⟨o,A,C,n,B⟩:=pl.isList;exact call_list_seq p (.inl rfl) A C B (λh' c' k e=>z its f m h' c' k e) (by simp only[jAo]<;>lia)
 ·have⟨its,f,pl,m⟩:=I.tuple v;have y:=f.length;obtain⟨o,A,C,n,B⟩:=pl;exact call_list_seq p (.inr rfl) A C B (λh' c' k e=>z its f m h' c' k e) (by simp only[jAo]<;>lia)
theorem O8:Eh X (.type "tuple") (λxs H Q=>∃p j,xs=[.ref p]/\((SqL X.K H p j/\∀l,H l=none->Q (.ref l) (upd H l (.tup j)))\/(SqT X.K H p j/\Q (.ref p) H))):=by
 intro c s y H xs us Q I r h;obtain⟨p,j,rfl,h⟩:=h;obtain⟨u,rfl,C⟩:=vals1 r;cases C;rcases h with ⟨v,q⟩ | ⟨v,q⟩
 ·have⟨f,m,pl,z⟩:=I.list v;have A:=m.length;refine call_tuple_list pl.isList (λk E=>?_) (by simp only[jAo]<;>lia);have B:Inv X c y H {s with heap:=k}:=I.kept (t':=s.toks) E;have F:Inv X c y (upd H k.objs.size (.tup j)) {s with heap:=k.push {cls:=.type "tuple",data:=.seq f.toArray} }:=
   B.laid (t':=s.toks) (λb o e=>jAc _ e) (jAg _) (show Dj X.prog X.w _ _ _ (.tup j) from⟨z,f,m,IsTup.new _ _⟩)
  exact⟨.ref k.objs.size,_,F,rfl,q _ (B.hok.fresh (jAg _))⟩
 ·have⟨f,m,pl,z⟩:=I.tuple v;exact call_tuple_same pl ⟨.ref p,H,I,rfl,q⟩
def tyV(K:Frag)(T:String)(x:V)(H:Hp):Prop:=match x with
 | .str _=>T = "str"
 | .int _=>T = "int"
 | .ref p=>(T = "list"/\∃xs,SqL K H p xs)\/(T = "tuple"/\∃o,K.lookup p=some o/\o.cls=.type "tuple"/\o.dict=none) \/
   (T = "dict"/\((∃c,H p=some (.dK c))\/∃c,H p=some (.dT c)))\/(T = "set"/\∃S n,H p=some (.set S n))
 |_=>False
theorem kz9{j:List (Addr×Obj)}{u:St}{H:Hp}{s:Shared}{T:String}{v:Value}(I:Inv X j u H s)(r:RelV x v)(ty:tyV X.K T x H):
  s.TypeIs v T/\∀a,v=.ref a->∃q,s.heap.get? a=some q/\q.dict=none:=by
 cases x with
 |str z=>obtain⟨t,rfl⟩:=r;cases(show T = "str" from ty);exact⟨typeIs_str s z t,λ_ e=>nomatch e⟩
 |int i=>obtain⟨t,rfl⟩:=r;cases(show T = "int" from ty);exact⟨typeIs_int s i t,λ_ e=>nomatch e⟩
 |ref p =>
  cases r;rcases ty with ⟨rfl,xs,y⟩ | ⟨rfl,o,f,A,l⟩ | ⟨rfl,f⟩ | ⟨rfl,S,n,f⟩
  ·have⟨w,_,pl,_⟩:=I.list y;refine⟨pl.isList.typeIs,λa e=>?_⟩;cases e;obtain⟨o,n,e,c,l,_⟩:=pl;exact⟨o,e,l⟩
  ·refine⟨⟨o,I.kIn p o f,A⟩,λa e=>?_⟩;cases e;exact⟨o,I.kIn _ o f,l⟩
  ·have z:∃o,s.heap.get? p=some o/\o.ExactDict:=by
    rcases f with ⟨k,f⟩ | ⟨k,f⟩
    ·have⟨_,_,_,_,o,_,_,e,h,_⟩:=I.hok p _ f;exact⟨o,e,h⟩
    ·have⟨_,_,_,_,o,_,_,e,h,_⟩:=I.hok p _ f;exact⟨o,e,h⟩
   obtain⟨o,e,h⟩:=z;refine⟨⟨o,e,h.1⟩,λa m=>?_⟩;cases m;exact⟨o,e,h.2.1⟩
  ·have⟨o,_,_,_,e,h,_⟩:=I.hok p _ f;refine⟨⟨o,e,h.1⟩,λa m=>?_⟩;cases m;exact⟨o,e,h.2.1⟩
 |_=>exact False.elim ty
def ym1(K:Frag)(T:String)(r:V->List V->Hp->VK->Prop)(c:TE):TE:=λh H Q=>c h H λx f=>tyV K T x f/\r x [] f Q
def tBM(K:Frag)(T:String)(r:V->List V->Hp->VK->Prop)(c:TE)(t:TA):TE:=λf H Q=>c f H λx h=>tyV K T x h/\t f h λxs j=>r x xs j Q
variable {o:Expr}{es:List Expr}{c:TE}{t:TA}{name:Str}{apos cpos:Pos}{T f:String}{r:V->List V->Hp->VK->Prop}
theorem wu3(A:PlainAttrs T)(slot:Slot T name f)(p:typeOf (.builtin f)=pure (.type "method_descriptor"))(C:MtR X f r)(B:PE X o c)
  (m:attributeBase o name X.env (eval o X.env)=eval o X.env:=by rfl)(l:(apos.endLine == cpos.line)=true:=by rfl):PE X (.Call (.Attribute o name apos) [] [] cpos) (ym1 X.K T r c):=by
 intro j s q H Q I h;refine wpAny_Call_method0_late m l (thG (B j s q H _ I h) λv y x G w u k=>?_);obtain⟨ty,z⟩:=k;have⟨F,E⟩:=kz9 w u ty;exact⟨T,f,A,slot,p,F,E,Calls.callWith_builtin rfl (PySem.evalArgs_none (C j y q G x [] v [] Q w u .nil z))⟩
theorem kb9(L:PlainAttrs T)(slot:Slot T name f)(w:typeOf (.builtin f)=pure (.type "method_descriptor"))(P:MtR X f r)(O:PE X o c)(U:PA X (e::es) t)
  (p:attributeBase o name X.env (eval o X.env)=eval o X.env:=by rfl)
  (q:((backTo cpos (starEach (e::es) X.env)).all (λx=>!x.1) && (backToKw cpos (keywordEach [] X.env)).all (λx=>x.1.isSome)
   && decide ((e::es).length+([]:List Keyword).length+(if([]:List Keyword).isEmpty then 0 else 1)<30))=true:=by rfl)
  (m:(apos.endLine == cpos.line)=true:=by rfl)(M:starEach (e::es) X.env=(false,eval e X.env)::starEach es X.env:=by rfl)(k:(backTo cpos (starEach es X.env)).any (·.1)=false:=by rfl):
  PE X (.Call (.Attribute o name apos) (e::es) [] cpos) (tBM X.K T r c t):=by
 intro j s u H Q I h;refine wpAny_Call_method_late p q m rfl (thG (O j s u H _ I h) λv E x H1 A y l=>?_);obtain⟨ty,J⟩:=l;have⟨Z,Y⟩:=kz9 A y ty;refine⟨T,f,L,slot,w,Z,Y,?_⟩;have z:=U cpos j E u H1 _ A J;rw[M]at z ⊢;refine Calls.callWith_builtin (by show(false || (backTo cpos (starEach es X.env)).any (·.1))=false;rw[k]<;>rfl) (Calls.evalArgs_plain ?_);exact thn z λus C ⟨B,H2,I2,F,G⟩=>P j C u H2 x B v us Q I2 y F G
end
def MtM(X:Cx)(c:String)(r:V->List V->Hp->VK->Prop):Prop:=
 ∀(a:List (Addr×Obj))(s:Shared)(b:St)(H:Hp)(x:V)(xs:List V)(v:Value)(us:List Value)(Q:VK),Inv X a b H s->RelV x v->Vals xs us->r x xs H Q ->
  wpAny (model X.prog X.w) X.A (call (.builtin c) (v::us)) (EP X a b Q) X.xe s
theorem Vals.zero:∀{us:List Value},Vals [] us->us=[]
 |_,.nil=>rfl
theorem Vals.unc(h:Vals (x::xs) us):∃u a,us=u::a/\RelV x u/\Vals xs a:=by
 cases h with
 |cons r t=>exact⟨_,_,rfl,r,t⟩
theorem Vals.one(h:Vals [x] us):∃u,us=[u]/\RelV x u:=by obtain⟨u,a,rfl,r,t⟩:=h.unc;exact⟨u,by rw[t.zero],r⟩
theorem Vals.two{y:V}(h:Vals [x,y] us):∃u v,us=[u,v]/\RelV x u/\RelV y v:=by obtain⟨u,a,rfl,r,t⟩:=h.unc;obtain⟨v,rfl,q⟩:=t.one;exact⟨u,v,rfl,r,q⟩
theorem Vals.rep{xs:List V}{us:List Value}(h:Vals xs us):∀k:Nat,Vals (List.replicate k xs).flatten (List.replicate k us).flatten
 |0=>.nil
 |k+1=>by rw[jDb,jDb,jDy,jDy];exact Vals.append h (Vals.rep h k)
theorem foldl_rep(its:List Value):∀(k:Nat)(acc:List Value),
  List.foldl (λb a=>b++a) acc.toArray (List.replicate k its.toArray)=(acc++(List.replicate k its).flatten).toArray
 |0,acc=>by simp
 |k+1,acc=>by
  have e:acc.toArray++its.toArray=(acc++its).toArray:=by simp
  have c:(acc++its)++(List.replicate k its).flatten=acc++(List.replicate (k+1) its).flatten:=by rw[jDb,jDy,jAu]
  rw[<-c,<-foldl_rep its k (acc++its),<-e,jDb,jEt]
variable {its:List Value}{t':Nat}
section
variable {pins:List (Addr×Obj)}{σ:St}{H:Hp}{s:Shared}{l b:Addr}{xs ys a:List V}
theorem Inv.lset{its':List Value}{f:Array Value->Array Value}(I:Inv X pins σ H s)(m:H l=some (.lst xs))
  (e:s.heap.get? l=some {cls:=.type "list",data:=.seq its.toArray n})(j:f its.toArray=its'.toArray)(g:Vals ys its')(c:ys.length<=sizeLine):
  Inv X pins σ (upd H l (.lst ys)) {s with heap:=s.heap.update l (Obj.mapSeq f),toks:=t'}:=by
 have q:=PySem.IsL.update e f;rw[j]at q;refine I.write (x:=l) (e:=l) (by rw[m];exact trivial) (.inl rfl) (λo u k h=>(jEg s.heap (Obj.mapSeq f) (Ne.symm k)).trans h) ⟨_,q⟩ ?_;exact⟨c,its',_,g,q⟩
theorem Inv.lnew(I:Inv X pins σ H s)(f:Vals ys its)(c:ys.length<=sizeLine):
  Inv X pins σ (upd H s.heap.objs.size (.lst ys)) {s with heap:=s.heap.push {cls:=.type "list",data:=.seq its.toArray},toks:=t'}:=
 I.laid (λ_ _ q=>jAc _ q) (jAg _) ⟨c,its,0,f,jAp _ rfl⟩
theorem Inv.fresh(I:Inv X pins σ H s):H s.heap.objs.size=none:=I.hok.fresh (jAg _)
theorem Inv.lstM(I:Inv X pins σ H s)(c:H l=some (.lst xs)):xs.length<=sizeLine/\∃(its:List Value)(n:Nat),Vals xs its/\xs.length=its.length/\s.heap.get? l=some {cls:=.type "list",data:=.seq its.toArray n}:=by have⟨z,its,n,r,e⟩:=I.hok l _ c;exact⟨z,its,n,r,r.length,e⟩
theorem jl3(h:n<=sizeLine):Builtin.List.listTooLong n=false:=by unfold Builtin.List.listTooLong;exact decide_eq_false (by lia)
end
def wi9:V->List V->Hp->VK->Prop:=λx a H Q=>∃l xs y,x=.ref l/\a=[y]/\H l=some (.lst xs)/\xs.length<sizeLine/\Q .non (upd H l (.lst (xs++[y])))
theorem Zi:MtM X "list.append" wi9:=by intro a s j H x k v us Q I c f h;obtain⟨l,xs,y,rfl,rfl,b,m,q⟩:=h;cases c;obtain⟨u,rfl,g⟩:=f.one;have⟨z,its,n,r,o,e⟩:=I.lstM b;refine call_meets F.slot_list_append ⟨_,e,rfl⟩ F.entry_list_append (F.args_list_append_2 _ _) (PySem.list_append l its.toArray n u (by rw[jAo];lia)) ⟨e,?_⟩;refine⟨.non,_,I.lset (its':=its++[u]) b e (by simp) (r.append (.cons g .nil)) ?_,rfl,q⟩;rw[jAs,jGl];lia
def wj0:V->List V->Hp->VK->Prop:=λx c H Q=>∃l b xs a,x=.ref l/\c=[.ref b]/\H l=some (.lst xs)/\H b=some (.lst a)/\xs.length+a.length<=sizeLine/\Q .non (upd H l (.lst (xs++a)))
theorem kj5:MtM X "list.extend" wj0:=by
 intro g s C H x J v us Q I k m h;obtain⟨l,b,xs,E,rfl,rfl,j,A,K,q⟩:=h;cases k;obtain⟨u,rfl,o⟩:=m.one;cases o;have⟨z,its,n,r,L,e⟩:=I.lstM j;have⟨G,a,w,p,y,B⟩:=I.lstM A;have f:its.toArray.size+a.toArray.size<=sizeLine:=by rw[jAo,jAo];lia
 have c:¬ (!its.toArray.isEmpty && Builtin.List.listTooLong (its.toArray.size+a.toArray.size))=true:=by rw[jl3 f,jHw];exact jCd
 refine call_meets F.slot_list_extend ⟨_,e,rfl⟩ F.entry_list_extend (F.args_list_extend_2 _ _)
  (AutoSeq1.list_extend_list_list_0 l its.toArray n b a.toArray w c (by rw[jAo];lia) (by lia)) ⟨e,B,?_⟩
 refine⟨.non,_,I.lset (its':=its++a) j e (by simp) (r.append p) ?_,rfl,q⟩;rw[jAs];lia
def wv8:V->List V->Hp->VK->Prop:=λx a H Q=>∃l xs,x=.ref l/\a=[]/\H l=some (.lst xs)/\Q .non (upd H l (.lst []))
theorem ku9:MtM X "list.clear" wv8:=by intro b s j H x k v us Q I f g h;obtain⟨l,xs,rfl,rfl,c,q⟩:=h;cases f;have a:=g.zero;subst a;have⟨z,its,n,r,m,e⟩:=I.lstM c;refine call_meets F.slot_list_clear ⟨_,e,rfl⟩ F.entry_list_clear (F.args_list_clear_1 _) (AutoSeq1.list_clear_list_0 l its.toArray n (by rw[jAo];lia)) ⟨e,?_⟩;exact⟨.non,_,I.lset (its':=[]) (ys:=[]) c e rfl .nil (jCr _),rfl,q⟩
def yl5:R2:=λx y H Q=>∃l k xs,x=.ref l/\y=.int k/\H l=some (.lst xs)/\-(2 ^ 63)<=k/\k<2 ^ 63/\xs.length * k.toNat<=sizeLine /\
 ∀p,H p=none->Q (.ref p) (upd H p (.lst (List.replicate k.toNat xs).flatten))
theorem len_rep{a:Type}(xs:List a)(k:Nat):(List.replicate k xs).flatten.length=k * xs.length:=by
 induction k with
 |zero=>simp
 |succ k b=>rw[jDb,jDy,jAs,b,Nat.succ_mul,Nat.add_comm]
theorem wu0:OpR X (binaryOp .Mult) yl5:=by
 intro w s O H x y v u Q I E C h;obtain⟨l,k,xs,rfl,rfl,J,L,K,A,q⟩:=h;cases E;obtain⟨t,rfl⟩:=C;have⟨z,its,n,r,G,e⟩:=I.lstM J;have f:its.toArray.size * k.toNat<=sizeLine:=by rw[jAo,<-G];exact A
 have j:¬ its.toArray.size * k.toNat>(2 ^ 63 - 1) / 8:=by
  have:(sizeLine:Nat)<=(2 ^ 63 - 1) / 8:=by decide
  lia
 have g:¬ (!Builtin.List.listFitsIndex k)=true:=by rw[fitsIndex_both L K];exact jCd
 have b:¬ Builtin.List.listTooLong (its.toArray.size * k.toNat)=true:=by rw[jl3 f];exact jCd
 have c:List.foldl (λp o=>p++o) #[] (List.replicate (if its.toArray.isEmpty=true then 0 else k.toNat) its.toArray)=(List.replicate k.toNat its).flatten.toArray:=by
  have M:∀m:Nat,List.foldl (λp o=>p++o) #[] (List.replicate m its.toArray)=(List.replicate m its).flatten.toArray:=λm=>by have:=foldl_rep its m [];rw[List.nil_append]at this;exact this
  rw[M];cases its with
  |nil=>simp
  |cons a P=>rw[if_neg (by simp)]
 refine wpAny_binaryOp_repeat_ref (T:="list") (U:="int") (by decide) ⟨_,e,rfl⟩ (λB=>typeIs_int B k t) noFill_list_mul F.fills_int_mul F.slot_int_rmul repeat_list F.slot_int_index.lookup
  (call_meets F.slot_int_rmul (typeIs_int s k t) F.entry_int_rmul (F.args_int_rmul_2 _ _) (int___rmul___int_list k t l its.toArray n)
   ⟨e,rfl,⟨_,e,rfl⟩,call_meets F.slot_list_mul ⟨_,e,rfl⟩ F.entry_list_mul (F.args_list_mul_2 _ _) (AutoListH.list___mul___list_int_3 l its.toArray n k t g j b) ⟨e,?_⟩⟩)
 rw[c];exact⟨.ref _,_,I.lnew (t':=s.toks) (r.rep k.toNat) (by rw[len_rep,Nat.mul_comm];exact A),rfl,q _ I.fresh⟩
end L2
namespace Att
open PySem PySem.W PySem.Calls PyProof.Rows
variable {h:Heap}
theorem Ve{P:Params}:∀(ns:List Int)(vs:List Value),WellAll P h vs (ns.map WData.int)->IntsAre vs ns:=by
 intro ns;induction ns with
 |nil=>intro vs w;rw[jEf]at w;cases w;exact .nil
 |cons n ns c =>
  intro vs w;rw[jAk]at w;cases w with
  |cons a b=>cases a;exact .cons _ _ (c _ b)
variable {n:Nat}
theorem kk9{l:OpenLaw}(hn:l.most=some n){P:Params}{args:List WData}{vals:List Value}
  (c:l.row.toRowW.claim.pre args=true)(j:WellAll P h vals args):
  ∃a m b,vals=[Value.ref a]/\args=[WData.list (b.map WData.int)]/\h.get? a=some {cls:=.type "list",data:=.seq m.toArray}/\IntsAre m b/\b.length<=n:=by
 have k:WShape.hasAll [] args [.list .int]=true:=(pre_splitW c).1;have o:l.pre.holds [] {args:=args}=true:=(pre_splitW c).2;obtain⟨d,r,rfl,y,x⟩:=hasAllW_cons k;obtain rfl:=hasAllW_nil x;obtain⟨z,rfl,w⟩:=hasW_list y;obtain⟨b,rfl⟩:=items_int w;have e:b.length<=n:=by
  unfold OpenLaw.pre at o;have i:(WTm.not (.lt (.lit (.int (n:Int))) (.len (.arg 0)))).holds [] {args:=[.list (b.map .int)] }=true:=by have i:=(holds_andW o).1;rw[hn]at i;exact i
  have g:=condW_of i (w_not (w_lt w_lit (w_len_list (w_arg rfl))));rw[jAd]at g;refine jHk λq=>?_;have u:(n:Int)<((b.length:Nat):Int):=by lia
  first
   | (rw[decide_eq_true u]at g;exact absurd g (by decide))
   | (simp at g;lia)
 cases j with
 |cons s p =>
  cases p;cases s with
  |list v f=>exact⟨_,_,b,rfl,rfl,v,Ve b _ f,e⟩
theorem kk4(l:OpenLaw)(args:List WData):l.row.toRowW.claim.post args (.bool true) args=true:=
 postW_of (r:=l.row.toRowW) (X:=(true == true))
  (show WShape.has [] (.bool true) .bool=true by first |rfl |decide |simp[WShape.has,WShape.arms,WShape.armsAll])
  (show(WTm.eq .res (.lit (.bool true))).value [] {args:=args,res:=some (.bool true),after:=args}=some (.bool (true == true)) from w_eq_bool (w_res rfl) w_lit) rfl
theorem jf6{l:OpenLaw}{q:Program}{loose:List Str}{E:(Str->Option Value)->Heap->Prop}{C:World->Heap->Prop}{d:DefRec}
  (hn:l.most=some n)(y:d.params.defaults=[])
  (call:∀(w:World)(c b:Shared)(p u:Str->Option Value)(k:Addr)(o:Obj)(s cd e:Value)(a:Addr)(vs:List Value)(ns:List Int),
   Ground q loose [] E w c p u b.heap->C w b.heap ->
   b.heap.get? k=some o->o.data=.func (docDef d.name d.params d.body d.scope s cd e)->b.heap.CodeRec cd d.name->p d.name=some (.ref k) ->
   b.heap.get? a=some {cls:=.type "list",data:=.seq vs.toArray}->IntsAre vs ns->ns.length<=n->b.gens = #[] ->
   codeAny (model l.prog w) callerA (.call (.ref k) ⟨[.ref a],[]⟩) (λr m=>r=.ok (.ret (.bool true))/\OldK b.heap m.heap/\m.os=b.os/\AllBare m.gens) b):
  WalkO q loose E C l.row.toRowW d [] (λf vs=>PySem.call f vs):=by
 intro w c b p u G Y k o s cd e T kV I M z B x L args vals as g A F v K;obtain rfl:T=.none:=Dflts.none B y;obtain rfl:kV=.none:=Dflts.noKw B;obtain⟨a,vs,ns,rfl,rfl,i,hints,j⟩:=kk9 hn g v;refine enter_call (codeAny_mono (call w c b p u k o s cd e a vs ns G Y I (fd_plain M) z x i hints j L) λr m H=>?_);obtain⟨rfl,Q,P,O⟩:=H;exact⟨.inl ⟨.bool true,.bool true,[],rfl,λ_=>rfl,.bool true,kk4 l _,λ_=>⟨List.Pairwise.nil,λ_ J=>(nomatch J)⟩⟩,Q,P,O⟩
end Att
namespace L2
open PySem PySem.Spec PyProof.Rows
def Gf(s:Stmt):Arguments:=match s with
 | .FunctionDef _ a _ _ _ _ _ _ _ _=>a
 |_=>{posonlyargs:=[],args:=[],vararg:=none,kwonlyargs:=[],kw_defaults:=[],kwarg:=none,defaults:=[] }
def Dq(s:Stmt):List Stmt:=match s with
 | .FunctionDef _ _ b _ _ _ _ _ _ _=>b
 |_=>[]
def Ad(s:Stmt):Scope:=match s with
 | .FunctionDef _ _ _ _ _ _ sc _ _ _=>sc
 |_=>{kind:=.function,names:=[],isGenerator:=false,isCoroutine:=false}
abbrev CX0:CXT:=λ_ _ _ _ _ _=>False
abbrev E0:XK:=λ_ _ _=>False
theorem kb8{X:Cx}:Passes CX0 X E0:=λ_ _ _ _ _ _ _ h=>h.elim
structure Fun(K:Frag)(x qual:Str)(st:Stmt)(f:Addr)(fd:FuncData):Prop where
 ex:∃(oc:Value)(od:Option Addr)(kV doc pm:Value)(an:Option Addr)(cdv ct:Value)(osl:Array (Option Value)),
  fd=W.fnOf x qual (Gf st) (Dq st) (Ad st) .none kV doc pm an cdv ct/\K.lookup f=some ⟨oc,od,.func fd,osl⟩/\W.codeIn K cdv qual=true
 kp:W.keepIn K (.ref f)=true
variable {P:Program}{w:World}
variable {x qual:Str}{st:Stmt}{f:Addr}{fd:FuncData}
section
variable {K:Frag}{mg:Str->Option Value}{base:Heap}
theorem Fun.ok{N ps:List Str}{k:Nat}{e:Sp}(F:Fun K x qual st f fd)(S:Am N ps (Ad st))(len:∀vs H Q E,e vs H Q E->vs.length=ps.length)
  (c:∀(b:Value)(A:Around)(a:List Env)(s:Shared)(H:Hp)(vs:List V)(Q:VK)(E:XK),Gq k (A.deeper (envOfC qual (Ad st) s.heap.objs.size f b))->e vs H Q E ->
   ∃t,PSs (V3 CX0 P w K mg base N qual (Ad st) f b A a s H E).nox (Dq st) t/\t {nx:=λ_ o=>Q .non o,rt:=Q} (start N vs) H):Bq P w K mg base CX0 (k+1) f fd ps e:=by
 obtain⟨u,r,kV,n,p,an,b,ct,j,rfl,l,i⟩:=F.ex;refine kq5 l i S len λA a s H vs Q E m g=>?_;have⟨t,h,q⟩:=c b A a s H vs Q E m g;exact⟨t,h.nox,q⟩
theorem Fun.binds{ps:List Str}(F:Fun K x qual st f fd)
  (h:∀(kV a e:Value)(an:Option Addr)(b ct:Value)(c:List Value),c.length=ps.length->bindArgs (W.fnOf x qual (Gf st) (Dq st) (Ad st) .none kV a e an b ct) ⟨c,[]⟩=pure (ps.zip c)):Binds K fd ps []:=by
 obtain⟨k,j,kV,a,e,an,b,ct,g,rfl,l,i⟩:=F.ex;exact .all (h kV a e an b ct)
theorem kq7{h:Value}{od an:Option Addr}{e:Array (Option Value)}{kV b g a ct:Value}(l:K.lookup f=some ⟨h,od,.func (W.fnOf x qual (Gf st) (Dq st) (Ad st) .none kV b g an a ct),e⟩)
  (c:W.codeIn K a qual=true)(k:W.keepIn K (.ref f)=true):Fun K x qual st f (W.fnOf x qual (Gf st) (Dq st) (Ad st) .none kV b g an a ct):=⟨⟨h,od,kV,b,g,an,a,ct,e,rfl,l,c⟩,k⟩
end
variable {X:Cx}
variable {pos:Pos}
theorem pv(i:Nat)(e:X.N[i]? = some x:=by rfl)(b:Vis X.env.scope x:=by first |exact Or.inl rfl |exact Or.inr (Or.inl rfl) |exact Or.inr (Or.inr rfl))(c:(x == ("__debug__" : Str))=false:=by decide)
  (a:(x == ("__classdict__" : Str))=false:=by decide):PE X (.Name x pos) (wk7 i):=wu8 e b c a
def Ag(H H':Hp):Prop:=∀b o,H b=some o->H' b=some o
theorem Ag.refl(H:Hp):Ag H H:=λ_ _ h=>h
theorem Ag.trans{H g e:Hp}(a:Ag H g)(b:Ag g e):Ag H e:=λc o h=>b c o (a c o h)
variable {H':Hp}
theorem Ag.free{H:Hp}(e:Ag H H'){l:Addr}(h:H' l=Option.none):H l=Option.none:=by
 cases q:H l with
 |none=>rfl
 |some o=>rw[e l o q]at h;cases h
section
variable {κ:Type}[DecidableEq κ]
def S6(a:List (κ×V))(k:κ):Option V:=(a.find? λb=>decide (b.1=k)).map (·.2)
def putK(a:List (κ×V))(k:κ)(v:V):List (κ×V):=
 if(a.any λb=>decide (b.1=k))=true then a.map (λb=>if b.1=k then(b.1,v) else b) else a++[(k,v)]
theorem Oh{p:κ×V}{r:List (κ×V)}{k:κ}(e:p.1=k):S6 (p::r) k=some p.2:=by simp[S6,jEh,e]
theorem Og{p:κ×V}{r:List (κ×V)}{k:κ}(e:¬ p.1=k):S6 (p::r) k=S6 r k:=by simp[S6,jEh,e]
theorem jp7(k:κ):∀a:List (κ×V),(a.any λb=>decide (b.1=k))=(S6 a k).isSome
 | []=>rfl
 |p::r=>by
  rw[jEq];by_cases e:p.1=k
  ·simp only[Oh e,decide_eq_true e,Bool.true_or,jGw]
  ·rw[Og e,decide_eq_false e,Bool.false_or];exact jp7 k r
theorem Uv(a:List (κ×V))(k:κ)(v:V):(putK a k v).length<=a.length+1:=by
 unfold putK;split
 ·rw[jAd];lia
 ·rw[jAs,jAy,jGj];lia
theorem S8.isSome_eq{o:Option V}{u:Option Value}(r:S8 o u):o.isSome=u.isSome:=by
 cases o with
 |none=>cases u with
  |none=>rfl
  |some _=>exact(show False from r).elim
 |some _=>cases u with
  |none=>exact(show False from r).elim
  |some _=>rfl
theorem S8.getD{o:Option V}{u:Option Value}{d:V}{d':Value}(r:S8 o u)(a:RelV d d'):RelV (o.getD d) (u.getD d'):=by
 cases o with
 |none=>cases u with
  |none=>exact a
  |some _=>exact(show False from r).elim
 |some _=>cases u with
  |none=>exact(show False from r).elim
  |some _=>exact r
theorem KV.val{a:List (κ×V)}{vs:List (κ×Value)}(r:KV a vs)(k:κ):S8 (S6 a k) (valueAt vs k):=by
 unfold KV at r;induction r with
 |nil=>exact True.intro
 | @cons p q ps c h t j =>
  obtain⟨i,l⟩:=h;by_cases e:p.1=k
  ·have g:q.1=k:=i.symm.trans e;have b:valueAt (q::c) k=some q.2:=by simp[valueAt,jEh,g]
   rw[Oh e,b];exact l
  ·have g:¬ q.1=k:=λz=>e (i.trans z);have b:valueAt (q::c) k=valueAt c k:=by simp[valueAt,jEh,g]
   rw[Og e,b];exact j
theorem KV.any{a:List (κ×V)}{vs:List (κ×Value)}(r:KV a vs)(k:κ):(a.any λb=>decide (b.1=k))=vs.any λb=>decide (b.1=k):=by
 unfold KV at r;induction r with
 |nil=>rfl
 |cons h t c=>rw[jEq,jEq,c,h.1]
theorem KV.repl{b:List (κ×V)}{vs:List (κ×Value)}(r:KV b vs)(k:κ){y:V}{u:Value}(g:RelV y u):
  KV (b.map λa=>if a.1=k then(a.1,y) else a) (vs.map λa=>if a.1=k then(a.1,u) else a):=by
 unfold KV at r ⊢;induction r with
 |nil=>exact .nil
 | @cons p q ps l h t i =>
  rw[jAk,jAk];refine .cons ?_ i;obtain⟨c,j⟩:=h;by_cases e:p.1=k
  ·rw[if_pos e,if_pos (c.symm.trans e)];exact⟨c,g⟩
  ·rw[if_neg e,if_neg (λz=>e (c.trans z))];exact⟨c,j⟩
theorem KV.put{a:List (κ×V)}{vs:List (κ×Value)}(r:KV a vs)(k:κ){y:V}{u:Value}(b:RelV y u):KV (putK a k y) (stored vs k u):=by
 unfold putK stored;rw[r.any k];by_cases e:(vs.any λc=>decide (c.1=k))=true
 ·rw[if_pos e,if_pos e];exact r.repl k b
 ·rw[if_neg e,if_neg e];exact Paired.snoc r ⟨rfl,b⟩
theorem KV.length{a:List (κ×V)}{vs:List (κ×Value)}(r:KV a vs):a.length=vs.length:=Paired.length r
end
theorem ka9{k:Key}{u:Value}(r:RelV (kV k) u):(Dh P w).is k u=true:=by
 cases k with
 |inl i=>have⟨t,e⟩:=(show ∃t,u=Value.int i t from r);subst e;exact jk8 P w i t
 |inr x=>have⟨t,e⟩:=(show ∃t,u=Value.str x t from r);subst e;exact jk9 P w x t
theorem Tq{P:Program}{w:World}:∀{ks:List Key}{a:List Value},Vals (ks.map kV) a->ItemsAre (Dh P w) ks a
 | [],_,r=>by rw[jEf]at r;cases r;exact .nil
 |k::ks,_,r=>by
  rw[jAk]at r;cases r with
  |cons h t=>exact .cons (ka9 h) (Tq t)
abbrev KT(H:Hp):List (List Key×V)->List (List Key×Addr×Value)->Prop:=Paired λp q=>p.1=q.1/\H q.2.1=some (.tup (p.1.map kV))/\RelV p.2 q.2.2
variable {kvs:List (List Key×V)}{xs:List (List Key×Addr×Value)}
theorem KT.val{H:Hp}(r:KT H kvs xs)(k:List Key):S8 (S6 kvs k) ((atKey xs k).map (·.2)):=by
 induction r with
 |nil=>exact True.intro
 | @cons p q ps a h t i =>
  obtain⟨g,_,j⟩:=h;by_cases e:p.1=k
  ·have c:q.1=k:=g.symm.trans e;have b:atKey (q::a) k=some q.2:=by simp[atKey,jEh,c]
   rw[Oh e,b];exact j
  ·have c:¬ q.1=k:=λz=>e (g.trans z);have b:atKey (q::a) k=atKey a k:=by simp[atKey,jEh,c]
   rw[Og e,b];exact i
theorem KT.repl{H:Hp}(r:KT H kvs xs)(k:List Key){y:V}{u:Value}(g:RelV y u):
  KT H (kvs.map λb=>if b.1=k then(b.1,y) else b) (xs.map (putAt k u)):=by
 induction r with
 |nil=>exact .nil
 | @cons p q ps l h t i =>
  rw[jAk,jAk];refine .cons ?_ i;obtain⟨a,c,j⟩:=h;unfold putAt;by_cases e:p.1=k
  ·rw[if_pos e,if_pos (a.symm.trans e)];exact⟨a,c,g⟩
  ·rw[if_neg e,if_neg (λz=>e (a.trans z))];exact⟨a,c,j⟩
variable {b:Addr}
theorem KT.put{H:Hp}(r:KT H kvs xs)(k:List Key){y:V}{u:Value}(g:H b=some (.tup (k.map kV)))(a:RelV y u):
  KT H (putK kvs k y) (storedH xs k b u):=by
 have e:(kvs.any λc=>decide (c.1=k))=(atKey xs k).isSome:=by rw[jp7,(r.val k).isSome_eq,Option.isSome_map]
 unfold putK storedH;rw[e];by_cases q:(atKey xs k).isSome=true
 ·rw[if_pos q,if_pos q];exact r.repl k a
 ·rw[if_neg q,if_neg q];exact Paired.snoc r ⟨rfl,g,a⟩
theorem KT.keeps{H:Hp}(r:KT H kvs xs)(c:∀b a,H b=some (.tup a)->H' b=some (.tup a)):KT H' kvs xs:=
 Paired.mapP r λ_ _ z=>⟨z.1,c _ _ z.2.1,z.2.2⟩
variable {a:Addr}{H:Hp}
section
variable {h:Heap}
theorem wm3{u:HO}(ok:HOk P w H h)(e:Rd H a u):Dj P w H h a u:=e.ok ok
theorem jh5{kvs:List (Key×V)}(ok:HOk P w H h)(e:Rd H a (.dK kvs)):kvs.length<=sizeLine/\(a == sysModules)=false/\∃c,KV kvs c/\h.DictOf (Dh P w) a c:=
 show Dj P w H h a (.dK kvs) from wm3 ok e
theorem wz5{kvs:List (Key×V)}(ok:HOk P w H h)(e:H a=some (.dK kvs)):kvs.length<=sizeLine/\(a == sysModules)=false/\∃c,KV kvs c/\h.DictOf (Dh P w) a c:=jh5 ok (.inl e)
theorem jb9{ks:List Key}(ok:HOk P w H h)(e:H a=some (.tup (ks.map kV))):(tupleKind (Dh P w)).is h ks a:=by have⟨_,c,r,o,j,i,n,g⟩:=(show Dj P w H h a (.tup (ks.map kV)) from ok a _ e);exact⟨o,c.toArray,n,j,i,g,by simpa using Tq r⟩
theorem Y0(ok:HOk P w H h)(e:Rd H a (.dT kvs)):kvs.length<=sizeLine/\(a == sysModules)=false /\
  ∃xs,KT H kvs xs/\h.DictOfH (tupleKind (Dh P w)) a xs:=by
 have⟨z,y,xs,r,o,v,A,u,s,n,k,j⟩:=(show Dj P w H h a (.dT kvs) from wm3 ok e);refine⟨z,y,xs,r,o,v,A,u,s,n,k,λx c=>?_,j⟩;have all:∀{l:List (List Key×V)}{m:List (List Key×Addr×Value)},KT H l m->∀x∈m,(tupleKind (Dh P w)).is h x.1 x.2.1:=by
  intro l m q;induction q with
  |nil=>intro x c;exact nomatch c
  | @cons p q ps B g t i =>
   intro x c;rcases jAe.mp c with e |c
   ·subst e;exact jb9 ok (by rw[<-g.1];exact g.2.1)
   ·exact i x c
 exact all r x c
theorem wz7(ok:HOk P w H h)(e:H a=some (.dT kvs)):kvs.length<=sizeLine/\(a == sysModules)=false /\
  ∃xs,KT H kvs xs/\h.DictOfH (tupleKind (Dh P w)) a xs:=Y0 ok (.inl e)
end
def km1(H:Hp)(a:Addr)(y:V)(r:Option V):Prop:=
 (∃kvs k,Rd H a (.dK kvs)/\y=kV k/\r=S6 kvs k)\/∃kvs k b,Rd H a (.dT kvs)/\y=.ref b/\H b=some (.tup (k.map kV))/\r=S6 kvs k
def wa2(H:Hp)(a:Addr)(y v:V)(H':Hp):Prop:=
 (∃kvs k,H a=some (.dK kvs)/\y=kV k/\kvs.length<sizeLine/\H'=upd H a (.dK (putK kvs k v))) \/
 ∃kvs k b,H a=some (.dT kvs)/\y=.ref b/\H b=some (.tup (k.map kV))/\kvs.length<sizeLine/\H'=upd H a (.dT (putK kvs k v))
theorem wa2.t{k:List Key}{v:V}(e:H a=some (.dT kvs))(c:H b=some (.tup (k.map kV)))(hl:kvs.length<sizeLine):
  wa2 H a (.ref b) v (upd H a (.dT (putK kvs k v))):=.inr ⟨kvs,k,b,e,rfl,c,hl,rfl⟩
variable {A:Around}{pins:List (Addr×Obj)}{o:Option V}{s:Shared}{σ:St}{y:V}{r u:Value}{E:Value->Shared->Prop}
variable {Q:Value->Shared->Prop}{h':Heap}
section
variable {v:V}
theorem Inv.big(I:Inv X pins σ H s):sysModules<s.heap.objs.size:=by have h:mainGlobals<s.heap.objs.size:=(I.mod.glob.keeps I.bk).lt;exact jGz (by decide) h
theorem kf6(G:A.units+1<cLine)(I:Inv X pins σ H s)(g:km1 H a y (some v))(C:RelV y u)(h:∀i B,Inv X pins σ H B->RelV v i->Q i B):
  wpAny (model X.prog X.w) A (getItem (.ref a) u) Q E s:=by
 rcases g with ⟨kvs,k,e,n,l⟩ | ⟨kvs,k,b,e,n,L,l⟩
 ·subst n;have⟨z,K,F,rel,q⟩:=jh5 I.hok e;have⟨i,j,c⟩:=S8.some_of (v:=v) (o:=valueAt F k) (by rw[l];exact rel.val k);exact wpAny_getItem_of (ka9 C) q.mapOf j (h i _ (I.tok _) c)
 ·subst n;cases(show u=Value.ref b from C);have⟨z,K,xs,rel,q⟩:=Y0 I.hok e;have⟨i,j,c⟩:=S8.some_of (v:=v) (o:=(atKey xs k).map (·.2)) (by rw[l];exact rel.val k);have⟨p,J,m⟩:=jEz.mp j;refine wpAny_getItem_heap (tupleKind_room_in1 G) (jb9 I.hok L) q J ?_;rw[m];exact h i _ (I.tok _) c
theorem jz1{t':Nat}{c:HO}(I:Inv X pins σ H s)(g:Mut (H a))(h:Heap.SameBut a s.heap h')(i:∃q,h'.get? a=some q)(new:Dj X.prog X.w (upd H a c) h' a c):
  Inv X pins σ (upd H a c) {s with heap:=h',toks:=t'}:=
 I.write (x:=a) (e:=a) g (.inl rfl) (λb q j z=>(h.2 b j).trans z) i new
theorem wp3{kvs:List (Key×V)}{vs:List (Key×Value)}(z:kvs.length<=sizeLine)(c:(a == sysModules)=false)(rel:KV kvs vs)(e:h'.DictOf (Dh P w) a vs):
  Dj P w H' h' a (.dK kvs):=⟨z,c,vs,rel,e⟩
theorem kf7{Q:Unit->Shared->Prop}(U:A.units+1<cLine)(I:Inv X pins σ H s)(g:wa2 H a y v H')(K:RelV y u)(L:RelV v r)(h:∀J,Inv X pins σ H' J->Q () J):
  wpAny (model X.prog X.w) A (setItem (.ref a) u r) Q E s:=by
 rcases g with ⟨kvs,k,e,C,l,F⟩ | ⟨kvs,k,b,e,C,O,l,F⟩
 ·subst C F;have⟨z,B,T,rel,G⟩:=wz5 I.hok e;have m:T.length<=sizeLine:=by rw[<-rel.length];exact z
  have p:(putK kvs k v).length<=sizeLine:=by have:=Uv kvs k v;lia
  refine wpAny_setItem_pairs (hsz:=m) (ka9 K) G λh' i n=>h _ ?_;have Y:∃q,h'.get? a=some q:=let ⟨q,_,_,j,_⟩:=i; ⟨q,j⟩;exact jz1 I (by rw[e];exact True.intro) n Y (wp3 p B (rel.put k L) i)
 ·subst C F;cases(show u=Value.ref b from K);have⟨z,B,xs,rel,G⟩:=wz7 I.hok e;have m:xs.length<=sizeLine:=by rw[<-Paired.length rel];exact z
  have p:(putK kvs k v).length<=sizeLine:=by have:=Uv kvs k v;lia
  refine wpAny_setItem_heap (hsz:=m) (tupleKind_room_in1 U) (jb9 I.hok O) G λh' i n=>h _ ?_;obtain⟨q,es,ep,j,h2,h3,h4,_,Z⟩:=i;refine jz1 I (by rw[e];exact True.intro) n ⟨q,j⟩ ⟨p,B,_,(rel.put k O L).keeps λc ys M=>?_,q,es,ep,j,h2,h3,h4,Z⟩;rw[Aj (yc9 M e (λz=>nomatch z))];exact M
end
def wy1(i:Expr):Prop:=∀c e,subscripted i false c e=operate [c,e] (getItem c e)
theorem wk3{prog:Program}{env:Env}{value slice:Expr}{T p:String}
  (hl:typeLookup (.type T) "__getitem__" = pure (some (.builtin p)))(q:wy1 slice)
  (h:wpAny (model prog w) A (eval value env) (λo j=>wpAny (model prog w) A (eval slice env) (λi c=>c.TypeIs o T/\wpAny (model prog w) A (getItem o i) Q E c) E j) E s):
  wpAny (model prog w) A (eval (.Subscript value slice pos) env) Q E s:=by
 refine Subscript_ (wpAny_mono h (λo j m=>wpAny_mono m (λi c e=>?_) λ_ _ x=>x) λ_ _ x=>x);obtain⟨n,e⟩:=e;unfold subscriptTail;refine jZa ?_;rw[getitemInPython_of_ne n.not_modules];refine jZa (wpAny_specialOf n hl ?_);have k:wpAny (model prog w) A (subscripted slice false o i) (λr g=>wpAny (model prog w) A (letTemporaryGo value o r >>= λ_=>pure r) Q E g) E c:=by rw[q o i];exact wpAny_operating (wpAny_mono e (λr g l=>jZa (wpAny_letTemporaryGo (jZb l))) λ_ _ x=>x)
 first
  |exact jZb (jZa k)
  |exact jZa (jZb (jZa k))
  |exact jZa k
theorem jh4(I:Inv X pins σ H s)(g:km1 H a y o):s.TypeIs (.ref a) "dict":=by
 rcases g with ⟨kvs,k,e,_,_⟩ | ⟨kvs,k,b,e,_,_,_⟩
 ·have⟨_,_,h,_,c⟩:=jh5 I.hok e;exact c.typeIs
 ·have⟨_,_,xs,_,c⟩:=Y0 I.hok e;exact c.typeIs
theorem kp1(h:Heap)(c:sysModules<h.objs.size):Dj P w H (h.push {cls:=.type "dict",data:=.dict #[] }) h.objs.size (.dT []):=
 ⟨jCr _,beq_eq_false_iff_ne.mpr (Ne.symm (jAv c)),[],.nil,_,#[],0,jAp _ rfl,⟨rfl,rfl,rfl⟩,rfl,rfl,jEo⟩
def ww9:TE:=λ_ H Q=>∀p,H p=none->Q (.ref p) (upd H p (.dT []))
section
variable {pos:Pos}
theorem kw3:PE X (.Dict [] [] pos) ww9:=λpins s σ H Q I h =>
 wpAny_Dict_empty ⟨.ref s.heap.objs.size,_,I.laid (a:=s.heap.objs.size) (o:=.dT []) (t':=s.toks) (λ_ _ q=>jAc _ q) (jAg _) (kp1 s.heap I.big),rfl,h _ (I.hok.fresh (jAg _))⟩
end
structure M2(X:Cx)(o:Expr)(m:Str)(apos:Pos)(e f:Expr)(cpos:Pos):Prop where
 base:attributeBase o m X.env (eval o X.env)=eval o X.env
 few:((backTo cpos (starEach [e,f] X.env)).all (λx=>!x.1) && (backToKw cpos (keywordEach [] X.env)).all (λx=>x.1.isSome)
  && decide (([e,f]:List Expr).length+([]:List Keyword).length+(if([]:List Keyword).isEmpty then 0 else 1)<30))=true
 line:(apos.endLine == cpos.line)=true
 trees:backTo cpos (starEach [e,f] X.env)=[(false,eval e X.env),(false,eval f X.env)]
def IsD(H:Hp)(a:Addr):Prop:=(∃kvs,Rd H a (.dK kvs))\/∃kvs,Rd H a (.dT kvs)
theorem jb7(I:Inv X pins σ H s)(d:IsD H a):
  s.TypeIs (.ref a) "dict"/\(∀b,Value.ref a=.ref b->∃c,s.heap.get? b=some c/\c.dict=none)/\(a == sysModules)=false:=by
 rcases d with ⟨kvs,e⟩ | ⟨kvs,e⟩
 ·have⟨_,h,k,_,g⟩:=jh5 I.hok e;refine⟨g.typeIs,λb q=>?_,h⟩;cases q;obtain⟨c,_,_,j,i,_⟩:=g;exact⟨c,j,i.2.1⟩
 ·have⟨_,h,xs,_,g⟩:=Y0 I.hok e;refine⟨g.typeIs,λb q=>?_,h⟩;cases q;obtain⟨c,_,_,j,i,_⟩:=g;exact⟨c,j,i.2.1⟩
section
variable {d:V}
theorem wp2(v:A.units+1<cLine)(I:Inv X pins σ H s)(g:km1 H a y o)(p:RelV y u)(q:RelV d r)(h:∀m n,Inv X pins σ H n->RelV (o.getD d) m->Q m n):
  wpAny (model X.prog X.w) A (call (.builtin "dict.get") [.ref a,u,r]) Q E s:=by
 rcases g with ⟨kvs,k,e,j,l⟩ | ⟨kvs,k,b,e,j,B,l⟩
 ·subst j;have⟨z,i,C,rel,c⟩:=jh5 I.hok e;refine call_meetsIn PySem.F.slot_dict_get c.typeIs PySem.F.entry_dict_get (PySem.F.args_dict_get_3 _ _ _) (meets_dict_get_default (Dh X.prog X.w) a (ka9 p) i r) ⟨_,c.mapOf,h _ _ (I.tok _) ?_⟩;rw[l];exact(rel.val k).getD q
 ·subst j;cases(show u=Value.ref b from p);have⟨z,i,xs,rel,c⟩:=Y0 I.hok e;refine call_meetsIn PySem.F.slot_dict_get c.typeIs PySem.F.entry_dict_get (PySem.F.args_dict_get_3 _ _ _) (meetsH_dict_get_default (tupleKind (Dh X.prog X.w)) a b i r) ⟨tupleKind_room_in1 v,k,xs,jb9 I.hok B,c,h _ _ (I.tok _) ?_⟩;rw[l];exact(rel.val k).getD q
end
def ww8(h ty g:TE):TE:=λσ H Q=>h σ H λx e=>∃a,x=.ref a/\IsD e a/\ty σ e λy i=>g σ i λz c=>∃o,km1 c a y o/\Q (o.getD z) c
section
variable {o e f:Expr}{apos cpos:Pos}{i ty c:TE}
theorem jm2(M:X.A.units+1<cLine)(O:PE X o i)(U:PE X e ty)(T:PE X f c)(m:M2 X o "get" apos e f cpos):PE X (.Call (.Attribute o "get" apos) [e,f] [] cpos) (ww8 i ty c):=by
 intro pins s σ H Q I h;refine wpAny_Call_method m.base m.few m.line PySem.F.plainAttrs_dict PySem.F.slot_dict_get PySem.F.type_dict_get (thn (O pins s σ H _ I h) λu v j=>?_);obtain⟨x,H1,l,G,a,Y,d,L⟩:=j;subst Y;obtain rfl:u=Value.ref a:=G;have⟨p,n,_⟩:=jb7 l d;refine⟨p,n,?_⟩;rw[m.trees];refine Calls.callWith_builtin rfl (Calls.evalArgs_plain (Calls.spliced_cons (thn (U pins v σ H1 _ l L) λiv q ⟨y,H2,I2,C,K⟩ =>
  Calls.spliced_cons (thn (T pins q σ H2 _ I2 K) λfv s3 ⟨z,H3,I3,B,ov,g,J⟩=>Calls.spliced_nil ?_))))
 exact wp2 M I3 g C B λw' s4 Z k=>⟨_,H3,Z,k,J⟩
end
end L2
set_option maxHeartbeats 4000000
namespace PD
open PySem PySem.Spec PyProof.Rows L2
abbrev St:=L2.St
inductive D where
 |non |bl (b:Bool) |int (i:Int) |str (x:Str) |tup (xs:List D) |lst (xs:List D) |exc (c:Str) (ks:List D) (fs:List D)
theorem nr{c:Type}{a b:c}(h:a=b):a=b:=h
inductive R(α:Type) where
 |ok (a:α) |exc (e:D) |bad
def R.bind{c b:Type}:R c->(c->R b)->R b
 | .ok a,f=>f a
 | .exc e,_=>.exc e
 | .bad,_=>.bad
instance:Monad R where
 pure:=R.ok
 bind:=R.bind
@[simp] theorem R.ok_bind{b c:Type}(a:b)(f:b->R c):(R.ok a).bind f=f a:=nr rfl
def RQ{b:Type}(r:R b)(q:b->Prop)(e:D->Prop):Prop:=
 match r with
 | .ok a=>q a
 | .exc x=>e x
 | .bad=>False
theorem RQ.bind{c b:Type}{r:R c}{f:c->R b}{q:b->Prop}{e:D->Prop}:RQ (r.bind f) q e↔RQ r (λa=>RQ (f a) q e) e:=by cases r<;>exact Iff.rfl
variable {Y:D->Prop}
theorem RQ.mono{b:Type}{r:R b}{q c:b->Prop}{e:D->Prop}(h:RQ r q e)(f:∀a,q a->c a)(g:∀x,e x->Y x):RQ r c Y:=by
 cases r with
 |ok a=>exact f a h
 |exc x=>exact g x h
 |bad=>exact h
abbrev AS:=Option Addr->Prop
def fresh(H:Hp):AS:=λo=>∃a,o=some a/\H a=none
def AS.plus(S:AS)(H:Hp):AS:=λo=>S o\/fresh H o
def AS.but(S:AS)(a:Addr):AS:=λo=>S o/\o≠some a
def RoL(K:Frag)(H:Hp)(a:Addr)(vs:List V):Prop:=
 (∃o,H a=some (.frz o (.lst vs))) \/
  ∃(o:Obj)(its:Array Value)(n:Nat),K.lookup a=some o/\o.cls=.type "list"/\o.dict=none/\o.data=.seq its n/\its.size<=sizeLine/\Vals vs its.toList
def LsR(K:Frag)(H:Hp)(S:AS)(a:Addr)(vs:List V):Prop:=(H a=some (.lst vs)/\S (some a))\/(RoL K H a vs/\S none)
variable {vs:List V}
theorem LsR.sq{K:Frag}{H:Hp}{S:AS}{a:Addr}(h:LsR K H S a vs):SqL K H a vs:=by
 rcases h with ⟨h,_⟩ | ⟨⟨o,h⟩ |h,_⟩
 ·exact .inl (.inl h)
 ·exact .inl (.inr ⟨o,h⟩)
 ·exact .inr h
theorem SqL.ls{K:Frag}{H:Hp}{a:Addr}{S:AS}(h:SqL K H a vs)(c:S (some a))(b:S none):LsR K H S a vs:=by
 rcases h with (h | ⟨o,h⟩) |h
 ·exact .inl ⟨h,c⟩
 ·exact .inr ⟨.inl ⟨o,h⟩,b⟩
 ·exact .inr ⟨.inr h,b⟩
def kyD:Key->D
 | .inl i=>.int i
 | .inr x=>.str x
def Q4(H:Hp)(c:Str)(ks:List D)(a:Addr)(vs:List V):Prop:=
 (c = "dict"/\∃kk:List (List Key),ks=kk.map (λk=>D.tup (k.map kyD))/\kk.length=vs.length/\kk.Nodup/\∃o,H a=some (.frz o (.dT (kk.zip vs)))) \/
  (c = "dictK"/\∃kk:List Key,ks=kk.map kyD/\kk.length=vs.length/\kk.Nodup/\∃o,H a=some (.frz o (.dK (kk.zip vs))))
structure EC(K:Frag)(c:Str)(C W:Addr):Prop where
 at_:PySem.W.nsIn K PySem.mainGlobals c=some (some (.ref C))
 top:PySem.W.nsIn K PySem.mainGlobals "WebError" = some (some (.ref W))
 cls:∃cd,PySem.W.clsIn K C=some cd/\cd.name=c/\cd.hasDict=true/\cd.mro=[.ref C,.ref W,.type "ValueError",.type "Exception",.type "BaseException",.type "object"]
 wcl:∃cd,PySem.W.clsIn K W=some cd/\cd.name = "WebError"/\cd.mro=[.ref W,.type "ValueError",.type "Exception",.type "BaseException",.type "object"]
 gets:PySem.W.findIn K (.ref C) "__getattribute__" = some (some (.builtin "BaseException.__getattribute__"))
 geta:PySem.W.findIn K (.ref C) "__getattr__" = some none
 cla:PySem.W.findIn K (.ref C) "__class__" = some (some (.builtin "object.__class__"))
 nd:c ≠ "dict"/\c ≠ "dictK"
def wl2(C a:Addr)(od:Option Addr):Heap->Prop:=λh=>∃vs b,h.get? a=some ⟨.ref C,od,.fields vs,b⟩
def jq1(K:Frag)(H:Hp)(c:Str)(ks:List D)(a:Addr)(vs:List V):Prop:=∃C W,EC K c C W /\
 ((ks=[]/\vs=[]/\H a=some (.ext (wl2 C a none)))\/∃f v b,ks=[.str f]/\vs=[v]/\PySem.W.findIn K (.ref C) f=some none/\H a=some (.ext (wl2 C a (some b)))/\H b=some (.xd [(f,v)]))
variable {ks:List D}
theorem jq1.same{K:Frag}{H H':Hp}{c:Str}{a:Addr}(e:Ag H H')(h:jq1 K H c ks a vs):jq1 K H' c ks a vs:=
 let ⟨C,W,g,b⟩:=h; ⟨C,W,g,b.imp (λ⟨x,y,z⟩=>⟨x,y,e _ _ z⟩) λ⟨f,v,i,x,y,n,z,t⟩=>⟨f,v,i,x,y,n,e _ _ z,e _ _ t⟩⟩
variable {o o':HO}
theorem jq1.ne{K:Frag}{H:Hp}{c:Str}{a l:Addr}(hl:H l=some o)(k:∀e,o≠.ext e)(j:∀z,o≠.xd z)(h:jq1 K H c ks a vs):jq1 K (upd H l o') c ks a vs:=by
 revert h;refine Xe.Bt λC W p m=>?_;have g:∀{b e},H b=some (.ext e)->b≠l:=λq z=>by rw[z,hl]at q;exact k _ (Option.some.inj q)
 have i:∀{b e},H b=some (.xd e)->b≠l:=λq z=>by rw[z,hl]at q;exact j _ (Option.some.inj q)
 exact⟨C,W,p,m.imp (λ⟨x,y,z⟩=>⟨x,y,by rw[Aj (g z)];exact z⟩) λ⟨f,v,r,x,y,n,z,t⟩=>⟨f,v,r,x,y,n,by rw[Aj (g z)];exact z,by rw[Aj (i t)];exact t⟩⟩
def XAt(K:Frag)(H:Hp)(S:AS)(c:Str)(ks:List D)(a:Addr)(vs:List V):Prop:=(Q4 H c ks a vs/\S (some a))\/jq1 K H c ks a vs
theorem Q4.same{H H':Hp}{c:Str}{a:Addr}(e:Ag H H')(h:Q4 H c ks a vs):Q4 H' c ks a vs:=
 h.imp (λ⟨f,kk,j,i,b,o,g⟩=>⟨f,kk,j,i,b,o,e _ _ g⟩) λ⟨f,kk,j,i,b,o,g⟩=>⟨f,kk,j,i,b,o,e _ _ g⟩
theorem Q4.has{H:Hp}{c:Str}{a:Addr}(h:Q4 H c ks a vs):∃o,H a=some o/\∀b,o≠.lst b:=by
 rcases h with ⟨_,kk,_,_,_,_,h⟩ | ⟨_,kk,_,_,_,_,h⟩
 ·exact⟨_,h,λb z=>by cases z⟩
 ·exact⟨_,h,λb z=>by cases z⟩
theorem Q4.ne{H:Hp}{c:Str}{a l:Addr}(hl:l≠a)(h:Q4 H c ks a vs):Q4 (upd H l o) c ks a vs:=
 h.imp (λ⟨e,kk,i,g,b,x,f⟩=>⟨e,kk,i,g,b,x,by rw[Aj (Ne.symm hl)];exact f⟩) λ⟨e,kk,i,g,b,x,f⟩=>⟨e,kk,i,g,b,x,by rw[Aj (Ne.symm hl)];exact f⟩
variable {S':AS}
theorem XAt.same{K:Frag}{H H':Hp}{S:AS}{c:Str}{a:Addr}(e:Ag H H')(b:∀o,S o->S' o)(h:XAt K H S c ks a vs):XAt K H' S' c ks a vs:=h.imp (λh=>⟨h.1.same e,b _ h.2⟩) λh=>h.same e
variable {ws ys:List V}
theorem XAt.wr{K:Frag}{H:Hp}{S:AS}{c:Str}{a l:Addr}(hl:H l=some (.lst ws))(h:XAt K H S c ks a vs):XAt K (upd H l (.lst ys)) S c ks a vs:=
 h.imp (λh=>⟨h.1.ne (λz=>by obtain⟨o,e,n⟩:=h.1.has;rw[<-z,hl]at e;exact n ws (Option.some.inj e).symm),h.2⟩) λh=>h.ne hl (λ_ z=>by cases z) (λ_ z=>by cases z)
theorem XAt.wrD{K:Frag}{H:Hp}{S:AS}{c:Str}{a l:Addr}(hl:H l=some o)(f:∀b,o≠.ext b)(e:∀z,o≠.xd z)(hn:¬ S (some l))(h:XAt K H S c ks a vs):XAt K (upd H l o') S c ks a vs:=
 h.imp (λh=>⟨h.1.ne (λz=>hn (z ▸ h.2)),h.2⟩) λh=>h.ne hl f e
theorem XAt.avoid{K:Frag}{H:Hp}{S:AS}{c:Str}{a p:Addr}(b:H p=none)(h:XAt K H S c ks a vs):XAt K H (AS.but S p) c ks a vs:=
 h.imp (λh=>⟨h.1,h.2,λz=>by cases z;obtain⟨o,e,_⟩:=h.1.has;rw[b]at e;cases e⟩) λh=>h
theorem XAt.dctT{K:Frag}{H:Hp}{S:AS}{a:Addr}(h:XAt K H S "dict" ks a vs):Q4 H "dict" ks a vs/\S (some a):=h.resolve_right λ⟨C,W,e,_⟩=>e.nd.1 rfl
def TpR(K:Frag)(H:Hp)(a:Addr)(xs:List V):Prop:=H a=some (.tup xs)
theorem TpR.of{K:Frag}{H:Hp}{a:Addr}{xs:List V}(h:H a=some (.tup xs)):TpR K H a xs:=h
theorem TpR.sq{K:Frag}{H:Hp}{a:Addr}{xs:List V}(h:TpR K H a xs):SqT K H a xs:=SqT.of h
mutual
def Rep(K:Frag)(H:Hp)(S:AS):D->V->Prop
 | .non,v=>v=.non
 | .bl b,v=>v=.bl b
 | .int i,v=>v=.int i
 | .str x,v=>v=.str x
 | .tup e,v=>∃a vs,v=.ref a/\TpR K H a vs/\An K H S e vs
 | .lst e,v=>∃a vs,v=.ref a/\LsR K H S a vs/\An K H S e vs
 | .exc c ks f,v=>∃a vs,v=.ref a/\XAt K H S c ks a vs/\An K H S f vs
def An(K:Frag)(H:Hp)(S:AS):List D->List V->Prop
 | [],vs=>vs=[]
 |d::ds,vs=>∃v r,vs=v::r/\Rep K H S d v/\An K H S ds r
end
variable {H H':Hp}{K:Frag}
variable {v:V}{ds:List D}
section
variable {b a:Hp}{S S':AS}
theorem Ag.sqT{a:Addr}{xs:List V}(e:Ag H H')(h:SqT K H a xs):SqT K H' a xs:=by
 rcases h with (h | ⟨o,h⟩) |h
 ·exact .inl (.inl (e _ _ h))
 ·exact .inl (.inr ⟨o,e _ _ h⟩)
 ·exact .inr h
theorem RoL.same{a:Addr}(e:Ag H H')(h:RoL K H a vs):RoL K H' a vs:=by
 rcases h with ⟨o,h⟩ |h
 ·exact .inl ⟨o,e _ _ h⟩
 ·exact .inr h
mutual
theorem Nu(g:∀a vs,TpR K H a vs->TpR K H' a vs)(hl:∀a vs,LsR K H S a vs->LsR K H' S' a vs)(f:∀c ks a vs,XAt K H S c ks a vs->XAt K H' S' c ks a vs):∀(d:D)(v:V),Rep K H S d v->Rep K H' S' d v
 | .non,_,h=>h
 | .bl _,_,h=>h
 | .int _,_,h=>h
 | .str _,_,h=>h
 | .tup ds,v,h=>by revert h;refine Xe.Bu λa vs e q r=>?_;exact⟨a,vs,e,g a vs q,Gk g hl f ds vs r⟩
 | .lst ds,v,h=>by revert h;refine Xe.Bu λa vs e q r=>?_;exact⟨a,vs,e,hl a vs q,Gk g hl f ds vs r⟩
 | .exc c ks i,v,h=>by revert h;refine Xe.Bu λa vs e q r=>?_;exact⟨a,vs,e,f c ks a vs q,Gk g hl f i vs r⟩
theorem Gk(g:∀a vs,TpR K H a vs->TpR K H' a vs)(hl:∀a vs,LsR K H S a vs->LsR K H' S' a vs)(f:∀c ks a vs,XAt K H S c ks a vs->XAt K H' S' c ks a vs):∀(ds:List D)(vs:List V),An K H S ds vs->An K H' S' ds vs
 | [],_,h=>h
 |d::ds,vs,h=>by revert h;refine Xe.Bu λv r e j i=>?_;exact⟨v,r,e,Nu g hl f d v j,Gk g hl f ds r i⟩
end
theorem LsR.same{a:Addr}(e:Ag H H')(c:∀o,S o->S' o)(h:LsR K H S a vs):LsR K H' S' a vs:=by
 rcases h with ⟨h,z⟩ | ⟨h,z⟩
 ·exact .inl ⟨e _ _ h,c _ z⟩
 ·exact .inr ⟨h.same e,c _ z⟩
theorem Rep.mono{d:D}(h:Rep K H S d v)(e:Ag H H')(c:∀o,S o->S' o):Rep K H' S' d v:=
 Nu (λ_ _ q=>TpR.of (e _ _ q)) (λ_ _ q=>q.same e c) (λ_ _ _ _ q=>q.same e c) d v h
theorem An.mono(h:An K H S ds vs)(e:Ag H H')(c:∀o,S o->S' o):An K H' S' ds vs:=
 Gk (λ_ _ q=>TpR.of (e _ _ q)) (λ_ _ q=>q.same e c) (λ_ _ _ _ q=>q.same e c) ds vs h
theorem ww6{a l:Addr}(hl:H l=some (.lst ws))(h:SqT K H a vs):SqT K (upd H l (.lst ys)) a vs:=by
 have ne:∀u,H a=some u->(∀z,u≠.lst z)->upd H l (.lst ys) a=some u:=λu e n=>by
  have:a≠l:=by rintro rfl;rw[hl]at e;exact n ws (Option.some.inj e).symm
  rw[Aj this];exact e
 rcases h with (h | ⟨o,h⟩) |h
 ·exact .inl (.inl (ne _ h (λz q=>by cases q)))
 ·exact .inl (.inr ⟨o,ne _ h (λz q=>by cases q)⟩)
 ·exact .inr h
theorem kz5{a l:Addr}(hl:H l=some (.lst ws))(h:TpR K H a vs):TpR K (upd H l (.lst ys)) a vs:=by show upd H l (.lst ys) a=_;rw[Aj (λz=>by have h:H a=_:=h;rw[z,hl]at h;cases h)];exact h
theorem LsR.wr{a l:Addr}(hl:H l=some (.lst ws))(hn:¬ S (some l))(h:LsR K H S a vs):LsR K (upd H l (.lst ys)) S a vs:=by
 rcases h with ⟨h,z⟩ | ⟨⟨o,h⟩ |h,z⟩
 ·have:a≠l:=by rintro rfl;exact hn z
  exact .inl ⟨by rw[Aj this];exact h,z⟩
 ·have:a≠l:=by rintro rfl;rw[hl]at h;cases h
  exact .inr ⟨.inl ⟨o,by rw[Aj this];exact h⟩,z⟩
 ·exact .inr ⟨.inr h,z⟩
theorem Rep.wr{d:D}{l:Addr}(h:Rep K H S d v)(hl:H l=some (.lst ws))(hn:¬ S (some l)):Rep K (upd H l (.lst ys)) S d v:=
 Nu (λ_ _ q=>kz5 hl q) (λ_ _ q=>q.wr hl hn) (λ_ _ _ _ q=>q.wr hl) d v h
theorem An.wr{l:Addr}(h:An K H S ds vs)(hl:H l=some (.lst ws))(hn:¬ S (some l)):An K (upd H l (.lst ys)) S ds vs:=
 Gk (λ_ _ q=>kz5 hl q) (λ_ _ q=>q.wr hl hn) (λ_ _ _ _ q=>q.wr hl) ds vs h
theorem wk2{a l:Addr}(hl:H l=some o)(e:∀z,o≠.tup z)(c:∀x z,o≠.frz x (.tup z))(h:SqT K H a vs):SqT K (upd H l o') a vs:=by
 rcases h with (h | ⟨x,h⟩) |h
 ·exact .inl (.inl (by rw[Aj (λz=>by rw[z,hl]at h;exact e _ (Option.some.inj h))];exact h))
 ·exact .inl (.inr ⟨x,by rw[Aj (λz=>by rw[z,hl]at h;exact c _ _ (Option.some.inj h))];exact h⟩)
 ·exact .inr h
theorem ke0{a l:Addr}(hl:H l=some o)(c:∀z,o≠.tup z)(h:TpR K H a vs):TpR K (upd H l o') a vs:=by show upd H l o' a=_;rw[Aj (λz=>by have h:H a=_:=h;rw[z,hl]at h;exact c _ (Option.some.inj h))];exact h
theorem LsR.wrD{a l:Addr}(hl:H l=some o)(c:∀x z,o≠.frz x (.lst z))(hn:¬ S (some l))(h:LsR K H S a vs):LsR K (upd H l o') S a vs:=by
 rcases h with ⟨h,z⟩ | ⟨⟨x,h⟩ |h,z⟩
 ·exact .inl ⟨by rw[Aj (λ(e:a=l)=>hn (e ▸ z))];exact h,z⟩
 ·exact .inr ⟨.inl ⟨x,by rw[Aj (λe=>by rw[e,hl]at h;exact c _ _ (Option.some.inj h))];exact h⟩,z⟩
 ·exact .inr ⟨.inr h,z⟩
def Yb:HO->Bool
 | .frz _ (.dT _)=>true
 | .frz _ (.dK _)=>true
 |_=>false
theorem Ws(h:Yb o=true):∀z,o≠.tup z:=λz e=>by subst e;cases h
theorem ks1(h:Yb o=true):∀x z,o≠.frz x (.tup z):=λx z e=>by subst e;cases h
theorem jj9(h:Yb o=true):∀z,o≠.ext z:=λz e=>by subst e;cases h
theorem ka6(h:Yb o=true):∀z,o≠.xd z:=λz e=>by subst e;cases h
theorem Wr(h:Yb o=true):∀x z,o≠.frz x (.lst z):=λx z e=>by subst e;cases h
theorem Rep.wrD{d:D}{l:Addr}(h:Rep K H S d v)(hl:H l=some o)(c:Yb o=true)(hn:¬ S (some l)):Rep K (upd H l o') S d v:=
 Nu (λ_ _ q=>ke0 hl (Ws c) q) (λ_ _ q=>q.wrD hl (Wr c) hn) (λ_ _ _ _ q=>q.wrD hl (jj9 c) (ka6 c) hn) d v h
theorem An.wrD{l:Addr}(h:An K H S ds vs)(hl:H l=some o)(c:Yb o=true)(hn:¬ S (some l)):An K (upd H l o') S ds vs:=
 Gk (λ_ _ q=>ke0 hl (Ws c) q) (λ_ _ q=>q.wrD hl (Wr c) hn) (λ_ _ _ _ q=>q.wrD hl (jj9 c) (ka6 c) hn) ds vs h
theorem LsR.avoid{a p:Addr}(c:H p=none)(h:LsR K H S a vs):LsR K H (AS.but S p) a vs:=by
 rcases h with ⟨h,z⟩ | ⟨h,z⟩
 ·exact .inl ⟨h,z,λe=>by cases e;rw[c]at h;cases h⟩
 ·exact .inr ⟨h,z,λe=>by cases e⟩
theorem Rep.avoid{d:D}{p:Addr}(h:Rep K H S d v)(c:H p=none):Rep K H (AS.but S p) d v:=
 Nu (λ_ _ q=>q) (λ_ _ q=>q.avoid c) (λ_ _ _ _ q=>q.avoid c) d v h
theorem An.avoid{p:Addr}(h:An K H S ds vs)(c:H p=none):An K H (AS.but S p) ds vs:=
 Gk (λ_ _ q=>q) (λ_ _ q=>q.avoid c) (λ_ _ _ _ q=>q.avoid c) ds vs h
mutual
def D.imm:D->Bool
 | .lst _=>false
 | .tup ds=>Dw ds
 | .exc _ _ _=>false
 |_=>true
def Dw:List D->Bool
 | []=>true
 |d::ds=>d.imm && Dw ds
end
mutual
theorem kc4:∀(d:D)(v:V),d.imm=true->Rep K H S d v->Rep K H S' d v
 | .non,_,_,h=>h
 | .bl _,_,_,h=>h
 | .int _,_,_,h=>h
 | .str _,_,_,h=>h
 | .tup ds,v,i,h=>by revert h;refine Xe.Bu λa vs e q r=>?_;exact⟨a,vs,e,q,Nv ds vs i r⟩
 | .lst ds,v,i,h=>by cases i
 | .exc c ks f,v,i,h=>by cases i
theorem Nv:∀(ds:List D)(vs:List V),Dw ds=true->An K H S ds vs->An K H S' ds vs
 | [],_,_,h=>h
 |d::ds,vs,i,h=>by revert h;refine Xe.Bu λv r e g f=>?_;have c:(d.imm && Dw ds)=true:=i;rw[jBg]at c;exact⟨v,r,e,kc4 d v c.1 g,Nv ds r c.2 f⟩
end
theorem An.length:∀{ds:List D}{vs:List V},An K H S ds vs->ds.length=vs.length
 | [],_,h=>by rw[show _=_ from h];rfl
 |d::ds,vs,h=>by revert h;refine Xe.Bu λv r c _ e=>?_;obtain rfl:=c;have:=An.length e;simp[this]
theorem An.nil:An K H S [] []:=rfl
theorem An.cons{d:D}{v:V}{ds:List D}{vs:List V}(h:Rep K H S d v)(r:An K H S ds vs):An K H S (d::ds) (v::vs):=⟨v,vs,rfl,h,r⟩
theorem An.append:∀{ds es:List D}{vs ws:List V},An K H S ds vs->An K H S es ws->An K H S (ds++es) (vs++ws)
 | [],_,_,_,h,r=>by rw[show _=_ from h];exact r
 |d::ds,_,_,_,h,r=>by revert h;refine Xe.Bu λv t c f e=>?_;obtain rfl:=c;exact⟨v,_,rfl,f,An.append e r⟩
theorem An.get:∀{ds:List D}{vs:List V}{i:Nat}{d:D},An K H S ds vs->ds[i]? = some d->∃v,vs[i]? = some v/\Rep K H S d v
 | [],_,_,_,_,e=>by simp at e
 |x::ds,_,0,d,h,e=>by revert h;refine Xe.Bu λv t f j g=>?_;obtain rfl:=f;simp at e;subst e;exact⟨v,by simp,j⟩
 |x::ds,_,i+1,d,h,e=>by revert h;refine Xe.Bu λv t c j g=>?_;obtain rfl:=c;refine Xe.Aq (λw l k=>?_) (An.get (i:=i) g (by simpa using e));exact⟨w,by simpa using l,k⟩
theorem An.take:∀(n:Nat){ds:List D}{vs:List V},An K H S ds vs->An K H S (ds.take n) (vs.take n)
 |0,_,_,_=>by simp;exact An.nil
 |n+1,[],_,h=>by rw[show _=_ from h];exact An.nil
 |n+1,d::ds,_,h=>by revert h;refine Xe.Bu λv t c f e=>?_;obtain rfl:=c;exact⟨v,_,rfl,f,An.take n e⟩
theorem An.drop:∀(n:Nat){ds:List D}{vs:List V},An K H S ds vs->An K H S (ds.drop n) (vs.drop n)
 |0,_,_,h=>h
 |n+1,[],_,h=>by rw[show _=_ from h];exact An.nil
 |n+1,d::ds,_,h=>by revert h;refine Xe.Bu λv t c f e=>?_;obtain rfl:=c;exact An.drop n e
theorem An.rep(h:An K H S ds vs):∀k:Nat,An K H S (List.replicate k ds).flatten (List.replicate k vs).flatten
 |0=>An.nil
 |k+1=>by rw[jDb,jDb,jDy,jDy];exact h.append (h.rep k)
theorem An.one{d:D}(h:An K H S [d] vs):∃v,vs=[v]/\Rep K H S d v:=by revert h;refine Xe.Bu λv r c f e=>?_;obtain rfl:=c;exact⟨v,by rw[show r=[] from e],f⟩
theorem An.two{d e:D}(h:An K H S [d,e] vs):∃v u,vs=[v,u]/\Rep K H S d v/\Rep K H S e u:=by revert h;refine Xe.Bu λv r f j i=>?_;obtain rfl:=f;refine Xe.Aq (λu c g=>?_) (i.one);obtain rfl:=c;exact⟨v,u,rfl,j,g⟩
end
abbrev Ev:=List (Option D)
structure DC where
 H0:Hp
 S0:AS
 O:List Nat
 Ex:D->V->Hp->Prop
 Z:List Addr
def DC.S(c:DC):AS:=λo=>c.S0 o\/∃a,o=some a/\c.H0 a=none/\a∉c.Z
def live(ρ:Ev)(i:Nat):Prop:=∃d,ρ[i]? = some (some d)
def owned(c:DC)(ρ:Ev)(b:St)(a:Addr):Prop:=∃i,i∈c.O/\live ρ i/\b[i]? = some (some (.ref a))
def DC.N(c:DC)(ρ:Ev)(b:St):AS:=λo=>c.S o/\∀a,o=some a->¬ owned c ρ b a
abbrev Hd:=Hp->AS->Prop
structure ke3(P:Hd):Prop where
 mono:∀{H H':Hp}{S S':AS},Ag H H'->(∀o,S o->S' o)->P H S->P H' S'
 wr:∀{H:Hp}{S:AS}{l:Addr}{ws ys:List V},H l=some (.lst ws)->¬ S (some l)->P H S->P (upd H l (.lst ys)) S
 wrD:∀{H:Hp}{S:AS}{l:Addr}{o o':HO},H l=some o->Yb o=true->¬ S (some l)->P H S->P (upd H l o') S
 avoid:∀{H:Hp}{S:AS}{p:Addr},H p=none->P H S->P H (AS.but S p)
def Ep(K:Frag)(H:Hp)(S:AS)(d:D)(a:Addr):Prop:=
 (∃vs ds,d=.lst ds/\H a=some (.lst vs)/\An K H S ds vs)\/∃vs cc ks b,d=.exc cc ks b/\Q4 H cc ks a vs/\An K H S b vs
theorem Ep.has{S:AS}{d:D}{a:Addr}(h:Ep K H S d a):∃o,H a=some o:=by
 rcases h with ⟨vs,ds,_,h,_⟩ | ⟨vs,cc,ks,b,_,h,_⟩
 ·exact⟨_,h⟩
 ·obtain⟨o,e,_⟩:=h.has;exact⟨o,e⟩
theorem Ep.mono{S:AS}{d:D}{a:Addr}(h:Ep K H S d a)(e:Ag H H')(g:∀o,S o->S' o):Ep K H' S' d a:=
 h.imp (λ⟨vs,ds,f,c,b⟩=>⟨vs,ds,f,e _ _ c,b.mono e g⟩) λ⟨vs,cc,ks,i,f,c,b⟩=>⟨vs,cc,ks,i,f,c.same e,b.mono e g⟩
theorem Ep.avoid{S:AS}{d:D}{a p:Addr}(h:Ep K H S d a)(f:H p=none):Ep K H (AS.but S p) d a:=
 h.imp (λ⟨vs,ds,e,c,b⟩=>⟨vs,ds,e,c,b.avoid f⟩) λ⟨vs,cc,ks,g,e,c,b⟩=>⟨vs,cc,ks,g,e,c,b.avoid f⟩
theorem Ep.wr{S:AS}{d:D}{a l:Addr}(h:Ep K H S d a)(hl:H l=some (.lst ws))(hn:¬ S (some l))(b:a≠l):Ep K (upd H l (.lst ys)) S d a:=
 h.imp (λ⟨vs,ds,f,e,c⟩=>⟨vs,ds,f,by rw[Aj b];exact e,c.wr hl hn⟩) λ⟨vs,cc,ks,g,f,e,c⟩=>⟨vs,cc,ks,g,f,e.ne (Ne.symm b),c.wr hl hn⟩
theorem Ep.wrD{S:AS}{d:D}{a l:Addr}(h:Ep K H S d a)(hl:H l=some o)(g:Yb o=true)(hn:¬ S (some l))(b:a≠l):Ep K (upd H l o') S d a:=
 h.imp (λ⟨vs,ds,f,e,c⟩=>⟨vs,ds,f,by rw[Aj b];exact e,c.wrD hl g hn⟩) λ⟨vs,cc,ks,i,f,e,c⟩=>⟨vs,cc,ks,i,f,e.ne (Ne.symm b),c.wrD hl g hn⟩
theorem Ep.rep{S:AS}{d:D}{a:Addr}(h:Ep K H S d a)(e:S' (some a))(f:∀o,S o->S' o):Rep K H S' d (.ref a):=by
 rcases h with ⟨vs,ds,rfl,c,b⟩ | ⟨vs,cc,ks,g,rfl,c,b⟩
 ·exact⟨a,vs,rfl,.inl ⟨c,e⟩,b.mono (Ag.refl _) f⟩
 ·exact⟨a,vs,rfl,.inl ⟨c,e⟩,b.mono (Ag.refl _) f⟩
theorem Ep.lst{S:AS}{a:Addr}(h:Ep K H S (.lst ds) a):∃vs,H a=some (.lst vs)/\An K H S ds vs:=by
 rcases h with ⟨vs,f,e,c,b⟩ | ⟨vs,cc,ks,g,e,_⟩
 ·cases e;exact⟨vs,c,b⟩
 ·cases e
theorem Ep.dct{S:AS}{cc:Str}{fs:List D}{a:Addr}(h:Ep K H S (.exc cc ks fs) a):∃vs,Q4 H cc ks a vs/\An K H S fs vs:=by
 rcases h with ⟨vs,i,e,_⟩ | ⟨vs,j,b,c,e,g,f⟩
 ·cases e
 ·cases e;exact⟨vs,g,f⟩
structure Bg(K:Frag)(c:DC)(hs:List Hd)(ρ:Ev)(σ:St)(H:Hp):Prop where
 same:Ag c.H0 H
 len:ρ.length=σ.length
 own:∀i d,i∈c.O->ρ[i]? = some (some d)->∃a,σ[i]? = some (some (.ref a))/\(c.H0 a=none/\a∉c.Z)/\Ep K H (c.N ρ σ) d a
 apart:∀i j a,i∈c.O->j∈c.O->live ρ i->live ρ j->σ[i]? = some (some (.ref a))->σ[j]? = some (some (.ref a))->i=j
 oth:∀i d,i∉c.O->ρ[i]? = some (some d)->∃v,σ[i]? = some (some v)/\Rep K H (c.N ρ σ) d v
 held:∀P∈hs,ke3 P/\P H (c.N ρ σ)
 excl:∀a∈c.Z,H a≠none
variable {c:DC}{ρ:Ev}{σ:St}
section
variable {hs:List Hd}
theorem Bg.mono(h:Bg K c hs ρ σ H)(e:Ag H H'):Bg K c hs ρ σ H' where
 same:=h.same.trans e
 len:=h.len
 own:=λi d hi hd=>by refine Xe.G6 (λa e2 e4 e5=>?_) (h.own i d hi hd);exact⟨a,e2,e4,e5.mono e λ_ q=>q⟩
 apart:=h.apart
 oth:=λi d hi hd=>by refine Xe.Aq (λv e1 e2=>?_) (h.oth i d hi hd);exact⟨v,e1,e2.mono e λ_ q=>q⟩
 held:=λP hp=>⟨(h.held P hp).1,(h.held P hp).1.mono e (λ_ q=>q) (h.held P hp).2⟩
 excl:=λa ha z=>h.excl a ha (e.free z)
theorem Bg.ownd(h:Bg K c hs ρ σ H){a:Addr}(o:owned c ρ σ a):∃o,H a=some o:=by revert o;refine Xe.G6 λi g b e=>?_;obtain⟨d,j⟩:=b;refine Xe.G6 (λl f _ k=>?_) (h.own i d g j);rw[e]at f;cases f;exact k.has
theorem Bg.ownL(h:Bg K c hs ρ σ H)(i:Nat)(ds:List D)(hi:i∈c.O)(e:ρ[i]? = some (some (.lst ds))):∃a vs b,D.lst ds=.lst b/\σ[i]? = some (some (.ref a))/\H a=some (.lst vs)/\(c.H0 a=none/\a∉c.Z)/\An K H (c.N ρ σ) b vs:=by refine Xe.G6 (λa l k j=>?_) (h.own i _ hi e);refine Xe.Aq (λvs g f=>?_) (j.lst);exact⟨a,vs,ds,rfl,l,g,k,f⟩
theorem Bg.freshN(h:Bg K c hs ρ σ H){o:Option Addr}(q:fresh H o):c.N ρ σ o:=by revert q;refine Xe.Aq λa f e=>?_;obtain rfl:=f;refine⟨.inr ⟨a,rfl,h.same.free e,λg=>h.excl a g e⟩,λb j i=>?_⟩;cases j;have⟨vs,Y⟩:=h.ownd i;rw[e]at Y;cases Y
end
inductive Lv where
 |fr |no |any
def lvS(c:DC)(ρ:Ev)(σ:St)(H:Hp):Lv->AS
 | .fr=>fresh H
 | .no=>c.N ρ σ
 | .any=>c.S
def Lv.le:Lv->Lv->Bool
 | .fr,_=>true
 | .no,.fr=>false
 | .no,_=>true
 | .any,.any=>true
 | .any,_=>false
section
variable {hs:List Hd}
theorem Ls(h:Bg K c hs ρ σ H){l l':Lv}(hl:l.le l'=true){o:Option Addr}(q:lvS c ρ σ H l o):lvS c ρ σ H l' o:=by
 cases l with
 |fr =>
  cases l' with
  |fr=>exact q
  |no=>exact h.freshN q
  |any=>exact(h.freshN q).1
 |no =>
  cases l' with
  |fr=>cases hl
  |no=>exact q
  |any=>exact q.1
 |any =>
  cases l' with
  |fr=>cases hl
  |no=>cases hl
  |any=>exact q
theorem Hm(e:Ag H H'){l:Lv}{o:Option Addr}(q:lvS c ρ σ H' l o):lvS c ρ σ H l o:=by
 cases l with
 |fr=>obtain⟨a,rfl,z⟩:=q;exact⟨a,rfl,e.free z⟩
 |no=>exact q
 |any=>exact q
theorem Rx(h:Bg K c hs ρ σ H){l:Lv}{o:Option Addr}(q:fresh H o):lvS c ρ σ H l o:=Ls h (l:=.fr) (by cases l<;>rfl) q
theorem Lw(h:Bg K c hs ρ σ H)(e:Ag H H'){l:Lv}{o:Option Addr}(q:AS.plus (lvS c ρ σ H l) H' o):lvS c ρ σ H l o:=by
 rcases q with q | ⟨a,rfl,z⟩
 ·exact q
 ·exact Rx h ⟨a,rfl,e.free z⟩
end
section
variable (K:Frag)(c:DC)
def tD(l:Lv)(f:Ev->R D):TE:=λσ H Q=>∃a ρ,Bg K c a ρ σ H/\RQ (f ρ) (λd=>∀v H',Ag H H'->Rep K H' (lvS c ρ σ H l) d v->Q v H') (λe=>∀v H',Ag H H'->Rep K H' (lvS c ρ σ H .any) e v->c.Ex e v H')
def tF(l:Lv)(f:Ev->R D):TE:=λσ H Q=>∃b ρ,Bg K c b ρ σ H/\RQ (f ρ) (λd=>∀a vs ds H',d=.lst ds->Ag H H'->H a=none->H' a=some (.lst vs)->An K H' (AS.but (lvS c ρ σ H l) a) ds vs->Q (.ref a) H') (λe=>∀v H',Ag H H'->Rep K H' (lvS c ρ σ H .any) e v->c.Ex e v H')
def tDT(f:Ev->R Bool):TT:=λσ H Q=>∃a ρ,Bg K c a ρ σ H/\RQ (f ρ) (λb=>∀H',Ag H H'->Q b H') (λe=>∀v H',Ag H H'->Rep K H' (lvS c ρ σ H .any) e v->c.Ex e v H')
def tDA(n:Nat)(l:Lv)(f:Ev->R (List D)):TA:=λσ H Q=>∃a ρ,Bg K c a ρ σ H/\RQ (f ρ) (λds=>∀vs H',Ag H H'->An K H' (lvS c ρ σ H l) ds vs->ds.length=n->Q vs H') (λe=>∀v H',Ag H H'->Rep K H' (lvS c ρ σ H .any) e v->c.Ex e v H')
end
inductive Fl where
 |nx (ρ:Ev) |rt (d:D) |bk (ρ:Ev) |ct (ρ:Ev)
def Fl.ends(K:Frag)(c:DC)(b:List Hd)(E:Ends):Fl->Prop
 | .nx ρ=>∀a H',Bg K c b ρ a H'->E.nx a H'
 | .bk ρ=>∀a H',Bg K c b ρ a H'->E.bk a H'
 | .ct ρ=>∀a H',Bg K c b ρ a H'->E.ct a H'
 | .rt d=>∀v H',Ag c.H0 H'->Rep K H' c.S d v->E.rt v H'
def ji1(K:Frag)(c:DC)(e:D):Prop:=∀v H',Ag c.H0 H'->Rep K H' c.S e v->c.Ex e v H'
def tDS(K:Frag)(c:DC)(g:Ev->R Fl):TS:=λE σ H=>∃a ρ,Bg K c a ρ σ H/\RQ (g ρ) (Fl.ends K c a E) (ji1 K c)
abbrev PEd(X:Cx)(c:DC)(l:Lv)(e:Expr)(f:Ev->R D):Prop:=PE X e (tD X.K c l f)
abbrev PEf(X:Cx)(c:DC)(l:Lv)(e:Expr)(f:Ev->R D):Prop:=PE X e (tF X.K c l f)
abbrev PTd(X:Cx)(c:DC)(e:Expr)(f:Ev->R Bool):Prop:=PT X e (tDT X.K c f)
abbrev PAd(X:Cx)(c:DC)(l:Lv)(es:List Expr)(f:Ev->R (List D)):Prop:=PA X es (tDA X.K c es.length l f)
abbrev PSd(X:Cx)(c:DC)(st:Stmt)(g:Ev->R Fl):Prop:=PS X st (tDS X.K c g)
abbrev Z4(X:Cx)(c:DC)(a:List Stmt)(g:Ev->R Fl):Prop:=PSs X a (tDS X.K c g)
theorem PE.imp{X:Cx}{e:Expr}{t t':TE}(h:PE X e t)(i:∀σ H Q,t' σ H Q->t σ H Q):PE X e t':=λa s σ H Q I q=>h a s σ H Q I (i σ H Q q)
theorem PT.imp{X:Cx}{e:Expr}{t t':TT}(h:PT X e t)(i:∀σ H Q,t' σ H Q->t σ H Q):PT X e t':=λa s σ H Q I q=>h a s σ H Q I (i σ H Q q)
theorem PW.imp{X:Cx}{e:Expr}{t t':TT}(h:PW X e t)(i:∀σ H Q,t' σ H Q->t σ H Q):PW X e t':=λb a s σ H Q I q=>h b a s σ H Q I (i σ H Q q)
theorem PA.imp{X:Cx}{es:List Expr}{t t':TA}(h:PA X es t)(i:∀σ H Q,t' σ H Q->t σ H Q):PA X es t':=λpos a s σ H Q I q=>h pos a s σ H Q I (i σ H Q q)
variable {st:Stmt}
theorem PS.imp{X:Cx}{t t':TS}(h:PS X st t)(i:∀E σ H,t' E σ H->t E σ H):PS X st t':=λa s σ H E I q=>h a s σ H E I (i E σ H q)
theorem PSs.imp{X:Cx}{st:List Stmt}{t t':TS}(h:PSs X st t)(i:∀E σ H,t' E σ H->t E σ H):PSs X st t':=λa s σ H E I q=>h a s σ H E I (i E σ H q)
variable {l:Lv}
variable {f:Ev->R D}{Q:List V->Hp->Prop}
section
variable {hs:List Hd}
theorem Cz{e:D}{a:Hp}(h:∀v H',Ag H H'->Rep K H' (lvS c ρ σ H .any) e v->c.Ex e v H')(s:Ag H a):∀v H',Ag a H'->Rep K H' (lvS c ρ σ a .any) e v->c.Ex e v H':=
 λv H' b r=>h v H' (s.trans b) r
theorem Be{Q:VK}(E:Bg K c hs ρ σ H)
  (h:RQ (f ρ) (λd=>∀v H',Ag H H'->Bg K c hs ρ σ H'->Rep K H' (lvS c ρ σ H l) d v->Q v H') (λe=>∀v H',Ag H H'->Rep K H' (lvS c ρ σ H .any) e v->c.Ex e v H')):tD K c l f σ H Q:=
 ⟨hs,ρ,E,h.mono (λd q v H' s r=>q v H' s (E.mono s) r) λ_ q=>q⟩
theorem Dk{n:Nat}{f:Ev->R (List D)}(E:Bg K c hs ρ σ H)
  (h:RQ (f ρ) (λds=>∀vs H',Ag H H'->Bg K c hs ρ σ H'->An K H' (lvS c ρ σ H l) ds vs->ds.length=n->Q vs H') (λe=>∀v H',Ag H H'->Rep K H' (lvS c ρ σ H .any) e v->c.Ex e v H')):tDA K c n l f σ H Q:=
 ⟨hs,ρ,E,h.mono (λd q v H' s r a=>q v H' s (E.mono s) r a) λ_ q=>q⟩
theorem J1{f:Ev->R Bool}{Q:Bool->Hp->Prop}(E:Bg K c hs ρ σ H)
  (h:RQ (f ρ) (λb=>∀H',Ag H H'->Bg K c hs ρ σ H'->Q b H') (λe=>∀v H',Ag H H'->Rep K H' (lvS c ρ σ H .any) e v->c.Ex e v H')):tDT K c f σ H Q:=
 ⟨hs,ρ,E,h.mono (λd q H' s=>q H' s (E.mono s)) λ_ q=>q⟩
end
def R.of{b:Type}:Option b->R b
 |some a=>.ok a
 |none=>.bad
@[simp] theorem R.of_some{b:Type}(a:b):R.of (some a)=.ok a:=nr rfl
theorem RQ.of{b:Type}{o:Option b}{q:b->Prop}{e:D->Prop}(h:RQ (R.of o) q e):∃a,o=some a/\q a:=by
 cases o with
 |none=>exact h.elim
 |some a=>exact⟨a,rfl,h⟩
theorem Cu{g e:Type}{r:R g}{f:g->R e}{b:e}(h:r.bind f=.ok b):∃a,r=.ok a/\f a=.ok b:=by
 cases r with
 |ok a=>exact⟨a,rfl,h⟩
 |exc _=>cases h
 |bad=>cases h
theorem inv1{a:Type}{g:List D->Option a}{d:a}(e:g ds=some d)(h:g []=none)(b:∀x y l,g (x::y::l)=none):∃x,ds=[x]:=by
 cases ds with
 |nil=>exact nomatch h.symm.trans e
 |cons x l =>
  cases l with
  |nil=>exact⟨x,rfl⟩
  |cons y l=>exact nomatch (b x y l).symm.trans e
theorem inv2{a:Type}{g:List D->Option a}{d:a}(e:g ds=some d)(i:g []=none)(h:∀x,g [x]=none)(b:∀x y z l,g (x::y::z::l)=none):∃x y,ds=[x,y]:=by
 cases ds with
 |nil=>exact nomatch i.symm.trans e
 |cons x l =>
  cases l with
  |nil=>exact nomatch (h x).symm.trans e
  |cons y l =>
   cases l with
   |nil=>exact⟨x,y,rfl⟩
   |cons z l=>exact nomatch (b x y z l).symm.trans e
theorem nos{a:Type}{d:a}{P:Prop}(h:(none:Option a)=some d):P:=nomatch h
theorem Bj{p:Prop}[Decidable p]{b:Type}{x y:b}(h:(if p then some x else none)=some y):p/\x=y:=by
 by_cases a:p
 ·rw[if_pos a]at h;exact⟨a,Option.some.inj h⟩
 ·rw[if_neg a]at h;cases h
def rD(K:Frag)(g:D->D->Option D):R2:=λx y H Q=>∃S b a d,Rep K H S b x/\Rep K H S a y/\g b a=some d/\∀z H',Ag H H'->Rep K H' (AS.plus S H) d z->Q z H'
def rDF(K:Frag)(g:D->D->Option D):R2:=λx y H Q=>∃S e b d,Rep K H S e x/\Rep K H S b y/\g e b=some d /\
 ∀a vs ds H',d=.lst ds->Ag H H'->H a=none->H' a=some (.lst vs)->An K H' (AS.but S a) ds vs->Q (.ref a) H'
def b2(f1 f2:Ev->R D)(g:D->D->Option D):Ev->R D:=λρ=>(f1 ρ).bind λx=>(f2 ρ).bind λy=>R.of (g x y)
def b1(f1:Ev->R D)(g:D->Option D):Ev->R D:=λρ=>(f1 ρ).bind λx=>R.of (g x)
variable {g:D->D->Option D}{Z:D->Option D}
section
variable {f1 f2:Ev->R D}{Q:VK}
theorem jp4(h:tD K c l (b2 f1 f2 g) σ H Q):tOp (rD K g) (tD K c l f1) (tD K c l f2) σ H Q:=by revert h;refine Xe.Bt λA ρ E q=>?_;have q:=RQ.bind.mp q;refine Be E (q.mono (λu i x C a w n=>?_) λ_ z=>z);have i:=RQ.bind.mp i;refine Be w (i.mono (λs r y B b F m=>?_) λe z=>Cz z a);refine Xe.Aq (λd e p=>?_) (r.of);refine⟨lvS c ρ σ H l,u,s,d,n.mono b (λ_ z=>z),m.mono (Ag.refl _) (λ_ z=>Hm a z),e,λz H' j k=>?_⟩;exact p z H' ((a.trans b).trans j) (k.mono (Ag.refl _) λ_ z=>Lw E (a.trans b) z)
theorem yg3(hl:∀ρ d,f ρ=.ok d->∃ds,d=.lst ds)(h:tD K c l f σ H Q):tF K c l f σ H Q:=by
 revert h;refine Xe.Bt λi ρ E q=>?_;refine⟨i,ρ,E,?_⟩;cases e:f ρ with
 |ok d=>rw[e]at q;obtain⟨ds,rfl⟩:=hl ρ d e;intro a vs m H' k s j b r;cases k;exact q (.ref a) H' s ⟨a,vs,rfl,.inl ⟨b,Rx E ⟨a,rfl,j⟩⟩,r.mono (Ag.refl _) λ_ z=>z.1⟩
 |exc Y=>rw[e]at q;exact q
 |bad=>rw[e]at q;exact q
end
variable {X:Cx}{a b:Expr}{l':Lv}{pos:Pos}
section
variable {f f1 f2:Ev->R D}
theorem ke7(e:Operator)(i:OpR X (binaryOp e) (rD X.K g))(k:PEd X c l a f1)(j:PEd X c l b f2):PEd X c l (.BinOp a e b pos) (b2 f1 f2 g):=PE.imp (wm2 i k j) λ_ _ _ h=>jp4 h
theorem wb4{e:CmpOp}(i:OpR X (compareOp e) (rD X.K g))(m:PEd X c l a f1)(k:PEd X c l b f2)(j:behindInMarks e b=false):PEd X c l (.Compare a [e] [b] pos) (b2 f1 f2 g):=PE.imp (wh8 i m k j) λ_ _ _ h=>jp4 h
theorem PEd.up(h:PEd X c l a f)(hl:l.le l'=true:=by rfl):PEd X c l' a f:=PE.imp h λσ H Q ⟨e,ρ,E,q⟩ =>
 ⟨e,ρ,E,q.mono (λd q v H' s r=>q v H' s (r.mono (Ag.refl _) λ_ z=>Ls E hl z)) λ_ z=>z⟩
theorem PEf.up(h:PEf X c l a f)(hl:l.le l'=true:=by rfl):PEf X c l' a f:=PE.imp h λσ H Q ⟨i,ρ,E,q⟩ =>
 ⟨i,ρ,E,q.mono (λd q a vs ds H' k s j e r=>q a vs ds H' k s j e (r.mono (Ag.refl _) λ_ z=>⟨Ls E hl z.1,z.2⟩)) λ_ z=>z⟩
theorem PEf.d(h:PEf X c l a f)(hl:∀ρ d,f ρ=.ok d->∃ds,d=.lst ds):PEd X c l a f:=PE.imp h λ_ _ _ h=>yg3 hl h
def isL(f:Ev->R D):Ev->R D:=λρ=>(f ρ).bind λd=>match d with
 | .lst ds=>if Dw ds then .ok d else .bad
 |_=>.bad
theorem PEd.isL(h:PEd X c .fr a f):PEf X c .fr a (isL f):=PE.imp h λσ H Q ⟨w,ρ,E,q⟩=>by
 refine⟨w,ρ,E,(RQ.bind.mp q).mono (λd q v H' s r=>?_) λ_ z=>z⟩;cases d with
 |lst ds =>
  have q:RQ (if Dw ds=true then R.ok (D.lst ds) else R.bad) _ _:=q;revert r;refine Xe.Bu λp vs i x n=>?_;obtain rfl:=i;rcases x with ⟨y,k⟩ | ⟨_,k⟩
  ·revert k;refine Xe.Aq λu e m=>?_;cases e;by_cases j:Dw ds=true
   ·rw[if_pos j]at q;exact q p vs ds H' rfl s m y (Nv ds vs j n)
   ·rw[if_neg j]at q;exact q.elim
  ·revert k;refine Xe.Aq λu e m=>?_;cases e
 |non=>exact q.elim
 |bl _=>exact q.elim
 |int _=>exact q.elim
 |str _=>exact q.elim
 |tup _=>exact q.elim
 |exc _ _ _=>exact q.elim
def gv(i:Nat):Ev->R D:=λρ=>match ρ[i]? with
 |some (some d)=>.ok d
 |_=>.bad
theorem jt0{i:Nat}{q:D->Prop}{e:D->Prop}(h:RQ (gv i ρ) q e):∃d,ρ[i]? = some (some d)/\q d:=by
 unfold gv at h;split at h
 ·rename_i d e;exact⟨d,e,h⟩
 ·exact h.elim
theorem yh0{i:Nat}(hi:c.O.contains i=false){Q:VK}(h:tD K c .no (gv i) σ H Q):wk7 i σ H Q:=by revert h;refine Xe.Bt λk ρ E q=>?_;refine Xe.Aq (λd e q=>?_) (jt0 q);refine Xe.Aq (λv j r=>?_) (E.oth i d (by simpa using hi) e);exact⟨v,j,q v H (Ag.refl H) r⟩
theorem wx8{i:Nat}{Q:VK}(h:tD K c .any (gv i) σ H Q):wk7 i σ H Q:=by
 revert h;refine Xe.Bt λn ρ E q=>?_;refine Xe.Aq (λd e q=>?_) (jt0 q);by_cases k:i∈c.O
 ·refine Xe.G6 (λp j m r=>?_) (E.own i d k e);exact⟨_,j,q (.ref p) H (Ag.refl H) (r.rep (.inr ⟨p,rfl,m.1,m.2⟩) λ_ z=>z.1)⟩
 ·refine Xe.Aq (λv j r=>?_) (E.oth i d k e);exact⟨v,j,q v H (Ag.refl H) (r.mono (Ag.refl _) λ_ z=>z.1)⟩
theorem nv(i:Nat){x:Str}(hi:c.O.contains i=false:=by rfl)(m:X.N[i]? = some x:=by rfl)(j:Vis X.env.scope x:=by first |exact Or.inl rfl |exact Or.inr (Or.inl rfl) |exact Or.inr (Or.inr rfl))(k:(x == ("__debug__" : Str))=false:=by decide)
  (e:(x == ("__classdict__" : Str))=false:=by decide):PEd X c .no (.Name x pos) (gv i):=PE.imp (pv i m j k e) λ_ _ _ h=>yh0 hi h
theorem av(i:Nat){x:Str}(m:X.N[i]? = some x:=by rfl)(j:Vis X.env.scope x:=by first |exact Or.inl rfl |exact Or.inr (Or.inl rfl) |exact Or.inr (Or.inr rfl))(k:(x == ("__debug__" : Str))=false:=by decide)
  (e:(x == ("__classdict__" : Str))=false:=by decide):PEd X c .any (.Name x pos) (gv i):=PE.imp (pv i m j k e) λ_ _ _ h=>wx8 h
def kd(d:D):Ev->R D:=λ_=>.ok d
theorem wm8{d:D}(e:∀H S,Rep K H S d v){Q:VK}(h:tD K c l (kd d) σ H Q):tC v σ H Q:=by revert h;refine Xe.Bt λi ρ E q=>?_;exact q v H (Ag.refl H) (e _ _)
theorem ki{i:Int}{j}:PEd X c .fr (.Constant (.int i) j pos) (kd (.int i)):=PE.imp wu4 λ_ _ _ h=>wm8 (d:=.int i) (v:=.int i) (λ_ _=>rfl) h
theorem kb{b:Bool}{j}:PEd X c .fr (.Constant (.bool b) j pos) (kd (.bl b)):=PE.imp ye5 λ_ _ _ h=>wm8 (d:=.bl b) (v:=.bl b) (λ_ _=>rfl) h
def wy4:D->D->Option D
 | .int i,.int j=>some (.int (i+j))
 | .str x,.str y=>if x.length+y.length<=16777216 then some (.str (x++y)) else none
 | .tup e,.tup ys=>if e.length+ys.length<=16777216 then some (.tup (e++ys)) else none
 |_,_=>none
def jw7:D->D->Option D
 | .int i,.int j=>some (.int (i - j))
 |_,_=>none
def Fd:D->D->Option D
 | .int i,.int j=>if(-(2 ^ 64)<i/\i<2 ^ 64)\/(-(2 ^ 64)<j/\j<2 ^ 64)\/(i.natAbs<2 ^ 2048/\j.natAbs<2 ^ 2048) then some (.int (i * j)) else none
 |_,_=>none
def Pa:D->D->Option D
 | .int i,.int j=>if 0<j/\j<4611686018427387904 then some (.int (i / j)) else none
 |_,_=>none
def O6:D->D->Option D
 | .int i,.int j=>if 0<j then some (.int (i % j)) else none
 |_,_=>none
def jv5:D->D->Option D
 | .int i,.int j=>if 0<=j/\j<=1000000/\i.natAbs<2 ^ 64 then some (.int (i ^ j.toNat)) else none
 |_,_=>none
def wo5:D->D->Option D
 | .lst e,.lst ys=>if e.length+ys.length<=16777216 then some (.lst (e++ys)) else none
 |_,_=>none
def jw0:D->D->Option D
 | .lst e,.int k=>if -(2 ^ 63)<=k/\k<2 ^ 63/\e.length * k.toNat<=16777216 then some (.lst (List.replicate k.toNat e).flatten) else none
 |_,_=>none
theorem jc8{f:Value->Value->Sem Value}{C:Int->Int->Prop}{h:Int->Int->V}(F:OpR X f (rI C h))
  (G:∀n m d,g n m=some d->∃i j,n=.int i/\m=.int j/\C i j/\∀H S,Rep X.K H S d (h i j)):OpR X f (rD X.K g):=by
 rintro k s σ H x y v u Q I z w ⟨S,n,m,d,B,A,e,q⟩;refine Xe.X7 (λi j r p J E=>?_) (G n m d e);obtain rfl:=r;obtain rfl:=p;exact F k s σ H x y v u Q I z w ⟨i,j,B,A,J,q _ H (Ag.refl _) (E _ _)⟩
theorem kb7{f:Value->Value->Sem Value}{h:Int->Int->V}(E:OpR X f (rI0 h))
  (F:∀n m d,g n m=some d->∃i j,n=.int i/\m=.int j/\∀H S,Rep X.K H S d (h i j)):OpR X f (rD X.K g):=by
 rintro k s σ H x y v u Q I z w ⟨S,n,m,d,B,A,e,q⟩;refine Xe.Bu (λi j r p C=>?_) (F n m d e);obtain rfl:=r;obtain rfl:=p;exact E k s σ H x y v u Q I z w ⟨i,j,B,A,q _ H (Ag.refl _) (C _ _)⟩
theorem yd9:OpR X (binaryOp .Sub) (rD X.K jw7):=kb7 wu1 λi h d e=>by cases i<;>first |exact nos e | (cases h<;>first |exact nos e | (cases e;exact⟨_,_,rfl,rfl,λ_ _=>rfl⟩))
theorem wh6:OpR X (binaryOp .Mult) (rI (λi j=>(-(2 ^ 64)<i/\i<2 ^ 64)\/(-(2 ^ 64)<j/\j<2 ^ 64)\/(i.natAbs<2 ^ 2048/\j.natAbs<2 ^ 2048)) λi j=>.int (i * j)):=opI λi j _ _ _ _ _ e q=>mul_int q (by
 rcases e with h |h | ⟨m,k⟩
 ·exact .of_left (intBits_le_64 h.1 h.2)
 ·exact .of_right (intBits_le_64 h.1 h.2)
 ·exact IntMulOk.of_le (intBits_le_iff.mpr m) (intBits_le_iff.mpr k) (by decide))
theorem yd6:OpR X (binaryOp .Mult) (rD X.K Fd):=jc8 wh6 λj i d e=>by cases j<;>first |exact nos e | (cases i<;>first |exact nos e | (obtain⟨h,rfl⟩:=Bj e;exact⟨_,_,rfl,rfl,h,λ_ _=>rfl⟩))
theorem kv8:OpR X (binaryOp .FloorDiv) (rI (λ_ j=>0<j/\j<4611686018427387904) λi j=>.int (i / j)):=opI λi j _ _ _ _ _ e q=>by
 have p:(0:Int)<j:=e.1;have m:j<4611686018427387904:=e.2;refine floordiv_int (by omega) (by rw[Int.fdiv_eq_ediv_of_nonneg i (by omega)];exact q) (.inl (PyProof.noPylong_of_log2 ?_));have h:j.natAbs<2 ^ 62:=by
  have:(2:Nat) ^ 62=4611686018427387904:=by decide
  omega
 have:=(Nat.log2_lt (n:=j.natAbs) (k:=62) (by omega)).mpr h;omega
theorem wt4:OpR X (binaryOp .FloorDiv) (rD X.K Pa):=jc8 kv8 λj i d e=>by cases j<;>first |exact nos e | (cases i<;>first |exact nos e | (obtain⟨h,rfl⟩:=Bj e;exact⟨_,_,rfl,rfl,h,λ_ _=>rfl⟩))
theorem yd5:OpR X (binaryOp .Mod) (rD X.K O6):=jc8 wt8 λj i d e=>by cases j<;>first |exact nos e | (cases i<;>first |exact nos e | (obtain⟨h,rfl⟩:=Bj e;exact⟨_,_,rfl,rfl,h,λ_ _=>rfl⟩))
theorem yd8:OpR X (binaryOp .Pow) (rD X.K jv5):=jc8 wt9 λj i d e=>by cases j<;>first |exact nos e | (cases i<;>first |exact nos e | (obtain⟨h,rfl⟩:=Bj e;exact⟨_,_,rfl,rfl,h,λ_ _=>rfl⟩))
end
theorem Ar{p:Addr}(h:H p=none)(o:HO):Ag H (upd H p o):=λb u e=>by rw[Aj (Bv e h)];exact e
section
variable {f f1 f2:Ev->R D}
theorem Gz{n:Nat}(h:n<=16777216):n<=sizeLine:=by rw[sizeLine_eq];exact h
theorem kv7:OpR X (binaryOp .Add) (λx y H Q=>∃a b ys,x=.ref a/\y=.ref b/\SqT X.K H a []/\SqT X.K H b ys/\Q (.ref b) H):=by
 intro p s σ H x y v u Q I E C h;obtain⟨a,b,ys,rfl,rfl,P,O,q⟩:=h;cases E;cases C;have⟨M,G,p1,_⟩:=I.tuple P;have⟨e,U,J,_⟩:=I.tuple O;cases G;have⟨⟨cls,T,data,B⟩,r,z,n,w⟩:=id p1;have⟨⟨A,m,data2,k⟩,i,j,L,hd2⟩:=id J;simp only at z w j hd2;subst z w j hd2;exact concat_meets ⟨_,r,rfl⟩ ⟨_,i,rfl⟩ noFill_tuple_add seq_tuple_add PySem.F.slot_tuple_add PySem.F.entry_tuple_add (PySem.F.args_tuple_add_2 _ _)
   (tuple_addW0 a b ([]:List Value).toArray e.toArray n L T m B k (by simp)) ⟨r,i,⟨.ref b,H,I,rfl,q⟩⟩
theorem yd0:OpR X (binaryOp .Add) (rD X.K wy4):=by
 rintro h s σ H x y v u Q I w n ⟨S,dx,G,d,m,k,e,q⟩;cases dx with
 |int i =>
  cases G with
  |int j=>cases e;exact wt7 h s σ H x y v u Q I w n ⟨i,j,m,k,q _ H (Ag.refl _) rfl⟩
  |_=>exact nos e
 |str p =>
  cases G with
  |str r=>obtain⟨J,rfl⟩:=Bj e;exact jv1 h s σ H x y v u Q I w n ⟨p,r,m,k,Gz J,q _ H (Ag.refl _) rfl⟩
  |_=>exact nos e
 |tup O =>
  cases G with
  |tup ys =>
   obtain⟨J,rfl⟩:=Bj e;revert m;refine Xe.Bu λa vs B F m=>?_;obtain rfl:=B;revert k;refine Xe.Bu λb ws A E k=>?_;obtain rfl:=A;have T:=m.length;have P:=k.length;by_cases M:vs=[]
   ·subst M;have hx:O=[]:=jEi T;subst hx;exact kv7 h s σ H _ _ v u Q I w n ⟨a,b,ws,rfl,rfl,(TpR.sq F),(TpR.sq E),q _ H (Ag.refl _) ⟨b,ws,rfl,E,k.mono (Ag.refl _) λ_ z=>.inl z⟩⟩
   ·refine wh5 h s σ H _ _ v u Q I w n ⟨a,b,vs,ws,rfl,rfl,(TpR.sq F),(TpR.sq E),M,Gz (by lia),λL=>?_,λL p C=>?_⟩
    ·subst L;have U:ys=[]:=jEi P;subst U;exact q _ H (Ag.refl _) ⟨a,vs,rfl,F,by rw[jDa];exact m.mono (Ag.refl _) λ_ z=>.inl z⟩
    ·exact q _ _ (Ar C _) ⟨p,_,rfl,TpR.of Ao,(m.mono (Ar C _) λ_ z=>.inl z).append (k.mono (Ar C _) λ_ z=>.inl z)⟩
  |_=>exact nos e
 |_=>exact nos e
theorem wh4:OpR X (binaryOp .Add) (λx y H Q=>∃l b z w,x=.ref l/\y=.ref b/\SqL X.K H l z/\SqL X.K H b w/\z.length+w.length<=sizeLine/\∀p,H p=none->Q (.ref p) (upd H p (.lst (z++w)))):=by
 intro G s σ H x y v u Q I U T h;obtain⟨l,b,z,w,rfl,rfl,hH,hB,hz,q⟩:=h;cases U;cases T;have⟨j,r,pl,_⟩:=I.list hH;have⟨i,E,B,_⟩:=I.list hB;obtain⟨⟨cls,dd,data,P⟩,J,M,n,L⟩:=pl.isList;obtain⟨⟨O,C,data2,A⟩,k,m,n2,hd2⟩:=B.isList;simp only at M L m hd2;subst M L m hd2;have hl:=r.length;have aa:=E.length;have e:j.toArray++i.toArray=(j++i).toArray:=by simp
 refine concat_meets ⟨_,J,rfl⟩ ⟨_,k,rfl⟩ noFill_list_add seq_list_add PySem.F.slot_list_add PySem.F.entry_list_add (PySem.F.args_list_add_2 _ _) (list_addW l b j.toArray i.toArray n n2 dd C P A (by rw[jAo,jAo];lia)) ⟨J,k,?_⟩;rw[e];exact⟨.ref _,_,I.lnew (t':=s.toks) (r.append E) (by rw[jAs];lia),rfl,q _ I.fresh⟩
theorem yd1:OpR X (binaryOp .Add) (rDF X.K wo5):=by
 rintro i s σ H x y v u Q I w r ⟨S,E,C,d,n,m,e,q⟩;cases E with
 |lst F =>
  cases C with
  |lst ys=>obtain⟨L,rfl⟩:=Bj e;revert n;refine Xe.Bu λa vs k B n=>?_;obtain rfl:=k;revert m;refine Xe.Bu λb ws j A m=>?_;obtain rfl:=j;have J:=n.length;have G:=m.length;refine wh4 i s σ H _ _ v u Q I w r ⟨a,b,vs,ws,rfl,rfl,B.sq,A.sq,Gz (by lia),λp h=>?_⟩;exact q p _ _ _ rfl (Ar h _) h Ao (((n.avoid h).mono (Ar h _) λ_ z=>z).append ((m.avoid h).mono (Ar h _) λ_ z=>z))
  |_=>exact nos e
 |_=>exact nos e
theorem wb2{f1 f2:Ev->R D}{d:D}(h:b2 f1 f2 wo5 ρ=.ok d):∃ds,d=.lst ds:=by
 refine Xe.Aq (λx _ h=>?_) (Cu h);refine Xe.Aq (λy _ h=>?_) (Cu h);cases e:wo5 x y with
 |none=>rw[e]at h;cases h
 |some i=>rw[e]at h;cases h;cases x<;>first |exact nos e | (cases y<;>first |exact nos e | (obtain⟨_,rfl⟩:=Bj e;exact⟨_,rfl⟩))
theorem sub(h:PEd X c l a f1)(e:PEd X c l b f2):PEd X c l (.BinOp a .Sub b pos) (b2 f1 f2 jw7):=ke7 .Sub yd9 h e
theorem mul(h:PEd X c l a f1)(e:PEd X c l b f2):PEd X c l (.BinOp a .Mult b pos) (b2 f1 f2 Fd):=ke7 .Mult yd6 h e
theorem fdiv(h:PEd X c l a f1)(e:PEd X c l b f2):PEd X c l (.BinOp a .FloorDiv b pos) (b2 f1 f2 Pa):=ke7 .FloorDiv wt4 h e
theorem mod(h:PEd X c l a f1)(e:PEd X c l b f2):PEd X c l (.BinOp a .Mod b pos) (b2 f1 f2 O6):=ke7 .Mod yd5 h e
theorem pow(h:PEd X c l a f1)(e:PEd X c l b f2):PEd X c l (.BinOp a .Pow b pos) (b2 f1 f2 jv5):=ke7 .Pow yd8 h e
end
mutual
def D.py:D->PyData
 | .non=>.none
 | .bl b=>.bool b
 | .int i=>.int i
 | .str x=>.str x
 | .tup e=>.tuple (G4 e)
 | .lst e=>.list (G4 e)
 | .exc _ _ _=>.none
def G4:List D->List PyData
 | []=>[]
 |d::ds=>d.py::G4 ds
end
mutual
def D.cok:Nat->D->Bool
 |n,.tup e=>match n with |0=>false |n+1=>Dn n e
 |n,.lst e=>match n with |0=>false |n+1=>Dn n e
 |_,.str x=>PyData.strOk x
 |_,.exc _ _ _=>false
 |_,_=>true
def Dn:Nat->List D->Bool
 |_,[]=>true
 |n,d::ds=>d.cok n && Dn n ds
end
mutual
theorem Hz:∀(n:Nat)(d:D),d.cok n=true->d.py.canLay0=true/\d.py.depth<=n
 |n,.non,_=>by simp[D.py,PyData.canLay0,PyData.depth]
 |n,.bl _,_=>by simp[D.py,PyData.canLay0,PyData.depth]
 |n,.int _,_=>by simp[D.py,PyData.canLay0,PyData.depth]
 |n,.str x,h=>by
  have i:PyData.strOk x=true:=by simpa[D.cok] using h
  simp[D.py,PyData.canLay0,PyData.depth,i]
 |0,.tup e,h=>by simp[D.cok]at h
 |0,.lst e,h=>by simp[D.cok]at h
 |n+1,.tup e,h=>by
  have i:Dn n e=true:=by simpa[D.cok] using h
  have:=Gg n e i;simp only[D.py,PyData.canLay0,PyData.depth];exact⟨this.1,by lia⟩
 |n+1,.lst e,h=>by
  have i:Dn n e=true:=by simpa[D.cok] using h
  have:=Gg n e i;simp only[D.py,PyData.canLay0,PyData.depth];exact⟨this.1,by lia⟩
 |n,.exc _ _ _,h=>by simp[D.cok]at h
theorem Gg:∀(n:Nat)(ds:List D),Dn n ds=true->PyData.canLayAll0 (G4 ds)=true/\PyData.depthAll (G4 ds)<=n
 |n,[],_=>by simp[G4,PyData.canLayAll0,PyData.depthAll]
 |n,d::ds,h=>by
  have e:d.cok n=true/\Dn n ds=true:=by simpa[Dn] using h
  have j:=Hz n d e.1;have i:=Gg n ds e.2;simp only[G4,PyData.canLayAll0,PyData.depthAll,j.1,i.1,Bool.and_self,true_and];lia
end
variable {pins:List (Addr×Obj)}{s:Shared}
section
variable {S:AS}
mutual
theorem Ej(I:Inv X pins σ H s):∀(n:Nat)(d:D)(v:V)(u:Value),d.cok n=true->Rep X.K H S d v->RelV v u->∃as,Reads s.heap u d.py as
 |n,.non,v,u,_,h,r=>by cases(show v=.non from h);cases(show u=Value.none from r);exact⟨_,by simp only[D.py];exact .none⟩
 |n,.bl b,v,u,_,h,r=>by cases(show v=.bl b from h);cases(show u=Value.bool b from r);exact⟨_,by simp only[D.py];exact .bool b⟩
 |n,.int i,v,u,_,h,r=>by cases(show v=.int i from h);have⟨t,e⟩:=(show ∃t,u=Value.int i t from r);cases e;exact⟨_,by simp only[D.py];exact .int i t⟩
 |n,.str x,v,u,_,h,r=>by cases(show v=.str x from h);have⟨t,e⟩:=(show ∃t,u=Value.str x t from r);cases e;exact⟨_,by simp only[D.py];exact .str x t⟩
 |0,.tup j,v,u,k,h,r=>by simp[D.cok]at k
 |0,.lst j,v,u,k,h,r=>by simp[D.cok]at k
 |n+1,.tup j,v,u,k,h,r=>by
  obtain⟨a,vs,rfl,q,z⟩:=h;cases(show u=Value.ref a from r);have⟨w,y,p,_⟩:=I.tuple (TpR.sq q);have B:Dn n j=true:=by simpa[D.cok] using k
  have⟨as,A⟩:=Nt I n j vs w B z y;obtain⟨o,C,F,m,E⟩:=p;exact⟨_,by simp only[D.py];exact .tuple C F E (by simpa using A)⟩
 |n+1,.lst j,v,u,k,h,r=>by
  obtain⟨a,vs,rfl,q,z⟩:=h;cases(show u=Value.ref a from r);have⟨w,y,p,_⟩:=I.list q.sq;have B:Dn n j=true:=by simpa[D.cok] using k
  have⟨as,A⟩:=Nt I n j vs w B z y;obtain⟨o,C,F,m,E⟩:=p.isList;exact⟨_,by simp only[D.py];exact .list C F E (by simpa using A)⟩
 |n,.exc _ _ _,v,u,k,h,r=>by simp[D.cok]at k
theorem Nt(I:Inv X pins σ H s):∀(n:Nat)(ds:List D)(vs:List V)(j:List Value),Dn n ds=true->An X.K H S ds vs->Vals vs j->∃as,ReadsAll s.heap j (G4 ds) as
 |n,[],vs,j,_,h,r=>by cases(show vs=[] from h);cases r;exact⟨_,by simp only[G4];exact .nil⟩
 |n,d::ds,vs,j,k,h,r=>by
  revert h;refine Xe.Bu λv e i y x=>?_;obtain rfl:=i;cases r with
  |cons q p =>
   have m:d.cok n=true/\Dn n ds=true:=by simpa[Dn] using k
   have⟨as,w⟩:=Ej I n d v _ m.1 y q;have⟨bs,u⟩:=Nt I n ds e _ m.2 x p;exact⟨_,by simp only[G4];exact .cons w u⟩
end
end
def D.eqb(x y:D):Bool:=PyData.eqv x.py y.py
def eqD(x y:D):Option D:=if x.cok 60 && y.cok 60 then some (.bl (x.eqb y)) else none
def neD(x y:D):Option D:=if x.cok 60 && y.cok 60 then some (.bl (!x.eqb y)) else none
def inD:D->D->Option D
 |x,.lst ys=>if x.cok 60 && Dn 60 ys then some (.bl (ys.any λy=>y.eqb x)) else none
 |x,.tup ys=>if x.cok 60 && Dn 60 ys then some (.bl (ys.any λy=>y.eqb x)) else none
 |_,_=>none
def Ye:D->D->Option D
 |x,.lst ys=>if x.cok 60 && Dn 60 ys then some (.bl (!ys.any λy=>y.eqb x)) else none
 |x,.tup ys=>if x.cok 60 && Dn 60 ys then some (.bl (!ys.any λy=>y.eqb x)) else none
 |_,_=>none
section
variable {f f1 f2:Ev->R D}
theorem Vv(x:D):∀ys:List D,((G4 ys).any λy=>PyData.eqv y x.py)=ys.any λy=>y.eqb x
 | []=>by simp[G4]
 |y::ys=>by simp only[G4,jEq,Vv x ys];rfl
theorem yd2(C:X.A.units+70<cLine):OpR X (compareOp .Eq) (rD X.K eqD):=by rintro pins s σ H x y v u Q I m k ⟨S,j,i,d,w,r,e,q⟩;obtain⟨h,rfl⟩:=Bj e;rw[jBg]at h;have⟨as,p⟩:=Ej I 60 j x v h.1 w m;have⟨bs,n⟩:=Ej I 60 i y u h.2 r k;have B:=Hz 60 j h.1;have z:=Hz 60 i h.2;exact SeqAt.compareEq_reads p n B.1 z.1 (by lia) ⟨.bl _,H,I,rfl,q _ H (Ag.refl _) rfl⟩
theorem yl1(C:X.A.units+70<cLine):OpR X (compareOp .NotEq) (rD X.K neD):=by rintro pins s σ H x y v u Q I m k ⟨S,j,i,d,w,r,e,q⟩;obtain⟨h,rfl⟩:=Bj e;rw[jBg]at h;have⟨as,p⟩:=Ej I 60 j x v h.1 w m;have⟨bs,n⟩:=Ej I 60 i y u h.2 r k;have B:=Hz 60 j h.1;have z:=Hz 60 i h.2;exact SeqAt.compareNe_reads p n B.1 z.1 (by lia) ⟨.bl _,H,I,rfl,q _ H (Ag.refl _) rfl⟩
theorem yd4(E:X.A.units+70<cLine):OpR X (compareOp .In) (rD X.K inD):=by
 rintro pins s σ H x y v u Q I w r ⟨S,j,C,d,B,z,e,q⟩;cases C with
 |lst ys=>obtain⟨h,rfl⟩:=Bj e;rw[jBg]at h;have p:(D.lst ys).cok 61=true:=h.2;have⟨as,k⟩:=Ej I 60 j x v h.1 B w;have⟨bs,i⟩:=Ej I 61 _ y u p z r;have n:=Hz 60 j h.1;have m:=Gg 60 ys h.2;simp only[D.py]at i;exact SeqAt.in_list_reads i k m.1 n.1 (by lia) ⟨.bl _,H,I,rfl,by rw[Vv];exact q _ H (Ag.refl _) rfl⟩
 |tup ys=>obtain⟨h,rfl⟩:=Bj e;rw[jBg]at h;have p:(D.tup ys).cok 61=true:=h.2;have⟨as,k⟩:=Ej I 60 j x v h.1 B w;have⟨bs,i⟩:=Ej I 61 _ y u p z r;have n:=Hz 60 j h.1;have m:=Gg 60 ys h.2;simp only[D.py]at i;exact SeqAt.in_tuple_reads i k m.1 n.1 (by lia) ⟨.bl _,H,I,rfl,by rw[Vv];exact q _ H (Ag.refl _) rfl⟩
 |_=>exact nos e
theorem yd7(E:X.A.units+70<cLine):OpR X (compareOp .NotIn) (rD X.K Ye):=by
 rintro pins s σ H x y v u Q I w r ⟨S,j,C,d,B,z,e,q⟩;cases C with
 |lst ys=>obtain⟨h,rfl⟩:=Bj e;rw[jBg]at h;have p:(D.lst ys).cok 61=true:=h.2;have⟨as,k⟩:=Ej I 60 j x v h.1 B w;have⟨bs,i⟩:=Ej I 61 _ y u p z r;have n:=Hz 60 j h.1;have m:=Gg 60 ys h.2;simp only[D.py]at i;exact SeqAt.notIn_list_reads i k m.1 n.1 (by lia) ⟨.bl _,H,I,rfl,by rw[Vv];exact q _ H (Ag.refl _) rfl⟩
 |tup ys=>obtain⟨h,rfl⟩:=Bj e;rw[jBg]at h;have p:(D.tup ys).cok 61=true:=h.2;have⟨as,k⟩:=Ej I 60 j x v h.1 B w;have⟨bs,i⟩:=Ej I 61 _ y u p z r;have n:=Hz 60 j h.1;have m:=Gg 60 ys h.2;simp only[D.py]at i;exact SeqAt.notIn_tuple_reads i k m.1 n.1 (by lia) ⟨.bl _,H,I,rfl,by rw[Vv];exact q _ H (Ag.refl _) rfl⟩
 |_=>exact nos e
def kf4(p:Int->Int->Bool):D->D->Option D
 | .int i,.int j=>some (.bl (p i j))
 |_,_=>none
abbrev ltD:=kf4 λi j=>decide (i<j)
abbrev leD:=kf4 λi j=>decide (i<=j)
abbrev gtD:=kf4 λi j=>decide (j<i)
abbrev geD:=kf4 λi j=>decide (j<=i)
theorem jc2{h:CmpOp}{p:Int->Int->Bool}(k:OpR X (compareOp h) (rI0 λi j=>.bl (p i j))):OpR X (compareOp h) (rD X.K (kf4 p)):=kb7 k λn m d e=>by cases n<;>first |exact nos e | (cases m<;>first |exact nos e | (cases e;exact⟨_,_,rfl,rfl,λ_ _=>rfl⟩))
theorem wt5:OpR X (compareOp .Lt) (rD X.K ltD):=jc2 ye4
theorem yl0:OpR X (compareOp .LtE) (rD X.K leD):=jc2 ye3
theorem yk8:OpR X (compareOp .Gt) (rD X.K gtD):=jc2 ye2
theorem yd3:OpR X (compareOp .GtE) (rD X.K geD):=jc2 ye1
def ixD:D->D->Option D
 | .lst e,.int i=>atI e i
 | .tup e,.int i=>atI e i
 | .str z,.int i=>if z.length<=16777216 then(atI z.cps.toList i).map λk=>.str ⟨#[k]⟩ else none
 |_,_=>none
theorem jy2{S:AS}{i:Int}{d:D}(r:An K H S ds vs)(e:atI ds i=some d):∃v,atI vs i=some v/\Rep K H S d v:=by
 unfold atI at e ⊢;rw[<-r.length];cases k:ixN ds.length i with
 |none=>rw[k]at e;cases e
 |some j=>rw[k]at e;exact r.get e
theorem yk9:IxR X (rD X.K ixD):=by
 rintro value slice pins s σ H x y v u Q I A r ⟨S,L,G,d,m,B,e,q⟩ C;cases L with
 |lst J =>
  cases G with
  |int i=>revert m;refine Xe.Bu λa vs p E m=>?_;obtain rfl:=p;refine Xe.Aq (λw F j=>?_) (jy2 m e);exact wf3 value slice pins s σ H _ y v u Q I A r ⟨a,vs,i,w,rfl,B,E.sq,F,q _ H (Ag.refl _) (j.mono (Ag.refl _) λ_ z=>.inl z)⟩ C
  |_=>exact nos e
 |tup J =>
  cases G with
  |int i=>revert m;refine Xe.Bu λa vs n E m=>?_;obtain rfl:=n;refine Xe.Aq (λw F j=>?_) (jy2 m e);exact wr7 value slice pins s σ H _ y v u Q I A r ⟨a,vs,i,w,rfl,B,(TpR.sq E),F,q _ H (Ag.refl _) (j.mono (Ag.refl _) λ_ z=>.inl z)⟩ C
  |_=>exact nos e
 |str z =>
  cases G with
  |int i =>
   obtain⟨h,e⟩:z.length<=16777216/\(atI z.cps.toList i).map (λk=>D.str ⟨#[k]⟩)=some d:=by
    have e:(if z.length<=16777216 then(atI z.cps.toList i).map (λk=>D.str ⟨#[k]⟩) else none)=some d:=e;by_cases h:z.length<=16777216
    ·rw[if_pos h]at e;exact⟨h,e⟩
    ·rw[if_neg h]at e;cases e
   cases k:atI z.cps.toList i with
   |none=>rw[k]at e;cases e
   |some ch=>rw[k]at e;cases e;exact wr6 value slice pins s σ H _ y v u Q I A r ⟨z,i,ch,m,B,Gz h,k,q _ H (Ag.refl _) rfl⟩ C
  |_=>exact nos e
 |_=>exact nos e
theorem ix(j:PEd X c l a f1)(i:PEd X c l b f2)(e:jx5 b:=by exact λ_ _=>rfl):PEd X c l (.Subscript a b pos) (b2 f1 f2 ixD):=PE.imp (ye6 yk9 j i e) λ_ _ _ h=>jp4 h
theorem eq_(e:X.A.units+70<cLine)(i:PEd X c l a f1)(h:PEd X c l b f2):PEd X c l (.Compare a [.Eq] [b] pos) (b2 f1 f2 eqD):=wb4 (yd2 e) i h (Nr _)
theorem lt_(h:PEd X c l a f1)(e:PEd X c l b f2):PEd X c l (.Compare a [.Lt] [b] pos) (b2 f1 f2 ltD):=wb4 wt5 h e (Nr _)
theorem ge_(h:PEd X c l a f1)(e:PEd X c l b f2):PEd X c l (.Compare a [.GtE] [b] pos) (b2 f1 f2 geD):=wb4 yd3 h e (Nr _)
theorem in_(e:X.A.units+70<cLine)(j:PEd X c l a f1)(i:PEd X c l b f2)(h:behindInMarks .In b=false:=by with_unfolding_all rfl):PEd X c l (.Compare a [.In] [b] pos) (b2 f1 f2 inD):=wb4 (yd4 e) j i h
end
def a0:Ev->R (List D):=λ_=>.ok []
def zv(f:Ev->R D)(fs:Ev->R (List D)):Ev->R (List D):=λρ=>(f ρ).bind λx=>(fs ρ).bind λe=>.ok (x::e)
def De(xs:List D):Option D:=if xs.length<=16777216 then some (.tup xs) else none
def M5(xs:List D):Option D:=if xs.length<=16777216 then some (.lst xs) else none
def bA(fs:Ev->R (List D))(g:List D->Option D):Ev->R D:=λρ=>(fs ρ).bind λe=>R.of (g e)
def rC(K:Frag)(g:List D->Option D):List V->Hp->VK->Prop:=λe H Q=>∃S ds d,An K H S ds e/\g ds=some d/\∀z H',Ag H H'->Rep K H' (AS.plus S H) d z->Q z H'
def rCF(K:Frag)(g:List D->Option D):List V->Hp->VK->Prop:=λh H Q=>∃S ds d,An K H S ds h/\g ds=some d/\∀a vs e H',d=.lst e->Ag H H'->H a=none->H' a=some (.lst vs)->An K H' (AS.but S a) e vs->Q (.ref a) H'
section
variable {f:Ev->R D}{fs:Ev->R (List D)}{g:List D->Option D}
theorem tA0(h:tDA K c 0 l a0 σ H Q):yg5 σ H Q:=by revert h;refine Xe.Bt λe ρ E q=>?_;exact q [] H (Ag.refl _) An.nil rfl
theorem tA1{n:Nat}(h:tDA K c (n+1) l (zv f fs) σ H Q):wm6 (tD K c l f) (tDA K c n l fs) σ H Q:=by revert h;refine Xe.Bt λB ρ E q=>?_;refine Be E ((RQ.bind.mp q).mono (λC u x F i A p=>?_) λ_ z=>z);refine Dk A ((RQ.bind.mp u).mono (λds r k y j G m w=>?_) λe z=>Cz z i);exact r (x::k) y (i.trans j) (.cons (p.mono j λ_ z=>z) (m.mono (Ag.refl _) λ_ z=>Hm i z)) (by simp[w])
theorem tAg{n:Nat}{Q:VK}(h:tD K c l (bA fs g) σ H Q):tCB (rC K g) (tDA K c n l fs) σ H Q:=by revert h;refine Xe.Bt λw ρ E q=>?_;refine Dk E ((RQ.bind.mp q).mono (λds r u y i A m x=>?_) λ_ z=>z);refine Xe.Aq (λd e p=>?_) (r.of);exact⟨lvS c ρ σ H l,ds,d,m,e,λz H' j k=>p z H' (i.trans j) (k.mono (Ag.refl _) λ_ z=>Lw E i z)⟩
theorem yf8{n:Nat}{Q:VK}(h:tF K c l (bA fs g) σ H Q):tCB (rCF K g) (tDA K c n l fs) σ H Q:=by revert h;refine Xe.Bt λB ρ E q=>?_;refine Dk E ((RQ.bind.mp q).mono (λds r A F i G m C=>?_) λ_ z=>z);refine Xe.Aq (λd e p=>?_) (r.of);exact⟨lvS c ρ σ H l,ds,d,m,e,λa vs x H' y j w u k=>p a vs x H' y (i.trans j) (i.free w) u k⟩
end
variable {e:Expr}{es:List Expr}
variable {g':D->D->Option D}
section
variable {d:Expr}{h:List Expr}{f f1 f2 i:Ev->R D}{fs:Ev->R (List D)}{g:List D->Option D}
theorem an:PAd X c l [] a0:=PA.imp Mi λ_ _ _ h=>tA0 h
theorem ac(m:PEd X c l e f)(k:PAd X c l es fs)(j:starEach (e::es) X.env=(false,eval e X.env)::starEach es X.env:=by rfl):PAd X c l (e::es) (zv f fs):=PA.imp (G3 m k j) λ_ _ _ h=>tA1 h
theorem tup{x1}(h:PAd X c l es fs):PEd X c l (.Tuple es x1 pos) (bA fs De):=PE.imp (jv2 h) λσ H Q q=>by revert q;refine Xe.Bt λx ρ E q=>?_;refine Dk E ((RQ.bind.mp q).mono (λds u m A n B j y=>?_) λ_ z=>z);refine Xe.Aq (λd e r=>?_) (u.of);obtain⟨w,rfl⟩:=Bj e;refine⟨Gz (by rw[<-j.length];exact w),λp k=>r _ _ (n.trans (Ar k _)) ⟨p,m,rfl,TpR.of Ao,j.mono (Ar k _) λ_ z=>z⟩⟩
theorem kj0(h:PAd X c l es fs):PEf X c l (.List es pos) (bA fs M5):=PE.imp (wu5 h) λσ H Q q=>by revert q;refine Xe.Bt λx ρ E q=>?_;refine Dk E ((RQ.bind.mp q).mono (λds u n A k B m y=>?_) λ_ z=>z);refine Xe.Aq (λd e r=>?_) (u.of);obtain⟨w,rfl⟩:=Bj e;exact⟨Gz (by rw[<-m.length];exact w),λp j=>r p n ds _ rfl (k.trans (Ar j _)) (k.free j) Ao ((m.avoid j).mono (Ar j _) λ_ z=>z)⟩
theorem kb4{d:D}(h:bA fs M5 ρ=.ok d):∃ds,d=.lst ds:=by
 unfold bA at h;cases j:fs ρ<;>rw[j]at h<;>try cases h
 rename_i k;simp only[R.ok_bind,M5]at h;split at h
 ·cases h;exact⟨_,rfl⟩
 ·cases h
theorem lst(h:PAd X c l es fs):PEd X c l (.List es pos) (bA fs M5):=PEf.d (kj0 h) λ_ _ h=>kb4 h
theorem Yx{x:Str}{p:Pos}{m:String}(w:Eh X (.builtin m) (rC X.K g))(n:bootBuiltins x=some (.builtin m))(q:X.mg x=none)(y:PAd X c l (e::es) fs)(r:Gl X x:=by rfl)(hn:x ≠ "__name__":=by decide)(k:(x == ("__debug__" : Str))=false:=by decide)
  (u:starEach (e::es) X.env=(false,eval e X.env)::starEach es X.env:=by rfl)(j:(backTo pos (starEach es X.env)).any (·.1)=false:=by rfl):PEd X c l (.Call (.Name x p) (e::es) [] pos) (bA fs g):=
 PE.imp (R1 w r q n y hn k u j) λ_ _ _ h=>tAg h
theorem kn6{x:Str}{p:Pos}{m:String}(w:Eh X (.builtin m) (rCF X.K g))(n:bootBuiltins x=some (.builtin m))(q:X.mg x=none)(y:PAd X c l (e::es) fs)(r:Gl X x:=by rfl)(hn:x ≠ "__name__":=by decide)(k:(x == ("__debug__" : Str))=false:=by decide)
  (u:starEach (e::es) X.env=(false,eval e X.env)::starEach es X.env:=by rfl)(j:(backTo pos (starEach es X.env)).any (·.1)=false:=by rfl):PEf X c l (.Call (.Name x p) (e::es) [] pos) (bA fs g):=
 PE.imp (R1 w r q n y hn k u j) λ_ _ _ h=>yf8 h
theorem wz2{x:Str}{p:Pos}{T:String}(u:Eh X (.type T) (rC X.K g))(m:bootBuiltins x=some (.type T))(n:X.mg x=none)(w:PAd X c l (e::es) fs)(q:Gl X x:=by rfl)(hn:x ≠ "__name__":=by decide)(k:(x == ("__debug__" : Str))=false:=by decide)
  (r:starEach (e::es) X.env=(false,eval e X.env)::starEach es X.env:=by rfl)(j:(backTo pos (starEach es X.env)).any (·.1)=false:=by rfl):PEd X c l (.Call (.Name x p) (e::es) [] pos) (bA fs g):=
 PE.imp (Hf u q n m w hn k r j) λ_ _ _ h=>tAg h
theorem wo4{x:Str}{p:Pos}{T:String}(u:Eh X (.type T) (rCF X.K g))(m:bootBuiltins x=some (.type T))(n:X.mg x=none)(w:PAd X c l (e::es) fs)(q:Gl X x:=by rfl)(hn:x ≠ "__name__":=by decide)(k:(x == ("__debug__" : Str))=false:=by decide)
  (r:starEach (e::es) X.env=(false,eval e X.env)::starEach es X.env:=by rfl)(j:(backTo pos (starEach es X.env)).any (·.1)=false:=by rfl):PEf X c l (.Call (.Name x p) (e::es) [] pos) (bA fs g):=
 PE.imp (Hf u q n m w hn k r j) λ_ _ _ h=>yf8 h
def Ci:List D->Option D
 | [.lst j]=>some (.int j.length)
 | [.tup j]=>some (.int j.length)
 | [.str z]=>if z.length<=16777216 then some (.int z.length) else none
 |_=>none
theorem wy7:Eh X (.builtin "len") (rC X.K Ci):=by
 rintro pins s σ H y j Q I r ⟨S,ds,d,k,e,q⟩;obtain⟨p,rfl⟩:=inv1 e rfl (λx _ _=>by cases x<;>rfl);cases p with
 |lst ys=>cases e;obtain⟨v,rfl,a,vs,rfl,n,m⟩:=k.one;have:=m.length;exact Q9 pins s σ H _ j Q I r ⟨a,vs,rfl,.inl n.sq,q _ H (Ag.refl _) (by rw[<-this];rfl)⟩
 |tup ys=>cases e;obtain⟨v,rfl,a,vs,rfl,n,m⟩:=k.one;have:=m.length;exact Q9 pins s σ H _ j Q I r ⟨a,vs,rfl,.inr (TpR.sq n),q _ H (Ag.refl _) (by rw[<-this];rfl)⟩
 |str z=>obtain⟨w,rfl⟩:=Bj e;obtain⟨v,rfl,u⟩:=k.one;cases(show v=.str z from u);exact Z9 pins s σ H _ j Q I r ⟨z,rfl,Gz w,q _ H (Ag.refl _) rfl⟩
 |_=>exact nos e
def Rw:List D->Option D
 | [.lst j]=>some (.lst j)
 | [.tup j]=>some (.lst j)
 |_=>none
theorem wo1:Eh X (.type "list") (rCF X.K Rw):=by
 rintro pins s σ H y n Q I r ⟨S,ds,d,u,e,q⟩;obtain⟨w,rfl⟩:=inv1 e rfl (λx _ _=>by cases x<;>rfl);cases w with
 |lst ys=>cases e;obtain⟨v,rfl,a,vs,rfl,m,k⟩:=u.one;exact Ra pins s σ H _ n Q I r ⟨a,vs,rfl,.inl m.sq,λp j=>q p vs ys _ rfl (Ar j _) j Ao ((k.avoid j).mono (Ar j _) λ_ z=>z)⟩
 |tup ys=>cases e;obtain⟨v,rfl,a,vs,rfl,m,k⟩:=u.one;exact Ra pins s σ H _ n Q I r ⟨a,vs,rfl,.inr (TpR.sq m),λp j=>q p vs ys _ rfl (Ar j _) j Ao ((k.avoid j).mono (Ar j _) λ_ z=>z)⟩
 |_=>exact nos e
def Di:List D->Option D
 | [.lst j]=>some (.tup j)
 | [.tup j]=>some (.tup j)
 |_=>none
theorem wb1:Eh X (.type "tuple") (rC X.K Di):=by
 rintro pins s σ H y m Q I r ⟨S,ds,d,n,e,q⟩;obtain⟨w,rfl⟩:=inv1 e rfl (λx _ _=>by cases x<;>rfl);cases w with
 |lst ys=>cases e;obtain⟨v,rfl,a,vs,rfl,j,k⟩:=n.one;exact O8 pins s σ H _ m Q I r ⟨a,vs,rfl,.inl ⟨j.sq,λp u=>q _ _ (Ar u _) ⟨p,vs,rfl,TpR.of Ao,k.mono (Ar u _) λ_ z=>.inl z⟩⟩⟩
 |tup ys=>cases e;obtain⟨v,rfl,a,vs,rfl,j,k⟩:=n.one;exact O8 pins s σ H _ m Q I r ⟨a,vs,rfl,.inr ⟨(TpR.sq j),q _ H (Ag.refl _) ⟨a,vs,rfl,j,k.mono (Ag.refl _) λ_ z=>.inl z⟩⟩⟩
 |_=>exact nos e
def minD:List D->Option D
 | [.int i,.int j]=>some (.int (if j<i then j else i))
 |_=>none
def maxD:List D->Option D
 | [.int i,.int j]=>some (.int (if j>i then j else i))
 |_=>none
theorem wy9(B:X.calm=true):Eh X (.builtin "min") (rC X.K minD):=by
 rintro pins s σ H C p Q I r ⟨S,ds,d,w,e,q⟩;obtain⟨n,m,rfl⟩:=inv2 e rfl (λx=>by cases x<;>rfl) (λx y _ _=>by cases x<;>first |rfl | (cases y<;>rfl));cases n with
 |int i =>
  cases m with
  |int j=>cases e;refine Xe.Bu (λv u k A z=>?_) (w.two);obtain rfl:=k;cases(show v=.int i from A);cases(show u=.int j from z);exact kf3 B pins s σ H _ p Q I r ⟨i,j,rfl,q _ H (Ag.refl _) rfl⟩
  |_=>exact nos e
 |_=>exact nos e
theorem wy8(B:X.calm=true):Eh X (.builtin "max") (rC X.K maxD):=by
 rintro pins s σ H C p Q I r ⟨S,ds,d,w,e,q⟩;obtain⟨n,m,rfl⟩:=inv2 e rfl (λx=>by cases x<;>rfl) (λx y _ _=>by cases x<;>first |rfl | (cases y<;>rfl));cases n with
 |int i =>
  cases m with
  |int j=>cases e;refine Xe.Bu (λv u k A z=>?_) (w.two);obtain rfl:=k;cases(show v=.int i from A);cases(show u=.int j from z);exact kf2 B pins s σ H _ p Q I r ⟨i,j,rfl,q _ H (Ag.refl _) rfl⟩
  |_=>exact nos e
 |_=>exact nos e
theorem Hs(k:X.mg "len" = none){p:Pos}(q:PAd X c l (e::es) fs)(m:Gl X "len":=by rfl)(n:starEach (e::es) X.env=(false,eval e X.env)::starEach es X.env:=by rfl)(j:(backTo pos (starEach es X.env)).any (·.1)=false:=by rfl):
  PEd X c l (.Call (.Name "len" p) (e::es) [] pos) (bA fs Ci):=Yx wy7 PySem.boot_len k q m (by decide) (by decide) n j
def wx3:D->Option Bool
 | .bl k=>some k
 | .int i=>some (i != 0)
 | .non=>some false
 | .tup j=>some (!j.isEmpty)
 | .lst j=>some (!j.isEmpty)
 | .str x=>if x.length<=16777216 then some ((x.length:Int) != 0) else none
 | .exc _ _ _=>none
def X8:D->Option Bool
 | .bl k=>some k
 |_=>none
def tt(f:Ev->R D):Ev->R Bool:=λρ=>(f ρ).bind λd=>R.of (wx3 d)
def tb(f:Ev->R D):Ev->R Bool:=λρ=>(f ρ).bind λd=>R.of (X8 d)
theorem Rt{S:AS}(r:An K H S ds vs):(!ds.isEmpty) = !vs.isEmpty:=by have:=r.length;cases ds<;>cases vs<;>simp at this ⊢
theorem tst(F:PEd X c l a f)(C:∀whole,isTrue a X.env whole=(do let v <-whole;standAt a.pos;holding [v] (truthy v)):=by intro _;rfl):PTd X c a (tt f):=PT.imp (kx4 F C) λσ H Q q=>by
 revert q;refine Xe.Bt λJ ρ E q=>?_;refine Be E ((RQ.bind.mp q).mono (λG A x I w L j=>?_) λ_ z=>z);refine Xe.Aq (λk e y=>?_) (A.of);refine⟨k,?_,y I w⟩;cases G with
 |non=>cases(show x=.non from j);cases e;rfl
 |bl b=>cases(show x=.bl b from j);cases e;rfl
 |int i=>cases(show x=.int i from j);cases e;rfl
 |str z=>cases(show x=.str z from j);obtain⟨B,rfl⟩:=Bj e;exact⟨Gz B,rfl⟩
 |tup ys=>revert j;refine Xe.Bu λp vs n u r=>?_;obtain rfl:=n;cases e;exact .inr (.inl ⟨vs,(TpR.sq u),Rt r⟩)
 |lst ys=>revert j;refine Xe.Bu λp vs m u r=>?_;obtain rfl:=m;cases e;exact .inl ⟨vs,u.sq,Rt r⟩
 |exc _ _ _=>cases e
theorem wm5{t:TE}{Q:Bool->Hp->Prop}(i:∀Q,tD K c l f σ H Q->t σ H Q)(h:tDT K c (tb f) σ H Q):t σ H λx H'=>∃k,x=.bl k/\Q k H':=by apply i;revert h;refine Xe.Bt λw ρ E q=>?_;refine Be E ((RQ.bind.mp q).mono (λr p x u j y m=>?_) λ_ z=>z);refine Xe.Aq (λk e n=>?_) (p.of);cases r<;>first | (cases e;exact⟨k,m,n u j⟩) |cases e
theorem jw8{j:CmpOp}{g:D->D->Option D}(k:OpR X (compareOp j) (rD X.K g))(p:PEd X c l a f1)(n:PEd X c l b f2)(m:behindInMarks j b=false):PTd X c (.Compare a [j] [b] pos) (tb (b2 f1 f2 g)):=
 PT.imp (wi7 k p n m) λσ H Q q=>wm5 (λQ h=>jp4 h) q
theorem teq(j:X.A.units+70<cLine)(m:PEd X c l a f1)(k:PEd X c l b f2):PTd X c (.Compare a [.Eq] [b] pos) (tb (b2 f1 f2 eqD)):=jw8 (yd2 j) m k (Nr _)
theorem tne(j:X.A.units+70<cLine)(m:PEd X c l a f1)(k:PEd X c l b f2):PTd X c (.Compare a [.NotEq] [b] pos) (tb (b2 f1 f2 neD)):=jw8 (yl1 j) m k (Nr _)
theorem tlt(k:PEd X c l a f1)(j:PEd X c l b f2):PTd X c (.Compare a [.Lt] [b] pos) (tb (b2 f1 f2 ltD)):=jw8 wt5 k j (Nr _)
theorem tgt(k:PEd X c l a f1)(j:PEd X c l b f2):PTd X c (.Compare a [.Gt] [b] pos) (tb (b2 f1 f2 gtD)):=jw8 yk8 k j (Nr _)
theorem tge(k:PEd X c l a f1)(j:PEd X c l b f2):PTd X c (.Compare a [.GtE] [b] pos) (tb (b2 f1 f2 geD)):=jw8 yd3 k j (Nr _)
theorem tin(j:X.A.units+70<cLine)(n:PEd X c l a f1)(m:PEd X c l b f2)(k:behindInMarks .In b=false:=by with_unfolding_all rfl):PTd X c (.Compare a [.In] [b] pos) (tb (b2 f1 f2 inD)):=jw8 (yd4 j) n m k
theorem yg9(j:X.A.units+70<cLine)(n:PEd X c l a f1)(m:PEd X c l b f2)(k:behindInMarks .NotIn b=false:=by with_unfolding_all rfl):PTd X c (.Compare a [.NotIn] [b] pos) (tb (b2 f1 f2 Ye)):=jw8 (yd7 j) n m k
def ch(f1 f2 i:Ev->R D)(g g':D->D->Option D):Ev->R D:=λρ=>(f1 ρ).bind λx=>(f2 ρ).bind λy=>(R.of (g x y)).bind λz=>(R.of (X8 z)).bind λk=>if k then(i ρ).bind λw=>R.of (g' y w) else .ok (.bl false)
theorem wx1{g:D->D->Option D}{Q:VK}(h:tD K c l (ch f1 f2 i g g') σ H Q):kz0 (rD K g) (rD K g') (tD K c l f1) (tD K c l f2) (tD K c l i) σ H Q:=by
 revert h;refine Xe.Bt λhs ρ E q=>?_;refine Be E ((RQ.bind.mp q).mono (λdx q1 x H1 u E1 M=>?_) λ_ z=>z);refine Be E1 ((RQ.bind.mp q1).mono (λC U y H2 A E2 L=>?_) λe z=>Cz z u);refine Xe.Aq (λB e T=>?_) ((RQ.bind.mp U).of);refine Xe.Aq (λk e2 p=>?_) ((RQ.bind.mp T).of);have n:=L.mono (Ag.refl _) (λ_ z=>Hm u z:∀o,lvS c ρ σ H1 l o->lvS c ρ σ H l o);refine⟨lvS c ρ σ H l,dx,C,B,M.mono A (λ_ z=>z),n,e,λz H3 m J=>?_⟩;cases B<;>try cases e2
 refine⟨k,J,?_⟩;have j:=u.trans A;have E3:=E2.mono m;cases k with
 |false=>rw[if_neg (by decide)]at p ⊢;exact p _ H3 (j.trans m) rfl
 |true=>rw[if_pos rfl]at p ⊢;refine Be E3 ((RQ.bind.mp p).mono (λdw P w H4 r E4 I=>?_) λe z=>Cz z (j.trans m));refine Xe.Aq (λd e3 O=>?_) (P.of);refine⟨lvS c ρ σ H l,C,dw,d,n.mono (m.trans r) (λ_ z=>z),I.mono (Ag.refl _) (λ_ z=>Hm (j.trans m) z),e3,λz H' F G=>?_⟩;exact O z H' (((j.trans m).trans r).trans F) (G.mono (Ag.refl _) λ_ z=>Lw E ((j.trans m).trans r) z)
theorem wx2{k j:CmpOp}{g:D->D->Option D}(n:OpR X (compareOp k) (rD X.K g))(m:OpR X (compareOp j) (rD X.K g'))(w:PEd X c l a f1)(u:PEd X c l b f2)(r:PEd X c l d i)
  (p:lastMarks [k,j] [b,d]=false:=by with_unfolding_all rfl):PTd X c (.Compare a [k,j] [b,d] pos) (tb (ch f1 f2 i g g')):=PT.imp (kx3 n m w u r p) λσ H Q q=>wm5 (λQ h=>wx1 h) q
def nt(f:Ev->R Bool):Ev->R Bool:=λρ=>(f ρ).bind λk=>.ok (!k)
def tan(f g:Ev->R Bool):Ev->R Bool:=λρ=>(f ρ).bind λk=>if k then g ρ else .ok false
def tor(f g:Ev->R Bool):Ev->R Bool:=λρ=>(f ρ).bind λk=>if k then .ok true else g ρ
variable {t u:Ev->R Bool}
abbrev PWd(X:Cx)(c:DC)(e:Expr)(f:Ev->R Bool):Prop:=PW X e (tDT X.K c f)
theorem kz3(n:PTd X c a t):PTd X c (.UnaryOp .Not a pos) (nt t):=PT.imp (wv4 n) λσ H Q q=>by revert q;refine Xe.Bt λr ρ E q=>?_;exact J1 E ((RQ.bind.mp q).mono (λk m p j _=>m p j) λ_ z=>z)
theorem yg8(j:PTd X c a t):PWd X c (.BoolOp .And [a] pos) t:=wi8 j
theorem kz4(j:PTd X c a t):PWd X c (.BoolOp .Or [a] pos) t:=wv7 j
theorem yn2(w:PTd X c a t)(r:PWd X c (.BoolOp .And (b::h) pos) u):PWd X c (.BoolOp .And (a::b::h) pos) (tan t u):=PW.imp (wv6 w r) λσ H Q q=>by
 revert q;refine Xe.Bt λB ρ E q=>?_;refine J1 E ((RQ.bind.mp q).mono (λk m y j A=>?_) λ_ z=>z);cases k with
 |false=>rw[if_neg (by decide)];exact m y j
 |true=>rw[if_pos rfl];exact J1 A ((show RQ (u ρ) _ _ from m).mono (λk p x n _=>p x (j.trans n)) λe z=>Cz z j)
theorem kl6(w:PTd X c a t)(r:PWd X c (.BoolOp .Or (b::h) pos) u):PWd X c (.BoolOp .Or (a::b::h) pos) (tor t u):=PW.imp (ye9 w r) λσ H Q q=>by
 revert q;refine Xe.Bt λB ρ E q=>?_;refine J1 E ((RQ.bind.mp q).mono (λk m y j A=>?_) λ_ z=>z);cases k with
 |true=>rw[if_pos rfl];exact m y j
 |false=>rw[if_neg (by decide)];exact J1 A ((show RQ (u ρ) _ _ from m).mono (λk p x n _=>p x (j.trans n)) λe z=>Cz z j)
theorem Z0(h:PWd X c e t):PTd X c e t:=h.pt
def va(f g:Ev->R D):Ev->R D:=λρ=>(f ρ).bind λd=>(R.of (X8 d)).bind λk=>if k then g ρ else .ok (.bl false)
def vo(f g:Ev->R D):Ev->R D:=λρ=>(f ρ).bind λd=>(R.of (X8 d)).bind λk=>if k then .ok (.bl true) else g ρ
def vn(f:Ev->R D):Ev->R D:=λρ=>(f ρ).bind λd=>(R.of (X8 d)).bind λk=>.ok (.bl (!k))
theorem v1{op}(h:PEd X c l a f):PEd X c l (.BoolOp op [a] pos) f:=wu7 h
theorem wk9(B:PEd X c l a f1)(A:PEd X c l (.BoolOp .And (b::h) pos) f2):PEd X c l (.BoolOp .And (a::b::h) pos) (va f1 f2):=PE.imp (wu2 B A) λσ H Q q=>by
 revert q;refine Xe.Bt λJ ρ E q=>?_;refine Be E ((RQ.bind.mp q).mono (λC y x G j I r=>?_) λ_ z=>z);refine Xe.Aq (λk e m=>?_) ((RQ.bind.mp y).of);cases C<;>try cases e
 refine⟨k,r,?_⟩;cases k with
 |false=>rw[if_neg (by decide)]at m ⊢;exact m _ G j rfl
 |true=>rw[if_pos rfl]at m ⊢;exact Be I (m.mono (λd w v F n L p=>w v F (j.trans n) (p.mono (Ag.refl _) λ_ z=>Hm j z)) λe z=>Cz z j)
theorem vor(B:PEd X c l a f1)(A:PEd X c l (.BoolOp .Or (b::h) pos) f2):PEd X c l (.BoolOp .Or (a::b::h) pos) (vo f1 f2):=PE.imp (ye7 B A) λσ H Q q=>by
 revert q;refine Xe.Bt λJ ρ E q=>?_;refine Be E ((RQ.bind.mp q).mono (λC y x G j I r=>?_) λ_ z=>z);refine Xe.Aq (λk e m=>?_) ((RQ.bind.mp y).of);cases C<;>try cases e
 refine⟨k,r,?_⟩;cases k with
 |true=>rw[if_pos rfl]at m ⊢;exact m _ G j rfl
 |false=>rw[if_neg (by decide)]at m ⊢;exact Be I (m.mono (λd w v F n L p=>w v F (j.trans n) (p.mono (Ag.refl _) λ_ z=>Hm j z)) λe z=>Cz z j)
theorem yn4(r:PEd X c l a f1):PEd X c l (.UnaryOp .Not a pos) (vn f1):=PE.imp (wu6 r) λσ H Q q=>by
 revert q;refine Xe.Bt λA ρ E q=>?_;refine Be E ((RQ.bind.mp q).mono (λw p x y j B m=>?_) λ_ z=>z);refine Xe.Aq (λk e n=>?_) ((RQ.bind.mp p).of);cases w<;>try cases e
 exact⟨k,m,n _ y j rfl⟩
def ife(t:Ev->R Bool)(f g:Ev->R D):Ev->R D:=λρ=>(t ρ).bind λk=>if k then f ρ else g ρ
theorem ifx{d:Expr}(y:PTd X c d t)(B:PEd X c l a f1)(A:PEd X c l b f2):PEd X c l (.IfExp d a b pos) (ife t f1 f2):=PE.imp (kw4 y B A) λσ H Q q=>by
 revert q;refine Xe.Bt λF ρ E q=>?_;refine J1 E ((RQ.bind.mp q).mono (λk m G j x=>?_) λ_ z=>z);cases k with
 |true=>rw[if_pos rfl]at m ⊢;exact Be x (m.mono (λd r v w n C p=>r v w (j.trans n) (p.mono (Ag.refl _) λ_ z=>Hm j z)) λe z=>Cz z j)
 |false=>rw[if_neg (by decide)]at m ⊢;exact Be x (m.mono (λd r v w n C p=>r v w (j.trans n) (p.mono (Ag.refl _) λ_ z=>Hm j z)) λe z=>Cz z j)
end
def tDO(K:Frag)(c:DC)(f:Ev->R (Option Int)):TO:=λσ H Q=>∃h ρ,Bg K c h ρ σ H/\RQ (f ρ) (λo=>∀H',Ag H H'->Q o H') (λe=>∀v H',Ag H H'->Rep K H' (lvS c ρ σ H .any) e v->c.Ex e v H')
abbrev POd(X:Cx)(c:DC)(e:Option Expr)(f:Ev->R (Option Int)):Prop:=PO X e (tDO X.K c f)
theorem PO.imp{e:Option Expr}{t t':TO}(h:PO X e t)(i:∀σ H Q,t' σ H Q->t σ H Q):PO X e t':=λpins s σ H Q I q=>h pins s σ H Q I (i σ H Q q)
def p0:Ev->R (Option Int):=λ_=>.ok none
def isI:D->Option (Option Int)
 | .int i=>some (some i)
 |_=>none
def p1(f:Ev->R D):Ev->R (Option Int):=λρ=>(f ρ).bind λd=>R.of (isI d)
def cutD(xs:List D)(lo hi:Option Int):List D:=(xs.drop (HT.sIx xs.length 0 lo)).take (HT.sIx xs.length xs.length hi - HT.sIx xs.length 0 lo)
def bS(f:Ev->R D)(lo hi:Ev->R (Option Int))(g:D->Option Int->Option Int->Option D):Ev->R D:=λρ=>(f ρ).bind λx=>(lo ρ).bind λi=>(hi ρ).bind λj=>R.of (g x i j)
variable {p2:Pos}
section
variable {lo hi:Option Expr}{f:Ev->R D}{h i:Ev->R (Option Int)}
theorem pn:POd X c none p0:=PO.imp wi4 λσ H Q ⟨j,ρ,E,q⟩=>q H (Ag.refl _)
theorem ps(h:PEd X c l e f):POd X c (some e) (p1 f):=PO.imp (wi5 h) λσ H Q q=>by
 revert q;refine Xe.Bt λw ρ E q=>?_;refine Be E ((RQ.bind.mp q).mono (λr p x u j y m=>?_) λ_ z=>z);refine Xe.Aq (λk e n=>?_) (p.of);cases r<;>try cases e
 exact⟨_,m,n u j⟩
theorem An.cut{S:AS}(r:An K H S ds vs)(lo hi:Option Int):An K H S (cutD ds lo hi) (jg8 vs lo hi):=by unfold cutD jg8;rw[r.length];exact(r.drop _).take _
theorem jp5{j:List Hd}{k:Ev->R (Option Int)}{Q:Option Int->Hp->Prop}(E:Bg K c j ρ σ H)
  (h:RQ (k ρ) (λb=>∀H',Ag H H'->Bg K c j ρ σ H'->Q b H') (λe=>∀v H',Ag H H'->Rep K H' (lvS c ρ σ H .any) e v->c.Ex e v H')):tDO K c k σ H Q:=
 ⟨j,ρ,E,h.mono (λd q H' s=>q H' s (E.mono s)) λ_ q=>q⟩
end
variable {i:Nat}
variable {j:Nat}
section
variable {hs:List Hd}{d:D}{v:V}
theorem Dt{o:Option D}(h:j≠i):live (ρ.set i o) j↔live ρ j:=by unfold live;rw[jAz (Ne.symm h)]
theorem kk2(hi:i∉c.O){o:Option D}{w:Option V}{a:Addr}:owned c (ρ.set i o) (σ.set i w) a↔owned c ρ σ a:=by
 unfold owned;constructor
 ·rintro⟨j,k,m,e⟩;have h:j≠i:=λz=>hi (z ▸ k);rw[Dt h]at m;rw[jAz (Ne.symm h)]at e;exact⟨j,k,m,e⟩
 ·rintro⟨j,k,m,e⟩;have h:j≠i:=λz=>hi (z ▸ k);refine⟨j,k,(Dt h).mpr m,?_⟩;rw[jAz (Ne.symm h)];exact e
theorem jx4(hi:i∉c.O){o:Option D}{w:Option V}:c.N (ρ.set i o) (σ.set i w)=c.N ρ σ:=by funext x;unfold DC.N;simp only[kk2 hi]
theorem Bg.set(E:Bg K c hs ρ σ H)(hi:i∉c.O)(r:Rep K H (c.N ρ σ) d v):Bg K c hs (ρ.set i (some d)) (σ.set i (some v)) H where
 same:=E.same
 len:=by simp[E.len]
 own:=λj d' hj hd=>by have hne:j≠i:=λz=>hi (z ▸ hj);rw[jAz (Ne.symm hne)]at hd ⊢;rw[jx4 hi];exact E.own j d' hj hd
 apart:=λj k a hj hk lj lk e1 e2=>by have hj':j≠i:=λz=>hi (z ▸ hj);have hk':k≠i:=λz=>hi (z ▸ hk);rw[jAz (Ne.symm hj')]at e1;rw[jAz (Ne.symm hk')]at e2;exact E.apart j k a hj hk ((Dt hj').mp lj) ((Dt hk').mp lk) e1 e2
 oth:=λj d' hj hd=>by
  rw[jx4 hi];by_cases hne:j=i
  ·subst hne;by_cases hlt:j<ρ.length
   ·rw[jCn hlt]at hd;cases hd;exact⟨v,by rw[jCn (by rw[<-E.len];exact hlt)],r⟩
   ·rw[jCs (by simpa using hlt)]at hd;cases hd
  ·rw[jAz (Ne.symm hne)]at hd ⊢;exact E.oth j d' hj hd
 held:=λp hp=>by rw[jx4 hi];exact E.held p hp
 excl:=E.excl
theorem Bg.setW{a:Addr}{d:D}(E:Bg K c hs ρ σ H)(hi:i∈c.O)(s:Ag H H')(B:H a=none)(r:Ep K H' (AS.but (c.N ρ σ) a) d a):
  Bg K c hs (ρ.set i (some d)) (σ.set i (some (.ref a))) H':=by
 have sub:∀o,AS.but (c.N ρ σ) a o->c.N (ρ.set i (some d)) (σ.set i (some (.ref a))) o:=λo ⟨⟨h1,U⟩,T⟩=>by
  refine⟨h1,λb I ⟨j,q,C,e⟩=>?_⟩
  by_cases m:j=i
  ·subst m
   rw[jHe]at e
   simp only[if_true]at e
   split at e
   ·cases e;exact T I
   ·cases e
  ·rw[jAz (Ne.symm m)]at e
   exact U b I ⟨j,q,(Dt m).mp C,e⟩
 have conv:∀{y v},Rep K H (c.N ρ σ) y v->Rep K H' (c.N (ρ.set i (some d)) (σ.set i (some (.ref a)))) y v:=λh=>(h.avoid B).mono s sub
 refine⟨E.same.trans s,by simp[E.len],λj y q u=>?_,λj k b q L C J F x=>?_,λj y q u=>?_,λP G=>⟨(E.held P G).1,(E.held P G).1.mono s sub ((E.held P G).1.avoid B (E.held P G).2)⟩,λb I z=>E.excl b I (s.free z)⟩
 ·by_cases m:j=i
  ·subst m
   by_cases A:j<ρ.length
   ·rw[jCn A]at u
    cases u
    exact⟨a,by rw[jCn (by rw[<-E.len];exact A)],⟨E.same.free B,λM=>E.excl a M B⟩,r.mono (Ag.refl _) sub⟩
   ·rw[jCs (by simpa using A)]at u
    cases u
  ·rw[jAz (Ne.symm m)]at u ⊢
   refine Xe.G6 (λb x e4 e5=>?_) (E.own j y q u)
   exact⟨b,x,e4,(e5.avoid B).mono s sub⟩
 ·have hold:∀j,j∈c.O->j≠i->live (ρ.set i (some d)) j->(σ.set i (some (.ref a)))[j]? = some (some (.ref b))->∃o,H b=some o:=λj q m C e=>by
   rw[jAz (Ne.symm m)]at e
   have⟨y,u⟩:=(Dt m).mp C
   refine Xe.G6 (λb' x _ e3=>?_) (E.own j y q u)
   rw[e]at x;cases x
   exact e3.has
  have self:∀j,j=i->(σ.set i (some (.ref a)))[j]? = some (some (.ref b))->b=a:=λj m e=>by
   subst m
   rw[jHe]at e
   simp only[if_true]at e
   split at e
   ·cases e;rfl
   ·cases e
  by_cases p:j=i
  ·by_cases n:k=i
   ·rw[p,n]
   ·have:=self j p F
    subst this
    have⟨ws,e⟩:=hold k L n J x
    rw[B]at e;cases e
  ·by_cases n:k=i
   ·have:=self k n x
    subst this
    have⟨ws,e⟩:=hold j q p C F
    rw[B]at e;cases e
   ·rw[jAz (Ne.symm p)]at F
    rw[jAz (Ne.symm n)]at x
    exact E.apart j k b q L ((Dt p).mp C) ((Dt n).mp J) F x
 ·have m:j≠i:=λz=>q (z ▸ hi)
  rw[jAz (Ne.symm m)]at u ⊢
  refine Xe.Aq (λw F x=>?_) (E.oth j y q u)
  exact⟨w,F,conv x⟩
theorem Bg.setO{a:Addr}(E:Bg K c hs ρ σ H)(hi:i∈c.O)(s:Ag H H')(k:H a=none)(h:H' a=some (.lst vs))(r:An K H' (AS.but (c.N ρ σ) a) ds vs):
  Bg K c hs (ρ.set i (some (.lst ds))) (σ.set i (some (.ref a))) H':=E.setW hi s k (.inl ⟨vs,ds,rfl,h,r⟩)
theorem Bg.writeW{a:Addr}{d d':D}(E:Bg K c hs ρ σ H)(hi:i∈c.O)(G:ρ[i]? = some (some d))(n:σ[i]? = some (some (.ref a)))
  (conv:∀d v,Rep K H (c.N ρ σ) d v->Rep K (upd H a o') (c.N ρ σ) d v)(B:∀d b,b≠a->Ep K H (c.N ρ σ) d b->Ep K (upd H a o') (c.N ρ σ) d b)(A:∀P,ke3 P->P H (c.N ρ σ)->P (upd H a o') (c.N ρ σ))
  (r:Ep K (upd H a o') (c.N ρ σ) d' a):Bg K c hs (ρ.set i (some d')) σ (upd H a o'):=by
 have U:owned c ρ σ a:=⟨i,hi,⟨_,G⟩,n⟩
 have F:i<ρ.length:=(jAl.mp G).1
 have u:∀j,live (ρ.set i (some d')) j↔live ρ j:=λj=>by
  by_cases h:j=i
  ·subst h
   unfold live
   rw[jCn F,G]
   exact⟨λ_=>⟨_,rfl⟩,λ_=>⟨_,rfl⟩⟩
  ·exact Dt h
 have eN:c.N (ρ.set i (some d')) σ=c.N ρ σ:=by
  funext x
  unfold DC.N owned
  simp only[u]
 have C:c.H0 a=none/\a∉c.Z:=by
  refine Xe.G6 (λb q M _=>?_) (E.own i _ hi G)
  rw[n]at q;cases q
  exact M
 refine⟨λb o e=>?_,by simp[E.len],λj d' y m=>?_,λj k b y hk lj lk T q=>?_,λj d' y m=>?_,λp J=>?_,λb I z=>?_⟩
 ·rw[Aj (Bv e C.1)]
  exact E.same b o e
 ·rw[eN]
  by_cases h:j=i
  ·subst h
   rw[jCn F]at m
   cases m
   exact⟨a,n,C,r⟩
  ·rw[jAz (Ne.symm h)]at m
   refine Xe.G6 (λb q M e5=>?_) (E.own j d' y m)
   have I:b≠a:=λz=>h (E.apart j i a y hi ⟨_,m⟩ ⟨_,G⟩ (z ▸ q) n)
   exact⟨b,q,M,B _ _ I e5⟩
 ·exact E.apart j k b y hk ((u j).mp lj) ((u k).mp lk) T q
 ·rw[eN]
  have h:j≠i:=λz=>y (z ▸ hi)
  rw[jAz (Ne.symm h)]at m
  refine Xe.Aq (λw T q=>?_) (E.oth j d' y m)
  exact⟨w,T,conv _ _ q⟩
 ·rw[eN]
  exact⟨(E.held p J).1,A p (E.held p J).1 (E.held p J).2⟩
 ·have L:b≠a:=λe=>C.2 (e ▸ I)
  rw[Aj L]at z
  exact E.excl b I z
theorem Bg.notN{a:Addr}{d:D}(E:Bg K c hs ρ σ H)(hi:i∈c.O)(k:ρ[i]? = some (some d))(h:σ[i]? = some (some (.ref a))):¬ c.N ρ σ (some a):=λz=>z.2 a rfl ⟨i,hi,⟨_,k⟩,h⟩
theorem Bg.write{a:Addr}{es:List D}(E:Bg K c hs ρ σ H)(hi:i∈c.O)(p:ρ[i]? = some (some (.lst ds)))(k:σ[i]? = some (some (.ref a)))(n:H a=some (.lst vs))(r:An K H (c.N ρ σ) es ws):
  Bg K c hs (ρ.set i (some (.lst es))) σ (upd H a (.lst ws)):=by
 have m:=E.notN hi p k;exact E.writeW hi p k (λ_ _ h=>h.wr n m) (λ_ _ q h=>h.wr n m q) (λ_ st h=>st.wr n m h) (.inl ⟨ws,es,rfl,Ao,r.wr n m⟩)
theorem Bg.writeD{a:Addr}{d:D}{cc:Str}{fs:List D}(E:Bg K c hs ρ σ H)(hi:i∈c.O)(q:ρ[i]? = some (some d))(k:σ[i]? = some (some (.ref a)))(p:H a=some o)(m:Yb o=true)(u:Q4 (upd H a o') cc ks a ws)(r:An K H (c.N ρ σ) fs ws):
  Bg K c hs (ρ.set i (some (.exc cc ks fs))) σ (upd H a o'):=by
 have n:=E.notN hi q k;exact E.writeW hi q k (λ_ _ h=>h.wrD p m n) (λ_ _ w h=>h.wrD p m n w) (λ_ st h=>st.wrD p m n h) (.inr ⟨ws,cc,ks,fs,rfl,u,r.wrD p m n⟩)
theorem Bg.hold{P:Hd}(E:Bg K c hs ρ σ H)(st:ke3 P)(h:P H (c.N ρ σ)):Bg K c (P::hs) ρ σ H:=
 ⟨E.same,E.len,E.own,E.apart,E.oth,λx k=>(jAe.mp k).elim (λe=>by subst e;exact⟨st,h⟩) (E.held x),E.excl⟩
theorem Bg.unhold{P:Hd}(E:Bg K c (P::hs) ρ σ H):Bg K c hs ρ σ H:=
 ⟨E.same,E.len,E.own,E.apart,E.oth,λx h=>E.held x (jAb _ h),E.excl⟩
end
def sq(g k:Ev->R Fl):Ev->R Fl:=λρ=>(g ρ).bind λm=>match m with
 | .nx h=>k h
 |o=>.ok o
def nop:Ev->R Fl:=λρ=>.ok (.nx ρ)
def asg(i:Nat)(f:Ev->R D):Ev->R Fl:=λρ=>(f ρ).bind λd=>.ok (.nx (ρ.set i (some d)))
def Bx(f:Ev->R D):Ev->R Fl:=λρ=>(f ρ).bind λd=>.ok (.rt d)
def ifS(t:Ev->R Bool)(Z h:Ev->R Fl):Ev->R Fl:=λρ=>(t ρ).bind λk=>if k then Z ρ else h ρ
def drp(f:Ev->R D):Ev->R Fl:=λρ=>(f ρ).bind λ_=>.ok (.nx ρ)
def X4(i:Nat)(f:Ev->R D):Ev->R Fl:=λρ=>match ρ[i]? with
 |some (some (.lst ds))=>(f ρ).bind λd=>if ds.length<16777216 then .ok (.nx (ρ.set i (some (.lst (ds++[d]))))) else .bad
 |_=>.bad
variable {pos' apos cpos:Pos}
section
variable {st:Stmt}{h:List Stmt}{f:Ev->R D}{g m n:Ev->R Fl}{t:Ev->R Bool}
theorem Fb{k:List Hd}(E:Bg K c k ρ σ H){x:D}(h:ji1 K c x):∀v H',Ag H H'->Rep K H' (lvS c ρ σ H .any) x v->c.Ex x v H':=
 λv H' s r=>h v H' (E.same.trans s) r
theorem sn:Z4 X c [] nop:=PSs.imp wi6 λD σ H ⟨k,ρ,E,q⟩=>q σ H E
theorem sc(x:PSd X c st m)(w:Z4 X c h n):Z4 X c (st::h) (sq m n):=PSs.imp (jm6 x w) λD σ H q=>by
 revert q;refine Xe.Bt λr ρ E q=>?_;refine⟨r,ρ,E,(RQ.bind.mp q).mono (λy p=>?_) λ_ z=>z⟩;cases y with
 |nx k=>exact λu H' A=>⟨r,k,A,p⟩
 |rt d=>exact p
 |bk k=>exact p
 |ct k=>exact p
theorem s1(k:PSd X c st m):Z4 X c [st] m:=jc9 k
theorem Gh(i:Nat){x:Str}(u:X.N.Nodup)(A:PEd X c .no e f)(hi:c.O.contains i=false:=by rfl)(B:X.N[i]? = some x:=by rfl)(w:Loc X.env.scope x:=by first |exact Or.inl rfl |exact Or.inr rfl)(k:swapsWith e (some (.Name x pos')) pos.line X.env=pure false:=by rfl)
  (y:X.fn x=true\/X.env.scope.names.lookup x=some .local:=by first |exact .inl rfl |exact .inr rfl):PSd X c (.Assign [.Name x pos'] e pos) (asg i f):=PS.imp (jv7 (i:=i) u B w A k y) λD σ H q=>by
 revert q;refine Xe.Bt λk ρ E q=>?_;refine Be E ((RQ.bind.mp q).mono (λd r v C G F p=>?_) λx z=>Fb E z);exact r _ C (F.set (by simpa using hi) p)
theorem jn5(i:Nat){x:Str}(u:X.N.Nodup)(A:PEf X c .no e f)(hi:c.O.contains i=true:=by rfl)(C:X.N[i]? = some x:=by rfl)(w:Loc X.env.scope x:=by first |exact Or.inl rfl |exact Or.inr rfl)(p:swapsWith e (some (.Name x pos')) pos.line X.env=pure false:=by rfl)
  (z:X.fn x=true\/X.env.scope.names.lookup x=some .local:=by first |exact .inl rfl |exact .inr rfl)(hl:∀ρ d,f ρ=.ok d->∃ds,d=.lst ds:=by intros;first |exact kb4 (by assumption) |exact wb2 (by assumption) |exact slL_lst (by assumption)):PSd X c (.Assign [.Name x pos'] e pos) (asg i f):=PS.imp (jv7 (i:=i) u C w A p z) λD σ H q=>by
 revert q;refine Xe.Bt λp ρ E q=>?_;refine⟨p,ρ,E,?_⟩;have q:=RQ.bind.mp q;cases k:f ρ with
 |ok d=>rw[k]at q;obtain⟨ds,rfl⟩:=hl ρ d k;intro a vs G H' F s B y r;cases F;exact q _ H' (E.setO (by simpa using hi) s B y r)
 |exc x=>rw[k]at q;exact Fb E q
 |bad=>rw[k]at q;exact q
theorem Dd(r:PEd X c .any e f):PSd X c (.Return (some e) pos) (Bx f):=PS.imp (jv6 r) λD σ H q=>by revert q;refine Xe.Bt λA ρ E q=>?_;refine Be E ((RQ.bind.mp q).mono (λd p v u y w k=>?_) λx z=>Fb E z);exact p v u w.same k
theorem if_{d:Expr}{as bs:List Stmt}(w:PTd X c d t)(A:Z4 X c as m)(y:Z4 X c bs n):PSd X c (.If d as bs pos) (ifS t m n):=PS.imp (ye8 w A y) λD σ H q=>by
 revert q;refine Xe.Bt λr ρ E q=>?_;refine J1 E ((RQ.bind.mp q).mono (λk p C B u=>?_) λx z=>Fb E z);cases k with
 |true=>rw[if_pos rfl]at p ⊢;exact⟨r,ρ,u,p⟩
 |false=>rw[if_neg (by decide)]at p ⊢;exact⟨r,ρ,u,p⟩
theorem ex_(r:PEd X c .any e f)(k:swapsWith e none pos.line X.env=pure false:=by rfl):PSd X c (.Expr e pos) (drp f):=PS.imp (R4 r k) λD σ H q=>by revert q;refine Xe.Bt λk ρ E q=>?_;refine Be E ((RQ.bind.mp q).mono (λd p v u y w A=>?_) λx z=>Fb E z);exact p σ u w
theorem wn5(i:Nat){x:Str}{p:Pos}(he:PEd X c .no e f)(hi:c.O.contains i=true:=by rfl)(hN:X.N[i]? = some x:=by rfl)(hv:Vis X.env.scope x:=by first |exact Or.inl rfl |exact Or.inr (Or.inl rfl) |exact Or.inr (Or.inr rfl))(C:(x == ("__debug__" : Str))=false:=by decide)
  (L:(x == ("__classdict__" : Str))=false:=by decide)(w:attributeBase (.Name x p) "append" X.env (eval (.Name x p) X.env)=eval (.Name x p) X.env:=by rfl)
  (A:((backTo cpos (starEach [e] X.env)).all (λx=>!x.1) && (backToKw cpos (keywordEach [] X.env)).all (λx=>x.1.isSome)
   && decide ([e].length+([]:List Keyword).length+(if([]:List Keyword).isEmpty then 0 else 1)<30))=true:=by rfl)
  (u:(apos.endLine == cpos.line)=true:=by rfl)(J:starEach [e] X.env=(false,eval e X.env)::starEach [] X.env:=by rfl)(k:(backTo cpos (starEach [] X.env)).any (·.1)=false:=by rfl)
  (I:swapsWith (.Call (.Attribute (.Name x p) "append" apos) [e] [] cpos) none pos.line X.env=pure false:=by rfl):
  PSd X c (.Expr (.Call (.Attribute (.Name x p) "append" apos) [e] [] cpos) pos) (X4 i f):=
 PS.imp (R4 (kb9 PySem.F.plainAttrs_list PySem.F.slot_list_append PySem.F.type_list_append Zi (pv i hN hv C L) (G3 he Mi J) w A u J k) I) λD σ H q=>by
 revert q;refine Xe.Bt λJ ρ E q=>?_;have y:i∈c.O:=by simpa using hi
 unfold X4 at q;split at q
 ·rename_i ds C;refine Xe.wc0 (λa vs aa e0 T M e3 r=>?_) (E.ownL i _ y C);cases e0;refine⟨.ref a,T,.inl ⟨rfl,vs,SqL.of M⟩,?_⟩;refine Be E ((RQ.bind.mp q).mono (λd B v H1 G E1 U=>?_) λx z=>Fb E z);by_cases P:ds.length<16777216
  ·rw[if_pos P]at B;have l:=r.length;refine⟨a,vs,v,rfl,rfl,G _ _ M,by rw[sizeLine_eq];omega,?_⟩;exact B σ _ (E1.write y C T (G _ _ M) ((r.mono G λ_ z=>z).append (.cons U An.nil)))
  ·rw[if_neg P]at B;exact B.elim
 ·exact q.elim
end
def tDG(K:Frag)(c:DC)(g:D->Ev->R Ev):TG:=λv σ H Q=>∃m ρ d,Bg K c m ρ σ H/\Rep K H (c.N ρ σ) d v/\RQ (g d ρ) (λk=>∀h,Bg K c m k h H->Q h H) (λ_=>False)
def ym2(K:Frag)(c:DC)(g:List D->Ev->R Ev):TGs:=λvs σ H Q=>∃m ρ ds,Bg K c m ρ σ H/\An K H (c.N ρ σ) ds vs/\RQ (g ds ρ) (λk=>∀h,Bg K c m k h H->Q h H) (λ_=>False)
abbrev PGd(X:Cx)(c:DC)(t:Expr)(g:D->Ev->R Ev):Prop:=PG X t (tDG X.K c g)
abbrev wa4(X:Cx)(c:DC)(ts:List Expr)(g:List D->Ev->R Ev):Prop:=PGs X ts (ym2 X.K c g)
theorem PG.imp{t t':TG}(h:PG X e t)(i:∀v σ H Q,t' v σ H Q->t v σ H Q):PG X e t':=λpins s σ H v u Q I r q=>h pins s σ H v u Q I r (i v σ H Q q)
variable {J:List Nat}
section
variable {f:Ev->R D}
def gN(i:Nat):D->Ev->R Ev:=λd ρ=>.ok (ρ.set i (some d))
def Gm:List Nat->List D->Ev->R Ev
 | [],[],ρ=>.ok ρ
 |i::J,d::ds,ρ=>Gm J ds (ρ.set i (some d))
 |_,_,_=>.bad
def gT(J:List Nat):D->Ev->R Ev:=λd ρ=>match d with
 | .tup ds=>Gm J ds ρ
 | .lst ds=>Gm J ds ρ
 |_=>.bad
theorem tn(i:Nat){x:Str}(h:X.N.Nodup)(hi:c.O.contains i=false:=by rfl)(n:X.N[i]? = some x:=by rfl)(k:Loc X.env.scope x:=by first |exact Or.inl rfl |exact Or.inr rfl)(m:X.fn x=true\/X.env.scope.names.lookup x=some .local:=by first |exact .inl rfl |exact .inr rfl):
  PGd X c (.Name x pos) (gN i):=PG.imp (kc0 h n k m) λv σ H Q q=>by
 revert q;refine Xe.kp2 λp ρ d E r q=>?_;exact q _ (E.set (by simpa using hi) r)
theorem tsn:wa4 X c [] (Gm []):=λpins s σ H vs h Q I r q=>by
 revert q;refine Xe.kp2 λm ρ ds E k q=>?_;cases ds with
 |nil=>refine wi1 pins s σ H vs h Q I r ⟨k,q σ E⟩
 |cons d ds=>exact q.elim
theorem tsc(i:Nat){x:Str}{p:Pos}(A:X.N.Nodup)(L:wa4 X c es (Gm J))(hi:c.O.contains i=false:=by rfl)(G:X.N[i]? = some x:=by rfl)(B:Loc X.env.scope x:=by first |exact Or.inl rfl |exact Or.inr rfl)(F:X.fn x=true\/X.env.scope.names.lookup x=some .local:=by first |exact .inl rfl |exact .inr rfl)
  (C:(assignEach (.Name x p::es) X.env).map (·.2)=assign (.Name x p) X.env::(assignEach es X.env).map (·.2):=by rfl):wa4 X c (.Name x p::es) (Gm (i::J)):=λpins s σ H vs u Q I r q=>by
 revert q;refine Xe.kp2 λn ρ ds E z q=>?_;cases ds with
 |nil=>exact q.elim
 |cons d ds =>
  revert z;refine Xe.Bu λv h m y w=>?_;obtain rfl:=m;refine kw7 (kc0 A G B F) L C pins s σ H _ u Q I r ⟨v,h,rfl,?_⟩;have k:i∉c.O:=by simpa using hi
  exact⟨n,_,ds,E.set k y,by rw[jx4 k];exact w,q⟩
def yb8(K:Frag)(n:Nat)(t:TGs):TG:=λv σ H Q=>∃a h,v=.ref a/\(SqT K H a h\/SqL K H a h)/\h.length=n/\t h σ H Q
theorem wi0{k:Nat}{t:TGs}{n:Nat}(B:X.calm=true)(h:PGs X es t)
  (hn:(assignEach es X.env).length=n:=by rfl)(m:(assignEach es X.env).findIdx? (·.1)=none:=by rfl):PG X (.Tuple es k pos) (yb8 X.K n t):=by
 intro pins s σ H v u Q I r w;revert w;refine Xe.X7 λa y C q A w=>?_;rcases q with q |q
 ·exact wu9 B h hn m pins s σ H v u Q I r ⟨a,y,C,q,A,w⟩
 subst C;cases r;refine Xe.G6 (λx z p L=>?_) (I.list q);rw[assign_Tuple];refine jZa (wpAny_standAt ?_);unfold unpack;rw[show(assignEach es X.env).length=x.toArray.size by simp[hn,<-A,z.length],m];refine jZa (wpAny_holding (W.kun_itemsOf (I.ok.hd B) p.isList λF E=>?_));have G:Inv X pins σ H {s with heap:=F}:=I.kept (t':=s.toks) λb o e=>E b o (jAv (jAr e)) e;exact h pins _ σ H y _ Q G (by simpa using z) w
theorem Ui{Q:Ev->Prop}{e:D->Prop}:∀(J:List Nat)(ds:List D)(ρ:Ev)(q:RQ (Gm J ds ρ) Q e),J.length=ds.length
 | [],[],_,_=>rfl
 | [],_::_,_,q=>q.elim
 |_::_,[],_,q=>q.elim
 |i::J,d::ds,ρ,q=>by have:J.length=ds.length:=Ui J ds _ q;simp[this]
theorem tT{k n:Nat}(z:X.calm=true)(h:wa4 X c es (Gm J))(hl:J.length=n:=by rfl)(hn:(assignEach es X.env).length=n:=by rfl)(w:(assignEach es X.env).findIdx? (·.1)=none:=by rfl):PGd X c (.Tuple es k pos) (gT J):=
 PG.imp (wi0 (n:=n) z h hn w) λv σ H Q q=>by
 revert q;refine Xe.kp2 λy ρ d E r q=>?_;cases d with
 |tup ds=>revert r;refine Xe.Bu λa vs u x m=>?_;obtain rfl:=u;have:=Ui J ds ρ q;exact⟨a,vs,rfl,.inl (TpR.sq x),by rw[<-m.length,<-this,hl],y,ρ,ds,E,m,q⟩
 |lst ds=>revert r;refine Xe.Bu λa vs p x m=>?_;obtain rfl:=p;have:=Ui J ds ρ q;exact⟨a,vs,rfl,.inr x.sq,by rw[<-m.length,<-this,hl],y,ρ,ds,E,m,q⟩
 |_=>exact q.elim
def wn6(g:D->Ev->R Ev)(f:Ev->R D):Ev->R Fl:=λρ=>(f ρ).bind λd=>(g d ρ).bind λh=>.ok (.nx h)
theorem RQ.noex{k:Type}{r:R k}{q:k->Prop}{e:D->Prop}(h:RQ r q e)(hn:∀x,r≠.exc x):RQ r q Y:=by
 cases r with
 |ok a=>exact h
 |exc x=>exact absurd rfl (hn x)
 |bad=>exact h
theorem Zw:∀(J:List Nat)(ds:List D)(ρ:Ev)(x:D),Gm J ds ρ≠.exc x
 | [],[],_,_=>by simp[Gm]
 |i::J,d::ds,ρ,x=>by rw[Gm];exact Zw J ds _ x
 | [],_::_,_,_=>by simp[Gm]
 |_::_,[],_,_=>by simp[Gm]
theorem kq9(J:List Nat):∀(d:D)(ρ:Ev)(x:D),gT J d ρ≠.exc x:=λd ρ x=>by
 cases d<;>simp[gT]
 all_goals exact Zw J _ ρ x
theorem kq8(i:Nat):∀(d:D)(ρ:Ev)(x:D),gN i d ρ≠.exc x:=λd ρ x=>by simp[gN]
theorem yf7{h:Expr}{g:D->Ev->R Ev}(y:PGd X c h g)(A:PEd X c .no e f)(hn:∀d ρ x,g d ρ≠.exc x:=by first |exact kq9 _ |exact kq8 _)(m:swapsWithSole [h] e pos.line X.env=pure false:=by rfl)(w:swappedStores [h] e X.env=pure none:=by rfl)
  (B:(assignEach [h] X.env).map (·.2)=[assign h X.env]:=by rfl):PSd X c (.Assign [h] e pos) (wn6 g f):=PS.imp (wv2 A y m w B) λD σ H q=>by
 revert q;refine Xe.Bt λm ρ E q=>?_;refine Be E ((RQ.bind.mp q).mono (λd u v C I F p=>?_) λx z=>Fb E z);exact⟨m,ρ,d,F,p,((RQ.bind.mp u).mono (λn r k G=>r k C G) λ_ z=>z).noex (hn d ρ)⟩
end
structure ItD(K:Frag)(J:It)(ds:List D)(P:Hd):Prop where
 stab:ke3 P
 go:∀(i:Nat)(H:Hp)(S:AS),i<ds.length->P H S->J.go i H
 yld:∀(i:Nat)(H:Hp)(S:AS)(x:V)(H':Hp),P H S->J.yld i H x H'->Ag H H'/\∀d,ds[i]? = some d->Rep K H' S d x
 stop:∀(i:Nat)(H:Hp)(S:AS),ds.length<=i->P H S->J.stop i H
def tDI(K:Frag)(c:DC)(l:Lv)(f:Ev->R (List D)):TI:=λσ H Q=>∃h ρ,Bg K c h ρ σ H/\RQ (f ρ) (λds=>∀J P H',Ag H H'->ItD K J ds P->P H' (lvS c ρ σ H l)->Q J H') (λe=>∀v H',Ag H H'->Rep K H' (lvS c ρ σ H .any) e v->c.Ex e v H')
abbrev PId(X:Cx)(c:DC)(l:Lv)(h e:Expr)(f:Ev->R (List D)):Prop:=PI X h e (tDI X.K c l f)
theorem PI.imp{k:Expr}{t t':TI}(h:PI X k e t)(i:∀σ H Q,t' σ H Q->t σ H Q):PI X k e t':=λpins s σ H Q I q=>h pins s σ H Q I (i σ H Q q)
def La:D->Option (List D)
 | .lst ds=>some ds
 | .tup ds=>some ds
 |_=>none
def itS(f:Ev->R D):Ev->R (List D):=λρ=>(f ρ).bind λd=>R.of (La d)
def Ph:List D->Option (List D)
 | [.int j]=>if -(2 ^ 62)<=j/\j<2 ^ 62 then some ((List.range j.toNat).map λ(k:Nat)=>.int (0+(k:Int))) else none
 |_=>none
def itR(h:List D->Option (List D))(fs:Ev->R (List D)):Ev->R (List D):=λρ=>(fs ρ).bind λk=>R.of (h k)
variable {tg:Expr}
variable {lo:Int}
section
variable {f:Ev->R D}{fs:Ev->R (List D)}
def yk1(K:Frag)(m:TE):TI:=λσ H R=>m σ H λx h=>∃a,x=.ref a/\(((∃k,SqL K h a k)/\R (Itl K a) h)\/((∃k,SqT K h a k)/\R (Itt K a) h))
theorem wv0{z:TE}(hl:PE X e z):PI X tg e (yk1 X.K z):=by
 intro pins s σ H R I h;refine thG (hl pins s σ H _ I h) λv k x A m E r=>?_;revert r;refine Xe.Aq λa u r=>?_;obtain rfl:=u;cases E;rcases r with ⟨⟨B,w⟩,q⟩ | ⟨⟨B,w⟩,q⟩
 ·refine Xe.G6 (λn C p F=>?_) (m.list w);refine wpAny_pyIter_list p.isList ?_;refine⟨k.heap.objs.size,[k.heap.objs.size],_,_,A,rfl,m.kept (t':=k.toks) λb o e=>jAc _ e,km0 a _,⟨_,jAp _ rfl,rfl,rfl⟩,λb y=>?_,q⟩;have e:b=k.heap.objs.size:=by simpa using y
  subst e;exact m.fpOk (jAg _) (m.hok.fresh (jAg _))
 ·refine Xe.G6 (λn C p F=>?_) (m.tuple w);refine wpAny_pyIter_tuple (show k.heap.IsTuple a n.toArray from p) ?_;refine⟨k.heap.objs.size,[k.heap.objs.size],_,_,A,rfl,m.kept (t':=k.toks) λb o e=>jAc _ e,jx3 a _,⟨_,jAp _ rfl,rfl,rfl⟩,λb y=>?_,q⟩;have e:b=k.heap.objs.size:=by simpa using y
  subst e;exact m.fpOk (jAg _) (m.hok.fresh (jAg _))
theorem jo5{a:Addr}:ke3 λH S=>LsR K H S a vs/\An K H S ds vs:=
 ⟨λs q h=>⟨h.1.same s q,h.2.mono s q⟩,λm k h=>⟨h.1.wr m k,h.2.wr m k⟩,λm p k h=>⟨h.1.wrD m (Wr p) k,h.2.wrD m p k⟩,λn h=>⟨h.1.avoid n,h.2.avoid n⟩⟩
theorem jo6{a:Addr}:ke3 λH S=>SqT K H a vs/\An K H S ds vs:=
 ⟨λs q h=>⟨Ag.sqT s h.1,h.2.mono s q⟩,λk n h=>⟨ww6 k h.1,h.2.wr k n⟩,λk m n h=>⟨wk2 k (Ws m) (ks1 m) h.1,h.2.wrD k m n⟩,λp h=>⟨h.1,h.2.avoid p⟩⟩
theorem we9{a:Addr}:ItD K (Itl K a) ds λH S=>LsR K H S a vs/\An K H S ds vs where
 stab:=jo5
 go:=λi H S hi h=>by refine Xe.Aq (λv hv _=>?_) (h.2.get (jAa hi));exact⟨vs,v,h.1.sq,hv⟩
 yld:=λi H S x H' h y=>by obtain⟨rfl,y⟩:=y;refine⟨Ag.refl _,λd hd=>?_⟩;refine Xe.Aq (λv hv rv=>?_) (h.2.get hd);have:=y vs h.1.sq;rw[hv]at this;cases this;exact rv
 stop:=λi H S hi h=>⟨vs,h.1.sq,by rw[<-h.2.length];exact hi⟩
theorem wf1{a:Addr}:ItD K (Itt K a) ds λH S=>SqT K H a vs/\An K H S ds vs where
 stab:=jo6
 go:=λi H S hi h=>by refine Xe.Aq (λv hv _=>?_) (h.2.get (jAa hi));exact⟨vs,v,h.1,hv⟩
 yld:=λi H S x H' h y=>by obtain⟨rfl,y⟩:=y;refine⟨Ag.refl _,λd hd=>?_⟩;refine Xe.Aq (λv hv rv=>?_) (h.2.get hd);have:=y vs h.1;rw[hv]at this;cases this;exact rv
 stop:=λi H S hi h=>⟨vs,h.1,by rw[<-h.2.length];exact hi⟩
theorem wf0{n:Nat}:ItD K (Itr lo n) ((List.range n).map λ(k:Nat)=>.int (lo+(k:Int))) λ_ _=>True where
 stab:=⟨λ_ _ h=>h,λ_ _ h=>h,λ_ _ _ h=>h,λ_ h=>h⟩
 go:=λi H S hi _=>by
  have this:i<n:=by simpa using hi
  exact this
 yld:=λi H S x H' _ y=>by
  obtain⟨rfl,rfl⟩:=y;refine⟨Ag.refl _,λd hd=>?_⟩;rw[jBa]at hd;cases e:(List.range n)[i]? with
  |none=>rw[e]at hd;cases hd
  |some k=>rw[e]at hd;cases hd;have⟨h1,h2⟩:=jAl.mp e;simp at h2;subst h2;rfl
 stop:=λi H S hi _=>by
  have this:n<=i:=by simpa using hi
  exact this
theorem Hr(A:PEd X c l e f):PId X c l tg e (itS f):=PI.imp (wv0 A) λσ H Q q=>by
 revert q;refine Xe.Bt λB ρ E q=>?_;refine Be E ((RQ.bind.mp q).mono (λd y v x r C u=>?_) λ_ z=>z);refine Xe.Aq (λds e w=>?_) (y.of);cases d with
 |lst p=>cases e;revert u;refine Xe.Bu λa vs k m n=>?_;obtain rfl:=k;exact⟨a,rfl,.inl ⟨⟨vs,m.sq⟩,w _ _ x r we9 ⟨m,n⟩⟩⟩
 |tup p=>cases e;revert u;refine Xe.Bu λa vs h m n=>?_;obtain rfl:=h;exact⟨a,rfl,.inr ⟨⟨vs,(TpR.sq m)⟩,w _ _ x r wf1 ⟨(TpR.sq m),n⟩⟩⟩
 |_=>cases e
theorem jj8{p:Pos}(F:X.mg "range" = none)(G:PAd X c l [a] fs)(m:Gl X "range":=by rfl)(k:starEach [a] X.env=[(false,eval a X.env)]:=by rfl):PId X c l tg (.Call (.Name "range" p) [a] [] p2) (itR Ph fs):=
 PI.imp (kk3 m F G k) λσ H Q q=>by
 revert q;refine Xe.Bt λL ρ E q=>?_;refine Dk E ((RQ.bind.mp q).mono (λds B vs I u M y C=>?_) λ_ z=>z);refine Xe.Aq (λes e A=>?_) (B.of);obtain⟨r,rfl⟩:=inv1 e rfl (λx _ _=>by cases x<;>rfl);cases r with
 |int j=>obtain⟨n,rfl⟩:=Bj e;refine Xe.Aq (λv h w=>?_) (y.one);obtain rfl:=h;cases(show v=.int j from w);exact⟨j,rfl,n.1,n.2,A _ _ I u wf0 trivial⟩
 |_=>exact nos e
end
def Kc:List D->(D->Ev->R Ev)->(Ev->R Fl)->Ev->R Fl
 | [],_,_,ρ=>.ok (.nx ρ)
 |d::ds,g,b,ρ=>(g d ρ).bind λk=>(b k).bind λm=>match m with
  | .nx h=>Kc ds g b h
  | .ct h=>Kc ds g b h
  | .bk h=>.ok (.nx h)
  | .rt d=>.ok (.rt d)
def Tg(f:Ev->R (List D))(g:D->Ev->R Ev)(b:Ev->R Fl):Ev->R Fl:=λρ=>(f ρ).bind λds=>Kc ds g b ρ
section
variable {f:Ev->R (List D)}{g:D->Ev->R Ev}{b:Ev->R Fl}{h:List Stmt}
theorem for_(hp:PassesOwn (model X.prog X.w) X.A X.env X.xe)(hc:X.calm=true)(hg:PGd X c tg g)(he:PId X c .no tg e f)(hb:Z4 X c h b)(hn:∀d ρ x,g d ρ≠.exc x:=by first |exact kq9 _ |exact kq8 _)
  (r:∀x,foldedSetIterable e X.env x=pure x:=by intro _;rfl):PSd X c (.For tg e h [] pos) (Tg f g b):=PS.imp (wv3 hp hc he hg hb r) λD0 σ H q=>by
 revert q;refine Xe.Bt λr ρ E q=>?_;refine⟨r,ρ,E,(RQ.bind.mp q).mono (λds q1 J P H1 s1 T p1=>?_) λx z=>Fb E z⟩;have E1:=(E.mono s1).hold T.stab p1;refine⟨λi m σ H=>m=ds.length - i/\i<=ds.length/\∃ρ,Bg X.K c (P::r) ρ σ H/\RQ (Kc (ds.drop i) g b ρ) (Fl.ends X.K c r D0) (ji1 X.K c),⟨ds.length,by simp,jCr _,ρ,E1,q1⟩,?_⟩;rintro i m L I ⟨rfl,hi,C,E2,G⟩;have p2:=(E2.held P jAf).2;by_cases u:i<ds.length
 ·refine .inr ⟨T.go i I _ u p2,λk H'=>∃p,Bg X.K c (P::r) p k H'/\RQ (Kc (ds.drop (i+1)) g b p) (Fl.ends X.K c r D0) (ji1 X.K c),λk H' ⟨p,B,q'⟩=>⟨ds.length - (i+1),by omega,rfl,u,p,B,q'⟩,λx H' y=>?_⟩;have⟨s3,O⟩:=T.yld i I _ x H' p2 y;have O:=O ds[i] (jAa u);rw[jBw u,Kc]at G;refine⟨P::r,C,ds[i],E2.mono s3,O,((RQ.bind.mp G).mono (λM q3 aa E3=>?_) λ_ z=>z).noex (hn ds[i] C)⟩;refine⟨P::r,M,E3,(RQ.bind.mp q3).mono (λfl F=>?_) λ_ z=>z⟩;cases fl with
  |nx n=>exact λk H' B=>⟨n,B,F⟩
  |ct n=>exact λk H' B=>⟨n,B,F⟩
  |bk n=>exact λk H' B=>F k H' B.unhold
  |rt d=>exact F
 ·have U:i=ds.length:=by omega
  subst U;rw[jCo (jAg _)]at G;exact .inl ⟨T.stop _ I _ (jAg _) p2,G L I E2.unhold⟩
end
def jr9:R Fl->R D
 | .ok (.rt d)=>.ok d
 | .ok (.nx _)=>.ok .non
 | .ok _=>.bad
 | .exc e=>.exc e
 | .bad=>.bad
def Af(n:Nat)(ds:List D):Ev:=ds.map some++List.replicate (n - ds.length) none
def Cy(n:Nat)(g:Ev->R Fl)(ds:List D):R D:=jr9 (g (Af n ds))
def sp0(K:Frag)(n:Nat)(m:List D->R D):Sp:=λvs H Q _=>vs.length=n/\∃S ds,An K H S ds vs/\RQ (m ds) (λr=>∀v H',Ag H H'->Rep K H' (AS.plus S H) r v->Q v H') (λ_=>False)
def R.nox{h:Type}:R h->R h
 | .ok a=>.ok a
 |_=>.bad
@[simp] theorem R.nox_ok{h:Type}(a:h):(R.ok a).nox=.ok a:=nr rfl
def Gn:D->V->Hp->Prop:=λ_ _ _=>False
variable {w:World}
section
variable {P:Program}{mg:Str->Option Value}{base:Heap}
theorem Ot{S:AS}{O:List Nat}{F:D->V->Hp->Prop}{N:List Str}(r:An K H S ds vs)(C:∀i∈O,vs.length<=i):Bg K ⟨H,S,O,F,[]⟩ [] (Af N.length ds) (L2.start N vs) H:=by
 have y:=r.length;have get:∀(i:Nat)(d:D),(Af N.length ds)[i]? = some (some d)->ds[i]? = some d:=λi d h=>by
  unfold Af at h;by_cases k:i<ds.length
  ·rw[jBu (by simpa using k),jBa]at h;cases e:ds[i]? with
   |none=>rw[e]at h;cases h
   |some a=>rw[e]at h;cases h;rfl
  ·rw[jBh (by simpa using k),jEe]at h;split at h<;>cases h
 have m:∀i,i∈O->¬ live (Af N.length ds) i:=λi k ⟨d,n⟩=>by have E:=get i d n;have I:=(jAl.mp E).1;have G:=C i k;lia
 refine⟨Ag.refl _,by simp[Af,L2.start,y],λi d k n=>absurd ⟨d,n⟩ (m i k),λi j a k _ u=>absurd u (m i k),λi d k n=>?_,(λP x=>by cases x),(λa B=>by cases B)⟩;refine Xe.Aq (λv e p=>?_) (r.get (get i d n));refine⟨v,?_,p.mono (Ag.refl _) λo z=>⟨.inl z,λa _ ⟨j,A,q,_⟩=>m j A q⟩⟩;unfold L2.start;have k:i<vs.length:=(jAl.mp e).1;rw[jBu (by simpa using k),jBa,e];rfl
theorem Cv{x qual:Str}{f:Addr}{C:FuncData}{N ps:List Str}{k:Nat}{O:List Nat}{g:Ev->R Fl}(F:Fun K x qual st f C)(S:Am N ps (Ad st))(M:O.all (λi=>decide (ps.length<=i))=true)
  (u:∀(n:Value)(A:Around)(m:List Env)(s:Shared)(H:Hp)(E:XK)(y:AS),Gq k (A.deeper (envOfC qual (Ad st) s.heap.objs.size f n))->(A.deeper (envOfC qual (Ad st) s.heap.objs.size f n)).units+70<cLine ->
   Z4 (V3 CX0 P w K mg base N qual (Ad st) f n A m s H E).nox ⟨H,y,O,Gn,[]⟩ (Dq st) g):
  Bq P w K mg base CX0 (k+1) f C ps (sp0 K ps.length (Cy N.length g)):=by
 refine F.ok S (λvs H Q E h=>h.1) (λn A m s H vs Q E B h=>?_);obtain⟨I,y,ds,r,q⟩:=h;refine⟨_,u n A m s H E y B (by have:=B.un;lia),[],Af N.length ds,Ot r (λi L=>?_),?_⟩
 ·have:=jAw.mp M i L;rw[I];exact of_decide_eq_true this
 ·have p:RQ (jr9 (g (Af N.length ds))) _ _:=q;cases e:g (Af N.length ds) with
  |ok T =>
   rw[e]at p;cases T with
   |nx ρ=>exact λG H' E'=>p .non H' E'.same rfl
   |rt d=>exact λv H' s r=>p v H' s (r.mono (Ag.refl _) λo z=>z.elim .inl λ⟨a,e1,U,_⟩=>.inr ⟨a,e1,U⟩)
   |bk ρ=>exact p.elim
   |ct ρ=>exact p.elim
  |exc x=>rw[e]at p;exact p.elim
  |bad=>rw[e]at p;exact p.elim
end
variable {k n:Nat}{p:Pos}{x:Str}
section
variable {fs:Ev->R (List D)}{f:Addr}{fd:FuncData}{ps:List Str}{m:List D->R D}
def cl(fs:Ev->R (List D))(m:List D->R D):Ev->R D:=λρ=>(fs ρ).bind λds=>(m ds).nox
theorem wz3(F:Bq X.prog X.w X.K X.mg X.base CX0 k f fd ps (sp0 X.K n m))(L:Gq k X.A)(O:X.mg x=some (.ref f))(T:W.keepIn X.K (.ref f)=true)(hb:Binds X.K fd ps [])(ha:PAd X c l (e::es) fs)(hn:(e::es).length=n:=by rfl)(M:ps.length=n:=by rfl)(U:Gl X x:=by rfl)
  (y:(x == ("__debug__" : Str))=false:=by decide)(he:starEach (e::es) X.env=(false,eval e X.env)::starEach es X.env:=by rfl)(u:(backTo pos (starEach es X.env)).any (·.1)=false:=by rfl):
  PEd X c l (.Call (.Name x p) (e::es) [] pos) (cl fs m):=PE.imp (Vo F L U O T hb .nil kb8 ha y he u) λσ H Q q=>by
 revert q;refine Xe.Bt λhs ρ E q=>?_;refine Dk E ((RQ.bind.mp q).mono (λds h vs H1 B E1 C P=>?_) λ_ z=>z);rw[jDa];cases r:m ds with
 |ok d =>
  rw[r]at h;refine⟨?_,lvS c ρ σ H l,ds,C,?_⟩
  ·rw[<-C.length,P,hn]
  ·rw[r];exact λv H' G I=>h v H' (B.trans G) (I.mono (Ag.refl _) λ_ z=>Lw E B z)
 |exc x=>rw[r]at h;exact h.elim
 |bad=>rw[r]at h;exact h.elim
end
def ja1(env:Env):List (Str×NameKind)->List (Str×Addr)->List (Str×Addr)
 | [],h=>h
 | (n,k)::r,h=>ja1 env r (if k == .free then(match env.cells.lookup n with |some a=>(n,a)::h |none=>h) else h)
def M9(h:Scope)(env:Env):List (Str×Addr):=ja1 env h.names []
theorem X6{m:Scope}{env:Env}(h:∀x∈m.names,x.2=.free->∃a,env.cells.lookup x.1=some a):closureFor m env=pure (M9 m env):=by
 have key:∀(l:List (Str×NameKind))(cs:List (Str×Addr)),(∀x∈l,x.2=.free->∃a,env.cells.lookup x.1=some a) ->
   (forIn l cs λ(x:Str×NameKind)(r:List (Str×Addr))=>if x.2 == .free then(do let a <-cellOf env x.1;pure (ForInStep.yield ((x.1,a)::r))) else pure (ForInStep.yield r))=(pure (ja1 env l cs):Sem _):=by
  intro l;induction l with
  |nil=>intro cs _;rfl
  |cons y r z =>
   obtain⟨n,k⟩:=y;intro cs u;rw[jHq];by_cases A:k=.free
   ·subst A;have⟨a,B⟩:=u (n,.free) jAf rfl;have E:cellOf env n=pure a:=by unfold cellOf;rw[B]
    simp only[beq_self_eq_true,if_true,E,ja1,B];exact z _ λx q=>u x (jAb _ q)
   ·have C:(k == NameKind.free)=false:=by simpa using A
    simp only[C,jBn,if_false,ja1];exact z _ λx q=>u x (jAb _ q)
 have e:closureFor m env=((forIn m.names [] λ(x:Str×NameKind)(r:List (Str×Addr))=>if x.2 == .free then(do let a <-cellOf env x.1;pure (ForInStep.yield ((x.1,a)::r))) else pure (ForInStep.yield r)) >>= λcs=>pure cs):=rfl;rw[e,key m.names [] h];rfl
theorem jr5{env:Env}{x:Str}{a:Addr}:∀{l:List (Str×NameKind)}{cs:List (Str×Addr)},(x,a)∈ja1 env l cs->env.cells.lookup x=some a\/(x,a)∈cs
 | [],_,h=>.inr h
 | (n,k)::r,cs,h=>by
  rw[ja1]at h;rcases jr5 h with h |h
  ·exact .inl h
  ·split at h
   ·split at h
    ·rename_i b m;rcases jAe.mp h with e |h
     ·cases e;exact .inl m
     ·exact .inr h
    ·exact .inr h
   ·exact .inr h
theorem G7{env:Env}{x:Str}{a:Addr}(m:env.cells.lookup x=some a):∀{l:List (Str×NameKind)}{cs:List (Str×Addr)},((x,NameKind.free)∈l\/cs.lookup x=some a)->(ja1 env l cs).lookup x=some a
 | [],_,h=>by
  rcases h with h |h
  ·cases h
  ·exact h
 | (n,k)::r,cs,h=>by
  rw[ja1];by_cases q:x=n
  ·subst q;by_cases u:k=.free
   ·subst u;refine G7 m (.inr ?_);simp[m]
   ·have y:(k == NameKind.free)=false:=by simpa using u
    rw[y];refine G7 m ?_;rcases h with h |h
    ·rcases jAe.mp h with e |h
     ·cases e;exact absurd rfl u
     ·exact .inl h
    ·exact .inr h
  ·refine G7 m ?_;have y:(x == n)=false:=by simpa using q
   rcases h with h |h
   ·rcases jAe.mp h with e |h
    ·cases e;exact absurd rfl q
    ·exact .inl h
   ·refine .inr ?_;split
    ·split
     ·rw[jCz,y];exact h
     ·exact h
    ·exact h
theorem jr2{x:Str}{a:Addr}:∀{l:List (Str×NameKind)}{n:Nat}{acc:List (Str×Addr)},(x,a)∈cellsFrom n l acc->n<=a\/(x,a)∈acc
 | [],_,_,h=>.inr h
 | (y,k)::r,n,acc,h=>by
  unfold cellsFrom at h;split at h
  ·rcases jr2 h with h |h
   ·exact .inl (by lia)
   ·rcases jAe.mp h with e |h
    ·cases e;exact .inl (jAg _)
    ·exact .inr h
  ·exact jr2 h
theorem jr1{x y:Str}{a:Addr}:∀{l:List (Str×NameKind)}{n:Nat}{acc:List (Str×Addr)},(∀x y a,(x,a)∈acc->(y,a)∈acc->x=y)->(∀y∈acc,y.2<n)->(x,a)∈cellsFrom n l acc->(y,a)∈cellsFrom n l acc->x=y
 | [],_,_,h,_,A,m=>h _ _ _ A m
 | (z,k)::r,n,acc,h,B,A,m=>by
  unfold cellsFrom at A m;by_cases E:(k == NameKind.cell)=true
  ·rw[if_pos E]at A m;refine jr1 (λu w b p q=>?_) (λy C=>?_) A m
   ·rcases jAe.mp p with e |p<;>rcases jAe.mp q with Y |q
    ·cases e;cases Y;rfl
    ·cases e;exact absurd (B _ q) (jCf _)
    ·cases Y;exact absurd (B _ p) (jCf _)
    ·exact h u w b p q
   ·rcases jAe.mp C with e |C
    ·cases e;exact jDr _
    ·exact jCt (B y C)
  ·rw[if_neg E]at A m;exact jr1 h B A m
theorem jr4{x:Str}{a:Addr}{lo:Nat}:∀{l:List (Str×NameKind)}{n:Nat}{acc:List (Str×Addr)},lo<=n->(l.lookup x=some .cell\/∀a,acc.lookup x=some a->lo<=a)->(cellsFrom n l acc).lookup x=some a->lo<=a
 | [],_,_,_,h,e=>by
  rcases h with h |h
  ·cases h
  ·exact h a e
 | (z,k)::r,n,acc,u,h,e=>by
  unfold cellsFrom at e;by_cases y:(k == NameKind.cell)=true
  ·rw[if_pos y]at e;refine jr4 (jHf u) ?_ e;cases m:x == z with
   |true=>refine .inr λb q=>?_;rw[jCz,m]at q;cases q;exact u
   |false =>
    rcases h with h |h
    ·rw[jCz,m]at h;exact .inl h
    ·refine .inr λb q=>?_;rw[jCz,m]at q;exact h b q
  ·rw[if_neg y]at e;refine jr4 u ?_ e;rcases h with h |h
   ·cases m:x == z with
    |true=>rw[jCz,m]at h;cases h;exact absurd rfl y
    |false=>rw[jCz,m]at h;exact .inl h
   ·exact .inr h
theorem V1{x:Str}:∀{l:List (Str×NameKind)}{n:Nat}{acc:List (Str×Addr)},(x,NameKind.cell)∉l->(cellsFrom n l acc).lookup x=acc.lookup x
 | [],_,_,_=>rfl
 | (z,k)::r,n,acc,h=>by
  unfold cellsFrom;by_cases m:(k == NameKind.cell)=true
  ·rw[if_pos m,V1 λq=>h (jAb _ q),jCz];have u:(x == z)=false:=by
    cases y:x == z with
    |false=>rfl
    |true =>
     have B:x=z:=by simpa using y
     have A:k=.cell:=by simpa using m
     subst B;subst A;exact absurd jAf h
   rw[u]
  ·rw[if_neg m];exact V1 λq=>h (jAb _ q)
theorem ja0{x:Str}{a:Addr}:∀{l:List (Str×NameKind)}{h:Heap}{acc:List (Str×Addr)},(x,a)∈cellsFrom h.objs.size l acc->(x,a)∈acc\/(pushCells h l).IsCell a none
 | [],_,_,q=>.inl q
 | (z,k)::r,h,acc,q=>by
  unfold cellsFrom at q;unfold pushCells;by_cases m:(k == NameKind.cell)=true
  ·rw[if_pos m]at q ⊢;have u:(x,a)∈cellsFrom (h.push {cls:=.type "cell",data:=.cell none}).objs.size r ((z,h.objs.size)::acc):=by rw[jCc];exact q
   rcases ja0 u with q |q
   ·rcases jAe.mp q with e |q
    ·cases e;exact .inr ⟨_,pushCells_keeps r _ _ _ (jAp _ rfl),rfl⟩
    ·exact .inl q
   ·exact .inr q
  ·rw[if_neg m]at q ⊢;exact ja0 q
theorem Mj{m:Scope}{env:Env}:∀{k:NameKind},(relabel m env).names.lookup x=some k->(m.names.lookup x=some k)\/(k=.cell/\m.names.lookup x=some .free):=by
 intro k h;have key:∀l:List (Str×NameKind),(l.map λ(n,k)=>if(k == NameKind.free && env.scope.kind == .function && env.kindOf n == some .cell) then(n,NameKind.cell) else(n,k)).lookup x=some k->(l.lookup x=some k)\/(k=.cell/\l.lookup x=some .free):=by
  intro l;induction l with
  |nil=>intro h;cases h
  |cons y r A =>
   obtain⟨n,u⟩:=y;intro h;have h:List.lookup x ((if(u == NameKind.free && env.scope.kind == .function && env.kindOf n == some .cell)=true then(n,NameKind.cell) else(n,u))::(r.map λ(n,k)=>if(k == NameKind.free && env.scope.kind == .function && env.kindOf n == some .cell) then(n,NameKind.cell) else(n,k)))=some k:=h;by_cases z:(u == NameKind.free && env.scope.kind == .function && env.kindOf n == some .cell)=true
   ·rw[if_pos z]at h;rw[jCz]at h ⊢;cases q:x == n with
    |true =>
     rw[q]at h;cases h;have:u=.free:=by simp only[jBg,beq_iff_eq]at z;exact z.1.1
     exact .inr ⟨rfl,by rw[this]⟩
    |false=>rw[q]at h;exact A h
   ·rw[if_neg z]at h;rw[jCz]at h ⊢;cases q:x == n with
    |true=>rw[q]at h;exact .inl h
    |false=>rw[q]at h;exact A h
 exact key m.names h
def yb5(scope:Scope)(C:Addr)(env:Env):Env:={scope:=relabel scope env,locals:=C,globals:=env.globals,cells:=cellsFrom (C+1) scope.names (M9 scope env),qual:=env.qual,func:=none,code:=env.code,frame:=env.frame,builtins:=env.builtins}
def cxB(X:Cx)(N:List Str)(h:Scope)(C:Addr)(s:Shared)(H:Hp)(ex:List Addr):Cx:=
 {X with N:=N,s₀:=s,H₀:=H,env:=yb5 h C X.env,outer:=X.stack,ex:=ex,fn:=λx=>h.names.lookup x == some .cell,pn:=[],xe:=λ_ _=>False}
variable {A:Around}{M:Model}{E:Value->Shared->Prop}
theorem wg7{h:Scope}{env:Env}{cl:List (Str×Addr)}{Q:Env->Shared->Prop}
  (q:Q (newEnv h s.heap.objs.size env.globals (cellsFrom (s.heap.objs.size+1) h.names cl) env.qual none .none (some env) builtinsNs) {s with heap:=pushCells (s.heap.push {cls:=.type "dict",data:=.dict #[] }) h.names}):
  wpAny M A (newFunctionEnv h env.globals cl [] env.qual none .none (some env)) Q E s:=by
 simp only[newFunctionEnv,jGw,if_true];refine jZa (wpAny_alloc ?_);refine jZa (wpAny_layCells _ (λname kind cells=>by cases m:kind == NameKind.cell<;>simp[m]) _ _ _ _ ?_);rw[show({s with heap:=s.heap.push {cls:=.type "dict",data:=.dict #[] } }:Shared).heap.objs.size=s.heap.objs.size+1 from jCc ..];exact jZa (jZb (jZb q))
structure Gp(X:Cx)(scope:Scope)(T:List Str)(caps:List Nat):Prop where
 kind:scope.kind=.function
 free:∀x∈scope.names,x.2=.free->X.env.kindOf x.1=some .cell\/X.env.kindOf x.1=some .free
 names:∀x∈scope.names,x.2=.local->scope.names.lookup x.1=some .local
 cap:∀j∈caps,∃x,X.N[j]? = some x/\scope.names.lookup x=some .free/\(x,NameKind.cell)∉scope.names/\(X.env.kindOf x=some .cell\/X.env.kindOf x=some .free)
def Lg(sc osc:Scope)(N:List Str)(caps:List Nat):Bool:=
 (sc.kind == .function) && sc.names.all (λx=>x.2 != .free || (osc.names.lookup x.1 == some .cell ||osc.names.lookup x.1 == some .free)) && sc.names.all (λx=>x.2 != .local ||sc.names.lookup x.1 == some .local)
  && caps.all (λj=>match N[j]? with
   |some x=>sc.names.lookup x == some .free && !(sc.names.any λy=>y.1 == x && y.2 == .cell) && (osc.names.lookup x == some .cell ||osc.names.lookup x == some .free)
   |none=>false)
theorem Gp.of{m:Scope}{T:List Str}{caps:List Nat}(h:Lg m X.env.scope X.N caps=true):Gp X m T caps:=by
 simp only[Lg,jBg,jAw,jCb,beq_iff_eq,bne_iff_ne]at h;obtain⟨⟨⟨O,L⟩,I⟩,G⟩:=h;refine⟨O,λx q r=>?_,λx q r=>?_,λj F=>?_⟩
 ·rcases L x q with z |z
  ·exact absurd r z
  ·exact z
 ·rcases I x q with z |z
  ·exact absurd r z
  ·exact z
 ·have:=G j F;cases e:X.N[j]? with
  |none=>rw[e]at this;cases this
  |some x=>rw[e]at this;simp only[jBg,jCb,beq_iff_eq,jCk,List.any_eq_false]at this;obtain⟨⟨B,y⟩,u⟩:=this;exact⟨x,rfl,B,λC=>y _ C ⟨rfl,rfl⟩,u⟩
def Ez(X:Cx)(T:List Str)(caps:List Nat):List Str:=T++caps.map λj=>(X.N[j]?).getD (Str.ofString "")
def Jk(T:List Str)(caps:List Nat)(σ:St):St:=T.map (λ_=>none)++caps.map λj=>(σ[j]?).join
def Ed(n:Nat)(caps:List Nat)(ρ:Ev):Ev:=List.replicate n none++caps.map λj=>(ρ[j]?).join
variable {fp:List Addr}{caps:List Nat}{T:List Str}{scope:Scope}
theorem Gp.clo(B:Gp X scope T caps)(I:Inv X pins σ H s):closureFor scope X.env=pure (M9 scope X.env):=X6 λx h m=>I.ok.has x.1 (B.free x h m)
theorem kh7(B:Gp X scope T caps)(I:Inv X pins σ H s)(hf:∀b∈fp,Q5 X pins H b)(hl:∀b∈fp,b<s.heap.objs.size):
  Inv (cxB X (Ez X T caps) scope s.heap.objs.size s H fp) [] (Jk T caps σ) H {s with heap:=pushCells (s.heap.push {cls:=.type "dict",data:=.dict #[] }) scope.names}:=by
 have keep:∀b o,s.heap.get? b=some o->(pushCells (s.heap.push {cls:=.type "dict",data:=.dict #[] }) scope.names).get? b=some o:=λb o e=>pushCells_keeps _ _ b o (jAc _ e);have G:∀{x a},(x,a)∈M9 scope X.env->X.env.cells.lookup x=some a:=λh=>(jr5 h).elim id λz=>by cases z
 have cut:∀{x a},(cellsFrom (s.heap.objs.size+1) scope.names (M9 scope X.env)).lookup x=some a->s.heap.objs.size+1<=a\/X.env.cells.lookup x=some a:=λh=>(jr2 (PySem.mem_of_lookup h)).elim .inl λz=>.inr (G z);have L:∀{x a},X.env.cells.lookup x=some a->a<s.heap.objs.size:=λh=>by have⟨v,z⟩:=I.cell _ _ h;exact z.lt
 refine⟨⟨I.ok.mod,B.kind,I.ok.glob,I.ok.blt,jAg _,λx y a h1 U=>?_,λx hx=>?_,λx a hx h=>?_,I.ok.hd,I.ok.frames,.inl rfl,λb O=>⟨jAv (hl b O),λx a h e=>?_⟩,I.bs,jBt I.ok.bsz I.sz,λb o e O=>?_,λb O hx=>?_,I.stack,I.stkFree⟩,
  rfl,I.bare,Un.kept keep,⟨λ_=>none,(Heap.Ns.new s.heap (.type "dict")).keeps (pushCells_keeps _ _),λi x v h1 U h3=>?_⟩,λx a h=>?_,I.hok.fresh (jAg _),λx a h=>?_,λp hp=>absurd (show p∈([]:List (Addr×Obj)) from hp) (by simp),I.hok.kept keep,?_⟩
 ·refine jr1 (λu w b p q=>I.ok.inj u w b (G p) (G q)) (λy hy=>?_) (PySem.mem_of_lookup h1) (PySem.mem_of_lookup U);exact jCt (L (G hy))
 ·have P:(relabel scope X.env).names.lookup x=some .cell\/(relabel scope X.env).names.lookup x=some .free:=hx;have hk:scope.names.lookup x=some .cell\/scope.names.lookup x=some .free:=by
   rcases P with h |h
   ·rcases Mj h with h | ⟨_,h⟩
    ·exact .inl h
    ·exact .inr h
   ·rcases Mj h with h | ⟨z,_⟩
    ·exact .inr h
    ·cases z
  rcases hk with h |h
  ·exact jEb.mp (W.cellsFrom_some scope.names _ _ (.inl h))
  ·have⟨a,ha⟩:=I.ok.has x (B.free (x,.free) (PySem.mem_of_lookup h) rfl);have:=G7 (cs:=[]) ha (.inl (PySem.mem_of_lookup h));exact jEb.mp (W.cellsFrom_some scope.names _ _ (.inr (by unfold M9;rw[this];rfl)))
 ·have P:(scope.names.lookup x == some NameKind.cell)=true:=hx;exact jFx (jr4 (jAg _) (.inl (by simpa using P)) h)
 ·rcases cut h with z |z
  ·exact absurd (jAx (hl b O) (e ▸ jFx z)) (jCf _)
  ·exact(hf b O).2.2.2.2.1 x a z e
 ·rcases(hf b O).2.2.2.1 with z |z
  ·exact I.ok.noex b o e z
  ·have h1:=jAr e;have U:=I.ok.bsz;exact absurd (jAx h1 (jBt U z)) (jCf _)
 ·rcases jAe.mp (I.stkSub b hx) with z |z
  ·exact(hf b O).2.1 z
  ·exact(hf b O).2.2.1 z
 ·have hi:T.length<=i:=by
   by_cases hi:T.length<=i
   ·exact hi
   ·exfalso;have C:(Jk T caps σ)[i]? = some (some v):=U;unfold Jk at C;rw[jBu (by simp;lia),jBa]at C;cases e:T[i]? with
    |none=>rw[e]at C;cases C
    |some t=>rw[e]at C;cases C
  have C:(Jk T caps σ)[i]? = some (some v):=U;have F:(Ez X T caps)[i]? = some x:=h1;unfold Jk at C;unfold Ez at F;rw[jBh (by simpa using hi),jAd,jBa]at C;rw[jBh hi,jBa]at F;cases ej:caps[i - T.length]? with
  |none=>rw[ej]at C;cases C
  |some j =>
   rw[ej]at F C;refine Xe.wp5 (λy hy m1 m2 m3=>?_) (B.cap j (jBv ej));have F:some ((X.N[j]?).getD (Str.ofString ""))=some x:=F;rw[hy]at F;have e1:y=x:=Option.some.inj F;subst e1;have e2:(σ[j]?).join=some v:=Option.some.inj C;have e3:σ[j]? = some (some v):=by
    cases q:σ[j]? with
    |none=>rw[q]at e2;cases e2
    |some o=>rw[q]at e2;cases o with
     |none=>cases e2
     |some w=>cases e2;rfl
   refine Xe.Aq (λm hn ab=>?_) (I.loc);have aa:Vis X.env.scope y:=by rcases m3 with z |z;exact .inr (.inl z);exact .inr (.inr z)
   refine Xe.Aq (λu r lk=>?_) (ab j y v hy e3 aa);refine⟨u,r,.inr ⟨?_,?_⟩⟩
   ·have ae:(relabel scope X.env).names.lookup y=some .local\/(relabel scope X.env).names.lookup y=some .cell\/(relabel scope X.env).names.lookup y=some .free:=h3;rcases ae with z |z |z
    ·exfalso;rcases Mj z with z | ⟨z,_⟩
     ·rw[m1]at z;cases z
     ·cases z
    ·exact .inl z
    ·exact .inr z
   ·rcases lk with ⟨k,_⟩ | ⟨k,a,ha,hc⟩
    ·rcases m3 with w |w<;>(have k':X.env.kindOf y=some .local:=k;rw[w]at k';cases k')
    ·refine⟨a,?_,hc.keeps keep⟩;show(cellsFrom (s.heap.objs.size+1) scope.names (M9 scope X.env)).lookup y=some a;rw[V1 m2];exact G7 ha (.inl (PySem.mem_of_lookup m1))
 ·have h':(x,a)∈cellsFrom (s.heap.push {cls:=.type "dict",data:=.dict #[] }).objs.size scope.names (M9 scope X.env):=by rw[jCc];exact PySem.mem_of_lookup h
  rcases ja0 h' with z |z
  ·have⟨v,q⟩:=I.cell x a (G z);exact⟨v,q.keeps keep⟩
  ·exact⟨none,z⟩
 ·rcases cut h with z |z
  ·exact I.hok.fresh (by lia)
  ·exact I.freeC x a z
 ·show(Jk T caps σ).length=(Ez X T caps).length;simp[Jk,Ez]
theorem jt2{N:List Str}{C:Addr}{m:Shared}{r:St}(I:Inv X pins σ H s)(z:C=s.heap.objs.size)(q:∀b∈fp,Q5 X pins H b)(J:Inv (cxB X N scope C s H fp) [] r H' m)(h':Heap)(y:Heap.SameBut C m.heap h'):
  Inv X pins σ H' {m with heap:=h'}:=by
 have B:Inv X pins σ H' m:=I.call' (ch:=fp) J.os J.base J.hok J.bare λb h=>⟨(q b h).2.2.2.1,(q b h).2.1,(q b h).2.2.2.2.1,(q b h).2.2.2.2.2⟩;have u:s.heap.objs.size<=C:=Nat.le_of_eq z.symm;have F:=I.fpOk (H':=H') u J.free;have:=B.turned (t':=m.toks) (h':=h') (it:=C) (λb o h e=>(y.2 b h).trans e) J.free F.2.1 F.2.2.2.1 F.2.2.2.2.1 F.2.2.2.2.2;exact this
variable {prog:Program}
section
variable {R:Result->Shared->Prop}
def cNo:Value->Shared->Prop:=λ_ _=>False
theorem thc{m:Type}{t:Sem m}{Q q:m->Shared->Prop}{M:Model}(h:wpAny M A t Q cNo s)(r:∀a s,Q a s->q a s):wpAny M A t q E s:=wpAny_mono h r λ_ _ z=>z.elim
theorem thx{m:Type}{t:Sem m}{Q q:m->Shared->Prop}{M:Model}{y:Value->Shared->Prop}(r:E=cNo)(h:wpAny M A t Q E s)(u:∀a s,Q a s->q a s):wpAny M A t q y s:=by subst r;exact thc h u
theorem nn{p:Prop}(h:(p->False)->False):p:=jBf h
def ct3(M:Model)(A:Around)(elt:Expr)(acc:Value)(env:Env)(I:Nat->Shared->Prop)(n:Nat)(ok:Bool)(s:Shared):Prop:=
 if ok=true then wpAny M A (eval elt env) (λx q=>wpAny M A (call (.builtin "list.append") [acc,x]) (λ_ h=>∃m,m<n/\I m h) cNo q) cNo s else ∃m,m<n/\I m s
def ct2(M:Model)(A:Around)(ifs:List Expr)(env:Env)(Q:Bool->Shared->Prop)(_:Unit)(s:Shared):Prop:=
 wpAny M A (forIn ifs true λc r=>if r=true then do let ok <-isTrue c env (eval c env);pure (ForInStep.yield ok) else pure (ForInStep.yield r)) Q cNo s
def ct1(M:Model)(A:Around)(target:Expr)(env:Env)(v:Value)(Q:Unit->Shared->Prop)(_:Unit)(s:Shared):Prop:=wpAny M A (assign target env v) Q cNo s
def ct0(M:Model)(A:Around)(target:Expr)(it:Value)(env:Env)(N:Shared->Prop)(Q:Unit->Shared->Prop)(r:Option Value)(s:Shared):Prop:=
 r.elim (N s) λv=>wpAny M A (letOwnedTupleGo target it v) (ct1 M A target env v Q) cNo s
theorem jg7{elt target iter:Expr}{ifs:List Expr}{scope:Scope}{it acc:Value}{env:Env}(I:Nat->Shared->Prop)
  (turn:∀n s,I n s->wpAny (model prog w) A (pyNext it) (ct0 (model prog w) A target it env (R (.ok .next)) (ct2 (model prog w) A ifs env (ct3 (model prog w) A elt acc env I n))) cNo s)
  (n:Nat)(h:I n s):
  codeAny (model prog w) A (.compLoop (.ListComp elt [⟨target,iter,ifs,0⟩] scope pos) 0 it acc env) R s:=by
 refine codeAny_loop rfl I (λn s O=>?_) n h;show wpAny _ A ((compTurn (.ListComp elt [⟨target,iter,ifs,0⟩] scope pos) 0 it acc env).onRaise (λx=>do noteFrame x env;theTreesLotGoes x)) _ _ s;refine wpAny_noted ?_;rw[compTurn_list];refine jZa (wpAny_standAt (jZa (thc (turn n s O) λr u m=>?_)));cases r with
 |none=>exact jZb m
 |some v =>
  refine jZa (thc m λ_ u m=>jZa (thc m λ_ L B=>jZa (thc B λok G q=>?_)));cases ok with
  |false=>exact jZb ⟨rfl,q⟩
  |true=>exact jZa (jZa (thc q λx F z=>jZa (thc z λ_ C y=>jZb (jZb ⟨rfl,y⟩))))
end
def TsD(X:Cx)(c:DC)(ifs:List Expr)(t:Ev->R Bool):Prop:=
 ∀(pins:List (Addr×Obj))(s:Shared)(σ:St)(H:Hp)(Q:Bool->Hp->Prop),Inv X pins σ H s->tDT X.K c t σ H Q ->
  wpAny (model X.prog X.w) X.A (forIn ifs true λc r=>if r=true then do let ok <-isTrue c X.env (eval c X.env);pure (ForInStep.yield ok) else pure (ForInStep.yield r)) (TP X pins σ Q) X.xe s
def yes:Ev->R Bool:=λ_=>.ok true
theorem ti0:TsD X c [] yes:=λpins s σ H Q I q=>by revert q;refine Xe.Bt λh ρ E q=>?_;rw[jHx];exact jZb ⟨H,I,q H (Ag.refl _)⟩
theorem ti1{t:Ev->R Bool}(h:PTd X c e t):TsD X c [e] t:=λpins s σ H Q I q=>by rw[jHq];simp only[if_true];refine jZa (jZa (thn (h pins s σ H Q I q) λk r m=>jZb ?_));show wpAny _ _ (forIn [] k _) _ _ _;rw[jHx];exact jZb m
def Ga(g:D->Ev->R Ev)(t:Ev->R Bool)(f:Ev->R D)(ρ:Ev):List D->R (List D)
 | []=>.ok []
 |d::ds=>(g d ρ).bind λh=>(t h).bind λk=>if k then(f h).bind λy=>(Ga g t f ρ ds).bind λys=>.ok (y::ys) else Ga g t f ρ ds
def Ax(it:Ev->R (List D))(n:Nat)(caps:List Nat)(g:D->Ev->R Ev)(t:Ev->R Bool)(f:Ev->R D):Ev->R D:=λρ=>(it ρ).bind λds=>((Ga g t f (Ed n caps ρ) ds).bind λh=>if h.length<=16777216 then .ok (.lst h) else .bad).nox
variable {it:Ev->R (List D)}
theorem Yy{g:D->Ev->R Ev}{t:Ev->R Bool}{d:D}(h:Ax it n caps g t f ρ=.ok d):∃ds,d=.lst ds:=by
 unfold Ax at h;cases r:it ρ<;>rw[r]at h<;>try cases h
 rename_i q;simp only[R.ok_bind]at h;cases m:Ga g t f (Ed n caps ρ) q with
 |ok ys =>
  rw[m]at h;simp only[R.ok_bind]at h;split at h
  ·cases h;exact⟨_,rfl⟩
  ·cases h
 |exc _=>rw[m]at h;cases h
 |bad=>rw[m]at h;cases h
theorem RQ.nox{m:Type}{r:R m}{q:m->Prop}{e:D->Prop}(h:RQ r.nox q e):∃a,r=.ok a/\q a:=by
 cases r with
 |ok a=>exact⟨a,rfl,h⟩
 |exc _=>exact h.elim
 |bad=>exact h.elim
theorem Bg.forget{y:List Hd}{m:Ev}(E:Bg K c y ρ σ H)(u:c.O=[])(hl:m.length=ρ.length)(h:∀(i:Nat) d,m[i]? = some (some d)->ρ[i]? = some (some d)):Bg K c y m σ H:=by
 have eN:∀r:Ev,c.N r σ=λo=>c.S o/\∀a:Addr,o=some a->True:=λr=>by funext o;unfold DC.N owned;rw[u];simp
 refine⟨E.same,hl.trans E.len,(λi d q=>by rw[u]at q;cases q),(λi j a q=>by rw[u]at q;cases q),λi d q z=>?_,λP B=>?_,E.excl⟩
 ·rw[eN,<-eN ρ];exact E.oth i d q (h i d z)
 ·rw[eN,<-eN ρ];exact E.held P B
theorem Bg.wrZ{u:List Hd}{a:Addr}(E:Bg K c u ρ σ H)(B:c.O=[])(G:c.H0 a=none)(hn:¬ c.S (some a))(y:H a=some (.lst vs)):Bg K c u ρ σ (upd H a (.lst ws)):=by
 have m:¬ c.N ρ σ (some a):=λz=>hn z.1;refine⟨λb o e=>?_,E.len,(λi d h=>by rw[B]at h;cases h),(λi j a h=>by rw[B]at h;cases h),λi d h C=>?_,λP r=>⟨(E.held P r).1,(E.held P r).1.wr y m (E.held P r).2⟩,λb F z=>?_⟩
 ·rw[Aj (Bv e G)];exact E.same b o e
 ·refine Xe.Aq (λv L I=>?_) (E.oth i d h C);exact⟨v,L,I.wr y m⟩
 ·by_cases q:b=a
  ·subst q;rw[Ao]at z;cases z
  ·rw[Aj q]at z;exact E.excl b F z
def Mw(O:List Nat)(l:Lv)(caps:List Nat):Bool:=match l with
 | .any=>true
 | .no=>caps.all λj=>!O.contains j
 | .fr=>caps.isEmpty
theorem jn6{C:List Hd}(E:Bg K c C ρ σ H)(h:Mw c.O l caps=true)(y:j∈caps){d:D}(q:ρ[j]? = some (some d)):
  ∃v,σ[j]? = some (some v)/\Rep K H (lvS c ρ σ H l) d v:=by
 cases l with
 |any =>
  by_cases m:j∈c.O
  ·refine Xe.G6 (λp u B r=>?_) (E.own j d m q);exact⟨_,u,r.rep (.inr ⟨p,rfl,B.1,B.2⟩) λ_ z=>z.1⟩
  ·refine Xe.Aq (λv u r=>?_) (E.oth j d m q);exact⟨v,u,r.mono (Ag.refl _) λ_ z=>z.1⟩
 |no =>
  have:=jAw.mp h j y;have m:j∉c.O:=by simpa using this
  exact E.oth j d m q
 |fr =>
  have:caps=[]:=by simpa[Mw] using h
  subst this;cases y
theorem jf8(n:Nat)(caps:List Nat)(ρ:Ev):(Ed n caps ρ).length=n+caps.length:=by simp[Ed]
theorem jg0(T:List Str)(caps:List Nat)(σ:St):(Jk T caps σ).length=T.length+caps.length:=by simp[Jk]
theorem Vz{d:D}(h:(Ed n caps ρ)[i]? = some (some d)):n<=i/\∃j,caps[i - n]? = some j/\ρ[j]? = some (some d):=by
 unfold Ed at h;by_cases r:n<=i
 ·refine⟨r,?_⟩;rw[jBh (by simpa using r),jDv,jBa]at h;cases e:caps[i - n]? with
  |none=>rw[e]at h;cases h
  |some j =>
   rw[e]at h;refine⟨j,rfl,?_⟩;have m:(ρ[j]?).join=some d:=Option.some.inj h;cases q:ρ[j]? with
   |none=>rw[q]at m;cases m
   |some o =>
    rw[q]at m;cases o with
    |none=>cases m
    |some u=>cases m;rfl
 ·rw[jBu (by simp;omega),jEe]at h;split at h<;>cases h
theorem jf9(hi:T.length<=i)(m:caps[i - T.length]? = some j)(h:σ[j]? = some (some v)):(Jk T caps σ)[i]? = some (some v):=by unfold Jk;rw[jBh (by simpa using hi),jAd,jBa,m];show some (σ[j]?).join=_;rw[h];rfl
variable {elt iter:Expr}{ifs:List Expr}
variable {xs:List D}{hs':List Hd}
section
variable {u:Ev->R (List D)}{g:D->Ev->R Ev}{t:Ev->R Bool}{f:Ev->R D}
inductive CI(Y:Cx)(c':DC)(P:Hd)(tn:Nat->Heap->Prop)(fp:List Addr)(a:Addr)(ρ₀:Ev)(ds xs:List D)(L:List D->R (List D))(k:Nat)(s:Shared):Prop
 |mk (i:Nat) (σ:St) (H:Hp) (acc:List D) (vs:List V) (ys:List D) (I:Inv Y [] σ H s) (st:tn i s.heap) (fr:∀b∈fp,H b=none) (hk:k=ds.length - i) (hi:i<=ds.length) (E:Bg Y.K c' [P] ρ₀ σ H)
   (hv:H a=some (.lst vs))(r:An Y.K H c'.S acc vs)(ec:L (ds.drop i)=.ok ys)(ea:acc++ys=xs):CI Y c' P tn fp a ρ₀ ds xs L k s
theorem kf5{Y:Cx}{c':DC}{P:Hd}{tn:Nat->Heap->Prop}{J:It}{it a:Addr}{h:Ev}{L:St}{I:Hp}{Rn:Result->Shared->Prop}(hx:Y.xe=cNo)(hc:Y.calm=true)
  (hg:PGd Y c' tg g)(ht:TsD Y c' ifs t)(he:PEd Y c' .any elt f)(bq:∀d ao,g d h=.ok ao->ao.length=h.length/\∀(i:Nat) d',h[i]? = some (some d')->ao[i]? = h[i]?)
  (aa:∀{H':Hp}{aw:St}{bh:Shared},Inv Y [] aw H' bh->(∀b∈fp,H' b=none)->∀b∈fp,Q5 Y [] H' b)
  (hO:c'.O=[])(h0:c'.H0 a=none)(hn:¬ c'.S (some a))
  (Tn:Turn Y.prog Y.w Y.K tg J fp it tn)(TD:ItD Y.K J ds P)(ex:Ga g t f h ds=.ok xs)(hz:xs.length<=16777216)
  (br:∀s H σ vs,Inv Y [] σ H s->Bg Y.K c' [P] h σ H->H a=some (.lst vs)->An Y.K H c'.S xs vs->Rn (.ok .next) s)
  (E0:Bg Y.K c' [P] h L I)(ha:I a=some (.lst []))(f0:∀b∈fp,I b=none){s4:Shared}(J4:Inv Y [] L I s4)(bg:tn 0 s4.heap):
  codeAny (model Y.prog Y.w) Y.A (.compLoop (.ListComp elt [⟨tg,iter,ifs,0⟩] scope pos) 0 (.ref it) (.ref a) Y.env) Rn s4:=by
 refine jg7 (CI Y c' P tn fp a h ds xs (Ga g t f h)) ?_ ds.length
  (.mk 0 _ _ [] [] xs J4 bg f0 rfl (jCr _) E0 ha An.nil ex rfl)
 intro n s5 q;refine nn λhG=>?_;obtain⟨i,ag,H5,acc,vs,ys,I5,ay,bb,hk,bx,E5,au,r5,C,ea⟩:=q;have p5:=(E5.held P jAf).2;by_cases B:i<ds.length
 ·rw[jBw B,Ga]at C;refine Xe.Aq (λah eg C=>?_) (Cu C);refine Xe.Aq (λk et C=>?_) (Cu C);have keep:=bq _ _ eg;have forget:∀{U:St}{H':Hp},Bg Y.K c' [P] ah U H'->Bg Y.K c' [P] h U H':=λE'=>E'.forget hO keep.1.symm λj d hd=>(keep.2 j d hd).trans hd;refine hG (thx (E:=cNo) rfl (Tn.item Y rfl rfl rfl hc i [] s5 ag H5 cNo I5 (aa I5 bb) ay (TD.go i H5 _ B p5)) λr s6 q=>?_);clear hG;revert q;refine Xe.Aq λu hr h6=>?_;subst hr;refine thn h6 λ_ s7 q=>?_;refine nn λhG=>?_;revert q;refine Xe.yh9 λx H7 I7 r7 y7 ai ba=>?_;have⟨ak,G⟩:=TD.yld i H5 _ x H7 p5 y7;have G:=G ds[i] (jAa B);have bc:=I7.pinned (aa I7 ba) (Tn.obj _ _ ai);have ae:∀{U:St}{H':Hp}{s':Shared},Inv Y ([]++W9 fp s7.heap) U H' s'->tn (i+1) s'.heap/\∀b∈fp,H' b=none:=λ{U H' s'} J=>by refine⟨Tn.keep _ _ _ ai λb hb o e=>(J.pin (b,o) (jAn _ (jAn _ (Lx hb e)))).1,λb hb=>?_⟩;refine Xe.Aq (λo e _=>?_) (Tn.obj _ _ ai b hb);exact(J.pin (b,o) (jAn _ (jAn _ (Lx hb e)))).2.1
  refine hG (thx hx (hg _ s7 ag H7 x u (λm H8=>H8=H7/\Bg Y.K c' [P] ah m H8) bc r7 ⟨[P],h,ds[i],E5.mono ak,G,by rw[eg];exact λm E8=>⟨rfl,E8⟩⟩) λ_ s8 q=>?_);clear hG;clear bc G y7 r7 ai ba I7 keep;revert q;refine Xe.Bu λm _ I8 bp E8=>?_;obtain rfl:=bp;refine thx hx (ht _ s8 m _ (λk' H9=>k'=k/\Ag _ H9) I8 ⟨[P],ah,E8,by rw[et];exact λH9 s9=>⟨rfl,s9⟩⟩) λk' s9 q=>?_;revert q;refine Xe.G6 λH9 I9 bo aj=>?_;obtain rfl:=bo;have az:=aj _ _ (ak _ _ au);have r9:=r5.mono (ak.trans aj) λ_ z=>z;have E9:=E8.mono aj;clear I8 E8 aj ak r5 au I5 E5 p5;cases k' with
  |false=>rw[if_neg jCd]at C;have⟨q1,q2⟩:=ae I9;exact⟨ds.length - (i+1),hk ▸ jGq _ _ B,.mk (i+1) m H9 acc vs ys I9.unpinned q1 q2 rfl B (forget E9) az r9 C ea⟩
  |true =>
   rw[if_pos rfl]at C;refine Xe.Aq (λdy ef C=>?_) (Cu C);refine Xe.Aq (λax ey C=>?_) (Cu C);cases C;refine thx hx (he _ s9 m H9 (λy F=>Ag H9 F/\Rep Y.K F c'.S dy y) I9 ⟨[P],ah,E9,by rw[ef];exact λy F aq ar=>⟨aq,ar⟩⟩) λw aq q=>?_;refine nn λhG=>?_;revert q;refine Xe.X7 λy F bt ar ab ry=>?_;have af:F a=some (.lst vs):=ab _ _ az;have hl:=r9.length;have bw:xs.length=acc.length+(ax.length+1):=by rw[<-ea];simp
   refine hG (thx hx (Zi _ aq m F (.ref a) [y] (.ref a) [w] (λ_ H'=>H'=upd F a (.lst (vs++[y]))) bt rfl (.cons ar .nil) ⟨a,vs,y,rfl,rfl,af,by rw[sizeLine_eq];lia,rfl⟩) λ_ bu q=>?_);clear hG;revert q;refine Xe.Bu λ_ _ bf _ bj=>?_;obtain rfl:=bj;have⟨q1,q2⟩:=ae bf;exact⟨ds.length - (i+1),hk ▸ jGq _ _ B,.mk (i+1) m _ (acc++[dy]) (vs++[y]) ax bf.unpinned q1 q2 rfl B (forget ((E9.mono ab).wrZ hO h0 hn af)) Ao (((r9.mono ab λ_ z=>z).append (.cons ry An.nil)).wr af hn) ey (by rw[<-ea,jAu];rfl)⟩
 ·have e:ds.drop i=[]:=jCo (by lia);rw[e,Ga]at C;cases C;rw[jDa]at ea;subst ea;refine hG (thx (E:=cNo) rfl (Tn.done Y rfl rfl rfl hc i [] s5 ag H5 cNo I5 (aa I5 bb) ay (TD.stop i H5 _ (by lia) p5)) λr s6 q=>?_);obtain⟨rfl,I6⟩:=q;exact br s6 H5 ag vs I6 E5 au r5
def Tb(H H':Hp):Prop:=∀b ps,H b=some (.tbl ps)->H' b=some (.tbl ps)
theorem Yz(B:Gp X scope T caps)(hc:X.calm=true)(hi:PId X c l tg iter u)
  (hg:∀(C:Addr)(s:Shared)(H:Hp)(ex:List Addr)(L:Hp)(S0:AS)(Z:List Addr),Tb c.H0 L->PGd (cxB X (Ez X T caps) scope C s H ex) ⟨L,S0,[],Gn,Z⟩ tg g)
  (ht:∀(C:Addr)(s:Shared)(H:Hp)(ex:List Addr)(L:Hp)(S0:AS)(Z:List Addr),Tb c.H0 L->TsD (cxB X (Ez X T caps) scope C s H ex) ⟨L,S0,[],Gn,Z⟩ ifs t)
  (he:∀(C:Addr)(s:Shared)(H:Hp)(ex:List Addr)(L:Hp)(S0:AS)(Z:List Addr),Tb c.H0 L->PEd (cxB X (Ez X T caps) scope C s H ex) ⟨L,S0,[],Gn,Z⟩ .any elt f)
  (ag:∀d ρ q,g d ρ=.ok q->q.length=ρ.length/\∀i,T.length<=i->q[i]? = ρ[i]?)(ah:Mw c.O l caps=true){ae:Pos}{use:Option (Value->Sem Unit)}{Q':Value->Shared->Prop}(hs:∀x,foldedSetIterable iter X.env x=pure x)
  (I:Inv X pins σ H s)(E:Bg X.K c hs' ρ σ H)(ar:u ρ=.ok ds)(ex:Ga g t f (Ed T.length caps ρ) ds=.ok xs)(hz:xs.length<=16777216)
  (aq:∀(a:Addr)(vs:List V)(s3 s':Shared)(H3 H':Hp)(fp:List Addr)(aj:St),Inv X pins σ H3 s3->(∀b∈fp,Q5 X pins H3 b)->Inv (cxB X (Ez X T caps) scope s3.heap.objs.size s3 H3 fp) [] aj H' s'->Ag H H'->H a=none->H' a=some (.lst vs) ->
   An X.K H' (AS.but (lvS c ρ σ H l) a) xs vs->compPost (model X.prog X.w) X.A X.xe use Q' (.ref a) s3.heap.objs.size (.ok .next) s'):
  wpAny (model X.prog X.w) X.A (comprehension (.ListComp elt [⟨tg,iter,ifs,0⟩] scope pos) scope X.env ae (newList []) false (eval iter X.env) use) Q' X.xe s:=by
 refine wpAny_comprehension_free (cl:=M9 scope X.env) rfl hs (B.clo I) B.kind B.names ?_;have hR:=hi pins s σ H (λJ r=>∃P,Ag H r/\ItD X.K J ds P/\P r (lvS c ρ σ H l)) I ⟨hs',ρ,E,by rw[ar];exact λJ P H' s1 T1 p1=>⟨P,s1,T1,p1⟩⟩;refine thn hR λv s1 h1=>thn h1 λau m h2=>?_;refine nn λhG=>?_;obtain⟨it,fp,tn,J,r,rfl,I2,Tn,aa,f2,P,sm,TD,p2⟩:=h2;refine hG (wpAny_newObj_type ?_);clear hG;have F:r m.heap.objs.size=none:=I2.fresh;have I3:=I2.lnew (t':=m.toks) (ys:=[]) (its:=[]) .nil (jCr _);generalize hD:m.heap.objs.size=a at F I3;refine wg7 ?_;have G:∀b∈fp,b<m.heap.objs.size:=λb h=>by have⟨o,e,_⟩:=Tn.obj 0 _ aa b h;exact jAr e
 have f3:∀b∈fp,Q5 X pins (upd r a (.lst [])) b:=λb h=>by have⟨z0,z⟩:=f2 b h;refine⟨?_,z⟩;rw[Aj (by rw[<-hD];exact jAv (G b h))];exact z0
 have U:Ag r (upd r a (.lst [])):=Ar F _;have Ha:H a=none:=sm.free F;have af:∀b∈fp,b<(m.heap.push {cls:=.type "list",data:=.seq ([]:List Value).toArray}).objs.size:=λb h=>by rw[jCc];exact jCt (G b h)
 have J0:=kh7 B I3 f3 af;let c':DC:=⟨r,AS.but (lvS c ρ σ H l) a,[],Gn,[a]⟩;have tb:Tb c.H0 c'.H0:=λb ps e=>sm _ _ (E.same _ _ e);have ab:¬ c'.S (some a):=by
  rintro(z | ⟨b,e,_,h⟩)
  ·exact z.2 rfl
  ·cases e;exact h (jAh.mpr rfl)
 have E0:Bg X.K c' [P] (Ed T.length caps ρ) (Jk T caps σ) (upd r a (.lst [])):=by
  have sub:∀o,AS.but (lvS c ρ σ H l) a o->c'.N (Ed T.length caps ρ) (Jk T caps σ) o:=λo z=>⟨.inl z,λb _ ⟨j,hj,_⟩=>by cases hj⟩;refine⟨U,by rw[jf8,jg0],(λi d hi=>by cases hi),(λi j a hi=>by cases hi),λi d hi hd=>?_,λP' ao=>?_,λb h=>?_⟩
  ·have⟨hn,j,ej,ed⟩:=Vz hd;have⟨v,ev,rv⟩:=jn6 E ah (jBv ej) ed;exact⟨v,jf9 hn ej ev,(rv.avoid Ha).mono (sm.trans U) sub⟩
  ·have:P'=P:=by simpa using ao
   subst this;exact⟨TD.stab,TD.stab.mono U sub (TD.stab.avoid F p2)⟩
  ·have:b=a:=jAh.mp h;subst this;rw[Ao];intro z;cases z
 have y:tn 0 (pushCells ((m.heap.push {cls:=.type "list",data:=.seq ([]:List Value).toArray}).push {cls:=.type "dict",data:=.dict #[] }) scope.names):=Tn.keep _ _ _ aa λb h o e=>pushCells_keeps _ _ b o (jAc _ (jAc _ e));have loop:∀s4,Inv (cxB X (Ez X T caps) scope (m.heap.push {cls:=.type "list",data:=.seq ([]:List Value).toArray}).objs.size {m with heap:=m.heap.push {cls:=.type "list",data:=.seq ([]:List Value).toArray} } (upd r a (.lst [])) fp) [] (Jk T caps σ) (upd r a (.lst [])) s4->tn 0 s4.heap->codeAny (model X.prog X.w) X.A (.compLoop (.ListComp elt [⟨tg,iter,ifs,0⟩] scope pos) 0 (.ref it) (.ref a) (yb5 scope (m.heap.push {cls:=.type "list",data:=.seq ([]:List Value).toArray}).objs.size X.env)) (compPost (model X.prog X.w) X.A X.xe use Q' (.ref a) (m.heap.push {cls:=.type "list",data:=.seq ([]:List Value).toArray}).objs.size) s4:=by
  intro s4 J0 y;refine kf5 (Y:=cxB X (Ez X T caps) scope (m.heap.push {cls:=.type "list",data:=.seq ([]:List Value).toArray}).objs.size {m with heap:=m.heap.push {cls:=.type "list",data:=.seq ([]:List Value).toArray} } (upd r a (.lst [])) fp) (c':=c') rfl hc (hg _ _ _ _ _ _ _ tb) (ht _ _ _ _ _ _ _ tb) (he _ _ _ _ _ _ _ tb) (λd q e=>⟨(ag d _ q e).1,λj d' hd=>(ag d _ q e).2 j (Vz hd).1⟩) (λJ hn b h=>?_) rfl F ab Tn TD ex hz (λs6 H5 ai vs I6 E5 ak r5=>?_) E0 Ao (λb h=>(f3 b h).1) J0 y
  ·exact⟨hn b h,(J.ok.exf b h).1,J.ok.exfs b h,.inl h,(J.ok.exf b h).2,λp hp=>absurd (show p∈([]:List (Addr×Obj)) from hp) (by simp)⟩
  ·refine aq a vs _ s6 _ H5 fp ai I3 f3 I6 (sm.trans E5.same) Ha ak (r5.mono (Ag.refl _) λo z=>?_);rcases z with z | ⟨b,rfl,h,hz⟩
   ·exact z
   ·refine⟨Rx E ⟨b,rfl,sm.free h⟩,λe=>?_⟩;cases e;exact hz (jAh.mpr rfl)
 exact codeAny_compStart_list (loop _ J0 y) (Tn.self _ 0 _ _ _ y (loop _ J0 y))
theorem Cm(h:i<n):∀d ρ m,gN i d ρ=.ok m->m.length=ρ.length/\∀j,n<=j->m[j]? = ρ[j]?:=λd ρ m e=>by cases e;exact⟨by simp,λj q=>jAz (by lia)⟩
theorem Xp{n:Nat}:∀{J:List Nat},(J.all λi=>decide (i<n))=true->∀ds ρ m,Gm J ds ρ=.ok m->m.length=ρ.length/\∀j,n<=j->m[j]? = ρ[j]?
 | [],_,ds,ρ,m,e=>by
  cases ds with
  |nil=>cases e;exact⟨rfl,λ_ _=>rfl⟩
  |cons _ _=>cases e
 |i::J,h,ds,ρ,m,e=>by
  cases ds with
  |nil=>cases e
  |cons d ds=>rw[Gm]at e;rw[jFb,jBg]at h;have z:=of_decide_eq_true h.1;have⟨y,r⟩:=Xp h.2 ds _ m e;exact⟨by rw[y];simp,λj q=>by rw[r j q];exact jAz (by lia)⟩
theorem ja7(h:(J.all λi=>decide (i<n))=true):∀d ρ m,gT J d ρ=.ok m->m.length=ρ.length/\∀j,n<=j->m[j]? = ρ[j]?:=λd ρ m e=>by cases d<;>first |exact Xp h _ ρ m e |cases e
theorem ko5(ab:Lg scope X.env.scope X.N caps=true)(hc:X.calm=true)(hi:PId X c l tg iter u)
  (hg:∀(C:Addr)(s:Shared)(H:Hp)(G:List Addr)(y:Hp)(U:AS)(Z:List Addr),Tb c.H0 y->PGd (cxB X (Ez X T caps) scope C s H G) ⟨y,U,[],Gn,Z⟩ tg g)
  (ht:∀(C:Addr)(s:Shared)(H:Hp)(G:List Addr)(y:Hp)(U:AS)(Z:List Addr),Tb c.H0 y->TsD (cxB X (Ez X T caps) scope C s H G) ⟨y,U,[],Gn,Z⟩ ifs t)
  (he:∀(C:Addr)(s:Shared)(H:Hp)(G:List Addr)(y:Hp)(U:AS)(Z:List Addr),Tb c.H0 y->PEd (cxB X (Ez X T caps) scope C s H G) ⟨y,U,[],Gn,Z⟩ .any elt f)
  (aa:∀d ρ F,g d ρ=.ok F->F.length=ρ.length/\∀i,T.length<=i->F[i]? = ρ[i]?)(P:Mw c.O l caps=true:=by rfl)(hs:∀x,foldedSetIterable iter X.env x=pure x:=by intro _;rfl):
  PEf X c l (.ListComp elt [⟨tg,iter,ifs,0⟩] scope pos) (Ax u T.length caps g t f):=λpins s σ H Q I q=>by
 revert q;refine Xe.Bt λhs' ρ E q=>?_;have B:Gp X scope T caps:=.of ab;rw[eval_ListComp];show wpAny (model X.prog X.w) X.A (comprehension (.ListComp elt [⟨tg,iter,ifs,0⟩] scope pos) scope X.env (firstIterPos [⟨tg,iter,ifs,0⟩] pos) (newList []) false (eval iter X.env) none) (EP X pins σ Q) X.xe s;have q:=RQ.bind.mp q;cases h:u ρ with
 |ok ds =>
  rw[h]at q;refine Xe.Aq (λd L q=>?_) (RQ.nox q);refine Xe.Aq (λxs G L=>?_) (Cu L);by_cases hz:xs.length<=16777216
  ·rw[if_pos hz]at L;cases L;refine Yz B hc hi hg ht he aa P hs I E h G hz λa vs s3 s' H3 H' fp ae I3 f3 J sm Ha hv r=>?_;refine Xe.Aq (λm hn _=>?_) (J.loc);exact⟨m,hn,λh' hb=>⟨.ref a,H',jt2 I3 rfl f3 J h' hb,rfl,q a vs xs H' rfl sm Ha hv r⟩⟩
  ·rw[if_neg hz]at L;cases L
 |exc x=>rw[h]at q;refine wpAny_comprehension_free (cl:=M9 scope X.env) rfl hs (B.clo I) B.kind B.names ?_;refine thn (hi pins s σ H (λ_ _=>False) I ⟨hs',ρ,E,by rw[h];exact q⟩) λv s1 h1=>thn h1 λaf s2 h2=>?_;refine nn λhG=>?_;clear hG;revert h2;refine Xe.ya1 λ_ _ _ _ _ _ _ _ _ _ z=>?_;exact z.elim
 |bad=>rw[h]at q;exact q.elim
theorem wl4(B:Lg scope X.env.scope X.N caps=true)(P:X.calm=true)(hi:PId X c l tg iter u)
  (I:∀(C:Addr)(s:Shared)(H:Hp)(h:List Addr)(q:Hp)(m:AS)(Z:List Addr),PGd (cxB X (Ez X T caps) scope C s H h) ⟨q,m,[],Gn,Z⟩ tg g)
  (F:∀(C:Addr)(s:Shared)(H:Hp)(h:List Addr)(q:Hp)(m:AS)(Z:List Addr),TsD (cxB X (Ez X T caps) scope C s H h) ⟨q,m,[],Gn,Z⟩ ifs t)
  (L:∀(C:Addr)(s:Shared)(H:Hp)(h:List Addr)(q:Hp)(m:AS)(Z:List Addr),PEd (cxB X (Ez X T caps) scope C s H h) ⟨q,m,[],Gn,Z⟩ .any elt f)
  (z:∀d ρ r,g d ρ=.ok r->r.length=ρ.length/\∀i,T.length<=i->r[i]? = ρ[i]?)(y:Mw c.O l caps=true:=by rfl)(G:∀x,foldedSetIterable iter X.env x=pure x:=by intro _;rfl):
  PEf X c l (.ListComp elt [⟨tg,iter,ifs,0⟩] scope pos) (Ax u T.length caps g t f):=ko5 B P hi (λC s H h q m Z _=>I C s H h q m Z) (λC s H h q m Z _=>F C s H h q m Z) (λC s H h q m Z _=>L C s H h q m Z) z y G
theorem comp(F:Lg scope X.env.scope X.N caps=true)(U:X.calm=true)(hi:PId X c l tg iter u)
  (L:∀(C:Addr)(s:Shared)(H:Hp)(r:List Addr)(z:Hp)(y:AS)(Z:List Addr),PGd (cxB X (Ez X T caps) scope C s H r) ⟨z,y,[],Gn,Z⟩ tg g)
  (G:∀(C:Addr)(s:Shared)(H:Hp)(r:List Addr)(z:Hp)(y:AS)(Z:List Addr),TsD (cxB X (Ez X T caps) scope C s H r) ⟨z,y,[],Gn,Z⟩ ifs t)
  (P:∀(C:Addr)(s:Shared)(H:Hp)(r:List Addr)(z:Hp)(y:AS)(Z:List Addr),PEd (cxB X (Ez X T caps) scope C s H r) ⟨z,y,[],Gn,Z⟩ .any elt f)
  (B:∀d ρ m,g d ρ=.ok m->m.length=ρ.length/\∀i,T.length<=i->m[i]? = ρ[i]?)(q:Mw c.O l caps=true:=by rfl)(I:∀x,foldedSetIterable iter X.env x=pure x:=by intro _;rfl):
  PEd X c l (.ListComp elt [⟨tg,iter,ifs,0⟩] scope pos) (Ax u T.length caps g t f):=PEf.d (wl4 F U hi L G P B q I) λ_ _ h=>Yy h
theorem ko4(F:Lg scope X.env.scope X.N caps=true)(U:X.calm=true)(hi:PId X c l tg iter u)
  (L:∀(C:Addr)(s:Shared)(H:Hp)(y:List Addr)(m:Hp)(z:AS)(Z:List Addr),Tb c.H0 m->PGd (cxB X (Ez X T caps) scope C s H y) ⟨m,z,[],Gn,Z⟩ tg g)
  (G:∀(C:Addr)(s:Shared)(H:Hp)(y:List Addr)(m:Hp)(z:AS)(Z:List Addr),Tb c.H0 m->TsD (cxB X (Ez X T caps) scope C s H y) ⟨m,z,[],Gn,Z⟩ ifs t)
  (P:∀(C:Addr)(s:Shared)(H:Hp)(y:List Addr)(m:Hp)(z:AS)(Z:List Addr),Tb c.H0 m->PEd (cxB X (Ez X T caps) scope C s H y) ⟨m,z,[],Gn,Z⟩ .any elt f)
  (B:∀d ρ q,g d ρ=.ok q->q.length=ρ.length/\∀i,T.length<=i->q[i]? = ρ[i]?)(r:Mw c.O l caps=true:=by rfl)(I:∀x,foldedSetIterable iter X.env x=pure x:=by intro _;rfl):
  PEd X c l (.ListComp elt [⟨tg,iter,ifs,0⟩] scope pos) (Ax u T.length caps g t f):=PEf.d (ko5 F U hi L G P B r I) λ_ _ h=>Yy h
end
section
variable {q:Expr}{f f1 f2 m h:Ev->R D}{fs:Ev->R (List D)}
theorem PEd.sc(h:PEd X c l a f)(u:∀ρ d,f ρ=.ok d->d.imm=true):PEd X c .fr a f:=PE.imp h λσ H Q ⟨hs',ρ,E,q⟩=>by
 refine⟨hs',ρ,E,?_⟩;cases e:f ρ with
 |ok d=>rw[e]at q;exact λv H' s r=>q v H' s (kc4 d v (u ρ d e) r)
 |exc x=>rw[e]at q;exact q
 |bad=>rw[e]at q;exact q
theorem of_ok{r:Type}{o:Option r}{d:r}(h:R.of o=.ok d):o=some d:=by
 cases o with
 |none=>cases h
 |some x=>cases h;rfl
theorem Em(r:∀x y d,g x y=some d->d.imm=true):∀ρ d,b2 f1 f2 g ρ=.ok d->d.imm=true:=λρ d h=>by
 refine Xe.Aq (λx _ h=>?_) (Cu h);refine Xe.Aq (λy _ h=>?_) (Cu h);cases e:g x y with
 |none=>rw[e]at h;cases h
 |some u=>rw[e]at h;cases h;exact r x y _ e
theorem Cr{g:List D->Option D}(r:∀xs d,g xs=some d->d.imm=true):∀ρ d,bA fs g ρ=.ok d->d.imm=true:=λρ d h=>by
 refine Xe.Aq (λx _ h=>?_) (Cu h);cases e:g x with
 |none=>rw[e]at h;cases h
 |some u=>rw[e]at h;cases h;exact r x _ e
theorem jj5{p:Int->Int->Bool}:∀x y d,kf4 p x y=some d->d.imm=true:=λx y d h=>by cases x<;>first |exact nos h | (cases y<;>first |exact nos h | (cases h;rfl))
theorem we0:∀x y d,ltD x y=some d->d.imm=true:=jj5
theorem wd7:∀x y d,geD x y=some d->d.imm=true:=jj5
theorem Rp:∀x y d,eqD x y=some d->d.imm=true:=λx y d h=>by obtain⟨_,rfl⟩:=Bj h;rfl
theorem wd8:∀x y d,inD x y=some d->d.imm=true:=λx y d h=>by cases y<;>first |exact nos h | (obtain⟨_,rfl⟩:=Bj h;rfl)
theorem Wo:∀x y d,jw7 x y=some d->d.imm=true:=λx y d h=>by cases x<;>first |exact nos h | (cases y<;>first |exact nos h | (cases h;rfl))
theorem Eu:∀x y d,Fd x y=some d->d.imm=true:=λx y d h=>by cases x<;>first |exact nos h | (cases y<;>first |exact nos h | (obtain⟨_,rfl⟩:=Bj h;rfl))
theorem kh5:∀x y d,Pa x y=some d->d.imm=true:=λx y d h=>by cases x<;>first |exact nos h | (cases y<;>first |exact nos h | (obtain⟨_,rfl⟩:=Bj h;rfl))
theorem jj6:∀x y d,O6 x y=some d->d.imm=true:=λx y d h=>by cases x<;>first |exact nos h | (cases y<;>first |exact nos h | (obtain⟨_,rfl⟩:=Bj h;rfl))
theorem Br:∀xs d,Ci xs=some d->d.imm=true:=λxs d h=>by
 obtain⟨r,rfl⟩:=inv1 h rfl (λx _ _=>by cases x<;>rfl);cases r with
 |lst _=>cases h;rfl
 |tup _=>cases h;rfl
 |str _=>obtain⟨_,rfl⟩:=Bj h;rfl
 |_=>exact nos h
theorem ka4:∀xs d,minD xs=some d->d.imm=true:=λxs d h=>by
 obtain⟨u,r,rfl⟩:=inv2 h rfl (λx=>by cases x<;>rfl) (λx y _ _=>by cases x<;>first |rfl | (cases y<;>rfl));cases u with
 |int _ =>
  cases r with
  |int _=>cases h;rfl
  |_=>exact nos h
 |_=>exact nos h
theorem we1:∀xs d,maxD xs=some d->d.imm=true:=λxs d h=>by
 obtain⟨u,r,rfl⟩:=inv2 h rfl (λx=>by cases x<;>rfl) (λx y _ _=>by cases x<;>first |rfl | (cases y<;>rfl));cases u with
 |int _ =>
  cases r with
  |int _=>cases h;rfl
  |_=>exact nos h
 |_=>exact nos h
theorem we7:∀ρ d,PD.isL f ρ=.ok d->∃ds,d=.lst ds:=λρ d h=>by
 refine Xe.Aq (λx _ h=>?_) (Cu h);cases x with
 |lst ds =>
  have h:(if Dw ds=true then R.ok (D.lst ds) else R.bad)=.ok d:=h;by_cases r:Dw ds=true
  ·rw[if_pos r]at h;cases h;exact⟨_,rfl⟩
  ·rw[if_neg r]at h;cases h
 |_=>cases h
def Bd:D->D->Option D
 | .lst xs,.lst ys=>if xs.length+ys.length<=16777216 then some (.lst (xs++ys)) else none
 |x,y=>wy4 x y
theorem wt3:OpR X (binaryOp .Add) (rD X.K Bd):=by
 rintro pins s σ H x y v u Q I O L ⟨S,G,F,d,U,P,e,q⟩;by_cases h:∃xs ys,G=.lst xs/\F=.lst ys
 ·revert h;refine Xe.Bt λxs ys C B=>?_;obtain rfl:=C;obtain rfl:=B;obtain⟨hz,rfl⟩:=Bj e;refine yd1 pins s σ H x y v u Q I O L ⟨S,_,_,.lst (xs++ys),U,P,if_pos hz,λa vs ds H' ed s' ha hv r=>?_⟩;cases ed;exact q _ H' s' ⟨a,vs,rfl,.inl ⟨hv,.inr ⟨a,rfl,ha⟩⟩,r.mono (Ag.refl _) λ_ z=>.inl z.1⟩
 ·refine yd0 pins s σ H x y v u Q I O L ⟨S,G,F,d,U,P,?_,q⟩;cases G<;>first |exact e | (cases F<;>first |exact e |exact absurd ⟨_,_,rfl,rfl⟩ h)
theorem Hi(u:PEd X c l a f1)(r:PEd X c l b f2):PEd X c l (.BinOp a .Add b pos) (b2 f1 f2 Bd):=ke7 .Add wt3 u r
theorem yl8(ha:PEf X c l a f1)(hb:PEd X c l b f2):PEf X c l (.BinOp a .Mult b pos) (b2 f1 f2 jw0):=PE.imp (wm2 wu0 ha hb) λσ H Q q=>by
 revert q;refine Xe.Bt λhs ρ E q=>?_;have q:=RQ.bind.mp q;refine⟨hs,ρ,E,?_⟩;cases G:f1 ρ with
 |ok dx =>
  rw[G]at q;intro p vs ds H1 ed B hp U I;subst ed;refine Be (E.mono B) ((RQ.bind.mp q).mono (λdy P y H2 u E2 L=>?_) λe z=>Cz z B);refine Xe.Aq (λd e O=>?_) (P.of);cases dy<;>try cases e
  rename_i k;obtain⟨F,rfl⟩:=Bj e;have hl:=I.length;refine⟨p,k,vs,rfl,L,u _ _ U,F.1,F.2.1,Gz (by rw[<-hl];exact F.2.2),λr C=>?_⟩;exact O r _ _ _ rfl ((B.trans u).trans (Ar C _)) ((B.trans u).free C) Ao ((((I.mono u λ_ z=>z.1).rep k.toNat).avoid C).mono (Ar C _) λ_ z=>z)
 |exc x=>rw[G]at q;exact q
 |bad=>rw[G]at q;exact q
theorem wj2{d:D}(h:b2 f1 f2 jw0 ρ=.ok d):∃ds,d=.lst ds:=by
 refine Xe.Aq (λx _ h=>?_) (Cu h);refine Xe.Aq (λy _ h=>?_) (Cu h);cases e:jw0 x y with
 |none=>rw[e]at h;cases h
 |some r=>rw[e]at h;cases h;cases x<;>first |exact nos e | (cases y<;>first |exact nos e | (obtain⟨_,rfl⟩:=Bj e;exact⟨_,rfl⟩))
theorem rep(u:PEf X c l a f1)(r:PEd X c l b f2):PEd X c l (.BinOp a .Mult b pos) (b2 f1 f2 jw0):=PEf.d (yl8 u r) λ_ _ h=>wj2 h
def slA:D->Option Int->Option Int->Option D
 | .lst xs,lo,r=>some (.lst (cutD xs lo r))
 | .tup xs,lo,r=>if HT.sIx xs.length 0 lo=0/\HT.sIx xs.length xs.length r=xs.length then none else some (.tup (cutD xs lo r))
 |_,_,_=>none
theorem Uj{lo hi:Option Expr}{fl fh:Ev->R (Option Int)}(he:PEd X c l e f)(hl:POd X c lo fl)(hh:POd X c hi fh):PEd X c l (.Subscript e (.Slice lo hi none p2) pos) (bS f fl fh slA):=PE.imp (kw5 (SlR.or wk0 ww4) he hl hh) λσ H Q q=>by
 revert q;refine Xe.Bt λhs ρ E q=>?_;refine Be E ((RQ.bind.mp q).mono (λdx q1 x H1 C E1 U=>?_) λ_ z=>z);refine jp5 E1 ((RQ.bind.mp q1).mono (λi q2 H2 u E2=>?_) λe z=>Cz z C);refine jp5 E2 ((RQ.bind.mp q2).mono (λj q3 H3 y E3=>?_) λe z=>Cz z (C.trans u));refine Xe.Aq (λd e q4=>?_) (q3.of);cases dx<;>try cases e
 ·rename_i xs;revert U;refine Xe.Bu λp vs O P G=>?_;obtain rfl:=O;have F:=G.length;have e:(if HT.sIx xs.length 0 i=0/\HT.sIx xs.length xs.length j=xs.length then none else some (D.tup (cutD xs i j)))=some d:=e;by_cases I:HT.sIx xs.length 0 i=0/\HT.sIx xs.length xs.length j=xs.length
  ·rw[if_pos I]at e;cases e
  ·rw[if_neg I]at e;cases e;rw[F]at I;refine .inr ⟨p,vs,rfl,Ag.sqT (u.trans y) (TpR.sq P),I,λr B=>?_⟩;exact q4 _ _ (((C.trans u).trans y).trans (Ar B _)) ⟨r,_,rfl,TpR.of Ao,((G.mono (u.trans y) λ_ z=>z).cut i j).mono (Ar B _) λ_ z=>z⟩
 ·revert U;refine Xe.Bu λp vs L P G=>?_;obtain rfl:=L;refine .inl ⟨p,vs,rfl,(P.same (u.trans y) λ_ z=>z).sq,λr B=>?_⟩;exact q4 _ _ (((C.trans u).trans y).trans (Ar B _)) ⟨r,_,rfl,.inl ⟨Ao,Rx E ⟨r,rfl,((C.trans u).trans y).free B⟩⟩,((G.mono (u.trans y) λ_ z=>z).cut i j).mono (Ar B _) λ_ z=>z⟩
end
def FnC(P:Program)(w:World)(K:Frag)(h:Str->Option Value)(base:Heap)(k:Nat)(x:Str)(ps:List Str)(n:Nat)(m:List D->R D):Prop:=
 ∃(f:Addr)(q:FuncData),Bq P w K h base CX0 k f q ps (sp0 K n m)/\h x=some (.ref f)/\W.keepIn K (.ref f)=true/\Binds K q ps []
section
variable {f:Ev->R D}{fs:Ev->R (List D)}{ps:List Str}{m:List D->R D}
theorem callC(F:FnC X.prog X.w X.K X.mg X.base k x ps n m)(u:Gq k X.A)(I:PAd X c l (e::es) fs)(hn:(e::es).length=n:=by rfl)(h:ps.length=n:=by rfl)(B:Gl X x:=by rfl)
  (r:(x == ("__debug__" : Str))=false:=by decide)(C:starEach (e::es) X.env=(false,eval e X.env)::starEach es X.env:=by rfl)(q:(backTo pos (starEach es X.env)).any (·.1)=false:=by rfl):
  PEd X c l (.Call (.Name x p) (e::es) [] pos) (cl fs m):=by
 revert F;refine Xe.X7 λf L F y z G=>?_;exact wz3 F u y z G I hn h B r C q
def never:Ev->R Fl:=λ_=>.bad
theorem jv8:PSd X c st never:=PS.imp kx2 λD σ H ⟨h,ρ,E,q⟩=>q
theorem PId.up(h:PId X c l tg e fs)(hl:l.le l'=true:=by rfl):PId X c l' tg e fs:=PI.imp h λσ H Q ⟨r,ρ,E,q⟩ =>
 ⟨r,ρ,E,q.mono (λds q J P H' s T p=>q J P H' s T (T.stab.mono (Ag.refl _) (λ_ z=>Ls E hl z) p)) λ_ z=>z⟩
theorem wm1(q:X.mg "list" = none)(y:PAd X c l (e::es) fs)(r:Gl X "list":=by rfl)(u:starEach (e::es) X.env=(false,eval e X.env)::starEach es X.env:=by rfl)(h:(backTo pos (starEach es X.env)).any (·.1)=false:=by rfl):
  PEf X c l (.Call (.Name "list" p) (e::es) [] pos) (bA fs Rw):=wo4 wo1 PyProof.Rows.boot_list q y r (by decide) (by decide) u h
theorem jk2:∀ρ d,bA fs Rw ρ=.ok d->∃ds,d=.lst ds:=λρ d h=>by
 refine Xe.Aq (λxs _ h=>?_) (Cu h);have h:=of_ok h;obtain⟨q,rfl⟩:=inv1 h rfl (λx _ _=>by cases x<;>rfl);cases q with
 |lst _=>cases h;exact⟨_,rfl⟩
 |tup _=>cases h;exact⟨_,rfl⟩
 |_=>exact nos h
theorem Hx(q:X.mg "tuple" = none)(y:PAd X c l (e::es) fs)(r:Gl X "tuple":=by rfl)(u:starEach (e::es) X.env=(false,eval e X.env)::starEach es X.env:=by rfl)(h:(backTo pos (starEach es X.env)).any (·.1)=false:=by rfl):
  PEd X c l (.Call (.Name "tuple" p) (e::es) [] pos) (bA fs Di):=wz2 wb1 PyProof.Rows.boot_tuple q y r (by decide) (by decide) u h
theorem yc8(y:X.calm=true)(q:X.mg "min" = none)(z:PAd X c l (e::es) fs)(r:Gl X "min":=by rfl)(u:starEach (e::es) X.env=(false,eval e X.env)::starEach es X.env:=by rfl)(h:(backTo pos (starEach es X.env)).any (·.1)=false:=by rfl):
  PEd X c l (.Call (.Name "min" p) (e::es) [] pos) (bA fs minD):=Yx (wy9 y) PyProof.Rows.boot_min q z r (by decide) (by decide) u h
theorem yk6(y:X.calm=true)(q:X.mg "max" = none)(z:PAd X c l (e::es) fs)(r:Gl X "max":=by rfl)(u:starEach (e::es) X.env=(false,eval e X.env)::starEach es X.env:=by rfl)(h:(backTo pos (starEach es X.env)).any (·.1)=false:=by rfl):
  PEd X c l (.Call (.Name "max" p) (e::es) [] pos) (bA fs maxD):=Yx (wy8 y) PyProof.Rows.boot_max q z r (by decide) (by decide) u h
end
def tyN:D->Option String
 | .non=>some "NoneType"
 | .bl _=>some "bool"
 | .int _=>some "int"
 | .str _=>some "str"
 | .tup _=>some "tuple"
 | .lst _=>some "list"
 | .exc _ _ _=>none
def Yc(T:String)(t:String):Bool:=t == T || (t == "bool" && T == "int")
def Wu(T:String)(d:D):Option D:=(tyN d).map λt=>.bl (Yc T t)
theorem wf6{T t:String}(m:T∈["int","bool","tuple","list","str"])(h:t∈["NoneType","bool","int","str","tuple","list"]):W.kitOne K (.type t) (.type T)=some (Yc T t):=by simp only[jAe,jAh,jDs,or_false]at m h;rcases m with rfl |rfl |rfl |rfl |rfl<;>rcases h with rfl |rfl |rfl |rfl |rfl |rfl<;>rfl
variable {u:Value}
section
variable {S:AS}{Q:Value->Shared->Prop}
theorem we8{d:D}{T t:String}(I:Inv X pins σ H s)(r:Rep X.K H S d v)(m:RelV v u)(e:tyN d=some t)(k:W.kitOne X.K (.type t) (.type T)=some (Yc T t))(h:∀y,Q (.bool (Yc T t)) {s with toks:=y}):
  wpAny (model X.prog X.w) A (call (.builtin "isinstance") [u,.type T]) Q E s:=by
 cases d with
 |non=>cases e;cases(show v=.non from r);cases(show u=Value.none from m);exact W.kia_one W.kitx_none I.kIn True.intro k (λz=>nomatch z) h
 |bl b=>cases e;cases(show v=.bl b from r);cases(show u=Value.bool b from m);exact W.kia_one W.kitx_bool I.kIn True.intro k (λz=>nomatch z) h
 |int i=>cases e;cases(show v=.int i from r);have⟨y,z⟩:=(show ∃t,u=Value.int i t from m);cases z;exact W.kia_one W.kitx_int I.kIn True.intro k (λz=>nomatch z) h
 |str x=>cases e;cases(show v=.str x from r);have⟨y,z⟩:=(show ∃t,u=Value.str x t from m);cases z;exact W.kia_one W.kitx_str I.kIn True.intro k (λz=>nomatch z) h
 |tup xs=>cases e;revert r;refine Xe.Bu λa vs F q _=>?_;obtain rfl:=F;cases(show u=Value.ref a from m);refine Xe.G6 (λB _ p _=>?_) (I.tuple (TpR.sq q));revert p;refine Xe.G6 λo L G _=>?_;exact W.kia_one W.kitx_tuple I.kIn ⟨o,L,G⟩ k (λz=>nomatch z) h
 |lst xs=>cases e;revert r;refine Xe.Bu λa vs C q _=>?_;obtain rfl:=C;cases(show u=Value.ref a from m);refine Xe.G6 (λB _ p _=>?_) (I.list q.sq);refine Xe.G6 (λo L G _=>?_) (p.isList);exact W.kia_one W.kitx_list I.kIn ⟨o,L,G⟩ k (λz=>nomatch z) h
 |exc _ _ _=>cases e
end
theorem wk8{d:D}{t:String}(h:tyN d=some t):t∈["NoneType","bool","int","str","tuple","list"]:=by cases d<;>first | (cases h;decide) |cases h
section
variable {f:Ev->R D}{fs:Ev->R (List D)}{m:Pos}
theorem isi(T:String)(x:Str)(hT:T∈["int","bool","tuple","list","str"])(hv:bootBuiltins x=some (.type T))(hm:X.mg "isinstance" = none)(O:X.mg x=none)(ha:PEd X c l e f)(hg:Gl X "isinstance":=by rfl)(P:Gl X x:=by rfl)(L:x ≠ "__name__":=by decide)(aa:(x == ("__debug__" : Str))=false:=by decide)
  (he:starEach [e,.Name x m] X.env=(false,eval e X.env)::starEach [.Name x m] X.env:=by rfl)(U:starEach [.Name x m] X.env=(false,eval (.Name x m) X.env)::starEach [] X.env:=by rfl)(G:(backTo pos (starEach [.Name x m] X.env)).any (·.1)=false:=by rfl):
  PEd X c .fr (.Call (.Name "isinstance" p) [e,.Name x m] [] pos) (b1 f (Wu T)):=
 PE.imp (R1 (r:=λxs H Q=>∃S d v t,xs=[v,.ty T]/\Rep X.K H S d v/\tyN d=some t/\Q (.bl (Yc T t)) H) (λpins s σ H xs us Q I r h=>by
   revert h;refine Xe.ya0 λS d v t F rv y q=>?_;obtain rfl:=F;refine Xe.Bu (λu1 u2 C B r2=>?_) (r.two);obtain rfl:=C;cases(show u2=Value.type T from r2);exact we8 I rv B y (wf6 hT (wk8 y)) λtk=>⟨.bl (Yc T t),H,I.tok _,rfl,q⟩) hg hm PyProof.Rows.boot_isinstance (G3 ha (G3 (wh7 (v:=.ty T) P O hv rfl L aa) Mi U) he) (by decide) (by decide) he G) λσ H Q q=>by
 revert q;refine Xe.Bt λhs ρ E q=>?_;refine Be (l:=l) E ((RQ.bind.mp q).mono (λd q1 v H1 s1 E1 B=>?_) λ_ z=>z);refine Xe.Aq (λd' Y q2=>?_) (q1.of);unfold Wu at Y;cases y:tyN d with
 |none=>rw[y]at Y;cases Y
 |some t=>rw[y]at Y;cases Y;exact⟨lvS c ρ σ H l,d,v,t,rfl,B,y,q2 _ H1 s1 rfl⟩
def U9:List D->Option (List Bool)
 | []=>some []
 | .bl b::r=>(U9 r).map (b::·)
 |_::_=>none
def Q8:List D->Option D
 | [.lst xs]=>(U9 xs).map λbs=>.bl (bs.all id)
 |_=>none
theorem kn2{K:Frag}{H:Hp}{S:AS}:∀{ds:List D}{vs:List V}{q:List Value}{bs:List Bool},An K H S ds vs->Vals vs q->U9 ds=some bs->q=bs.map Value.bool
 | [],vs,q,bs,h,r,e=>by cases(show vs=[] from h);cases r;cases e;rfl
 |d::ds,vs,q,bs,h,r,e=>by
  revert h;refine Xe.Bu λv B y I G=>?_;obtain rfl:=y;cases r with
  |cons F C =>
   cases d with
   |bl b =>
    cases(show v=.bl b from I);cases(show _=Value.bool b from F);have e:(U9 ds).map (b::·)=some bs:=e;cases z:U9 ds with
    |none=>rw[z]at e;cases e
    |some L=>rw[z]at e;cases e;rw[kn2 G C z];rfl
   |_=>cases e
theorem wy6(hc:X.calm=true):Eh X (.builtin "all") (rC X.K Q8):=by
 rintro pins s σ H xs us Q I r ⟨S,ds,d,rs,e,q⟩;obtain⟨x',rfl⟩:=inv1 e rfl (λx _ _=>by cases x<;>rfl);cases x' with
 |lst ys =>
  obtain⟨v,rfl,a,vs,rfl,ha,rr⟩:=rs.one;have e:(U9 ys).map (λbs=>D.bl (bs.all id))=some d:=e;cases O:U9 ys with
  |none=>rw[O]at e;cases e
  |some bs =>
   rw[O]at e;cases e;obtain⟨u,rfl,ru⟩:=vals1 r;cases ru;have⟨B,rv,pl,hz⟩:=I.list ha.sq;have U:=kn2 rr rv O;have G:=pl.isList;have F:a<s.heap.objs.size:=by obtain⟨_,z,_⟩:=G;exact jAr z
   refine call_all_walk (wpAny_pyIter_list G ?_);refine⟨s.heap.objs.size,[s.heap.objs.size,a],[s.heap.objs.size],B.toArray.size,_,_,λi=>(bs[i]?).getD true,rfl,Walks.list (A:=X.A.in1) (I.ok.hd hc) _ a (jAv F) B.toArray,
    ⟨⟨_,jAp _ rfl,rfl,rfl⟩,G.push _⟩,λi v s' Q' E' hP P=>?_,λh' tk hk=>?_⟩
   ·have y:B[i]? = some v:=by simpa using hP
    rw[U,jBa]at y;cases L:bs[i]? with
    |none=>rw[L]at y;cases y
    |some b=>rw[L]at y;cases y;simp only[L,jBs]at P;exact wpAny_truthy_bool P
   ·have e:((List.range B.toArray.size).all λi=>(bs[i]?).getD true)=bs.all id:=by
     rw[jAo,U,jAd];rw[jDm];simp only[jAw,jAt,id];constructor
     ·intro h b hb;have⟨i,C,e⟩:=jBz.mp hb;have:=h i C;rw[jAa C,jBs,e]at this;exact this
     ·intro h i C;rw[jAa C,jBs];exact h _ (jBi C)
    rw[e];exact⟨.bl _,H,I.kept (λb x z=>hk b x (λhm=>by rw[jAh.mp hm]at z;exact jCf _ (jAr z)) (jAc _ z)),rfl,q _ H (Ag.refl _) rfl⟩
 |_=>exact nos e
theorem km8(z:X.calm=true)(q:X.mg "all" = none)(B:PAd X c l (e::es) fs)(r:Gl X "all":=by rfl)(y:starEach (e::es) X.env=(false,eval e X.env)::starEach es X.env:=by rfl)(h:(backTo pos (starEach es X.env)).any (·.1)=false:=by rfl):
  PEd X c l (.Call (.Name "all" p) (e::es) [] pos) (bA fs Q8):=Yx (wy6 z) PyProof.Rows.boot_all q B r (by decide) (by decide) y h
theorem Ro:∀xs d,Q8 xs=some d->d.imm=true:=λxs d h=>by
 obtain⟨q,rfl⟩:=inv1 h rfl (λx _ _=>by cases x<;>rfl);cases q with
 |lst ys =>
  have h:(U9 ys).map (λbs=>D.bl (bs.all id))=some d:=h;cases e:U9 ys with
  |none=>rw[e]at h;cases h
  |some bs=>rw[e]at h;cases h;rfl
 |_=>exact nos h
end
variable {h':Heap}
variable {t':Nat}
theorem Kr(I:Inv X pins σ H s)(C:∀b∈fp,Q5 X pins H b)(k:∀b o,b∉fp->s.heap.get? b=some o->h'.get? b=some o):Inv X pins σ H {s with heap:=h',toks:=t'}:=by
 refine I.step (g':=s.gens) (d':=s.drawn) (ch:=fp) (λb L=>?_) (λb o _ _ h e _=>k b o h e) (λb o _ _ h e _=>⟨o.slots,k b o h e⟩) (λ_ _ _ _ n=>n)
  (λb o h e=>⟨o,k b o h e⟩) (λ_ _ e=>e) (λ_ _ _ e=>e) (λb ps e=>⟨#[],by rw[e];simp⟩) (λm G=>?_) (λb u e=>?_) I.bare
 ·refine Xe.wz8 (λf0 f1 f2 U P O=>?_) (C b L);exact⟨U,f1,P,O⟩
 ·revert G;refine Xe.wb9 λo es ep F r=>?_;exact⟨o,es,ep,k _ o (λz=>(C _ z).2.1 rfl) F,r⟩
 ·refine(I.hok b u e).stay (λc v h q=>k c v (λz=>?_) q) (λ_ q=>q) λ_ _ q=>q;have B:=(C c z).1;rcases h with y |y
  ·rw[y,e]at B;cases B
  ·rw[y]at B;cases B
theorem Jq{a:Addr}{F:HO}(I:Inv X pins σ H s)(G:∀b∈fp,Q5 X pins H b)(k:∀b o,b∉fp->s.heap.get? b=some o->h'.get? b=some o)(L:s.heap.objs.size<=a)(new:Dj X.prog X.w (upd H a F) h' a F):
  Inv X pins σ (upd H a F) {s with heap:=h',toks:=t'}:=by
 have h:H a=none:=I.hok.fresh L;have ne:∀{b:Addr}{o:Obj},s.heap.get? b=some o->b≠a:=λe z=>by have:=jAr e;rw[z]at this;exact absurd (jAx this L) (jCf _)
 refine I.step (g':=s.gens) (d':=s.drawn) (ch:=fp) (λb C=>?_) (λb o _ _ B e _=>k b o B e) (λb o _ _ B e _=>⟨o.slots,k b o B e⟩) (λb o _ e n=>by rw[Aj (ne e)];exact n)
  (λb o B e=>⟨o,k b o B e⟩) (λb xs e=>by rw[Aj (Bv e h)];exact e) (λb o u e=>by rw[Aj (Bv e h)];exact e) (λb ps e=>⟨#[],by rw[Aj (Bv e h),e];simp⟩) (λm P=>?_) (λb u e=>?_) I.bare
 ·refine Xe.wz8 (λf0 f1 f2 f3 f4 U=>?_) (G b C);exact⟨f3,f1,f4,U⟩
 ·revert P;refine Xe.wb9 λo es ep O r=>?_;exact⟨o,es,ep,k _ o (λz=>(G _ z).2.1 rfl) O,r⟩
 ·by_cases C:b=a
  ·subst C;rw[Ao]at e;cases e;exact new
  ·rw[Aj C]at e;refine(I.hok b u e).stay (λc v B q=>k c v (λz=>?_) q) (λc q=>by rw[Aj (Bv q h)];exact q) λc xs q=>by rw[Aj (Bv q h)];exact q
   have h:=(G c z).1;rcases B with y |y
   ·rw[y,e]at h;cases h
   ·rw[y]at h;cases h
def Iel(K:Frag)(a:Addr):It:=
 ⟨λi H=>∃xs x,SqL K H a xs/\xs[i]? = some x,λi H x H'=>∃t v,x=.ref t/\H t=none/\H'=upd H t (.tup [.int (i:Int),v])/\∀xs,SqL K H a xs->xs[i]? = some v,λi H=>∃xs,SqL K H a xs/\xs.length<=i⟩
variable {P:Program}
theorem kl8{elts:List Expr}(a e it:Addr)(hne:e≠it):
  Turn P w K (.Tuple elts k pos) (Iel K a) [e,it] e (λi h=>(∃old,IsEnum h e it (i:Int) old)/\h.IsListIter it a i) where
 mem:=by simp
 obj:=λi h st b hb=>by
  obtain⟨⟨old,he⟩,o,ho,hc,hd⟩:=st;have hb':b=e\/b=it:=by simpa using hb
  rcases hb' with rfl |rfl
  ·exact⟨_,he,λv z=>by cases z⟩
  ·exact⟨o,ho,λv z=>by rw[hd]at z;cases z⟩
 keep:=λi h h' st kp=>⟨st.1.imp λold he=>kp e (by simp) _ he,st.2.at λo q=>kp it (by simp) o q⟩
 item:=by
  intro X hP hw hK hc i pins s σ H E I hf st hg;subst hP hw hK;obtain⟨xs,x,hq,hx⟩:=hg;have⟨its,rv,p,hz⟩:=I.list hq;have⟨u,hu,ru⟩:=rv.get hx;obtain⟨⟨old,he⟩,hit⟩:=st;refine wpAny_pyNext_enum_item he hit p.isList (x:=u) (by simpa using hu) hne λh1 heo hit1 ht1 hz1 hk1=>⟨_,rfl,?_⟩;refine wpAny_letOwnedTupleGo_enum heo λh2 he2 hs2=>?_;have hT:s.heap.objs.size≠e:=jCq (jAr he);have ht2:h2.get? s.heap.objs.size=some {cls:=.type "tuple",data:=.seq #[.int i s.toks,u] }:=(hs2.2 _ hT).trans ht1;have I2:Inv X pins σ (upd H s.heap.objs.size (.tup [.int (i:Int),x])) {s with heap:=h2,toks:=s.toks+1}:=
   Jq (t':=s.toks+1) I hf (λb o hb q=>by
    have hb':b≠e/\b≠it:=by simpa using hb
    exact(hs2.2 b hb'.1).trans (hk1 b o hb'.1 hb'.2 q)) (jAg _)
    (show Dj X.prog X.w _ h2 _ (.tup [.int (i:Int),x]) from⟨by show 2<=sizeLine;rw[sizeLine_eq];lia,[.int i s.toks,u],.cons ⟨_,rfl⟩ (.cons ru .nil),⟨_,ht2,rfl,_,rfl⟩⟩)
  refine⟨.ref s.heap.objs.size,_,I2,rfl,⟨_,x,rfl,I.hok.fresh (jAg _),rfl,λys hy=>by rw[I.list_inj hy hq];exact hx⟩,⟨⟨u,by simpa using he2⟩,?_⟩,λb hb=>?_⟩
  ·exact hit1.at λo q=>(hs2.2 it (Ne.symm hne)).trans q
  ·have hlt:b<s.heap.objs.size:=by
    have⟨oi,hoi,_⟩:=id hit;have hb':b=e\/b=it:=by simpa using hb
    rcases hb' with rfl |rfl
    ·exact jAr he
    ·exact jAr hoi
   rw[Aj (jAv hlt)];exact(hf b hb).1
 done:=by intro X hP hw hK hc i pins s σ H E I hf st hg;subst hP hw hK;obtain⟨xs,hq,hx⟩:=hg;have⟨its,rv,p,hz⟩:=I.list hq;obtain⟨⟨old,he⟩,hit⟩:=st;have hl:=rv.length;exact wpAny_pyNext_enum_end (I.ok.hd hc) he hit p.isList (by simp;lia) λh' eb=>⟨rfl,Kr (t':=s.toks) I hf λb o hb q=>eb b o (λz=>hb (by simp[z])) q⟩
 self:=λA i s Q E st h=>by obtain⟨⟨old,he⟩,_⟩:=st;exact wpAny_pyIter_enum he h
def Mx(ds:List D):List D:=(List.range ds.length).zipWith (λ(i:Nat) d=>.tup [.int (i:Int),d]) ds
theorem Oq(ds:List D):(Mx ds).length=ds.length:=by simp[Mx]
theorem Y5{d:D}(h:(Mx ds)[i]? = some d):∃e,ds[i]? = some e/\d=.tup [.int (i:Int),e]:=by
 unfold Mx at h;rw[List.getElem?_zipWith]at h;cases m:(List.range ds.length)[i]? with
 |none=>rw[m]at h;cases h
 |some j =>
  cases r:ds[i]? with
  |none=>rw[m,r]at h;cases h
  |some e=>rw[m,r]at h;cases h;have:=(jAl.mp m);obtain⟨y,q⟩:=this;simp at q;subst q;exact⟨e,rfl,rfl⟩
theorem ks3{a:Addr}:ItD K (Iel K a) (Mx ds) λH S=>LsR K H S a vs/\An K H S ds vs where
 stab:=jo5
 go:=λi H S hi h=>by rw[Oq]at hi;refine Xe.Aq (λv hv _=>?_) (h.2.get (jAa hi));exact⟨vs,v,h.1.sq,hv⟩
 yld:=λi H S x H' h y=>by revert y;refine Xe.X7 λt v hz5 ht hz6 y=>?_;obtain rfl:=hz5;obtain rfl:=hz6;refine⟨Ar ht _,λd hd=>?_⟩;refine Xe.Aq (λe he hz7=>?_) (Y5 hd);obtain rfl:=hz7;refine Xe.Aq (λw hw rw'=>?_) (h.2.get he);have ev:v=w:=Option.some.inj ((y vs h.1.sq).symm.trans hw);subst ev;exact⟨t,_,rfl,TpR.of Ao,.int (i:Int),[v],rfl,rfl,v,[],rfl,rw'.mono (Ar ht _) (λ_ z=>z),rfl⟩
 stop:=λi H S hi h=>⟨vs,h.1.sq,by rw[<-h.2.length];rw[Oq]at hi;exact hi⟩
open PySem PySem.Spec PyProof.Rows L2 PySem.W
variable {O:KeyOrd}
section
variable {key:Nat->O.α}{N:Nat}
def kk(key:Nat->O.α)(p:Array Nat)(i:Nat):O.α:=key ((p[i]?).getD 0)
def Vs(key:Nat->O.α)(p:Array Nat)(k:Nat):Prop:=∀i j,i<=j->j<k->O.kle (kk key p i) (kk key p j)
def Vr(N:Nat)(p:Array Nat):Prop:=p.toList.Perm (List.range N)
theorem Vr.size{p:Array Nat}(h:Vr N p):p.size=N:=by have:=h.length_eq;simpa using this
abbrev ltO(key:Nat->O.α):Nat->Nat->Bool:=λi j=>O.blt (key i) (key j)
end
variable {h2:Heap}
section
variable {key:Nat->O.α}{κ:SortKind}{vs:List Value}{a:Addr}
def Cj(a:Addr)(h h':Heap):Prop:=∀b o,b≠a->h.get? b=some o->h'.get? b=some o
theorem Cj.trans{m h:Heap}(x:Cj a m h2)(y:Cj a h2 h):Cj a m h:=λb o n e=>y b o n (x b o n e)
theorem Cj.push(h:Heap)(o:Obj):Cj a h (h.push o):=λb u _ e=>jAc _ e
theorem Cj.upd(h:Heap)(f:Obj->Obj):Cj a h (h.update a f):=λb u n e=>(jEg _ _ (Ne.symm n)).trans e
structure Asks(prog:Program)(w:World)(A:Around)(s:Shared)(a:Addr)(vs:List Value)(κ:SortKind)(key:Nat->O.α):Prop where
 kind:2<=vs.length->∀(s':Shared)(Q:SortKind->Shared->Prop),Cj a s.heap s'.heap->Q κ s'->wpAny (model prog w) A (keyKind' vs.toArray) Q (λ_ _=>False) s'
 less:2<=vs.length->∀(i j:Nat)(s':Shared)(Q:Bool->Shared->Prop),i<vs.length->j<vs.length->Cj a s.heap s'.heap->(∀tk,Q (ltO key i j) {s' with toks:=tk})->wpAny (model prog w) A (keyLt' κ (vs.getD i .none) (vs.getD j .none)) Q (λ_ _=>False) s'
theorem kw0(vs:List Value):((vs.toArray.zip vs.toArray).map (·.2))=vs.toArray:=by
 apply Array.ext
 ·simp
 ·intro i h h2;simp
theorem Xc(vs:List Value):((List.range vs.length).map λi=>vs.getD i .none)=vs:=by
 apply jDf
 ·simp
 ·intro i h h2;simp at h;simp[h]
end
def Ef:List Int->List Int->Bool
 |_,[]=>false
 | [],_::_=>true
 |x::xs,y::ys=>if x=y then Ef xs ys else decide (x<y)
theorem Wy(xs:List Int):Ef xs []=false:=by cases xs<;>rfl
theorem Np:∀xs,Ef xs xs=false
 | []=>rfl
 |x::xs=>by rw[Ef,if_pos rfl];exact Np xs
theorem Ql:∀xs ys B,Ef xs ys=true->Ef ys B=true->Ef xs B=true
 |_,[],_,h,_=>by rw[Wy]at h;cases h
 |_,_::_,[],_,h=>by rw[Wy]at h;cases h
 | [],_::_,_::_,_,_=>rfl
 |x::xs,y::ys,z::B,q,h2=>by
  rw[Ef]at q h2 ⊢;by_cases r:x=y
  ·rw[if_pos r]at q;by_cases m:y=z
   ·rw[if_pos m]at h2;rw[if_pos (r.trans m)];exact Ql xs ys B q h2
   ·rw[if_neg m]at h2;rw[if_neg (by rw[r];exact m),r];exact h2
  ·rw[if_neg r]at q;have F:=of_decide_eq_true q;by_cases m:y=z
   ·rw[<-m,if_neg r];exact q
   ·rw[if_neg m]at h2;have C:=of_decide_eq_true h2;rw[if_neg (by omega)];exact decide_eq_true (by omega)
theorem Wx:∀xs ys r,Ef xs r=true->Ef xs ys=true\/Ef ys r=true
 |_,_,[],h=>by rw[Wy]at h;cases h
 |_,[],_::_,_=>.inr rfl
 | [],_::_,_::_,_=>.inl rfl
 |x::xs,y::ys,z::r,h=>by
  rw[Ef]at h;rw[Ef,Ef];by_cases q:x=y
  ·rw[if_pos q];by_cases m:y=z
   ·rw[if_pos m];rw[if_pos (q.trans m)]at h;exact Wx xs ys r h
   ·rw[if_neg m];rw[if_neg (by rw[q];exact m)]at h;exact .inr (by rw[<-q];exact h)
  ·rw[if_neg q];by_cases m:y=z
   ·rw[if_pos m];rw[<-m,if_neg q]at h;exact .inl h
   ·rw[if_neg m];by_cases l:x<y
    ·exact .inl (decide_eq_true l)
    ·refine .inr (decide_eq_true ?_);by_cases B:x=z
     ·omega
     ·rw[if_neg B]at h;have:=of_decide_eq_true h;omega
theorem Fp:∀xs ys,Ef xs ys=false->Ef ys xs=false->xs=ys
 | [],[],_,_=>rfl
 | [],_::_,h,_=>by cases h
 |_::_,[],_,h=>by cases h
 |x::xs,y::ys,m,h2=>by
  rw[Ef]at m h2;by_cases e:x=y
  ·rw[if_pos e]at m;rw[if_pos e.symm]at h2;rw[e,Fp xs ys m h2]
  ·rw[if_neg e]at m;rw[if_neg (Ne.symm e)]at h2;have a1:=of_decide_eq_false m;have q:=of_decide_eq_false h2;omega
def Wz:KeyOrd:=⟨List Int,Ef,Np,Ql,Wx,Fp⟩
def Ay:List D->Option (List Int)
 | []=>some []
 | .int i::r=>(Ay r).map (i::·)
 |_::_=>none
def jk1:D->Option (List Int)
 | .int i=>some [i]
 | .tup xs=>Ay xs
 |_=>none
def keyOf(d:D):List Int:=(jk1 d).getD []
def jb8:D->Bool
 | .int _=>true
 |_=>false
def Qi:D->Bool
 | .tup (x::xs)=>(Ay (x::xs)).isSome
 |_=>false
theorem Th:∀{xs ys:List D}{ns:List Int},Ay xs=some ns->Ay ys=some ns->xs=ys
 | [],[],_,_,_=>rfl
 | [],y::ys,ns,h,h2=>by cases h;cases y<;>first | (cases e:Ay ys<;>simp[Ay,e]at h2) |cases h2
 |x::xs,[],ns,h,h2=>by cases h2;cases x<;>first | (cases e:Ay xs<;>simp[Ay,e]at h) |cases h
 |x::xs,y::ys,ns,h,h2=>by
  cases x with
  |int i =>
   cases y with
   |int j =>
    cases q:Ay xs with
    |none=>simp[Ay,q]at h
    |some a =>
     cases m:Ay ys with
     |none=>simp[Ay,m]at h2
     |some b=>simp[Ay,q]at h;simp[Ay,m]at h2;rw[<-h2]at h;obtain⟨rfl,rfl⟩:=List.cons.inj h;rw[Th q m]
   |_=>cases h2
  |_=>cases h
def Du(xs:List D):Bool:=xs.all jb8 ||xs.all Qi
theorem Vm(h:Du xs=true){a b:D}(C:a∈xs)(B:b∈xs)(e:keyOf a=keyOf b):a=b:=by
 unfold Du at h;rw[jCb,jAw,jAw]at h;rcases h with h |h
 ·have q:=h a C;have h2:=h b B;cases a<;>cases b<;>simp[jb8]at q h2;simp[keyOf,jk1]at e;rw[e]
 ·have q:=h a C;have h2:=h b B;cases a with
  |tup x =>
   cases b with
   |tup y =>
    cases z:Ay x with
    |none=>cases x<;>simp[Qi,z]at q
    |some n =>
     cases r:Ay y with
     |none=>cases y<;>simp[Qi,r]at h2
     |some m=>simp[keyOf,jk1,z,r]at e;subst e;rw[Th z r]
   |_=>simp[Qi]at h2
  |_=>simp[Qi]at q
def Gy(a b:D):Bool:=!Ef (keyOf b) (keyOf a)
def srt(xs:List D):List D:=xs.mergeSort Gy
theorem El(xs:List D):(srt xs).Perm xs:=List.mergeSort_perm _ _
theorem ki8(a b c:D)(h:Gy a b=true)(h2:Gy b c=true):Gy a c=true:=by
 unfold Gy at *
 rw[jCk]at *
 cases e:Ef (keyOf c) (keyOf a) with
 |false=>rfl
 |true =>
  rcases Wx _ (keyOf b) _ e with z |z
  ·rw[h2]at z;cases z
  ·rw[h]at z;cases z
theorem ki7(a b:D):(Gy a b ||Gy b a)=true:=by
 unfold Gy;cases e:Ef (keyOf b) (keyOf a) with
 |false=>rfl
 |true =>
  cases h:Ef (keyOf a) (keyOf b) with
  |false=>rfl
  |true=>have:=Ql _ _ _ e h;rw[Np]at this;cases this
theorem Fv(xs:List D):(srt xs).Pairwise λa b=>Gy a b=true:=List.pairwise_mergeSort (λa b c=>ki8 a b c) (λa b=>ki7 a b) xs
theorem eq_of_sorted{h:Type}{le:h->h->Prop}:∀{xs ys:List h},xs.Perm ys->xs.Pairwise le->ys.Pairwise le->(∀a∈xs,∀b∈xs,le a b->le b a->a=b)->xs=ys
 | [],ys,p,_,_,_=>(List.nil_perm.mp p).symm
 |x::xs,[],p,_,_,_=>by have:=p.length_eq;simp at this
 |x::xs,y::ys,p,B,h2,z=>by
  have G:x=y:=by
   have q:x∈y::ys:=p.mem_iff.mp jAf;have r:y∈x::xs:=p.mem_iff.mpr jAf;rcases jAe.mp q with e |q
   ·exact e
   ·rcases jAe.mp r with e |m
    ·exact e.symm
    ·exact z x jAf y r (jFy B m) (jFy h2 q)
  subst G;rw[eq_of_sorted (List.Perm.cons_inv p) B.of_cons h2.of_cons λa F b C=>z a (jAb _ F) b (jAb _ C)]
theorem Xv{p:Array Nat}{key:Nat->Wz.α}(y:xs.length<2\/Du xs=true)(r:∀i d,xs[i]? = some d->key i=keyOf d)(B:Vr xs.length p)(hs:Vs key p xs.length):
  p.toList.map (λi=>xs.getD i .non)=if xs.length<2 then xs else srt xs:=by
 have perm:(p.toList.map λi=>xs.getD i .non).Perm xs:=by
  have z:=B.map λi=>xs.getD i D.non;refine z.trans (List.Perm.of_eq ?_);apply jDf
  ·simp
  ·intro i z h2;simp at z;simp[z]
 by_cases h2:xs.length<2
 ·rw[if_pos h2]
  match xs,h2,perm with
  | [],_,perm=>exact List.perm_nil.mp perm
  | [x],_,perm=>exact jGt.mp perm
 ·rw[if_neg h2];have C:Du xs=true:=y.resolve_left h2;refine eq_of_sorted (le:=λa b=>Gy a b=true) (perm.trans (El xs).symm) ?_ (Fv xs) λa ha b hb I G=>?_
  ·rw[jCx];intro i j U L F;simp only[jAd,jCi]at U L;have aa:=B.size;have h:∀(k:Nat)(y:k<p.size),keyOf (xs.getD p[k] .non)=kk key p k:=λk y=>by
    have hm:p[k]∈p.toList:=by simp
    have q:p[k]<xs.length:=jAt.mp (B.mem_iff.mp hm);unfold kk;rw[jBx y,jBs,r p[k] xs[p[k]] (jAa q)];simp[q]
   have:=hs i j (jDx F) (by omega);simp only[jGe,jGr];unfold Gy;rw[h i U,h j L];have m:Ef (kk key p j) (kk key p i)=false:=this;rw[m];rfl
  ·unfold Gy at I G;rw[jCk]at I G;exact Vm C (perm.mem_iff.mp ha) (perm.mem_iff.mp hb) (Fp _ _ G I)
variable {h:Heap}{ns:List Int}{us:List Value}
section
variable {a:Addr}
theorem jb6{vs:List Value}(h:IntsAre vs ns)(hi:i<vs.length):∃t,vs.getD i .none=.int (ns.getD i 0) t:=by have⟨t,e⟩:=IntsAre.int_at h i vs[i] (jAa hi);exact⟨t,by rw[<-e];simp[hi]⟩
theorem Ys{vs:List Value}(h:IntsAre vs ns):Asks (O:=Wz) prog w A s a vs oneType' λi=>[ns.getD i 0] where
 kind:=λh2 s' Q _ q=>by
  match vs,h2,h with
  |v1::v2::r,_,h=>rw[keyKind_ints h];exact jZb q
 less:=λ_ i j s' Q hi hj _ q=>by
  have⟨t,e1⟩:=jb6 h hi;have⟨u,e2⟩:=jb6 h hj;rw[e1,e2];refine kat_lt_int ?_;have e:ltO (O:=Wz) (λi=>[ns.getD i 0]) i j=decide (ns.getD i 0<ns.getD j 0):=by
   show Ef [ns.getD i 0] [ns.getD j 0]=_;rw[Ef];by_cases z:ns.getD i 0=ns.getD j 0
   ·rw[if_pos z,z];simp[Ef]
   ·rw[if_neg z]
  rw[e]at q;exact q s'.toks
def jq6(h:Heap)(a:Addr)(u:Value)(ns:List Int):Prop:=∃b us,u=.ref b/\b≠a/\IsTup h b (jCg us)/\IntsAre us ns
theorem jq6.keep(x:jq6 h a u ns)(k:Cj a h h'):jq6 h' a u ns:=by revert x;refine Xe.X7 λb us q y m B=>?_;obtain rfl:=q;revert m;refine Xe.Aq λo z r=>?_;exact⟨b,us,rfl,y,⟨o,k b o y z,r⟩,B⟩
inductive Hy(h:Heap)(a:Addr):List Value->List (List Int)->Prop
 |nil:Hy h a [] []
 |cons {u:Value} {ns:List Int} {us:List Value} {nss:List (List Int)}:jq6 h a u ns->ns≠[]->Hy h a us nss->Hy h a (u::us) (ns::nss)
theorem Hy.keep{h h':Heap}(k:Cj a h h'):∀{us:List Value}{m:List (List Int)},Hy h a us m->Hy h' a us m
 |_,_,.nil=>.nil
 |_,_,.cons x n r=>.cons (x.keep k) n (Hy.keep k r)
theorem Hy.get:∀{us:List Value}{m:List (List Int)},Hy h a us m->∀{i:Nat},i<us.length->jq6 h a (us.getD i .none) (m.getD i [])
 |_,_,.cons x _ r,0,_=>by simpa using x
 |_,_,.cons _ _ r,i+1,q=>by simpa using r.get (i:=i) (by simpa using q)
theorem Hy.tups:∀{us:List Value}{y:List (List Int)},Hy h a us y->∃q,KatTups h us q/\q.length=us.length/\∀v∈q,∃i t,v=Value.int i t
 |_,_,.nil=>⟨[],KatTups.nil,rfl,λ_ z=>nomatch z⟩
 |_,_,.cons (ns:=ns) x hn r=>by
  obtain⟨q,k,F,I⟩:=r.tups;obtain⟨b,us,rfl,hb,⟨o,C,U,n,L⟩,G⟩:=x;cases G with
  |nil=>exact absurd rfl hn
  |cons m t hr =>
   refine⟨.int m t::q,KatTups.cons C U L rfl k,by simp[F],λv B=>?_⟩;rcases jAe.mp B with rfl |B
   ·exact⟨m,t,rfl⟩
   ·exact I v B
theorem wg0{y:Bool}{Q:Bool->Shared->Prop}:∀{us vs:List Value}{ns C:List Int}(i:Nat)(tk:Nat),IntsAre us ns->IntsAre vs C->(ns.length=C.length->y=false)->(ns.length<C.length->y=true)->(C.length<ns.length->y=false) ->
  (∀tk,Q (Ef ns C) {s with toks:=tk})->KatLex prog w A true y Q (us.zip vs) i {s with toks:=tk}:=by
 intro us vs ns C i tk hu;induction hu generalizing vs C i tk with
 |nil =>
  intro F L I G q;cases F with
  |nil=>have:=L rfl;subst this;exact q tk
  |cons m u r=>have:=I (by simp);subst this;exact q tk
 |cons n t r ih =>
  intro F L I G q;cases F with
  |nil=>have:=G (by simp);subst this;exact q tk
  |cons m u r' =>
   refine kat_cons (wpAny_eqBool_int ?_);by_cases e:n=m
   ·rw[show(n == m)=true from beq_iff_eq.mpr e];refine kat_yes (ih (i+1) tk r' (λz=>L (by simp[z])) (λz=>I (by simpa using z)) (λz=>G (by simpa using z)) λB=>?_);have:=q B;rw[Ef,if_pos e]at this;exact this
   ·rw[show(n == m)=false from beq_eq_false_iff_ne.mpr e];refine kat_no ?_;have U:∀tk,Q (decide (n<m)) {s with toks:=tk}:=λB=>by have:=q B;rw[Ef,if_neg e]at this;exact this
    cases hi:(true && i == 0) with
    |true=>exact oneLt_int (U tk)
    |false=>exact kat_one _ _ (lt_int (U tk))
theorem Rq(h:IntsAre us ns):us.length=ns.length:=IntsAre.length h
theorem ke6{vs:List Value}{nss:List (List Int)}(h:Hy s.heap a vs nss):Asks (O:=Wz) prog w A s a vs (tuples' true) λi=>nss.getD i [] where
 kind:=λh2 s' Q k q=>by have⟨fs,t,hl,hf⟩:=(h.keep k).tups;refine kat_kind (T:=.type "int") t (by lia) (λv hv=>?_) (by rfl) q;obtain⟨i,tk,rfl⟩:=hf v hv;exact Looks.of_pure rfl
 less:=λ_ i j s' Q hi hj k q=>by
  have⟨b,us,e1,_,⟨o,ho,hc,n,hd⟩,h1⟩:=(h.keep k).get hi;have⟨b',us',e2,_,⟨o',ho',hc',n',hd'⟩,h2⟩:=(h.keep k).get hj;rw[e1,e2];refine kat_lt ho hd ho' hd' ?_;have l1:=Rq h1;have l2:=Rq h2;refine wg0 (s:=s') 0 s'.toks h1 h2 (λz=>?_) (λz=>?_) (λz=>?_) q
  ·simp;lia
  ·simp;lia
  ·simp;lia
end
variable {items:Array Value}
section
variable {u:Value}{G:List Value->Prop}
def je9(prog:Program)(w:World)(A:Around)(s:Shared)(u:Value)(G:List Value->Prop):Prop:=∀(Q:List Value->Shared->Prop)(E:Value->Shared->Prop),
 (∀vs h' m q,(∀b o,s.heap.get? b=some o->h'.get? b=some o)->vs.length<=sizeLine->G vs->Q vs {s with heap:=h',drawn:=q,toks:=m})->wpAny (model prog w) A (collect u) Q E s
theorem jg6{a:Addr}{T:String}{o:Obj}(B:T = "list"\/T = "tuple")(r:s.heap.get? a=some o)(z:o.cls=.type T)(y:o.data=.seq items n)(m:items.size<=sizeLine):
  je9 prog w A s (.ref a) λvs=>vs=items.toList:=λQ E q=>wpAny_collect_seq a B r z y (λh' k=>q _ h' s.toks s.drawn k (by simpa using m) rfl) m
end
theorem Ou{d':Drawn}(I:Inv X pins σ H s)(k:∀b o,s.heap.get? b=some o->h'.get? b=some o):Inv X pins σ H {s with heap:=h',drawn:=d',toks:=t'}:=by
 refine I.step (g':=s.gens) (d':=d') (ch:=[]) (λb B=>nomatch B) (λb o _ _ q e _=>k b o e) (λb o _ _ q e _=>⟨o.slots,k b o e⟩) (λ_ _ _ _ n=>n)
  (λb o q e=>⟨o,k b o e⟩) (λ_ _ e=>e) (λ_ _ _ e=>e) (λb ps e=>⟨#[],by rw[e];simp⟩) (λm z=>?_) (I.hok.kept k) I.bare
 revert z;refine Xe.wb9 λo es C y r=>?_;exact⟨o,es,C,k _ o y,r⟩
theorem ints_of{K:Frag}{H:Hp}{S:AS}:∀{ds:List D}{vs:List V}{us:List Value}{ns:List Int},An K H S ds vs->Vals vs us->Ay ds=some ns->IntsAre us ns
 | [],vs,us,ns,h,r,e=>by cases(show vs=[] from h);cases r;cases e;exact .nil
 |d::ds,vs,us,ns,h,r,e=>by
  revert h;refine Xe.Bu λv y m C h2=>?_;obtain rfl:=m;cases r with
  |cons B z =>
   cases d with
   |int i =>
    cases(show v=.int i from C);have⟨t,F⟩:=(show ∃t,_=Value.int i t from B);subst F;cases q:Ay ds with
    |none=>simp[Ay,q]at e
    |some G=>simp[Ay,q]at e;subst e;exact .cons i t (ints_of h2 z q)
   |_=>cases e
theorem jj7:∀{ds:List D},ds.all jb8=true->∃ns,Ay ds=some ns/\ns.length=ds.length/\∀i d,ds[i]? = some d->[ns.getD i 0]=keyOf d
 | [],_=>⟨[],rfl,rfl,λi d h=>by simp at h⟩
 |d::ds,h=>by
  rw[jFb,jBg]at h;refine Xe.G6 (λns e q r=>?_) (jj7 h.2);cases d with
  |int i =>
   refine⟨i::ns,by simp[Ay,e],by simp[q],λj x m=>?_⟩;cases j with
   |zero=>simp at m;subst m;simp[keyOf,jk1]
   |succ j=>simpa using r j x (by simpa using m)
  |_=>simp[jb8]at h
theorem kc8{X:Cx}{pins:List (Addr×Obj)}{σ:St}{H:Hp}{s:Shared}{S:AS}{a:Addr}(I:Inv X pins σ H s)(ha:s.heap.objs.size<=a):∀{ds:List D}{vs:List V}{us:List Value},ds.all Qi=true->An X.K H S ds vs->Vals vs us ->
  ∃m,Hy s.heap a us m/\∀i d,ds[i]? = some d->m.getD i []=keyOf d
 | [],vs,us,_,h,r=>by cases(show vs=[] from h);cases r;exact⟨[],.nil,λi d h=>by simp at h⟩
 |d::ds,vs,us,G,h,r=>by
  rw[jFb,jBg]at G;revert h;refine Xe.Bu λv U C h1 h2=>?_;obtain rfl:=C;cases r with
  |cons r1 r2 =>
   refine Xe.Aq (λm q hk=>?_) (kc8 I ha G.2 h2 r2)
   match d,G.1 with
   | .tup (x::xs),hd =>
    revert h1;refine Xe.Bu λb ws z hq rr=>?_;obtain rfl:=z;have e1:_=Value.ref b:=r1;subst e1;refine Xe.G6 (λB rv p _=>?_) (I.tuple (TpR.sq hq));cases e:Ay (x::xs) with
    |none=>simp[Qi,e]at hd
    |some ns =>
     have hi:=ints_of rr rv e;have L:ns≠[]:=by rintro rfl;cases x<;>first | (cases e2:Ay xs<;>simp[Ay,e2]at e) |cases e
     have hb:b≠a:=by revert p;refine Xe.Aq λo ho _=>?_;exact jAv (jAx (jAr ho) ha)
     refine⟨ns::m,.cons ⟨b,B,rfl,hb,p,hi⟩ L q,λi y F=>?_⟩;cases i with
     |zero=>simp at F;subst F;simp[keyOf,jk1,e]
     |succ i=>simpa using hk i y (by simpa using F)
theorem Hy.push{a:Addr}{o:Obj}:∀{us:List Value}{m:List (List Int)},Hy h a us m->Hy (h.push o) a us m:=λx=>x.keep (Cj.push _ _)
def Dl:List D->Option D
 | [d]=>match La d with
  |some xs=>if xs.length<64/\(xs.length<2\/Du xs=true) then some (.lst (if xs.length<2 then xs else srt xs)) else none
  |none=>none
 |_=>none
theorem Vals.getD(r:Vals vs us)(hi:i<us.length):RelV (vs.getD i .non) (us.getD i .none):=by
 have m:i<vs.length:=by rw[r.length];exact hi
 refine Xe.Aq (λu q y=>?_) (r.get (jAa m));have e:us[i]? = some us[i]:=jAa hi;rw[e]at q;cases q;simpa[hi,m] using y
theorem jp9{vs:List V}{us:List Value}(r:Vals vs us):∀(l:List Nat),(∀i∈l,i<us.length)->Vals (l.map λi=>vs.getD i .non) (l.map λi=>us.getD i .none)
 | [],_=>.nil
 |i::l,h=>.cons (Vals.getD r (h i jAf)) (jp9 r l λj m=>h j (jAb _ m))
theorem jm7{K:Frag}{H:Hp}{S:AS}{ds:List D}{vs:List V}(r:An K H S ds vs):∀(l:List Nat),(∀i∈l,i<ds.length)->An K H S (l.map λi=>ds.getD i .non) (l.map λi=>vs.getD i .non)
 | [],_=>An.nil
 |i::l,h=>by
  have m:=h i jAf;refine Xe.Aq (λv y q=>?_) (r.get (jAa m));refine .cons ?_ (jm7 r l λj z=>h j (jAb _ z));have C:ds.getD i .non=ds[i]:=by simp[m]
  have B:vs.getD i .non=v:=by rw[jAi,y];rfl
  show Rep K H S (ds.getD i .non) (vs.getD i .non);rw[C,B];exact q
section
variable {fs:Ev->R (List D)}
theorem Qz{S:AS}{Q:VK}{rw:Array Nat}{tk m:Nat}{d':Drawn}(I1:Inv X pins σ H {s with heap:=h',drawn:=d',toks:=tk})
  (L:An X.K H S xs vs)(I:Vals vs us)(hz:us.length<=sizeLine)(U:Vr us.length rw)(k2:∀b o,h'.get? b=some o->h2.get? b=some o)(G:∃e,h2.get? h'.objs.size=some (seqObj "list" (jCg (rw.toList.map λi=>us.getD i .none)) e))
  (q:∀a r H',Ag H H'->H a=none->H' a=some (.lst r)->An X.K H' (AS.but S a) (rw.toList.map λi=>xs.getD i .non) r->Q (.ref a) H'):
  EP X pins σ Q (.ref h'.objs.size) {s with heap:=h2,drawn:=d',toks:=m}:=by
 have y:=L.length;have C:=I.length;have lt:∀i∈rw.toList,i<us.length:=λi F=>jAt.mp (U.mem_iff.mp F);have B:H h'.objs.size=none:=I1.hok.fresh (jAg _);obtain⟨e,G⟩:=G;have I2:Inv X pins σ (upd H h'.objs.size (.lst (rw.toList.map λi=>vs.getD i .non))) {s with heap:=h2,drawn:=d',toks:=m}:=
  I1.laid (t':=m) k2 (jAg _) ⟨by rw[jAd,jCi,U.size];exact hz,_,e,jp9 I _ lt,G⟩
 exact⟨.ref h'.objs.size,_,I2,rfl,q _ _ _ (Ar B _) B Ao (((jm7 L _ λi F=>by rw[y,C];exact lt i F).avoid B).mono (Ar B _) λ_ z=>z)⟩
end
def Ris(p:Array Nat):Prop:=p.toList.Pairwise (·<·)
theorem Ris.lt{p:Array Nat}(h:Ris p)(m:i<j)(q:j<p.size):p.getD i 0<p.getD j 0:=by have:=jCx.mp h i j (by simp;omega) (by simpa using q) m;simpa[Array.getD,q,show i<p.size by omega] using this
theorem kr1{p:Array Nat}(h:i<p.size)(d:Nat):p.getD i d=p.getD i 0:=by simp[Array.getD,h]
theorem Vx{p:Array Nat}{j:Nat}(h:Ris p):∀(f lo hi:Nat),hi - lo<=f->lo<=hi->hi<=p.size->(∀i,i<lo->p.getD i 0<j)->(∀i,hi<=i->i<p.size->j<=p.getD i 0) ->
  SetTable.below.go p j f lo hi<=p.size/\(∀i,i<SetTable.below.go p j f lo hi->p.getD i 0<j)/\∀i,SetTable.below.go p j f lo hi<=i->i<p.size->j<=p.getD i 0
 |0,lo,hi,F,h2,y,r,q=>by
  have e:hi=lo:=by omega
  subst e;exact⟨y,r,q⟩
 |f+1,lo,hi,F,h2,y,r,q=>by
  unfold SetTable.below.go;by_cases m:lo<hi
  ·rw[if_pos m];have z:(lo+hi) / 2<p.size:=by omega
   dsimp only;rw[kr1 z];by_cases c:p.getD ((lo+hi) / 2) 0<j
   ·rw[if_pos c];refine Vx h f _ hi (by omega) (by omega) y (λi B=>?_) q;by_cases e:i=(lo+hi) / 2
    ·rw[e];exact c
    ·exact jGz (h.lt (by omega) z) c
   ·rw[if_neg c];refine Vx h f lo _ (by omega) (by omega) (by omega) r λi G C=>?_;by_cases e:i=(lo+hi) / 2
    ·rw[e];omega
    ·have:=h.lt (i:=(lo+hi) / 2) (j:=i) (by omega) C;omega
  ·rw[if_neg m];have e:hi=lo:=by omega
   subst e;exact⟨y,r,q⟩
theorem Vy{p:Array Nat}(h:Ris p)(j:Nat):SetTable.below p j<=p.size/\(∀i,i<SetTable.below p j->p.getD i 0<j)/\∀i,SetTable.below p j<=i->i<p.size->j<=p.getD i 0:=
 Vx h p.size 0 p.size (by omega) (by omega) (jAg _) (λi z=>by omega) λi m h2=>by omega
theorem ws8{p:Array Nat}{x:Nat}(h:x∈p.toList.take n):∃i,i<n/\i<p.size/\p.getD i 0=x:=by
 have⟨i,q,e⟩:=jBz.mp h;have m:i<n/\i<p.size:=by simpa[Nat.lt_min] using q
 refine⟨i,m.1,m.2,?_⟩;rw[<-e];simp[Array.getD,m.2]
theorem wg2{p:Array Nat}{x:Nat}(h:x∈p.toList.drop n):∃i,n<=i/\i<p.size/\p.getD i 0=x:=by
 have⟨i,q,e⟩:=jBz.mp h;have m:i<p.size - n:=by simpa using q
 refine⟨n+i,by omega,by omega,?_⟩;rw[<-e];simp[Array.getD,show n+i<p.size by omega]
theorem wj4{p:Array Nat}(h:Ris p)(hn:p[SetTable.below p j]? ≠ some j):Ris (SetTable.insertAt p (SetTable.below p j) j):=by
 unfold Ris;rw[SetTable.toList_insertAt];refine Xe.wb8 (λh1 h2 L=>?_) (Vy h j);rw[jBo,jFo];have F:∀x∈p.toList.drop (SetTable.below p j),j<x:=λx C=>by
  refine Xe.G6 (λi B r e=>?_) (wg2 C);have:=L i B r;by_cases z:i=SetTable.below p j
  ·have m:SetTable.below p j<p.size:=by omega
   rw[jBx m]at hn;have:p.getD (SetTable.below p j) 0=p[SetTable.below p j]:=by simp[Array.getD,m]
   rw[<-e,z];have U:=L _ (jAg _) m;rw[this]at U ⊢;exact Nat.lt_of_le_of_ne U λq=>hn (by rw[<-q])
  ·have h5:=h.lt (i:=SetTable.below p j) (j:=i) (by omega) r;have h6:=L (SetTable.below p j) (jAg _) (by omega);omega
 have G:∀x∈p.toList.take (SetTable.below p j),x<j:=λx C=>by refine Xe.G6 (λi B r e=>?_) (ws8 C);rw[<-e];exact h2 i B
 refine⟨h.sublist (jHd _ _),⟨F,h.sublist (List.drop_sublist _ _)⟩,λx C y I=>?_⟩;rcases jAe.mp I with rfl |I
 ·exact G x C
 ·exact jGz (G x C) (F y I)
structure jq5(t:SetTable):Prop where
 dm:t.dummies = #[]
 ris:t.plain=true->Ris t.place
theorem ka3(j:Nat):SetTable.has #[] j=false:=by unfold SetTable.has;simp
theorem jm4{t:SetTable}(r:t.dummies = #[]){y:Nat->Int}{h:Int}{j:Nat}{d:Option Nat}:∀(f:Nat)(p:SetTable.Probe),p.dummy=none->SetTable.probe.go t y h f p=some (.empty j d)->t.slot j=.empty/\d=none
 |0,p,_,e=>by simp[SetTable.probe.go]at e
 |f+1,p,q,e=>by
  unfold SetTable.probe.go at e;have m:(t.advance p).dummy=none:=by unfold SetTable.advance;split<;>exact q
  split at e
  ·rename_i es;injection e with e;injection e with C B;subst C;exact⟨es,by rw[<-B];exact q⟩
  ·rename_i es;unfold SetTable.slot at es;rw[r,ka3]at es;dsimp only at es;split at es
   ·cases es
   ·rename_i z;exact absurd es (by simp)
  ·split at e
   ·cases e
   ·exact jm4 r f _ m e
theorem jw6{t:SetTable}(h:t.slot j=.empty):t.place[SetTable.below t.place j]? ≠ some j:=by
 unfold SetTable.slot at h;dsimp only at h;split at h
 ·cases h
 ·rename_i z;simpa using z
theorem Ke(t:SetTable)(n:Nat):jq5 (t.standIn n):=⟨rfl,λz=>by cases z⟩
theorem jt9{t:SetTable}(T:jq5 t)(es:Array (Int×Value))(h:Int)(x:Value):jq5 (layNew t es h x).2.1/\(layNew t es h x).2.1.led=t.led:=by
 unfold layNew;split
 ·rename_i slot B e;dsimp only;unfold SetTable.orStandIn;split
  ·unfold SetTable.freeSlot at e;split at e
   ·rename_i j d z;have⟨r,y⟩:=jm4 T.dm _ _ rfl z;subst y;injection e with e;injection e with m C;have m:j=slot:=m;subst m;refine⟨⟨?_,λq=>?_⟩,rfl⟩
    ·show(if SetTable.has t.dummies j=true then _ else t.dummies) = #[];rw[T.dm,ka3];rfl
    ·exact wj4 (T.ris q) (jw6 r)
   ·cases e
  ·exact⟨Ke _ _,rfl⟩
 ·exact⟨Ke _ _,rfl⟩
theorem ku0{q:Type}(f:Nat->Option q):∀(l:List Nat),l.Pairwise (·<·)->((l.filterMap λj=>(f j).map λb=>(j,b)).map (·.1)).Pairwise (·<·):=by
 have e:∀l:List Nat,((l.filterMap λj=>(f j).map λb=>(j,b)).map (·.1))=l.filter λj=>(f j).isSome:=by
  intro l;induction l with
  |nil=>rfl
  |cons a l m =>
   cases e:f a with
   |none=>rw[List.filterMap_cons_none (by simp[e]),jCl (by simp[e]),m]
   |some b=>rw[List.filterMap_cons_some (by simp[e];rfl),jCm (by simp[e]),jAk,m]
 intro l r;rw[e];exact r.filter _
theorem jv9{t t':SetTable}{m:Array Int}{o:Array Nat}(e:t.relaid m n=some (t',o)):jq5 t'/\t'.led=t.led:=by
 unfold SetTable.relaid SetTable.laid at e;cases q:SetTable.layClean (SetTable.sizeAbove n - 1) m with
 |none=>rw[q]at e;cases e
 |some y=>rw[q]at e;have e:=Option.some.inj e;have r:=(Prod.mk.inj e).1;subst r;exact⟨⟨rfl,λ_=>ku0 _ _ jCp⟩,rfl⟩
theorem jd4{t:SetTable}(es:Array (Int×Value))(n:Nat):jq5 (relayAll t es n).2.1/\(relayAll t es n).2.1.led=t.led:=by
 unfold relayAll;split
 ·rename_i t' o e;dsimp only;split
  ·exact jv9 e
  ·exact⟨Ke _ _,rfl⟩
 ·exact⟨Ke _ _,rfl⟩
def intOf:Value->Int
 | .int i _=>i
 |_=>0
def J3(es:Array (Int×Value)):List Int:=es.toList.map λe=>intOf e.2
def S9(P:Program)(w:World)(ns:List Int)(o:Obj):Prop:=∃es m t,o.ExactSet/\o.data=.set es m t/\ElemsOf (intKind P w) es.toList/\(J3 es).Nodup/\(∀k,k∈J3 es↔k∈ns)/\es.size<scanBound/\t.fits es.size=true/\jq5 t /\
 t.led = !w.params.followText "set-order"
theorem jk0{es:List (Int×Value)}(h:ElemsOf (intKind P w) es){k:Int}{e:Int×Value}(q:e∈es):(intKind P w).is k e.2=true↔intOf e.2=k:=by
 have⟨⟨j,m,_⟩,_⟩:=h e q;have⟨t,r⟩:=Value.isInt_shape (k:=j) (v:=e.2) m;rw[r];show Value.isInt k (.int j t)=true↔j=k;constructor
 ·intro z;have⟨t',Y⟩:=Value.isInt_shape z;cases Y;rfl
 ·rintro rfl;exact intKind_is P w j t
variable {es':Array (Int×Value)}{ep:Nat}
section
variable {a:Addr}
theorem Xx{es:Array (Int×Value)}(p:es'.toList.Perm es.toList):(J3 es').Perm (J3 es):=p.map _
theorem kc1{o:Obj}{es:Array (Int×Value)}{t t':SetTable}(q:s.heap.get? a=some o)(m:o.data=.set es ep t):(s.heap.update a (Obj.putSet es' t')).get? a=some {o with data:=.set es' (ep+1) t'}:=by have:=jCj (Obj.putSet es' t') q (by rw[putSet_of es' t' m];rfl);rw[putSet_of es' t' m]at this;exact this
theorem set_tail{o:Obj}{es m:Array (Int×Value)}{t r:SetTable}{wd:Bool}{g:Bool->Sem Unit}{R:Option Bool->Shared->Prop}(hg:∀(b:Bool)(s1:Shared)(Q':Unit->Shared->Prop),Q' () s1->wpAny (model prog w) A (g b) Q' E s1)
  (ho:s.heap.get? a=some o)(hex:o.ExactSet)(hd:o.data=.set es ep t)(U:ElemsOf (intKind prog w) m.toList)(I:(J3 m).Nodup)(C:∀k,k∈J3 m↔k∈ns)(hb:m.size<scanBound)(hf:r.fits m.size=true)(hT:jq5 r)(F:r.led = !w.params.followText "set-order")
  (h:∀h' o',Heap.SameBut a s.heap h'->h'.get? a=some o'->S9 prog w ns o'->(∀B ae t2,o'.data=.set B ae t2->B.size=m.size)->R (some true) {s with heap:=h'}):
  wpAny (model prog w) A (do
   storeSet a m r
   if(!wd && r.tooFull)=true then do
    g (relayAll r m (SetTable.grown m.size)).2.2
    storeSet a (relayAll r m (SetTable.grown m.size)).1 (relayAll r m (SetTable.grown m.size)).2.1
    pure (some true)
   else pure (some true)) R E s:=by
 refine jZa (wpAny_storeSet_of ho hd ?_ (fits_of_scanBound hb));have o1:=kc1 (es':=m) (t':=r) ho hd;have G:=Heap.SameBut.update s.heap a (Obj.putSet m r);split
 ·have q:=relayAll_perm r m (SetTable.grown m.size);have y:=relayAll_fits r m (SetTable.grown m.size);have z:=jd4 (t:=r) m (SetTable.grown m.size);generalize relayAll r m (SetTable.grown m.size)=L at q y z ⊢;obtain⟨B,t2,af⟩:=L;dsimp only at q y z ⊢;have hz:B.size=m.size:=by have:=q.length_eq;simpa using this
  refine jZa (hg _ _ _ ?_);refine jZa (wpAny_storeSet_of o1 rfl ?_ (fits_of_scanBound (by lia)));refine jZb (h _ _ (G.trans (Heap.SameBut.update _ a _)) (kc1 (s:={s with heap:=s.heap.update a (Obj.putSet m r)}) o1 rfl) ⟨B,_,t2,hex,rfl,U.perm q,(Xx q).nodup_iff.mpr I,λk=>((Xx q).mem_iff).trans (C k),by lia,y,z.1,z.2.trans F⟩ λaa ab t3 e=>by cases e;exact hz)
 ·exact jZb (h _ _ G o1 ⟨m,_,r,hex,rfl,U,I,C,hb,hf,hT,F⟩ λaa ab t3 e=>by cases e;rfl)
theorem wj6{k:Int}{tk:Tok}{o:Obj}{Q:Bool->Shared->Prop}(ho:s.heap.get? a=some o)(hS:S9 prog w ns o)(ae:(∀es ep t,o.data=.set es ep t->es.size+1<scanBound))
  (h:∀b h' o',Heap.SameBut a s.heap h'->h'.get? a=some o'->S9 prog w (k::ns) o'->(∀es ep t es' ax t',o.data=.set es ep t->o'.data=.set es' ax t'->es'.size<=es.size+1)->Q b {s with heap:=h'}):
  wpAny (model prog w) A (setAddHashed a (.int k tk) (hashInt k)) Q E s:=by
 obtain⟨es,ep,t,hex,hd,F,ai,G,hb,hf,hT,I⟩:=hS;have az:=ae es ep t hd;have aa:(intKind prog w).is k (.int k tk)=true:=intKind_is prog w k tk;unfold setAddHashed setAddHashedIn;refine wpAny_holding (jZa (wpAny_setState_of ho hd hf ?_));dsimp only;rw[byScan_of (knd:=intKind prog w) (x:=.int k tk) rfl hb F];simp only[if_true];unfold setAddByScan;refine jZa ?_;refine jZa (wpAny_rule ?_);refine jZa (wpAny_setScan_of (knd:=intKind prog w) (k:=k) aa ho hd hf F ?_);cases hr:List.findIdx? (λe=>(intKind prog w).is k e.2) es.toList with
 |some j =>
  dsimp only;have⟨hj,hp,_⟩:=List.findIdx?_eq_some_iff_getElem.mp hr;have aw:k∈J3 es:=jAm.mpr ⟨_,jBi hj,(jk0 F (jBi hj)).mp hp⟩;refine jZb (jZb ?_);have:=h false s.heap o (Heap.SameBut.refl a s.heap) ho ⟨es,ep,t,hex,hd,F,ai,λk'=>(G k').trans ⟨jAb _,λz=>(jAe.mp z).elim (λq=>by rw[q];exact(G k).mp aw) id⟩,hb,hf,hT,I⟩ (λC ba t1 af au t2 e1 e2=>by
   rw[e1]at e2;cases e2;lia)
  exact this
 |none =>
  dsimp only;have ah:k∉J3 es:=λz=>by have⟨e,he,q⟩:=jAm.mp z;have:=List.findIdx?_eq_none_iff.mp hr e he;rw[(jk0 F he).mpr q]at this;cases this
  have m:=layNew_perm t es (hashInt k) (.int k tk);have B:=layNew_fits t es (hashInt k) (.int k tk);have r:=jt9 hT es (hashInt k) (.int k tk);generalize layNew t es (hashInt k) (.int k tk)=L at m B r ⊢;obtain⟨C,t1,wd,aq⟩:=L;dsimp only at m B r ⊢;rw[jFz]at m;have ab:ElemsOf (intKind prog w) C.toList:=(F.push (knd:=intKind prog w) aa rfl).perm m;have ag:(J3 C).Perm (J3 es++[k]):=by have:=m.map λe:Int×Value=>intOf e.2;rw[jBc]at this;exact this
  have aj:(J3 C).Nodup:=ag.nodup_iff.mpr (jDz.mpr ⟨ai,by simp,λx hx y hy=>by
   rw[jAh]at hy;rintro rfl;exact ah (hy ▸ hx)⟩)
  have ak:∀k',k'∈J3 C↔k'∈k::ns:=λk'=>by rw[ag.mem_iff,jAq,jAh,jAe,G,or_comm]
  have ay:C.size=es.size+1:=by have:=m.length_eq;simpa using this
  have ao:C.size<scanBound:=by lia
  have hg:∀(b:Bool){s1:Shared}{Q':Unit->Shared->Prop},Q' () s1->wpAny (model prog w) A (match b with |true=>rule "set.scan.the-table-gave-way" |false=>pure ()) Q' E s1:=λb s1 Q' U=>by cases b<;>first |exact jZb U |exact wpAny_rule U
  refine jZa (hg aq ?_);have ar:∀h' o',Heap.SameBut a s.heap h'->h'.get? a=some o'->S9 prog w (k::ns) o'->(∀af au t2,o'.data=.set af au t2->af.size=C.size)->Q true {s with heap:=h'}:=λh' o' x1 x2 x3 x4 =>
   h true h' o' x1 x2 x3 λe1 p1 q1 e2 p2 q2 y1 y2=>by rw[hd]at y1;cases y1;have:=x4 _ _ _ y2;lia
  split
  ·rw[hashByValue_scannable 8 (x:=.int k tk) rfl];refine jZa (jZb ?_);simp only[plainKind,if_true];exact set_tail (ns:=k::ns) (λb s1 Q' U=>by cases b<;>first |exact jZb U |exact wpAny_rule U) ho hex hd ab aj ak ao B r.1 (r.2.trans I) λh' o' x1 x2 x3 x4=>jZb (ar h' o' x1 x2 x3 x4)
  ·refine jZa (jZb ?_);simp only[if_true];exact set_tail (ns:=k::ns) (λb s1 Q' U=>by cases b<;>first |exact jZb U |exact wpAny_rule U) ho hex hd ab aj ak ao B r.1 (r.2.trans I) λh' o' x1 x2 x3 x4=>jZb (ar h' o' x1 x2 x3 x4)
end
theorem O2:Slot "set_iterator" "__next__" "set_iterator.__next__":=.of (owner:="set_iterator") (n:="__next__") (by rw[typeLookup_type,builtinLookup_eq_fast];kernel_rfl) (by decide +kernel) (by decide +kernel) (by decide +kernel) (by first |exact .inl (by decide +kernel) |exact .inr (by decide +kernel)) (by rw[isSubtype_type];kernel_rfl)
theorem Su(a:Value):argsOk "set_iterator.__next__" ⟨[a],[]⟩:=by unfold argsOk;kernel_rfl
theorem Yo(a:Value):argsOk "set.__iter__" ⟨[a],[]⟩:=by unfold argsOk;kernel_rfl
theorem Pz:entryFor table "set_iterator.__next__" = some Builtin.«set_iterator.__next__»:=entryFor_of_tree (by kernel_rfl)
theorem Xo:entryFor table "set.__iter__" = some Builtin.«frozenset.__iter__» :=
 entryFor_alias (id':="frozenset.__iter__") (by kernel_rfl) (by first |rfl |decide +kernel | (unfold String.splitOn;simp +decide [String.splitOnAux])) (by decide +kernel) (by kernel_rfl)
theorem Qf{m:Type}:∀{xs:List m}{i:Nat}(h:i<xs.length),(xs[i]::xs.eraseIdx i).Perm xs
 |x::xs,0,_=>.refl _
 |x::xs,i+1,h=>by
  have h':i<xs.length:=by simpa using h
  show(xs[i]::x::xs.eraseIdx i).Perm (x::xs);exact(List.Perm.swap _ _ _).trans (.cons x (Qf h'))
theorem wp_choose{src:Source}{Q:Nat->Shared->Prop}(hn:0<n)(h:∀i m,i<n->Q i {s with drawn:=m}):wpAny M A (choose src n) Q E s:=
 λ_ _ _=>⟨jCq hn,h _ _ (Nat.mod_lt _ hn)⟩
theorem S7{q:Type}:∀(n:Nat)(xs:List q){s:Shared}{Q:List q->Shared->Prop},n=xs.length->(∀ys r,ys.Perm xs->Q ys {s with drawn:=r})->wpAny M A (drawOrder n xs) Q E s
 |0,xs,s,Q,e,h=>by
  cases xs with
  |nil=>exact jZb (h [] s.drawn (.refl _))
  |cons _ _=>simp at e
 |n+1,[],s,Q,e,h=>by simp at e
 |n+1,x::xs,s,Q,e,h=>by unfold drawOrder;refine jZa (wp_choose (by simp) λi r m=>?_);have z:(x::xs)[i]? = some (x::xs)[i]:=jAa m;rw[z];dsimp only;refine jZa (S7 n _ (by rw[jFr m];lia) λys B y=>jZb (h _ B ?_));exact(List.Perm.cons _ y).trans (Qf m)
theorem Uo{Q:Bool->Shared->Prop}(h:Q (M.w.params.followText "set-order") s):wpAny M A setsByText Q E s:=jZa (wpAny_askSetting (jZb h))
theorem Zk{q:Type}(f:Nat->Nat):∀(n k:Nat)(xs:List q)(out:Array q),n=xs.length->(pickOrder.go f n k xs out).toList.Perm (out.toList++xs)
 |0,k,xs,out,e=>by
  cases xs with
  |nil=>unfold pickOrder.go;simp
  |cons _ _=>simp at e
 |n+1,k,xs,out,e=>by unfold pickOrder.go;have m:f k % xs.length<xs.length:=Nat.mod_lt _ (by lia);rw[jAa m];dsimp only;refine(Zk f n (k+1) _ _ (by rw[jFr m];lia)).trans ?_;rw[jFz,jAu];exact List.Perm.append_left _ (Qf m)
theorem W7{m:Type}(f:Nat->Nat)(xs:Array m):(pickOrder f xs).toList.Perm xs.toList:=by have:=Zk f xs.size 0 xs.toList #[] (by simp);simpa[pickOrder] using this
def jf0(w:World)(S:Addr)(es:Array (Int×Value))(ep:Nat)(t:SetTable)(h:Heap)(first:Value)(i:Nat)(ord:List (Int×Value)):Prop:=
 (w.params.followText "set-order" = true/\(∃m:Nat,first=rawInt m)/\ord=(pickOrder (w.params.setOrder S ep) es).toList) \/
 (w.params.followText "set-order" = false/\((!t.plain && decide (es.size>1))=false/\t.led=true/\Ris t.place)/\ord=es.toList/\first=rawInt ((if i=0 then 0 else t.place.getD (i - 1) 0+1:Nat):Int)) \/
 (w.params.followText "set-order" = false/\∃(T:Addr)(o:Obj)(pl:List Nat)(n:Nat),first=.ref T/\h.get? T=some o/\o.data=.seq (jCg (pl.map λ(k:Nat)=>rawInt (k:Int))) n/\pl.length=es.size/\(∀k∈pl,k<es.size)/\ord=pl.map λk=>es.getD k (0,.none))
def SIt(w:World)(S I:Addr)(fp:List Addr)(ord:List (Int×Value))(i:Nat)(s:Shared):Prop:=∃o es ep t first,s.heap.get? S=some o/\o.data=.set es ep t/\t.fits es.size=true/\ord.length=es.size /\
 s.heap.get? I=some {cls:=.type "set_iterator",data:=.fields #[first,rawInt (i:Int),.ref S,rawInt (es.size:Int),rawInt (ep:Int)] }/\jf0 w S es ep t s.heap first i ord/\(∀T,first=.ref T->T∈fp)
section
variable {S I:Addr}{r:List (Int×Value)}
theorem Xz{o:Obj}{es:Array (Int×Value)}{t:SetTable}{first:Value}{slot:Nat}{Q:Option (Value×Nat)->Shared->Prop}(hS:s.heap.get? S=some o)(hd:o.data=.set es ep t)(hf:t.fits es.size=true)(hl:r.length=es.size)(hi:i<=r.length)
  (hm:jf0 w S es ep t s.heap first i r)(hs:first=rawInt (slot:Int))
  (h:∀next:Nat,(i<r.length->jf0 w S es ep t s.heap (rawInt (next:Int)) (i+1) r)->Q ((r[i]?).map λe=>(e.2,next)) s):wpAny (model prog w) A (setNext S slot i ep) Q E s:=by
 unfold setNext;refine jZa (wpAny_setState_of hS hd hf ?_);dsimp only;refine jZa (Uo ?_);rcases hm with ⟨L,_,U⟩ | ⟨L,⟨aa,G,B⟩,U,F⟩ | ⟨L,T,o',pl,n,F,_⟩
 ·rw[show(model prog w).w.params.followText "set-order" = true from L];simp only[if_true];have e1:(ep != ep)=false:=by simp
  rw[e1];simp only[jBn,if_false];unfold setWalk;refine jZa (jZa (wpAny_setState_of hS hd hf ?_));dsimp only;refine jZa (Uo ?_);rw[show(model prog w).w.params.followText "set-order" = true from L];simp only[if_true];refine jZa (wpAny_askSetting (jZb (jZb ?_)));have:=h slot λ_=>.inl ⟨L,⟨slot,rfl⟩,U⟩;rw[U,jDw]at this;exact this
 ·rw[show(model prog w).w.params.followText "set-order" = false from L];simp only[jBn,if_false];show wpAny _ _ (if(!t.plain && decide (es.size>1))=true then _ else _) _ _ s;rw[aa];simp only[jBn,if_false];show wpAny _ _ ((if(!t.led && !es.isEmpty)=true then unsupported "set:maker-not-led" else pure ()) >>= _) _ _ s;rw[G];simp only[jGa,jGp,jBn,if_false];refine jZa (jZb (jZb ?_));have ab:t.place.size=es.size:=by unfold SetTable.fits at hf;simp at hf;exact hf.1
  have m:slot=if i=0 then 0 else t.place.getD (i - 1) 0+1:=by
   rw[hs]at F;have:(slot:Int)=((if i=0 then 0 else t.place.getD (i - 1) 0+1:Nat):Int):=by injection F
   exact Int.ofNat.inj this
  have hb:SetTable.below t.place slot=i:=by
   refine Xe.wb8 (λb1 b2 b3=>?_) (Vy B slot);rcases Nat.lt_trichotomy (SetTable.below t.place slot) i with z |z |z
   ·have C:SetTable.below t.place slot<t.place.size:=by lia
    have y:=b3 _ (jAg _) C;rw[if_neg (by lia)]at m;by_cases q:SetTable.below t.place slot=i - 1
    ·rw[q]at y;lia
    ·have:=B.lt (i:=SetTable.below t.place slot) (j:=i - 1) (by lia) (by lia);lia
   ·exact z
   ·have y:=b2 i z;by_cases q:i=0
    ·rw[if_pos q]at m;lia
    ·rw[if_neg q]at m;have:=B.lt (i:=i - 1) (j:=i) (by lia) (by lia);lia
  rw[hb];have:=h (t.place.getD i 0+1) λC=>.inr (.inl ⟨L,⟨aa,G,B⟩,U,by simp⟩);rw[U]at this;by_cases C:i<es.size
  ·have hp:i<t.place.size:=by lia
   rw[jBx C,jBx hp];have e1:es.toList[i]? = some es[i]:=by simp[C]
   have e2:t.place.getD i 0=t.place[i]:=by simp[Array.getD,hp]
   rw[e1,e2]at this;exact this
  ·rw[Array.getElem?_eq_none (by lia)];have e1:es.toList[i]? = none:=by simp;lia
   rw[e1]at this;exact this
 ·rw[F]at hs;cases hs
theorem wj9{Q:Option Value->Shared->Prop}(st:SIt w S I fp r i s)(hi:i<r.length)(ae:S≠I)(aj:∀T∈fp,T≠I)
  (h:∀h',Heap.SameBut I s.heap h'->SIt w S I fp r (i+1) {s with heap:=h'}->Q (some r[i].2) {s with heap:=h'}):wpAny (model prog w) A (pyNext (.ref I)) Q E s:=by
 revert st;refine Xe.kp3 λo es ep t first hS hd hf hl z hm U=>?_
 have hT:s.TypeIs (.ref I) "set_iterator":=⟨_,z,rfl⟩;unfold pyNext;refine jZa (wpAny_attempt (wpAny_callSpecial?_slot (name:=Str.ofString "__next__") hT O2 (wpAny_call_entry O2 hT Pz ?_ (Su _))));show wpAny _ _ (fieldsOf (.ref I) >>= _) _ _ s;refine jZa (wpAny_fieldsOf z rfl ?_);show wpAny _ _ (setEntries S >>= _) _ _ s;refine jZa (wpAny_setEntries_of hS hd hf ?_);have e0:((es.size:Int) != (es.size:Int))=false:=by simp
 rw[e0];simp only[jBn,if_false];have ah:i<=r.length:=jDx hi;by_cases q:∃T,first=.ref T
 ·obtain⟨T,rfl⟩:=q;rcases hm with ⟨_,⟨m,e⟩,_⟩ | ⟨_,_,_,e⟩ | ⟨hw,T',o',pl,n,e,ab,aa,G,F,ho⟩
  ·cases e
  ·cases e
  ·cases e;refine jZa (wpAny_seqItems ab aa ?_);dsimp only;have L:i<pl.length:=by lia
   have e1:(jCg (pl.map λ(k:Nat)=>rawInt (k:Int)))[(i:Int).toNat]? = some (rawInt (pl[i]:Int)):=by simp[L]
   rw[e1];show wpAny _ _ (setNextDrawn S (pl[i]:Int).toNat (ep:Int).toNat >>= _) _ _ s;simp only[jCa];have hk:pl[i]<es.size:=F _ (jBi L);unfold setNextDrawn;refine jZa (jZa (wpAny_setState_of hS hd hf ?_));dsimp only;rw[show(ep != ep)=false by simp,jBx hk];simp only[jBn,if_false];refine jZb ?_;refine jZa (wpAny_setField z rfl (by simp) ?_);have C:=Heap.SameBut.update s.heap I (Obj.mapFields (·.setIfInBounds 1 (rawInt ((i:Int)+1))));refine jZb ⟨_,rfl,jZb ?_⟩;have eo:r[i].2=es[pl[i]].2:=by subst ho;simp[Array.getD,hk]
   rw[<-eo];refine h _ C ⟨o,es,ep,t,.ref T,(C.2 S ae).trans hS,hd,hf,hl,?_,.inr (.inr ⟨hw,T,o',pl,n,rfl,(C.2 T (aj T (U T rfl))).trans ab,aa,G,F,ho⟩),U⟩;have:=jCj (Obj.mapFields (·.setIfInBounds 1 (rawInt ((i:Int)+1)))) z rfl;simpa[Obj.mapFields] using this
 ·obtain⟨m,ai⟩:∃m:Nat,first=rawInt (m:Int):=by
   rcases hm with ⟨_,e,_⟩ | ⟨_,_,_,e⟩ | ⟨_,T,_,_,_,e,_⟩
   ·exact e
   ·exact⟨_,e⟩
   ·exact absurd ⟨T,e⟩ q
  subst ai;show wpAny _ _ (setNext S (m:Int).toNat (i:Int).toNat (ep:Int).toNat >>= _) _ _ s;simp only[jCa];refine jZa (Xz hS hd hf hl ah hm rfl λnext y=>?_);rw[jAa hi];show wpAny _ _ (setField (.ref I) 0 (rawInt (next:Int)) >>= _) _ _ s;refine jZa (wpAny_setField z rfl (by simp) ?_);have C:=Heap.SameBut.update s.heap I (Obj.mapFields (·.setIfInBounds 0 (rawInt (next:Int))));have af:=jCj (Obj.mapFields (·.setIfInBounds 0 (rawInt (next:Int)))) z rfl;refine jZa (wpAny_setField (s:={s with heap:=s.heap.update I (Obj.mapFields (·.setIfInBounds 0 (rawInt (next:Int))))}) af rfl (by simp) ?_);have ag:=Heap.SameBut.update (s.heap.update I (Obj.mapFields (·.setIfInBounds 0 (rawInt (next:Int))))) I (Obj.mapFields (·.setIfInBounds 1 (rawInt ((i:Int)+1))));have ak:=jCj (Obj.mapFields (·.setIfInBounds 1 (rawInt ((i:Int)+1)))) af rfl;refine jZb ⟨_,rfl,jZb ?_⟩;have B:=C.trans ag;refine h _ B ⟨o,es,ep,t,rawInt (next:Int),(B.2 S ae).trans hS,hd,hf,hl,?_,?_,λT e=>by cases e⟩
  ·simpa[Obj.mapFields] using ak
  ·rcases y hi with x |x | ⟨_,T,_,_,_,e,_⟩
   ·exact .inl x
   ·exact .inr (.inl x)
   ·cases e
theorem wj8{Q:Option Value->Shared->Prop}(hh:A.handled=none)(st:SIt w S I fp r r.length s)(h:∀h',jFs I s.heap h'->Q none {s with heap:=h'}):wpAny (model prog w) A (pyNext (.ref I)) Q E s:=by
 revert st;refine Xe.kp3 λo es ep t first hS hd hf hl y C af=>?_
 have hT:s.TypeIs (.ref I) "set_iterator":=⟨_,y,rfl⟩;unfold pyNext;refine jZa (wpAny_attempt (wpAny_callSpecial?_slot (name:=Str.ofString "__next__") hT O2 (wpAny_call_entry O2 hT Pz ?_ (Su _))));show wpAny _ _ (fieldsOf (.ref I) >>= _) _ _ s;refine jZa (wpAny_fieldsOf y rfl ?_);show wpAny _ _ (setEntries S >>= _) _ _ s;refine jZa (wpAny_setEntries_of hS hd hf ?_);have e0:((es.size:Int) != (es.size:Int))=false:=by simp
 rw[e0];simp only[jBn,if_false];have stop:∀(h1:Heap),Heap.SameBut I s.heap h1->wpAny (model prog w) A.in1 (newExc (.type "StopIteration") [] >>= λe=>(raiseNew e:Sem PySem.Fin)) (λaa B=>∃v,aa=PySem.Fin.done (Flow.ret v)/\wpAny (model prog w) A (pure (some v)) Q E B)
   (λe B=>wpAny (model prog w) A (do if(<-isInstance e (.type "StopIteration"))=true then pure none else throw e) Q E B) {s with heap:=h1}:=λh1 z=>by
  refine jZa ?_;simp only[newExc,newTuple];refine jZa (wpAny_newObj_type ?_ (by size_fits));refine jZa (m:=firstArgMember _ _) (wpAny_of_eq (a:=Value.none) (by first |rfl | (simp only[firstArgMember];rfl)) ?_);refine wpAny_newObj_type ?_ (by size_fits);simp only[raiseNew];refine jZa (wpAny_handled ?_);rw[show A.in1.handled=none from hh];refine jZa (jZb (wpAny_throw ?_));refine jZa (wpAny_isInstance (T:="StopIteration") (b:=true) ⟨_,jAp _ rfl,rfl⟩ isSubtype_stop ?_);exact jZb (h _ ((z.extBut.push _).push _))
 by_cases q:∃T,first=.ref T
 ·obtain⟨T,rfl⟩:=q;rcases C with ⟨_,⟨m,e⟩,_⟩ | ⟨_,_,_,e⟩ | ⟨hw,T',o',pl,n,e,L,G,ab,ae,ho⟩
  ·cases e
  ·cases e
  ·cases e;refine jZa (wpAny_seqItems L G ?_);dsimp only;have e1:(jCg (pl.map λ(k:Nat)=>rawInt (k:Int)))[((r.length:Nat):Int).toNat]? = none:=by simp;lia
   rw[e1];refine jZa (wpAny_setField y rfl (by simp) ?_);have z:=Heap.SameBut.update s.heap I (Obj.mapFields (·.setIfInBounds 0 (rawInt 0)));have U:=jCj (Obj.mapFields (·.setIfInBounds 0 (rawInt 0))) y rfl;refine jZa (wpAny_setField (s:={s with heap:=s.heap.update I (Obj.mapFields (·.setIfInBounds 0 (rawInt 0)))}) U rfl (by simp) ?_);exact stop _ (z.trans (Heap.SameBut.update _ I _))
 ·obtain⟨m,F⟩:∃m:Nat,first=rawInt (m:Int):=by
   rcases C with ⟨_,e,_⟩ | ⟨_,_,_,e⟩ | ⟨_,T,_,_,_,e,_⟩
   ·exact e
   ·exact⟨_,e⟩
   ·exact absurd ⟨T,e⟩ q
  subst F;show wpAny _ _ (setNext S (m:Int).toNat ((r.length:Nat):Int).toNat (ep:Int).toNat >>= _) _ _ s;simp only[jCa];refine jZa (Xz hS hd hf hl (jAg _) C rfl λnext _=>?_);rw[jCs (jAg _)];show wpAny _ _ (setField (.ref I) 2 Value.none >>= _) _ _ s;refine jZa (wpAny_setField y rfl (by simp) ?_);exact stop _ (Heap.SameBut.update _ I _)
end
theorem kd6:Slot "set_iterator" "__iter__" "set_iterator.__iter__":=.of (owner:="set_iterator") (n:="__iter__") (by rw[typeLookup_type,builtinLookup_eq_fast];kernel_rfl) (by decide +kernel) (by decide +kernel) (by decide +kernel) (by first |exact .inl (by decide +kernel) |exact .inr (by decide +kernel)) (by rw[isSubtype_type];kernel_rfl)
theorem je2(a:Value):argsOk "set_iterator.__iter__" ⟨[a],[]⟩:=by unfold argsOk;kernel_rfl
theorem Yp:entryFor table "set_iterator.__iter__" = some Builtin.«dict_keyiterator.__iter__» :=
 entryFor_alias (id':="dict_keyiterator.__iter__") (by kernel_rfl) (by first |rfl |decide +kernel | (unfold String.splitOn;simp +decide [String.splitOnAux])) (by decide +kernel) (by kernel_rfl)
theorem kg4{t:SetTable}(h:t.fits n=true):t.place.size=n:=by unfold SetTable.fits at h;simp at h;exact h.1
theorem kk5{p:Array Nat}(h:p.size<=1):Ris p:=by
 unfold Ris;obtain⟨l⟩:=p
 match l,h with
 | [],_=>exact .nil
 | [x],_=>simp
 |x::y::r,h=>simp at h
theorem jq0{S:Addr}{o:Obj}{Q:Value->Shared->Prop}(hS:s.heap.get? S=some o)(hD:S9 prog w ns o)
  (h:∀(h':Heap) d' ord I fp es ep t,o.data=.set es ep t->ord.Perm es.toList->(∀b u,s.heap.get? b=some u->h'.get? b=some u)->s.heap.objs.size<=I->I<h'.objs.size->S≠I->(∀T∈fp,T≠I/\s.heap.objs.size<=T/\T<h'.objs.size)->SIt w S I fp ord 0 {s with heap:=h',drawn:=d'}->Q (.ref I) {s with heap:=h',drawn:=d'}):
  wpAny (model prog w) A (pyIter (.ref S)) Q E s:=by
 revert hD;refine Xe.yi0 λes ep t hex hd ao ak ai hb hf hT aa=>?_;have ab:s.TypeIs (.ref S) "set":=⟨o,hS,hex.1⟩;have af:S<s.heap.objs.size:=jAr hS;refine wpAny_pyIter_slot ab F.slot_set_iter (wpAny_call_entry F.slot_set_iter ab Xo ?_ (Yo _));show wpAny _ _ ((do return (<-setEntries S).size:Sem Nat) >>= _) _ _ s;refine jZa (jZa (wpAny_setEntries_of hS hd hf (jZb ?_)));refine jZa (jZa (wpAny_setState_of hS hd hf ?_));dsimp only;refine jZa (Uo (jZb ?_));have mk:∀(B:Heap)(d':Drawn)(first:Value)(ord:List (Int×Value))(fp:List Addr),(∀b u,s.heap.get? b=some u->B.get? b=some u)->s.heap.objs.size<=B.objs.size->(∀T∈fp,s.heap.objs.size<=T/\T<B.objs.size)->(∀T,first=.ref T->T∈fp)->ord.Perm es.toList ->
   (∀h2:Heap,(∀b u,B.get? b=some u->h2.get? b=some u)->jf0 w S es ep t h2 first 0 ord) ->
   wpAny (model prog w) A.in1 (setEpoch S >>= λe=>newFields "set_iterator" [first,rawInt 0,.ref S,rawInt (es.size:Int),rawInt (e:Int)] >>= λv=>ret v) (λah s'=>∃v,ah=PySem.Fin.done (Flow.ret v)/\∃T' r,s'.TypeIs v T'/\typeLookup (.type T') "__next__" = pure (some r)/\Q v s') E {s with heap:=B,drawn:=d'}:=by
  intro B d' first ord fp k1 hz U ag G hm
  refine jZa (wpAny_setEpoch_of (k1 _ _ hS) hd hf ?_);unfold newFields;refine jZa (wpAny_newObj_type ?_ (by size_fits));have hI:(B.push {cls:=.type "set_iterator",data:=.fields #[first,rawInt 0,.ref S,rawInt (es.size:Int),rawInt (ep:Int)] }).get? B.objs.size=some {cls:=.type "set_iterator",data:=.fields #[first,rawInt 0,.ref S,rawInt (es.size:Int),rawInt (ep:Int)] }:=jAp _ rfl;refine jZb ⟨_,rfl,"set_iterator",_,⟨_,hI,rfl⟩,O2.lookup,?_⟩;have m:=G.length_eq;refine h _ d' ord B.objs.size fp es ep t hd G (λb u e=>jAc _ (k1 b u e)) hz (by rw[jCc];exact jDr _) (jAv (jAx af hz)) (λT y=>⟨jAv (U T y).2,(U T y).1,by rw[jCc];exact jCt (U T y).2⟩) ?_;exact⟨o,es,ep,t,first,jAc _ (k1 _ _ hS),hd,hf,by simpa using m,hI,hm _ λb u e=>jAc _ e,ag⟩
 have aj:=kg4 hf;have C:w.params.followText "set-order" = false->(!t.plain && decide (es.size>1))=false->jf0 w S es ep t s.heap (rawInt 0) 0 es.toList:=λL q=>.inr (.inl ⟨L,⟨q,by rw[aa,L];rfl,by
  cases G:t.plain with
  |true=>exact hT.ris G
  |false =>
   rw[G]at q;simp at q;exact kk5 (by lia)⟩,rfl,rfl⟩)
 cases L:w.params.followText "set-order" with
 |true=>rw[show(model prog w).w.params.followText "set-order" = true from L];simp only[jGa,jGp,jBn,if_false];refine jZa (jZb ?_);exact mk s.heap s.drawn (rawInt 0) (pickOrder (w.params.setOrder S ep) es).toList [] (λ_ _ e=>e) (jAg _) (λ_ z=>nomatch z) (λT e=>by cases e) (W7 _ _) λh2 _=>.inl ⟨L,⟨0,rfl⟩,rfl⟩
 |false =>
  rw[show(model prog w).w.params.followText "set-order" = false from L];show wpAny _ _ (if(!false && (!t.plain && decide (es.size>1)))=true then _ else _) _ _ s;cases q:(!t.plain && decide (es.size>1)) with
  |false =>
   simp only[jHw,jBn,if_false];refine jZa (jZb ?_);refine mk s.heap s.drawn (rawInt 0) es.toList [] (λ_ _ e=>e) (jAg _) (λ_ z=>nomatch z) (λT e=>by cases e) (.refl _) λh2 _=>?_;rcases C L q with x |x | ⟨_,T,_,_,_,e,_⟩
   ·exact .inl x
   ·exact .inr (.inl x)
   ·cases e
  |true =>
   simp only[jHy,Bool.and_self,if_true];refine jZa (S7 es.size _ (by simp) λpl d' G=>?_);have m:pl.length=es.size:=by have:=G.length_eq;simpa using this
   have ae:∀k∈pl,k<es.size:=λk hk=>jAt.mp (G.mem_iff.mp hk);refine jZa (wpAny_newTuple ?_ (by rw[jAd,m];exact fits_of_scanBound hb));refine mk _ d' (.ref s.heap.objs.size) (pl.map λk=>es.getD k (0,.none)) [s.heap.objs.size] (λb u e=>jAc _ e) (by rw[jCc];exact jFt _) (λT y=>?_) (λT e=>by cases e;simp) ?_ λh2 k2=>.inr (.inr ⟨L,s.heap.objs.size,_,pl,_,rfl,k2 _ _ (jAp _ rfl),rfl,m,ae,rfl⟩)
   ·rw[jAh.mp y,jCc];exact⟨jAg _,jDr _⟩
   ·refine(G.map λk=>es.getD k (0,.none)).trans (List.Perm.of_eq ?_);apply jDf
    ·simp
    ·intro i B h2;have hi:i<es.size:=by simpa using B
     simp[Array.getD,hi]
variable {I:Addr}
theorem wa0{S:Addr}{ord:List (Int×Value)}(hh:A.handled=none)(hSI:S≠I)(hIf:∀T∈fp,T≠I):
  WalksS prog w A I (I::S::fp) [I] (λa b=>b=a) ord.length (λi v=>(ord[i]?).map (·.2)=some v) (λi s=>SIt w S I fp ord i s) where
 sub:=λb hb=>by rw[jAh.mp hb];exact jAf ..
 grefl:=λ_=>rfl
 gtrans:=λ_ _ _ h1 h2=>h2.trans h1
 frame:=λi s h' tk st _ k=>by
  revert st;refine Xe.kp3 λo es ep t first hS hd hf hl hI hm hfp=>?_
  refine⟨o,es,ep,t,first,k S (by simp) _ hS,hd,hf,hl,k I (by simp) _ hI,?_,hfp⟩;rcases hm with x |x | ⟨hw,T,o',pl,n,e,hT,r⟩
  ·exact .inl x
  ·exact .inr (.inl x)
  ·exact .inr (.inr ⟨hw,T,o',pl,n,e,k T (jAb _ (jAb _ (hfp T e))) _ hT,r⟩)
 item:=λi s Q E hi st h=>wj9 st hi hSI hIf λh' sb st'=>h _ _ (by rw[jAa hi];rfl) st' ⟨λb o hb e=>sb.extBut b o (λz=>hb (by simp[z])) e,rfl,rfl,rfl,jAg _⟩
 done:=λs Q E st h=>wj8 hh st λh' eb=>h _ ⟨λb o hb e=>eb b o (λz=>hb (by simp[z])) e,rfl,rfl,rfl,jAg _⟩
 self:=λi s Q E st h=>by
  revert st;refine Xe.kp3 λo es ep t first hS hd hf hl hI hm hfp=>?_
  have hT:s.TypeIs (.ref I) "set_iterator":=⟨_,hI,rfl⟩;refine wpAny_pyIter_slot hT kd6 (wpAny_call_entry kd6 hT Yp ?_ (je2 _));show wpAny _ _ (ret (.ref I)) _ _ s;exact jZb ⟨_,rfl,"set_iterator",_,hT,O2.lookup,h⟩
def wl1(ns:List Int)(vs:List Value):Prop:=∃m:List Int,IntsAre vs m/\m.Nodup/\(∀k,k∈m↔k∈ns)/\vs.length<scanBound
theorem ks0{es:List (Int×Value)}(h:ElemsOf (intKind P w) es):IntsAre (es.map (·.2)) (es.map λe=>intOf e.2):=by
 induction es with
 |nil=>exact .nil
 |cons e es m=>obtain⟨⟨j,q,_⟩,_⟩:=h.head;have⟨t,r⟩:=Value.isInt_shape (k:=j) (v:=e.2) q;rw[jAk,jAk,r];exact .cons j t (m h.tail)
theorem ko3{S:Addr}{o:Obj}(hh:A.handled=none)(hS:s.heap.get? S=some o)(hD:S9 prog w ns o):je9 prog w A s (.ref S) (wl1 ns):=by
 intro Q E q;have bh:s.TypeIs (.ref S) "set":=by obtain⟨es,ep,t,hex,_⟩:=hD;exact⟨o,hS,hex.1⟩
 have bb:S<s.heap.objs.size:=jAr hS;unfold collect;refine jZa (wpAny_runValue (codeAny_builtin F.entry_proto_collect ?_));rw[Around.under_plainId F.plain_proto_collect _];show wpAny _ A.in1 (newList [] >>= λl=>again (.builtin "list.__iadd__" ⟨[l,.ref S],[]⟩)) _ _ s;refine jZa (wpAny_newObj_type ?_);refine jZb ⟨plainId_quiet F.plain_list_iadd _,codeAny_builtin F.entry_list_iadd ?_⟩;rw[Around.under_plainId F.plain_list_iadd _];generalize eh:s.heap.push {cls:=.type "list",data:=.seq ([]:List Value).toArray}=h1;have k1:∀b u,s.heap.get? b=some u->h1.get? b=some u:=λb u e=>by rw[<-eh];exact jAc _ e
 have ae:h1.objs.size=s.heap.objs.size+1:=by rw[<-eh,jCc]
 have hL:h1.get? s.heap.objs.size=some {cls:=.type "list",data:=.seq #[] 0}:=by rw[<-eh];exact jAp _ rfl
 have ao:s.heap.objs.size≠S:=jCq bb;show wpAny _ A.in1 (Builtin.List.listExtendWith (.ref s.heap.objs.size) (.ref S) (.ref s.heap.objs.size)) _ _ {s with heap:=h1};unfold Builtin.List.listExtendWith;have G:Shared.TypeIs {s with heap:=h1} (.ref S) "set":=by obtain⟨o',U,aa⟩:=bh;exact⟨o',k1 _ _ U,aa⟩
 refine jZa (wpAny_typeOf G ?_);have e1:Builtin.List.listSameRef (.ref s.heap.objs.size) (.ref S)=false:=by simp[Builtin.List.listSameRef,ao]
 rw[if_neg (by rw[e1];decide)];refine jZa (jq0 (s:={s with heap:=h1}) (k1 _ _ hS) hD λh2 d' ord I fp es ep t hd hp k2 bq bw bj aj st=>?_);have B:Shared.TypeIs {s with heap:=h2,drawn:=d'} (.ref S) "set":=by obtain⟨o',U,aa⟩:=G;exact⟨o',k2 _ _ U,aa⟩
 have L:s.heap.objs.size+1<=I:=by rw[<-ae];exact bq
 refine jZa (wpAny_holding ?_);unfold Builtin.List.listLengthHint;refine jZa (wpAny_specialOf B F.slot_set_len.lookup ?_);generalize ah:("set.__len__" : String)=az
 wp_delta
 rw[show splitId az=some ("set","__len__") from by subst ah;decide +kernel];subst ah;refine jZa (wpAny_isInstance (b:=true) B (by rw[isSubtype_type];kernel_rfl) ?_);refine wpAny_ite_split (λz=>absurd z (by decide)) (λ_=>?_);refine wpAny_ite_split (λ_=>?_) (λz=>absurd (by decide +kernel) z);refine jZa (wpAny_typeOf B (jZb ?_));refine wpAny_ite_split (λ_=>?_) (λz=>absurd (by decide +kernel) z);refine jZa (wpAny_rule ?_);have aw:h2.get? s.heap.objs.size=some {cls:=.type "list",data:=.seq #[] 0}:=k2 _ _ hL;have bp:s.heap.objs.size≠I:=jAv (jAx (jDr _) L);have aq:s.heap.objs.size∉I::S::fp:=λz=>by
  rcases jAe.mp z with z |z
  ·exact bp z
  ·rcases jAe.mp z with z |z
   ·exact ao z
   ·have:=(aj _ z).2.1;have hz:s.heap.objs.size+1<=s.heap.objs.size:=by rw[<-ae];exact this
    exact absurd hz (Nat.not_succ_le_self _)
 have hW:WalksS prog w A.in1 I (I::S::fp) [I] (λa b=>b=a) ord.length (λi v=>(ord[i]?).map (·.2)=some v) (λi s=>SIt w S I fp ord i s):=wa0 (A:=A.in1) (by simpa using hh) bj λT hT=>(aj T hT).1;refine jZa ?_;show wpAny _ _ (updateSeq s.heap.objs.size (·.push .none) >>= λ_=>updateSeq s.heap.objs.size (·.pop)) _ _ _;refine jZa (wpAny_updateSeq (s:={s with heap:=h2,drawn:=d'}) aw rfl ?_);have au:=jCj (Obj.mapSeq (·.push Value.none)) aw rfl;refine wpAny_updateSeq (s:={s with heap:=h2.update s.heap.objs.size (Obj.mapSeq (·.push Value.none)),drawn:=d'}) au rfl ?_ (by show(#[]:Array Value).size+1<=_;rw[sizeLine_eq];simp) (by show 0<=_;exact jCr _);have ar:=jCj (Obj.mapSeq (·.pop)) au rfl;generalize br:(h2.update s.heap.objs.size (Obj.mapSeq (·.push Value.none))).update s.heap.objs.size (Obj.mapSeq (·.pop))=h3 at ar;have k3:∀b u,b≠s.heap.objs.size->h2.get? b=some u->h3.get? b=some u:=λb u n e=>by rw[<-br];exact(jEg _ _ (Ne.symm n)).trans ((jEg _ _ (Ne.symm n)).trans e)
 have ax:SIt w S I fp ord 0 {s with heap:=h3,drawn:=d'}:=hW.frame 0 _ h3 s.toks st (jAg _) λb hb u e=>k3 b u (λz=>aq (z ▸ hb)) e;obtain⟨es',bx,t',hex,bg,bc,ba,ag,hb,hf,hT,bt⟩:=hD;rw[bg]at hd;cases hd;have r:ord.length=es.size:=by simpa using hp.length_eq
 refine jZb ⟨plainId_quiet F.plain_extend_loop _,codeAny_extend_loopS hW (by rw[r];exact fits_of_scanBound hb) _ aq _ ord.length 0 _ _ _ rfl (jCr _) ax ar (ItemsOf.nil _) λs' C c' hm bo y=>?_⟩;show wpAny _ A (load s.heap.objs.size >>= _) _ _ s';refine jZa (wpAny_load bo ?_);have ev:C.toList=ord.map (·.2):=by
  apply List.ext_getElem?;intro i;by_cases hi:i<ord.length
  ·have ai:i<C.size:=by rw[y.1];exact hi
   have:=y.2 i C[i] (jBx ai);rw[jDw,jBx ai,jBa,this]
  ·rw[jCs (by rw[jCi,y.1];lia),jCs (by rw[jAd];lia)]
 have ab:∀b u,s.heap.get? b=some u->s'.heap.get? b=some u:=λb u e=>by
  have m:b<s.heap.objs.size:=jAr e;refine hm.heap b u (λz=>?_) (k3 b u (jAv m) (k2 _ _ (k1 b u e)));rcases jAe.mp z with z |z
  ·exact jAv m z
  ·rw[jAh.mp z]at m;exact absurd (jAx m (jFx L)) (jCf _)
 have eqs:s' = {s with heap:=s'.heap,drawn:=d',toks:=s'.toks}:=by obtain⟨_,hg,bf,ho,_⟩:=hm;obtain⟨h',g',d2,bu,ay⟩:=s';have x1:g'=s.gens:=hg;have x2:d2=d':=bf;have x3:ay=s.os:=ho;subst x1 x2 x3;rfl
 refine jZb ?_;rw[eqs,ev];have ak:ElemsOf (intKind prog w) ord:=bc.perm hp;have af:(ord.map λe=>intOf e.2).Perm (J3 es):=hp.map _;exact q _ _ _ _ ab (by rw[jAd,r];exact fits_of_scanBound hb) ⟨_,ks0 ak,af.nodup_iff.mpr ba,λk=>af.mem_iff.trans (ag k),by rw[jAd,r];exact hb⟩
def Nj(led:Bool):Obj:={cls:=.type "set",dict:=none,data:=.set #[] 0 (.fresh 0 0 led)}
theorem js1:S9 prog w [] (Nj (!w.params.followText "set-order")):=
 ⟨#[],0,_,⟨rfl,rfl,rfl⟩,rfl,λe m=>by simp at m,by simp[J3],λk=>by simp[J3],by decide,(by show(SetTable.fresh 0 0 _).fits 0=true;cases w.params.followText "set-order" <;> decide),⟨rfl,λ_=>.nil⟩,rfl⟩
theorem wg8(a:Value){Q:Value->Shared->Prop}(h:Q (.ref s.heap.objs.size) {s with heap:=s.heap.push (Nj (!w.params.followText "set-order"))}):
  codeAny (model prog w) A (.call (.builtin "set.__new__") ⟨[.type "set",a],[]⟩) (wants Q E) s:=by
 refine codeAny_of_tree ?_;show wpAny _ A.in1 (checkBuiltinCall "set.__new__" ⟨[.type "set",a],[]⟩ >>= λ_=>again (.builtin "set.__new__" ⟨[.type "set",a],[]⟩)) _ _ s;refine jZa (wpAny_of_eq (F.newCall_set_1 a) (jZb ⟨plainId_quiet F.plain_set_new _,codeAny_builtin F.entry_set_new ?_⟩));rw[Around.under_plainId F.plain_set_new _];unfold Builtin.«set.__new__» Builtin.Frozenset.newClass;have sub:=sub_set_self;obtain⟨r,g,d,m,q⟩:=s;dsimp only
 wp_walk
 refine wpAny_askSetting (jZb ?_);dsimp only;simp only[newObj];refine jZa (wpAny_alloc (jZb ?_));exact jZb h
theorem ky2{R:Result->Shared->Prop}{wr:List Addr}{G:Array GenState->Array GenState->Prop}{P:Nat->Value->Prop}{St:Nat->Shared->Prop}(W:WalksS prog w A.in1 I fp wr G n P St)(S:Addr)(L:S∉fp)(val:Nat->Int)(r:∀i v,P i v->∃t,v=.int (val i) t)(q:n+1<scanBound):
  ∀(k i:Nat)(s:Shared)(o:Obj),n - i=k->i<=n->St i s->s.heap.get? S=some o->S9 prog w ((List.range i).map val).reverse o->(∀es ep t,o.data=.set es ep t->es.size<=i) ->
   (∀m o',Moved (S::wr) G s m->m.heap.get? S=some o'->S9 prog w ((List.range n).map val).reverse o'->R (.ok (.ret .none)) m)->codeAny (model prog w) A (.builtin "set.update.loop" ⟨[.ref S,.ref I],[]⟩) R s:=by
 have C:S∉wr:=λh=>L (W.sub _ h);have sub:∀b∈wr,b∈S::wr:=λb q=>jAb _ q;intro k;induction k with
 |zero =>
  intro i s o hk hi st ho hD hz hR;have e:i=n:=by lia
  subst e;refine codeAny_builtin PyProof.Rows.F.entry_set_update_loop ?_;rw[Around.under_plainId PyProof.Rows.F.plain_set_update_loop _];show wpAny _ A.in1 (pyNext (.ref I) >>= _) _ _ s;exact jZa (W.done s _ _ st λm y=>jZb (hR m o (y.mono sub) (y.heap S _ C ho) hD))
 |succ k ih =>
  intro i s o hk hi st ho hD hz hR;have lt:i<n:=by lia
  refine codeAny_builtin PyProof.Rows.F.entry_set_update_loop ?_;rw[Around.under_plainId PyProof.Rows.F.plain_set_update_loop _];show wpAny _ A.in1 (pyNext (.ref I) >>= _) _ _ s;refine jZa (W.item i s _ _ lt st λv m hP ab y=>?_);obtain⟨t,rfl⟩:=r i v hP;have ah:=y.heap S _ C ho;show wpAny _ A.in1 (holding [Value.int (val i) t] (setAdd S (.int (val i) t)) >>= _) _ _ m;refine jZa (wpAny_holding ?_);unfold setAdd;refine wpAny_holding (jZa ((intKind prog w).pyHash (k:=val i) (intKind_is _ _ _ _) ?_));refine wj6 (s:={m with toks:=m.toks+1}) ah hD (λes ep tb hd=>by have:=hz es ep tb hd;lia) λb h' o2 sb ag ao ae=>?_;have ak:S9 prog w ((List.range (i+1)).map val).reverse o2:=by rw[jEj,jBc,List.reverse_append];exact ao
  refine jZb ⟨plainId_quiet PyProof.Rows.F.plain_set_update_loop _,ih (i+1) _ o2 (by lia) lt (W.frame _ m _ _ ab (jFt _) λb q u e=>(sb.2 b λz=>L (z ▸ q)).trans e) ag ak (λes ep tb hd=>?_) λs2 o3 ai af aj=>?_⟩
  ·revert hD;refine Xe.kp2 λU aa t0 _ B _=>?_;have x1:=hz U aa t0 B;have x2:=ae U aa t0 es ep tb B hd;lia
  ·refine hR s2 o3 (Moved.trans W.gtrans ((y.mono sub).then_heap (jFt _) λb u q e=>?_) ai) af aj;exact(sb.2 b λz=>q (by rw[z];exact jAf ..)).trans e
theorem kn7{l:Addr}{Q:Value->Shared->Prop}(hh:A.handled=none)(hl:s.heap.IsList l items)(hi:IntsAre items.toList ns)(hb:items.size+1<scanBound)
  (h:∀(h':Heap)(tk:Nat)(o:Obj),h'.get? s.heap.objs.size=some o->S9 prog w ns o->(∀b u,s.heap.get? b=some u->h'.get? b=some u)->Q (.ref s.heap.objs.size) {s with heap:=h',toks:=tk}):
  wpAny (model prog w) A (call (.type "set") [.ref l]) Q E s:=by
 obtain⟨c,tl,aq⟩:=F.called_set.mro;have made:=F.called_set.made;have ar:=F.called_set.sub;refine wpAny_call (codeAny_of_tree ?_);show wpAny _ _ (callAny (.type "set") _) _ _ _;refine jZb ⟨Code.quiet_builtin _ (by decide +kernel),codeAny_builtin F.entry_type_call ?_⟩;rw[Around.under_plain (weight_type_call_type "set" [.ref l] []) rfl];have a1:=F.called_set.notType;have a2:=F.called_set.canCreate;have a3:=F.typeCall_set_1 (.ref l)
 repeat (any_goals (first |assumption |wp_step))
 refine codeAny_mono (wg8 (.ref l) (E:=E) (Q:=λobj s1=>obj=.ref s.heap.objs.size/\s1 = {s with heap:=s.heap.push (Nj (!w.params.followText "set-order"))}) ⟨rfl,rfl⟩) λr s' hr=>?_;cases r with
 |error e=>exact hr
 |ok fl =>
  cases fl with
  |ret obj =>
   obtain⟨rfl,rfl⟩:=hr;generalize eh:s.heap.push (Nj (!w.params.followText "set-order"))=m;have k1:∀b u,s.heap.get? b=some u->m.get? b=some u:=λb u e=>by rw[<-eh];exact jAc _ e
   have y:m.objs.size=s.heap.objs.size+1:=by rw[<-eh,jCc]
   have Z:m.get? s.heap.objs.size=some (Nj (!w.params.followText "set-order")):=by rw[<-eh];exact jAp _ rfl
   have hT:Shared.TypeIs {s with heap:=m} (.ref s.heap.objs.size) "set":=⟨_,Z,rfl⟩;have b1:=F.called_set.init.lookup;have b2:=F.called_set.init.bind (.ref s.heap.objs.size);clear eh
   repeat (any_goals (first |assumption |wp_step))
   refine codeAny_mono (codeAny_call_builtin (R:=wants (λr s2=>r=.none/\∃h' tk o,s2 = {s with heap:=h',toks:=tk}/\h'.get? s.heap.objs.size=some o/\S9 prog w ns o/\∀b u,s.heap.get? b=some u->h'.get? b=some u) E) F.called_set.init.plain F.entry_set_init (check_set_init_1 hT ?_)) λr2 s2 z=>?_
   ·obtain⟨ol,C,ab,nl,aa⟩:=hl;obtain⟨ao,ah,ai,ae⟩:=ol;simp only at ab aa;subst ab aa;have B:=k1 _ _ C;have c1:=F.sub_list_set;have c2:=F.sub_list_frozenset;have c3:(Value.type "list" == Value.type "dict")=false:=by decide
    have U:m.IsList l items:=⟨_,B,rfl,nl,rfl⟩;unfold Builtin.«set.__init__» noKeywords Builtin.Frozenset.updateFrom;generalize ak:pyIter=PI
    wp_walk
    subst ak;refine wpAny_pyIter_list U (jZa (wpAny_runValue ?_));have G:l<s.heap.objs.size:=jAr C;have d1:A.in1.in1.in1.handled=none:=by simp[hh]
    have d2:l≠m.objs.size:=by rw[y];exact jAv (jCt G)
    have d3:s.heap.objs.size∉[m.objs.size,l]:=by rw[y];simp only[jAe,jAh,jDs,or_false,not_or];exact⟨jAv (jDr _),jCq G⟩
    have d4:∀(i:Nat)(v:Value),items[i]? = some v->∃t,v=.int ((λi=>ns.getD i 0) i) t:=λi v hv=>IntsAre.int_at hi i v (by rw[jDw];exact hv);refine ky2 ((Walks.list d1 _ l d2 items).toS) s.heap.objs.size d3 (λi=>ns.getD i 0) d4 hb (items.size - 0) 0 _ _ (by lia) (jCr _) ⟨⟨_,jAp _ rfl,rfl,rfl⟩,U.push _⟩ (jAc _ Z) js1 (λes ep t e=>by cases e;exact jCr _) λs' o' hm aj hD=>?_;have en:((List.range items.size).map λi=>ns.getD i 0)=ns:=by
     have L:ns.length=items.size:=by have:=IntsAre.length hi;simpa using this.symm
     rw[<-L];apply jDf
     ·simp
     ·intro i m h2;simp at m;simp[m]
    rw[en]at hD;obtain⟨h',g',d',af,ag⟩:=s';have x1:g'=s.gens:=hm.gens;have x2:d'=s.drawn:=hm.drawn;have x3:ag=s.os:=hm.os;subst x1 x2 x3;show wpAny _ _ _ _ _ _;refine jZb ?_;show wpAny _ _ (ret Value.none) _ _ _;refine jZb ⟨rfl,h',af,o',rfl,aj,?_,λb u e=>?_⟩
    ·obtain⟨es,ep,t,e1,e2,e3,e4,e5,e6⟩:=hD;exact⟨es,ep,t,e1,e2,e3,e4,λk=>(e5 k).trans (by simp),e6⟩
    ·have q:b<s.heap.objs.size:=jAr e;refine hm.heap b u ?_ (jAc _ (k1 b u e));rw[y];simp only[jAe,jAh,jDs,or_false,not_or];exact⟨jAv q,jAv (jCt q)⟩
   ·cases r2 with
    |error e=>exact z
    |ok f2 =>
     cases f2 with
     |ret r3 =>
      obtain⟨rfl,h',tk,o,rfl,g2,hD,k2⟩:=z
      repeat (any_goals (first |assumption |wp_step))
      exact h _ _ o g2 hD k2
     |_=>exact z.elim
  |_=>exact hr.elim
def jx6(P:Program)(w:World)(a:Addr)(ns:List Int)(h:Heap):Prop:=∃o,h.get? a=some o/\S9 P w ns o
def Ss:List D->Option (List Int)
 | [.lst xs]=>if xs.length<64 then Ay xs else none
 |_=>none
def V6:List Int->List Int
 | []=>[]
 |x::xs=>if x∈xs then V6 xs else x::V6 xs
theorem Nb(k:Int):∀xs,k∈V6 xs↔k∈xs
 | []=>Iff.rfl
 |x::xs=>by
  unfold V6;by_cases h:x∈xs
  ·rw[if_pos h,Nb k xs,jAe];exact⟨.inr,λz=>z.elim (λe=>e ▸ h) id⟩
  ·rw[if_neg h,jAe,jAe,Nb k xs]
theorem Lh:∀xs,(V6 xs).Nodup
 | []=>.nil
 |x::xs=>by
  unfold V6;by_cases h:x∈xs
  ·rw[if_pos h];exact Lh xs
  ·rw[if_neg h];exact jBj.mpr ⟨λz=>h ((Nb x xs).mp z),Lh xs⟩
theorem jh1:∀xs,(V6 xs).length<=xs.length
 | []=>jAg _
 |x::xs=>by
  unfold V6;have:=jh1 xs;by_cases h:x∈xs
  ·rw[if_pos h,jAy];lia
  ·rw[if_neg h,jAy,jAy];lia
def kl2(ns:List Int):List D:=srt ((V6 ns).map .int)
theorem Tj:∀q:List Int,Ay (q.map .int)=some q
 | []=>rfl
 |m::q=>by simp[Ay,Tj q]
theorem Ti:∀{xs:List D}{ns:List Int},Ay xs=some ns->ns.length=xs.length
 | [],ns,h=>by cases h;rfl
 |d::xs,ns,h=>by
  cases d with
  |int i =>
   cases e:Ay xs with
   |none=>simp[Ay,e]at h
   |some m=>simp[Ay,e]at h;subst h;simp[Ti e]
  |_=>cases h
theorem K4{K:Frag}{H:Hp}{S:AS}:∀q:List Int,An K H S (q.map .int) (q.map V.int)
 | []=>An.nil
 |m::q=>.cons rfl (K4 q)
theorem Ji:∀{us:List Value}{m:List Int},IntsAre us m->Vals (m.map V.int) us
 |_,_,.nil=>.nil
 |_,_,.cons n t h=>.cons ⟨t,rfl⟩ (Ji h)
theorem Tu(m:List Int):Du (m.map D.int)=true:=by unfold Du;rw[jCb];refine .inl ?_;rw[jGi];exact jAw.mpr λ_ _=>rfl
theorem Oc{ys:List D}(q:Du xs=true)(p:ys.Perm xs):srt ys=srt xs:=by refine eq_of_sorted (le:=λa b=>Gy a b=true) ((El ys).trans (p.trans (El xs).symm)) (Fv ys) (Fv xs) λa y b r m h2=>?_;unfold Gy at m h2;rw[jCk]at m h2;exact Vm q (p.mem_iff.mp ((El ys).mem_iff.mp y)) (p.mem_iff.mp ((El ys).mem_iff.mp r)) (Fp _ _ h2 m)
theorem Ul(h:xs.length<2):srt xs=xs:=by
 match xs,h with
 | [],_=>exact List.mergeSort_nil
 | [x],_=>exact List.mergeSort_singleton x
def yf5(K:Frag)(P:Program)(w:World):List V->Hp->VK->Prop:=λxs H Q=>∃S ds ns,An K H S ds xs/\Ss ds=some ns/\∀a,H a=none->Q (.ref a) (upd H a (.ext (jx6 P w a ns)))
def yf6(K:Frag)(P:Program)(w:World):List V->Hp->VK->Prop:=λxs H Q=>∃a ns,xs=[.ref a]/\H a=some (.ext (jx6 P w a ns))/\ns.length<64/\∀b ws H',Ag H H'->H b=none->H' b=some (.lst ws)->(∀S,An K H' S (kl2 ns) ws)->Q (.ref b) H'
variable {F:Pos}
section
variable {fs:Ev->R (List D)}
theorem wz0(hc:X.calm=true):Eh X (.type "set") (yf5 X.K X.prog X.w):=by
 rintro pins s σ H ys us Q I r ⟨S,ds,ns,rs,e,q⟩;obtain⟨x',rfl⟩:=inv1 e rfl (λx _ _=>by cases x<;>rfl);cases x' with
 |lst xs =>
  have Y:(if xs.length<64 then Ay xs else none)=some ns:=e;by_cases C:xs.length<64
  ·rw[if_pos C]at Y;obtain⟨v,rfl,a,vs,rfl,ha,z⟩:=rs.one;obtain⟨u,rfl,ru⟩:=vals1 r;cases ru;have⟨aa,y,pl,_⟩:=I.list ha.sq;have l1:=z.length;have l2:=y.length;refine kn7 (I.ok.hd hc) pl.isList (ns:=ns) (by simpa using ints_of z y Y) (by rw[jAo];unfold scanBound;lia) λh' m o G hD k=>?_;have hf:H s.heap.objs.size=none:=I.hok.fresh (jAg _);have I2:Inv X pins σ (upd H s.heap.objs.size (.ext (jx6 X.prog X.w s.heap.objs.size ns))) {s with heap:=h',toks:=m}:=
    I.laid (t':=m) k (jAg _) ⟨⟨o,G,hD⟩,⟨o,G⟩,λh1 h2 ⟨B,U,L⟩ kk=>⟨B,kk B U,L⟩⟩
   exact⟨.ref s.heap.objs.size,_,I2,rfl,q _ hf⟩
  ·rw[if_neg C]at Y;cases Y
 |_=>exact nos e
def Dv(xs:List D):Option D:=(Ss xs).map λns=>.lst (kl2 ns)
theorem Yr{d:D}(h:bA fs Dv ρ=.ok d):∃ds,d=.lst ds:=by
 unfold bA at h;cases m:fs ρ with
 |ok xs =>
  rw[m]at h;simp only[R.ok_bind,Dv]at h;cases q:Ss xs with
  |none=>rw[q]at h;cases h
  |some ns=>rw[q]at h;cases h;exact⟨_,rfl⟩
 |exc _=>rw[m]at h;cases h
 |bad=>rw[m]at h;cases h
theorem Mu:∀ρ d,bA fs Dl ρ=.ok d->∃ds,d=.lst ds:=λρ d h=>by
 unfold bA at h;cases m:fs ρ with
 |ok xs =>
  rw[m]at h;simp only[R.ok_bind]at h
  match xs,h with
  | [x],h =>
   unfold Dl at h;dsimp only at h;cases q:La x with
   |none=>rw[q]at h;cases h
   |some ys =>
    rw[q]at h;dsimp only at h;split at h
    ·cases h;exact⟨_,rfl⟩
    ·cases h
  | [],h=>cases h
  |_::_::_,h=>cases h
 |exc _=>rw[m]at h;cases h
 |bad=>rw[m]at h;cases h
end
def Yn:List D->Option (Int×Int)
 | [.int j]=>if -(2 ^ 62)<=j/\j<2 ^ 62/\j<=16777216 then some (0,j) else none
 | [.int i,.int j]=>if -(2 ^ 62)<=i/\i<2 ^ 62/\-(2 ^ 62)<=j/\j<2 ^ 62/\j - i<=16777216 then some (i,j) else none
 |_=>none
def Ua(i j:Int):List Int:=(List.range (j - i).toNat).map λ(k:Nat)=>i+(k:Int)
def list_rangeD(xs:List D):Option D:=(Yn xs).map λq=>.lst ((Ua q.1 q.2).map .int)
def G5(xs:List D):Option D:=(Yn xs).map λq=>.tup ((Ua q.1 q.2).map .int)
theorem Wq{a:Int}{acc:Array Value}(h:ItemsOf (λi v=>∃t,v=.int (a+i * 1) t) acc n):IntsAre acc.toList ((List.range n).map λ(k:Nat)=>a+(k:Int)):=by
 have gen:∀(vs:List Value)(o:Nat),(∀i v,vs[i]? = some v->∃t,v=Value.int (a+((o+i:Nat):Int)) t)->IntsAre vs ((List.range' o vs.length).map λ(k:Nat)=>a+(k:Int)):=by
  intro vs;induction vs with
  |nil=>intro o _;exact .nil
  |cons v vs q =>
   intro o m;obtain⟨t,rfl⟩:=m 0 v rfl;rw[jAy,jHl,jAk];exact .cons _ t (q (o+1) λi u r=>by
    have⟨t',e⟩:=m (i+1) u (by simpa using r);exact⟨t',by rw[e,show o+(i+1)=o+1+i by lia]⟩)
 have:=gen acc.toList 0 λi v m=>by have⟨t,e⟩:=h.2 i v (by simpa using m);exact⟨t,by rw[e,jCw,jCy]⟩
 rw[jCi,h.1,<-List.range_eq_range']at this;exact this
theorem Xd{hi:Int}:Builtin.Range.rangeSize lo hi 1=(((hi - lo).toNat:Nat):Int):=by rw[rangeSize_one];split<;>lia
theorem jr6{r:Addr}{hi:Int}{t u v:Tok}(hh:A.handled=none)(hr:IsRange s.heap r lo hi 1 t u v)(h1:-(2 ^ 62)<=lo)(h2:lo<2 ^ 62)(h3:-(2 ^ 62)<=hi)(h4:hi<2 ^ 62)(h5:hi - lo<=16777216):
  je9 prog w A s (.ref r) λvs=>IntsAre vs (Ua lo hi):=by
 intro Q E q;unfold collect;refine jZa (wpAny_runValue (codeAny_builtin F.entry_proto_collect ?_));rw[Around.under_plainId F.plain_proto_collect _];show wpAny _ A.in1 (newList [] >>= λl=>again (.builtin "list.__iadd__" ⟨[l,.ref r],[]⟩)) _ _ s;refine jZa (wpAny_newObj_type ?_);refine jZb ⟨plainId_quiet F.plain_list_iadd _,codeAny_builtin F.entry_list_iadd ?_⟩;rw[Around.under_plainId F.plain_list_iadd _];show wpAny _ A.in1 (Builtin.List.listExtendWith (.ref s.heap.objs.size) (.ref r) (.ref s.heap.objs.size)) _ _ _;have key:=wpAny_extend_range (prog:=prog) (w:=w) (A:=A) (s:={s with heap:=s.heap.push {cls:=.type "list",data:=.seq ([]:List Value).toArray} })
  (R:=λx y=>x=.ok (.ret (.ref s.heap.objs.size))/\∃(h':Heap)(tk:Nat)(acc:Array Value)(c:Nat),y = {s with heap:=h',toks:=tk}/\(∀b o,s.heap.get? b=some o->h'.get? b=some o)/\h'.get? s.heap.objs.size=some {cls:=.type "list",dict:=none,data:=.seq acc c,slots:=#[] }/\ItemsOf (λi v=>∃t,v=.int (lo+i * 1) t) acc (hi - lo).toNat)
  hh (jAc _ hr) (small_one h1 h2 h3 h4) (n:=(hi - lo).toNat) Xd (by lia) s.heap.objs.size (.ref s.heap.objs.size) 0 (jAp _ rfl) λh' tk B L k G m=>⟨rfl,h',tk,B,L,rfl,λb o e=>k b o (jAv (jAr e)) (jAc _ e),G,m⟩
 have z:∀y,(∃(h':Heap)(tk:Nat)(acc:Array Value)(c:Nat),y = {s with heap:=h',toks:=tk}/\(∀b o,s.heap.get? b=some o->h'.get? b=some o)/\h'.get? s.heap.objs.size=some {cls:=.type "list",dict:=none,data:=.seq acc c,slots:=#[] }/\ItemsOf (λi v=>∃t,v=.int (lo+i * 1) t) acc (hi - lo).toNat) ->
   wpAny (model prog w) A (load s.heap.objs.size >>= λo=>match o.data with | .seq xs _=>pure xs.toList |_=>unsupported "internal:collect") Q E y:=by
  rintro y ⟨h',tk,acc,c,rfl,k,G,m⟩;refine jZa (wpAny_load G ?_);exact jZb (q _ _ tk s.drawn k (by rw[jCi,m.1,sizeLine_eq];lia) (Wq m))
 refine wpAny_mono key (λf y h=>?_) (λe y h=>absurd h.1 (by simp));cases f with
 |done g=>obtain⟨e,h⟩:=h;cases e;exact z y h
 |again L=>exact⟨h.1,codeAny_mono h.2 λx U C=>by
   obtain⟨rfl,C⟩:=C;exact z U C⟩
variable {G:List Value->Prop}
theorem je9.use{Q:List Value->Shared->Prop}(q:je9 prog w A s u G)(h:∀vs h' m r,(∀b o,s.heap.get? b=some o->h'.get? b=some o)->vs.length<=sizeLine->G vs->Q vs {s with heap:=h',drawn:=r,toks:=m}):wpAny (model prog w) A (collect u) Q E s:=q Q E h
theorem jk5{T:String}(hT:(Value.type T == Value.type "tuple")=false):Meets (Builtin.«tuple.__new__» ⟨[.type "tuple",u],[]⟩)
  (λA R s=>s.TypeIs u T/\(∀prog w,je9 prog w A.in1 s u G)/\∀vs (h':Heap) B z,(∀b o,s.heap.get? b=some o->h'.get? b=some o)->G vs->R (.ok (.ret (.ref h'.objs.size))) {s with heap:=h'.push {cls:=.type "tuple",data:=.seq vs.toArray},drawn:=z,toks:=B}):=
 .of_wp λprog w A R s h=>by
  obtain⟨y,hc,h⟩:=h;have C:=sub_tuple_self;have r:=init_tuple_lookup;have U:=madeHere_tuple;have m:=hc prog w;obtain⟨hp,g,d,B,os⟩:=s
  wp_walk using wpAny_typeOf y,je9.use m
  intro vs h' q z k L gg;refine jZa (jZb ?_);show wpAny _ _ (Builtin.Tuple.tupleExact vs.toArray >>= λv=>ret v) _ _ _;unfold Builtin.Tuple.tupleExact;refine jZa (wpAny_newObj_type ?_ (by show vs.toArray.size<=sizeLine;rw[jAo];exact L));exact jZb ⟨_,rfl,h vs h' q z k gg⟩
def yf4:List V->Hp->VK->Prop:=λxs H Q=>∃i j:Int,((xs=[.int j]/\i=0)\/xs=[.int i,.int j])/\∀a,H a=none->Q (.ref a) (upd H a (.rng i j))
def km4(i j:Int):Prop:=-(2 ^ 62)<=i/\i<2 ^ 62/\-(2 ^ 62)<=j/\j<2 ^ 62/\j - i<=16777216
def yf2:List V->Hp->VK->Prop:=λxs H Q=>∃a i j,xs=[.ref a]/\H a=some (.rng i j)/\km4 i j/\∀b,H b=none->Q (.ref b) (upd H b (.lst ((Ua i j).map V.int)))
def yf3:List V->Hp->VK->Prop:=λxs H Q=>∃a i j,xs=[.ref a]/\H a=some (.rng i j)/\km4 i j/\∀b,H b=none->Q (.ref b) (upd H b (.tup ((Ua i j).map V.int)))
theorem jm8(i j:Int):(Ua i j).length=(j - i).toNat:=by simp[Ua]
section
variable {fs:Ev->R (List D)}
theorem jy8:Eh X (.type "range") yf4:=by
 rintro pins s σ H ys us Q I r ⟨i,j,y,q⟩;have m:H s.heap.objs.size=none:=I.hok.fresh (jAg _);rcases y with ⟨rfl,rfl⟩ |rfl
 ·obtain⟨u,rfl,t,rfl⟩:=vals1 r;refine call_range_1 ⟨.ref s.heap.objs.size,_,I.laid (t':=s.toks+1+1) (λb o e=>jAc _ e) (jAg _) (show Dj X.prog X.w _ _ _ (.rng 0 j) from⟨_,_,_,jAp _ rfl⟩),rfl,q _ m⟩
 ·obtain⟨u1,u2,rfl,⟨B,rfl⟩,⟨z,rfl⟩⟩:=r.two;refine call_range_2 ⟨.ref s.heap.objs.size,_,I.laid (t':=s.toks+1) (λb o e=>jAc _ e) (jAg _) (show Dj X.prog X.w _ _ _ (.rng i j) from⟨_,_,_,jAp _ rfl⟩),rfl,q _ m⟩
theorem wb0(U:X.calm=true):Eh X (.type "list") yf2:=by rintro pins s σ H ys us Q I r ⟨a,i,j,e,ha,⟨h1,h2,h3,h4,h5⟩,q⟩;subst e;refine Xe.Aq (λu m B=>?_) (vals1 r);obtain rfl:=m;cases B;refine Xe.wz9 (λt u v C=>?_) (I.hok a _ ha);refine call_list_range (I.ok.hd U) C (small_one h1 h2 h3 h4) (n:=(j - i).toNat) Xd (by lia) λh' z y c' k hS L=>?_;have hint:=Wq L;refine⟨.ref s.heap.objs.size,_,I.laid (t':=z) k (jAg _) (show Dj X.prog X.w _ h' _ (.lst ((Ua i j).map V.int)) from⟨by rw[jAd,jm8,sizeLine_eq];lia,y.toList,c',Ji hint,by simpa using hS⟩),rfl,q _ (I.hok.fresh (jAg _))⟩
theorem kn5(L:X.calm=true):Eh X (.type "tuple") yf3:=by rintro pins s σ H ys us Q I r ⟨a,i,j,e,U,⟨h1,h2,h3,h4,h5⟩,q⟩;subst e;refine Xe.Aq (λu m C=>?_) (vals1 r);obtain rfl:=m;cases C;refine Xe.wz9 (λt u v z=>?_) (I.hok a _ U);refine callType_new F.called_tuple (by decide) (F.typeCall_tuple_1 _) (F.newCall_tuple_1 _) (λobj=>F.args_object_init_2 obj _) F.entry_tuple_new (jk5 (T:="range") (by decide)) ⟨⟨_,z,rfl⟩,λprog w=>jr6 (by simpa using I.ok.hd L) z h1 h2 h3 h4 h5,λvs h' y d' k g=>⟨⟨_,jAp _ rfl,rfl⟩,?_⟩⟩;have B:Inv X pins σ H {s with heap:=h',drawn:=d',toks:=y}:=Ou I k;exact⟨.ref h'.objs.size,_,B.laid (t':=y) (λb o e=>jAc _ e) (jAg _) (show Dj X.prog X.w _ _ _ (.tup ((Ua i j).map V.int)) from⟨by rw[jAd,jm8,sizeLine_eq];lia,vs,Ji g,IsTup.new _ _⟩),rfl,q _ (B.hok.fresh (jAg _))⟩
theorem kc7{S:AS}{i j:Int}(r:An K H S ds vs)(h:Yn ds=some (i,j)):((vs=[.int j]/\i=0)\/vs=[.int i,.int j])/\km4 i j:=by
 match ds,h with
 | [.int k],h=>have h':(if -(2 ^ 62)<=k/\k<2 ^ 62/\k<=16777216 then some ((0:Int),k) else none)=some (i,j):=h;have⟨z,e⟩:=Bj h';cases e;refine Xe.Aq (λv y B=>?_) (r.one);obtain rfl:=y;cases(show v=.int j from B);exact⟨.inl ⟨rfl,rfl⟩,by lia,by lia,z.1,z.2.1,by lia⟩
 | [.int k,.int m],h=>have h':(if -(2 ^ 62)<=k/\k<2 ^ 62/\-(2 ^ 62)<=m/\m<2 ^ 62/\m - k<=16777216 then some (k,m) else none)=some (i,j):=h;have⟨z,e⟩:=Bj h';cases e;refine Xe.Bu (λv u q B C=>?_) (r.two);obtain rfl:=q;cases(show v=.int i from B);cases(show u=.int j from C);exact⟨.inr rfl,z⟩
theorem jk3(hc:X.calm=true)(hm:X.mg "list" = none)(B:X.mg "range" = none)(L:PAd X c l (e::es) fs)(hg:Gl X "list":=by rfl)(C:Gl X "range":=by rfl)(he:starEach (e::es) X.env=(false,eval e X.env)::starEach es X.env:=by rfl)
  (y:(backTo F (starEach es X.env)).any (·.1)=false:=by rfl)(r:starEach [.Call (.Name "range" p2) (e::es) [] F] X.env=(false,eval (.Call (.Name "range" p2) (e::es) [] F) X.env)::starEach [] X.env:=by rfl)(m:(backTo pos (starEach [] X.env)).any (·.1)=false:=by rfl):
  PEf X c l (.Call (.Name "list" p) [.Call (.Name "range" p2) (e::es) [] F] [] pos) (bA fs list_rangeD):=
 PE.imp (Hf (wb0 hc) hg hm PyProof.Rows.boot_list (G3 (Hf jy8 C B boot_range L (by decide) (by decide) he y) Mi r) (by decide) (by decide) r m) λσ H Q q=>by
 revert q;refine Xe.Bt λhs ρ E q=>?_;refine Dk E ((RQ.bind.mp q).mono (λds q1 vs H1 s1 E1 r1 hn=>?_) λ_ z=>z);refine Xe.Aq (λd Y q2=>?_) (q1.of);unfold list_rangeD at Y;cases U:Yn ds with
 |none=>rw[U]at Y;cases Y
 |some ij=>obtain⟨i,j⟩:=ij;rw[U]at Y;cases Y;have⟨hv,ok⟩:=kc7 r1 U;refine⟨i,j,hv,λa L=>⟨a,i,j,rfl,Ao,ok,λb hb=>?_⟩⟩;have sn:=Ar (o:=HO.rng i j) L;have sb:=Ar (o:=HO.lst ((Ua i j).map V.int)) hb;exact q2 b _ _ _ rfl ((s1.trans sn).trans sb) ((s1.trans sn).free hb) Ao (K4 _)
theorem Yd{d:D}(h:bA fs list_rangeD ρ=.ok d):∃ds,d=.lst ds:=by
 unfold bA at h;cases m:fs ρ with
 |ok xs =>
  rw[m]at h;simp only[R.ok_bind,list_rangeD]at h;cases q:Yn xs with
  |none=>rw[q]at h;cases h
  |some ns=>rw[q]at h;cases h;exact⟨_,rfl⟩
 |exc _=>rw[m]at h;cases h
 |bad=>rw[m]at h;cases h
theorem list_range(U:X.calm=true)(B:X.mg "list" = none)(r:X.mg "range" = none)(ha:PAd X c l (e::es) fs)(C:Gl X "list":=by rfl)(y:Gl X "range":=by rfl)(L:starEach (e::es) X.env=(false,eval e X.env)::starEach es X.env:=by rfl)
  (q:(backTo F (starEach es X.env)).any (·.1)=false:=by rfl)(z:starEach [.Call (.Name "range" p2) (e::es) [] F] X.env=(false,eval (.Call (.Name "range" p2) (e::es) [] F) X.env)::starEach [] X.env:=by rfl)(m:(backTo pos (starEach [] X.env)).any (·.1)=false:=by rfl):
  PEd X c l (.Call (.Name "list" p) [.Call (.Name "range" p2) (e::es) [] F] [] pos) (bA fs list_rangeD):=PEf.d (jk3 U B r ha C y L q z m) λ_ _ h=>Yd h
theorem tuple_range(hc:X.calm=true)(hm:X.mg "tuple" = none)(B:X.mg "range" = none)(L:PAd X c l (e::es) fs)(hg:Gl X "tuple":=by rfl)(C:Gl X "range":=by rfl)(he:starEach (e::es) X.env=(false,eval e X.env)::starEach es X.env:=by rfl)
  (y:(backTo F (starEach es X.env)).any (·.1)=false:=by rfl)(r:starEach [.Call (.Name "range" p2) (e::es) [] F] X.env=(false,eval (.Call (.Name "range" p2) (e::es) [] F) X.env)::starEach [] X.env:=by rfl)(m:(backTo pos (starEach [] X.env)).any (·.1)=false:=by rfl):
  PEd X c l (.Call (.Name "tuple" p) [.Call (.Name "range" p2) (e::es) [] F] [] pos) (bA fs G5):=
 PE.imp (Hf (kn5 hc) hg hm PyProof.Rows.boot_tuple (G3 (Hf jy8 C B boot_range L (by decide) (by decide) he y) Mi r) (by decide) (by decide) r m) λσ H Q q=>by
 revert q;refine Xe.Bt λhs ρ E q=>?_;refine Dk E ((RQ.bind.mp q).mono (λds q1 vs H1 s1 E1 r1 hn=>?_) λ_ z=>z);refine Xe.Aq (λd Y q2=>?_) (q1.of);unfold G5 at Y;cases U:Yn ds with
 |none=>rw[U]at Y;cases Y
 |some ij=>obtain⟨i,j⟩:=ij;rw[U]at Y;cases Y;have⟨hv,ok⟩:=kc7 r1 U;refine⟨i,j,hv,λa L=>⟨a,i,j,rfl,Ao,ok,λb hb=>?_⟩⟩;have sn:=Ar (o:=HO.rng i j) L;have sb:=Ar (o:=HO.tup ((Ua i j).map V.int)) hb;exact q2 _ _ ((s1.trans sn).trans sb) ⟨b,_,rfl,TpR.of Ao,K4 _⟩
end
variable {r:Ev}{o0 o1 o2 o3 o4 o5 o6 o7:Option D}
section
variable {f f1 f2 C B:Ev->R D}{fs:Ev->R (List D)}{m z:Ev->R Fl}{t y q:Ev->R Bool}
@[simp] theorem Wb:b2 f1 f2 g ρ=(f1 ρ).bind λx=>(f2 ρ).bind λy=>R.of (g x y):=nr rfl
@[simp] theorem yi3{g:D->Option D}:b1 f g ρ=(f ρ).bind λx=>R.of (g x):=nr rfl
@[simp] theorem yb0{d:D}:kd d ρ=.ok d:=nr rfl
@[simp] theorem wc2:a0 ρ=.ok []:=nr rfl
@[simp] theorem Lj:zv f fs ρ=(f ρ).bind λx=>(fs ρ).bind λxs=>.ok (x::xs):=nr rfl
@[simp] theorem Qd{g:List D->Option D}:bA fs g ρ=(fs ρ).bind λxs=>R.of (g xs):=nr rfl
@[simp] theorem yb4:sq m z ρ=(m ρ).bind λU=>match U with | .nx L=>z L |o=>.ok o:=nr rfl
@[simp] theorem ya2:asg i f ρ=(f ρ).bind λd=>.ok (.nx (ρ.set i (some d))):=nr rfl
@[simp] theorem wq4:Bx f ρ=(f ρ).bind λd=>.ok (.rt d):=nr rfl
@[simp] theorem wl7:ifS t m z ρ=(t ρ).bind λk=>if k then m ρ else z ρ:=nr rfl
@[simp] theorem yn5:drp f ρ=(f ρ).bind λ_=>.ok (.nx ρ):=nr rfl
@[simp] theorem yj5:tt f ρ=(f ρ).bind λd=>R.of (wx3 d):=nr rfl
@[simp] theorem kg2:tb f ρ=(f ρ).bind λd=>R.of (X8 d):=nr rfl
@[simp] theorem yb2:nt t ρ=(t ρ).bind λk=>.ok (!k):=nr rfl
@[simp] theorem yo1:tan y q ρ=(y ρ).bind λk=>if k then q ρ else .ok false:=nr rfl
@[simp] theorem wl9:tor y q ρ=(y ρ).bind λk=>if k then .ok true else q ρ:=nr rfl
@[simp] theorem yj6:va f1 f2 ρ=(f1 ρ).bind λd=>(R.of (X8 d)).bind λk=>if k then f2 ρ else .ok (.bl false):=nr rfl
@[simp] theorem yo8:vo f1 f2 ρ=(f1 ρ).bind λd=>(R.of (X8 d)).bind λk=>if k then .ok (.bl true) else f2 ρ:=nr rfl
@[simp] theorem yo7:vn f ρ=(f ρ).bind λd=>(R.of (X8 d)).bind λk=>.ok (.bl (!k)):=nr rfl
@[simp] theorem yn7:ife t f1 f2 ρ=(t ρ).bind λk=>if k then f1 ρ else f2 ρ:=nr rfl
@[simp] theorem ya3{m:List D->R D}:cl fs m ρ=(fs ρ).bind λds=>(m ds).nox:=nr rfl
@[simp] theorem yn9:itS f ρ=(f ρ).bind λd=>R.of (La d):=nr rfl
@[simp] theorem yn8{h:List D->Option (List D)}:itR h fs ρ=(fs ρ).bind λxs=>R.of (h xs):=nr rfl
@[simp] theorem wp9{g:D->Ev->R Ev}:Tg it g m ρ=(it ρ).bind λds=>Kc ds g m ρ:=nr rfl
@[simp] theorem yj0:p0 ρ=.ok none:=nr rfl
@[simp] theorem yj1:p1 f ρ=(f ρ).bind λd=>R.of (isI d):=nr rfl
@[simp] theorem yi4{lo hi:Ev->R (Option Int)}{g:D->Option Int->Option Int->Option D}:bS f lo hi g ρ=(f ρ).bind λx=>(lo ρ).bind λi=>(hi ρ).bind λj=>R.of (g x i j):=nr rfl
@[simp] theorem yi2{g:D->Ev->R Ev}:wn6 g f ρ=(f ρ).bind λd=>(g d ρ).bind λL=>.ok (.nx L):=nr rfl
@[simp] theorem jh9{d:D}:gN i d ρ=.ok (ρ.set i (some d)):=nr rfl
@[simp] theorem yo2:gT J (.tup ds) ρ=Gm J ds ρ:=nr rfl
@[simp] theorem yn6:gT J (.lst ds) ρ=Gm J ds ρ:=nr rfl
@[simp] theorem yh4:Gm [] [] ρ=.ok ρ:=nr rfl
@[simp] theorem yh5{d:D}:Gm (i::J) (d::ds) ρ=Gm J ds (ρ.set i (some d)):=nr rfl
@[simp] theorem gv0{d:D}:gv 0 (some d::r)=.ok d:=nr rfl
@[simp] theorem yc2{d:D}:gv 1 (o0::some d::r)=.ok d:=nr rfl
@[simp] theorem yk0{d:D}:gv 2 (o0::o1::some d::r)=.ok d:=nr rfl
@[simp] theorem yo9{d:D}:gv 3 (o0::o1::o2::some d::r)=.ok d:=nr rfl
@[simp] theorem yp0{d:D}:gv 4 (o0::o1::o2::o3::some d::r)=.ok d:=nr rfl
@[simp] theorem yp1{d:D}:gv 5 (o0::o1::o2::o3::o4::some d::r)=.ok d:=nr rfl
@[simp] theorem yp2{d:D}:gv 6 (o0::o1::o2::o3::o4::o5::some d::r)=.ok d:=nr rfl
@[simp] theorem yp3{d:D}:gv 7 (o0::o1::o2::o3::o4::o5::o6::some d::r)=.ok d:=nr rfl
@[simp] theorem yp4{d:D}:gv 8 (o0::o1::o2::o3::o4::o5::o6::o7::some d::r)=.ok d:=nr rfl
@[simp] theorem yp5{L:Option D}{d:D}:gv 9 (o0::o1::o2::o3::o4::o5::o6::o7::L::some d::r)=.ok d:=nr rfl
theorem kp5{x:D}(h:ρ[i]? = some (some (.lst ds)))(U:f ρ=.ok x)(L:ds.length<16777216):X4 i f ρ=.ok (.nx (ρ.set i (some (.lst (ds++[x]))))):=by unfold X4;rw[h];simp[U,L]
@[simp] theorem wp7{a b:Int}:Bd (.int a) (.int b)=some (.int (a+b)):=nr rfl
@[simp] theorem yo0{a b:Int}:jw7 (.int a) (.int b)=some (.int (a - b)):=nr rfl
@[simp] theorem yo6{a b:Int}:ltD (.int a) (.int b)=some (.bl (decide (a<b))):=nr rfl
@[simp] theorem yo5{a b:Int}:leD (.int a) (.int b)=some (.bl (decide (a<=b))):=nr rfl
@[simp] theorem yo4{a b:Int}:gtD (.int a) (.int b)=some (.bl (decide (b<a))):=nr rfl
@[simp] theorem yo3{a b:Int}:geD (.int a) (.int b)=some (.bl (decide (b<=a))):=nr rfl
@[simp] theorem kp9{k:Bool}:X8 (.bl k)=some k:=nr rfl
@[simp] theorem ya6{a:Int}:isI (.int a)=some (some a):=nr rfl
@[simp] theorem yj4{k:Bool}:wx3 (.bl k)=some k:=nr rfl
@[simp] theorem yi6:Ci [.lst xs]=some (.int xs.length):=nr rfl
@[simp] theorem yi7:Ci [.tup xs]=some (.int xs.length):=nr rfl
@[simp] theorem yj2:La (.lst xs)=some xs:=nr rfl
@[simp] theorem yj3:La (.tup xs)=some xs:=nr rfl
@[simp] theorem Kq:Di [.lst xs]=some (.tup xs):=nr rfl
@[simp] theorem jz7:Rw [.lst xs]=some (.lst xs):=nr rfl
@[simp] theorem yi9{a b:Int}:minD [.int a,.int b]=some (.int (min a b)):=by show some (D.int (if b<a then b else a))=_;congr 2;split<;>lia
@[simp] theorem yi8{a b:Int}:maxD [.int a,.int b]=some (.int (max a b)):=by show some (D.int (if b>a then b else a))=_;congr 2;split<;>lia
@[simp] theorem yi5{T:String}{a:Int}:Wu T (.int a)=some (.bl (Yc T "int")):=nr rfl
@[simp] theorem wq2{T:String}{a:List D}:Wu T (.tup a)=some (.bl (Yc T "tuple")):=nr rfl
@[simp] theorem wq1{T:String}{a:List D}:Wu T (.lst a)=some (.bl (Yc T "list")):=nr rfl
@[simp] theorem ja3:Cy n m ds=jr9 (m (Af n ds)):=nr rfl
@[simp] theorem jr8:jr9 (.ok (.nx ρ))=.ok .non:=nr rfl
end
variable {g2:Ev->R Fl}
theorem Az{Z:Ev->R Fl}{ρ1:Ev}{r:R Fl}(h:Z ρ=.ok (.nx ρ1))(h2:g2 ρ1=r):sq Z g2 ρ=r:=by rw[yb4,h];exact h2
theorem Ob{Z:Ev->R Fl}{d:D}(h:Z ρ=.ok (.rt d)):sq Z g2 ρ=.ok (.rt d):=by rw[yb4,h];rfl
theorem Bo{d:D}(h:f ρ=.ok d):asg i f ρ=.ok (.nx (ρ.set i (some d))):=by rw[ya2,h];rfl
theorem Ba{d:D}(h:f ρ=.ok d):Bx f ρ=.ok (.rt d):=by rw[wq4,h];rfl
theorem Vd{t:Ev->R Bool}{Z:Ev->R Fl}(h:t ρ=.ok true):ifS t Z g2 ρ=Z ρ:=by rw[wl7,h];rfl
theorem Lq{t:Ev->R Bool}{Z:Ev->R Fl}(h:t ρ=.ok false):ifS t Z g2 ρ=g2 ρ:=by rw[wl7,h];rfl
theorem Ni{g:D->Ev->R Ev}{b:Ev->R Fl}{r:R Fl}(h:it ρ=.ok ds)(h2:Kc ds g b ρ=r):Tg it g b ρ=r:=by rw[wp9,h];exact h2
theorem Bb{g:Ev->R Fl}{d:D}(h:g (Af n ds)=.ok (.rt d)):Cy n g ds=.ok d:=by rw[ja3,h];rfl
theorem kp7{a b:Int}(h:0<b)(h2:b<4611686018427387904):Pa (.int a) (.int b)=some (.int (a / b)):=by show(if _ then _ else _)=_;rw[if_pos ⟨h,h2⟩]
theorem jz8{a b:Int}(h:0<b):O6 (.int a) (.int b)=some (.int (a % b)):=by show(if _ then _ else _)=_;rw[if_pos h]
theorem Ln{a b:Int}(h:-(2 ^ 64)<a)(h2:a<2 ^ 64):Fd (.int a) (.int b)=some (.int (a * b)):=by show(if _ then _ else _)=_;rw[if_pos (.inl ⟨h,h2⟩)]
theorem Qc{ys:List D}(h:xs.length+ys.length<=16777216):Bd (.tup xs) (.tup ys)=some (.tup (xs++ys)):=by show(if _ then _ else _)=_;rw[if_pos h]
theorem kp4{ys:List D}(h:xs.length+ys.length<=16777216):Bd (.lst xs) (.lst ys)=some (.lst (xs++ys)):=by show(if _ then _ else _)=_;rw[if_pos h]
theorem Gb(h:xs.length<=16777216):De xs=some (.tup xs):=by unfold De;rw[if_pos h]
theorem O9(h:xs.length<=16777216):M5 xs=some (.lst xs):=by unfold M5;rw[if_pos h]
theorem jz6{d:D}(h:xs[i]? = some d):ixD (.tup xs) (.int (i:Int))=some d:=by have m:i<xs.length:=(jAl.mp h).1;show atI xs (i:Int)=some d;unfold L2.atI L2.ixN;rw[if_pos (by lia),if_pos (by lia)];simpa using h
theorem Y4{d:D}(h:xs[i]? = some d):ixD (.lst xs) (.int (i:Int))=some d:=by have m:i<xs.length:=(jAl.mp h).1;show atI xs (i:Int)=some d;unfold L2.atI L2.ixN;rw[if_pos (by lia),if_pos (by lia)];simpa using h
@[simp] theorem Wc{x:D}:ixD (.tup (x::xs)) (.int 0)=some x:=jz6 (i:=0) rfl
variable {y:D}
@[simp] theorem ja4{x:D}:ixD (.tup (x::y::xs)) (.int 1)=some y:=jz6 (i:=1) rfl
theorem yb3{a b:Int}(h:0<=b/\b<=1000000/\a.natAbs<2 ^ 64):jv5 (.int a) (.int b)=some (.int (a ^ b.toNat)):=by dsimp only[jv5];rw[if_pos h]
def Ac(l:List Nat):List D:=l.map λ(x:Nat)=>.int (x:Int)
theorem Av(l:List Nat):(Ac l).length=l.length:=by simp[Ac]
theorem Hc{l:List Nat}:(Ac l)[i]? = (l[i]?).map λ(x:Nat)=>D.int (x:Int):=by simp[Ac]
theorem Ku{l:List Nat}{d:D}:d∈Ac l↔∃x∈l,d=.int (x:Int):=by unfold Ac;rw[jAm];exact⟨λ⟨x,h,e⟩=>⟨x,h,e.symm⟩,λ⟨x,h,e⟩=>⟨x,h,e.symm⟩⟩
theorem Pb{l:List Nat}:D.int (k:Int)∈Ac l↔k∈l:=by
 rw[Ku];refine⟨λ⟨x,h,e⟩=>?_,λh=>⟨k,h,rfl⟩⟩;have:(k:Int)=x:=by injection e
 have:k=x:=by lia
 exact this ▸ h
theorem Wd(h:n<2 ^ 62):Ph [.int (n:Int)]=some (Ac (List.range n)):=by
 have h':-(2 ^ 62)<=(n:Int)/\(n:Int)<2 ^ 62:=by lia
 dsimp only[Ph];rw[if_pos h',jCa];simp[Ac]
theorem Hl{g:D->Ev->R Ev}{b:Ev->R Fl}(I:Nat->Ev->Prop):∀(ds:List D)(k:Nat)(ρ:Ev),I k ρ->(∀i d ρ,ds[i]? = some d->I (k+i) ρ->∃q m,g d ρ=.ok q/\(b q=.ok (.nx m)\/b q=.ok (.ct m))/\I (k+i+1) m) ->
  ∃z,Kc ds g b ρ=.ok (.nx z)/\I (k+ds.length) z
 | [],k,ρ,h,_=>⟨ρ,rfl,h⟩
 |d::ds,k,ρ,h,st=>by
  refine Xe.Bu (λq m e1 B h2=>?_) (st 0 d ρ rfl h);obtain⟨z,e3,U⟩:=Hl I ds (k+1) m h2 λi d ρ L C=>by have:=st (i+1) d ρ (by simpa using L) (by rw[show k+(i+1)=k+1+i by lia];exact C);rwa [show k+(i+1)+1=k+1+i+1 by lia]at this
  refine⟨z,?_,by rw[jAy,show k+(ds.length+1)=k+1+ds.length by lia];exact U⟩;rw[Kc,e1];rcases B with B |B<;>simp[B,e3]
theorem comp_map{g:D->Ev->R Ev}{f:Ev->R D}{ρ:Ev}{h:D->D}:∀(ds:List D),(∀d∈ds,∃m,g d ρ=.ok m/\f m=.ok (h d))->Ga g yes f ρ ds=.ok (ds.map h)
 | [],_=>rfl
 |d::ds,st=>by refine Xe.Aq (λm B z=>?_) (st d jAf);rw[Ga,B];simp[yes,z,comp_map ds λx q=>st x (jAb _ q)]
theorem Ur{g:D->Ev->R Ev}{t:Ev->R Bool}{f:Ev->R D}{ρ:Ev}{p:D->Bool}{h:D->D}:∀(ds:List D),(∀d∈ds,∃m,g d ρ=.ok m/\t m=.ok (p d)/\(p d=true->f m=.ok (h d)))->Ga g t f ρ ds=.ok ((ds.filter p).map h)
 | [],_=>rfl
 |d::ds,st=>by
  refine Xe.G6 (λm U L C=>?_) (st d jAf);have z:=Ur (g:=g) (t:=t) (f:=f) (ρ:=ρ) (p:=p) (h:=h) ds λx B=>st x (jAb _ B);rw[Ga,U];simp only[R.ok_bind,L];cases q:p d with
  |true=>simp[C q,z,q]
  |false=>simp[z,q]
theorem Dg{g:D->Ev->R Ev}{t:Ev->R Bool}(q:it ρ=.ok ds)(h2:Ga g t f (Ed n caps ρ) ds=.ok xs)(m:xs.length<=16777216):Ax it n caps g t f ρ=.ok (.lst xs):=by unfold Ax;simp[q,h2,m,R.nox]
mutual
def D.pl:Nat->D->Bool
 |_,.int _=>true
 |_,.non=>true
 |n,.tup xs=>match n with |0=>false |n+1=>Ft n xs
 |n,.lst xs=>match n with |0=>false |n+1=>Ft n xs
 |_,_=>false
def Ft:Nat->List D->Bool
 |_,[]=>true
 |n,d::ds=>d.pl n && Ft n ds
end
theorem T9{i:Int}:(D.int i).pl n=true:=by simp[D.pl]
theorem Vp(l:List Nat):∀d∈Ac l,d.pl n=true:=λd q=>by refine Xe.Aq (λx _ m=>?_) (Ku.mp q);obtain rfl:=m;exact T9
theorem Jf{n:Nat}:∀{ds:List D},Ft n ds=true↔∀d∈ds,d.pl n=true
 | []=>by simp[Ft]
 |d::ds=>by rw[Ft,jBg,Jf];simp
mutual
theorem Xa:∀(n m:Nat)(d:D),n<=m->d.pl n=true->d.cok m=true
 |n,m,.int _,_,_=>by simp[D.cok]
 |n,m,.non,_,_=>by simp[D.cok]
 |n,m,.bl _,_,h=>by simp[D.pl]at h
 |n,m,.str _,_,h=>by simp[D.pl]at h
 |n,m,.exc _ _ _,_,h=>by simp[D.pl]at h
 |0,m,.tup xs,_,h=>by simp[D.pl]at h
 |0,m,.lst xs,_,h=>by simp[D.pl]at h
 |n+1,0,.tup xs,h,_=>by lia
 |n+1,0,.lst xs,h,_=>by lia
 |n+1,m+1,.tup xs,h,z=>by
  have q:Ft n xs=true:=by simpa[D.pl] using z
  simpa[D.cok] using K3 n m xs (by lia) q
 |n+1,m+1,.lst xs,h,z=>by
  have q:Ft n xs=true:=by simpa[D.pl] using z
  simpa[D.cok] using K3 n m xs (by lia) q
theorem K3:∀(n m:Nat)(ds:List D),n<=m->Ft n ds=true->Dn m ds=true
 |n,m,[],_,_=>by simp[Dn]
 |n,m,d::ds,h,z=>by
  have q:d.pl n=true/\Ft n ds=true:=by simpa[Ft] using z
  simp[Dn,Xa n m d h q.1,K3 n m ds h q.2]
end
mutual
theorem jz9:∀(n:Nat)(x y:D),x.pl n=true->y.pl n=true->(PyData.eqv x.py y.py=true↔x=y)
 |n,.int i,.int j,_,_=>by simp[D.py,PyData.eqv]
 |n,.int i,.non,_,_=>by simp[D.py,PyData.eqv]
 |n,.non,.int j,_,_=>by simp[D.py,PyData.eqv]
 |n,.non,.non,_,_=>by simp[D.py,PyData.eqv]
 |n,.int i,.tup ys,_,_=>by simp[D.py,PyData.eqv]
 |n,.int i,.lst ys,_,_=>by simp[D.py,PyData.eqv]
 |n,.non,.tup ys,_,_=>by simp[D.py,PyData.eqv]
 |n,.non,.lst ys,_,_=>by simp[D.py,PyData.eqv]
 |n,.tup xs,.int j,_,_=>by simp[D.py,PyData.eqv]
 |n,.tup xs,.non,_,_=>by simp[D.py,PyData.eqv]
 |n,.tup xs,.lst ys,_,_=>by simp[D.py,PyData.eqv]
 |n,.lst xs,.int j,_,_=>by simp[D.py,PyData.eqv]
 |n,.lst xs,.non,_,_=>by simp[D.py,PyData.eqv]
 |n,.lst xs,.tup ys,_,_=>by simp[D.py,PyData.eqv]
 |0,.tup xs,.tup ys,h,_=>by simp[D.pl]at h
 |0,.lst xs,.lst ys,h,_=>by simp[D.pl]at h
 |n+1,.tup xs,.tup ys,z,h2=>by
  have q:Ft n xs=true:=by simpa[D.pl] using z
  have m:Ft n ys=true:=by simpa[D.pl] using h2
  simp only[D.py,PyData.eqv,D.tup.injEq];exact Qe n xs ys q m
 |n+1,.lst xs,.lst ys,z,h2=>by
  have q:Ft n xs=true:=by simpa[D.pl] using z
  have m:Ft n ys=true:=by simpa[D.pl] using h2
  simp only[D.py,PyData.eqv,D.lst.injEq];exact Qe n xs ys q m
 |n,.bl _,_,h,_=>by simp[D.pl]at h
 |n,.str _,_,h,_=>by simp[D.pl]at h
 |n,.exc _ _ _,_,h,_=>by simp[D.pl]at h
 |n,_,.bl _,_,h=>by simp[D.pl]at h
 |n,_,.str _,_,h=>by simp[D.pl]at h
 |n,_,.exc _ _ _,_,h=>by simp[D.pl]at h
theorem Qe:∀(n:Nat)(xs ys:List D),Ft n xs=true->Ft n ys=true->(PyData.eqvAll (G4 xs) (G4 ys)=true↔xs=ys)
 |n,[],[],_,_=>by simp[G4,PyData.eqvAll]
 |n,[],y::ys,_,_=>by simp[G4,PyData.eqvAll]
 |n,x::xs,[],_,_=>by simp[G4,PyData.eqvAll]
 |n,x::xs,y::ys,z,h2=>by
  have q:x.pl n=true/\Ft n xs=true:=by simpa[Ft] using z
  have m:y.pl n=true/\Ft n ys=true:=by simpa[Ft] using h2
  simp only[G4,PyData.eqvAll,jBg,List.cons.injEq];rw[jz9 n x y q.1 m.1,Qe n xs ys q.2 m.2]
end
theorem D.eqb_true{x:D}(q:x.pl n=true)(m:y.pl n=true):x.eqb y=true↔x=y:=jz9 n x y q m
@[simp] theorem jz5{a b:Int}:eqD (.int a) (.int b)=some (.bl (decide (a=b))):=by
 show(if _ then _ else _)=_;rw[if_pos (by simp[D.cok])];have e:(D.int a).eqb (D.int b)=decide (a=b):=by rw[jDm,D.eqb_true (n:=0) rfl rfl,decide_eq_true_eq,D.int.injEq]
 rw[e]
@[simp] theorem wl8{a b:Int}:neD (.int a) (.int b)=some (.bl (decide (a≠b))):=by
 show(if _ then _ else _)=_;rw[if_pos (by simp[D.cok])];have e:(!(D.int a).eqb (D.int b))=decide (a≠b):=by rw[jDm,jCk,decide_eq_true_eq,<-Bool.not_eq_true,D.eqb_true (n:=0) rfl rfl,D.int.injEq]
 rw[e]
theorem jy1{x:D}{ys:List D}(m:x.pl n=true)(z:∀y∈ys,y.pl n=true):(ys.any λy=>y.eqb x)=true↔x∈ys:=by
 rw[List.any_eq_true];constructor
 ·rintro⟨y,q,h2⟩;rw[D.eqb_true (z y q) m]at h2;exact h2 ▸ q
 ·intro h;exact⟨x,h,(D.eqb_true m m).mpr rfl⟩
theorem ya4{x d:D}{ys:List D}(m:La d=some ys){b:Bool}(hn:n<=60)(z:x.pl n=true)(q:∀y∈ys,y.pl n=true)(C:b=true↔x∈ys):inD x d=some (.bl b):=by
 have e:(ys.any λy=>y.eqb x)=b:=by rw[jDm,jy1 z q,C]
 have c:(x.cok 60 && Dn 60 ys)=true:=by rw[Xa n 60 x hn z,K3 n 60 ys hn (Jf.mpr q)];rfl
 cases d with
 |lst B=>cases m;show(if _ then _ else _)=_;rw[if_pos c,e]
 |tup B=>cases m;show(if _ then _ else _)=_;rw[if_pos c,e]
 |_=>cases m
theorem yb1{x d:D}{ys:List D}(m:La d=some ys){b:Bool}(hn:n<=60)(z:x.pl n=true)(q:∀y∈ys,y.pl n=true)(C:b=true↔x∈ys):Ye x d=some (.bl (!b)):=by
 have e:(ys.any λy=>y.eqb x)=b:=by rw[jDm,jy1 z q,C]
 have c:(x.cok 60 && Dn 60 ys)=true:=by rw[Xa n 60 x hn z,K3 n 60 ys hn (Jf.mpr q)];rfl
 cases d with
 |lst B=>cases m;show(if _ then _ else _)=_;rw[if_pos c,e]
 |tup B=>cases m;show(if _ then _ else _)=_;rw[if_pos c,e]
 |_=>cases m
theorem ky5(q:Du xs=true)(h:xs.Pairwise λa b=>Gy a b=true):srt xs=xs:=by refine eq_of_sorted (le:=λa b=>Gy a b=true) (El xs) (Fv xs) h λa B b z m h2=>?_;unfold Gy at m h2;rw[jCk]at m h2;exact Vm q ((El xs).mem_iff.mp B) ((El xs).mem_iff.mp z) (Fp _ _ h2 m)
theorem Ov(l:List Nat):Du (Ac l)=true:=by unfold Du;rw[jCb];refine .inl (jAw.mpr λd q=>?_);refine Xe.Aq (λx _ m=>?_) (Ku.mp q);obtain rfl:=m;rfl
theorem ws6{a b:Nat}(h:a<=b):Gy (.int (a:Int)) (.int (b:Int))=true:=by
 show(!Ef [(b:Int)] [(a:Int)])=true;rw[Ef];by_cases e:(b:Int)=a
 ·rw[if_pos e];rfl
 ·rw[if_neg e,decide_eq_false (by lia)];rfl
theorem Ux{l:List Nat}(h:l.Pairwise (·<·)):(Ac l).Pairwise λa b=>Gy a b=true:=by unfold Ac;rw[jEk];exact h.imp λm=>ws6 (jDx m)
variable {m:List Nat}
theorem ky6{l:List Nat}(hl:l.Nodup)(z:m.Pairwise (·<·))(h:∀k,k∈l↔k∈m):srt (Ac l)=Ac m:=by have p:l.Perm m:=(jBl hl (z.imp λq=>jAv q)).mpr h;have B:(Ac l).Perm (Ac m):=p.map _;rw[Oc (Ov m) B];exact ky5 (Ov m) (Ux z)
theorem Qh(l:List Nat):Ay (Ac l)=some (l.map λ(x:Nat)=>(x:Int)):=by have:=Tj (l.map λ(x:Nat)=>(x:Int));rw[jBe]at this;exact this
theorem je5{l:List Nat}(C:l.length<64)(B:m.Pairwise (·<·))(h:∀k,k∈l↔k∈m):Dv [.lst (Ac l)]=some (.lst (Ac m)):=by
 have q:(Ac l).length<64:=by rw[Av];exact C
 unfold Dv;have e:Ss [.lst (Ac l)]=some (l.map λ(x:Nat)=>(x:Int)):=by show(if(Ac l).length<64 then Ay (Ac l) else none)=_;rw[if_pos q,Qh]
 rw[e];show some (D.lst (kl2 _))=_;congr 2;unfold kl2;have U:(m.map λ(x:Nat)=>(x:Int)).Nodup:=by unfold List.Nodup;rw[jEk];exact B.imp λL=>by lia
 have p:(V6 (l.map λ(x:Nat)=>(x:Int))).Perm (m.map λ(x:Nat)=>(x:Int)):=(jBl (Lh _) U).mpr λk=>by rw[Nb,jAm,jAm];exact⟨λ⟨x,z,h2⟩=>⟨x,(h x).mp z,h2⟩,λ⟨x,z,h2⟩=>⟨x,(h x).mpr z,h2⟩⟩
 have e2:(m.map λ(x:Nat)=>(x:Int)).map D.int=Ac m:=by rw[jBe];rfl
 rw[Oc (Tu _) (p.map D.int),e2];exact ky5 (Ov m) (Ux B)
theorem U8{l:List Nat}(q:l.length<64)(hl:l.Nodup)(z:m.Pairwise (·<·))(h:∀k,k∈l↔k∈m){d:D}(B:La d=some (Ac l)):Dl [d]=some (.lst (Ac m)):=by
 unfold Dl;dsimp only;rw[B];dsimp only;rw[if_pos ⟨by rw[Av];exact q,.inr (Ov l)⟩];congr 2;have e:=ky6 hl z h;split
 ·rename_i h2;rw[<-Ul h2];exact e
 ·exact e
theorem Y6(l:List Nat):Mx (Ac l)=(List.range l.length).map λ(i:Nat)=>D.tup [.int (i:Int),.int ((l.getD i 0:Nat):Int)]:=by
 apply jDf
 ·simp[Mx,Av]
 ·intro i z h2;have q:i<l.length:=by simpa using h2
  simp[Mx,Ac,q]
theorem jy5:∀bs:List Bool,U9 (bs.map .bl)=some bs
 | []=>rfl
 |b::bs=>by rw[jAk,U9,jy5 bs];rfl
theorem Vu(bs:List Bool):Q8 [.lst (bs.map .bl)]=some (.bl (bs.all id)):=by show(U9 (bs.map .bl)).map _=_;rw[jy5];rfl
theorem ka5{l:List Nat}{d:D}{b:Bool}(q:La d=some (Ac l))(z:b=true↔k∈l):inD (.int (k:Int)) d=some (.bl b):=
 ya4 (n:=0) q (by lia) T9 (Vp l) (by rw[z,Pb])
theorem jl0{l:List Nat}{d:D}{b:Bool}(q:La d=some (Ac l))(z:b=true↔k∈l):Ye (.int (k:Int)) d=some (.bl (!b)):=
 yb1 (n:=0) q (by lia) T9 (Vp l) (by rw[z,Pb])
theorem ya7(h:f ρ=.ok (.lst ds))(hi:Dw ds=true):isL f ρ=.ok (.lst ds):=by unfold isL;rw[h];simp[hi]
theorem Te{x:D}(hn:n<=60)(q:x.pl n=true):neD x x=some (.bl false):=by unfold neD;rw[if_pos (by rw[Xa n 60 x hn q];rfl),(D.eqb_true q q).mpr rfl];rfl
theorem kg1{x:D}(hn:n<=60)(q:x.pl n=true):eqD x x=some (.bl true):=by unfold eqD;rw[if_pos (by rw[Xa n 60 x hn q];rfl),(D.eqb_true q q).mpr rfl]
theorem Qg:∀{ds:List D},Dw ds=true↔∀d∈ds,d.imm=true
 | []=>by simp[Dw]
 |d::ds=>by rw[Dw,jBg,Qg];simp
section
variable {apos L:Pos}{U:Ev->R (List D)}{g:D->Ev->R Ev}{t:Ev->R Bool}{f:Ev->R D}
theorem kl0(i:Nat)(nd:X.N.Nodup)(ao:Lg scope X.env.scope X.N caps=true)(hc:X.calm=true)(hi:PId X c l tg iter U)
  (hg:∀(C:Addr)(s:Shared)(H:Hp)(ex:List Addr)(H0:Hp)(S0:AS)(Z:List Addr),Tb c.H0 H0->PGd (cxB X (Ez X T caps) scope C s H ex) ⟨H0,S0,[],Gn,Z⟩ tg g)
  (ht:∀(C:Addr)(s:Shared)(H:Hp)(ex:List Addr)(H0:Hp)(S0:AS)(Z:List Addr),Tb c.H0 H0->TsD (cxB X (Ez X T caps) scope C s H ex) ⟨H0,S0,[],Gn,Z⟩ ifs t)
  (he:∀(C:Addr)(s:Shared)(H:Hp)(ex:List Addr)(H0:Hp)(S0:AS)(Z:List Addr),Tb c.H0 H0->PEd (cxB X (Ez X T caps) scope C s H ex) ⟨H0,S0,[],Gn,Z⟩ .any elt f)
  (ak:∀d ρ ab,g d ρ=.ok ab->ab.length=ρ.length/\∀i,T.length<=i->ab[i]? = ρ[i]?)(af:Mw c.O l caps=true)(hs:∀x,foldedSetIterable iter X.env x=pure x)
  (hN:X.N[i]? = some x)(hx:Loc X.env.scope x)(ag:swapsWith (.ListComp elt [⟨tg,iter,ifs,0⟩] scope pos) (some (.Name x L)) apos.line X.env=pure true)(hf:X.fn x=true\/X.env.scope.names.lookup x=some .local)
  {D:Ends}(I:Inv X pins σ H s)(E:Bg X.K c hs' ρ σ H)
  (q:RQ (Ax U T.length caps g t f ρ) (λd=>∀a vs ds H',d=.lst ds->Ag H H'->H a=none->H' a=some (.lst vs)->An X.K H' (AS.but (lvS c ρ σ H l) a) ds vs->D.nx (σ.set i (some (.ref a))) H') (λe=>∀v H',Ag H H'->Rep X.K H' (lvS c ρ σ H .any) e v->c.Ex e v H')):
  wpAny (model X.prog X.w) X.A (exec (.Assign [.Name x L] (.ListComp elt [⟨tg,iter,ifs,0⟩] scope pos) apos) X.env) (SP X pins D) X.xe s:=by
 have B:Gp X scope T caps:=.of ao;rw[exec_Assign_Name_used x L _ apos ag];refine jZa (wpAny_standAt (jZa ?_));rw[arm_evalThenUse_ListComp];refine jZa ?_;show wpAny (model X.prog X.w) X.A (comprehension (.ListComp elt [⟨tg,iter,ifs,0⟩] scope pos) scope X.env (firstIterPos [⟨tg,iter,ifs,0⟩] pos) (newList []) false (eval iter X.env) (some (assign (.Name x L) X.env))) _ _ _;have q:=RQ.bind.mp q;cases aa:U ρ with
 |ok ds =>
  rw[aa]at q;refine Xe.Aq (λd ed q=>?_) (RQ.nox q);refine Xe.Aq (λxs ex ed=>?_) (Cu ed);by_cases hz:xs.length<=16777216
  ·rw[if_pos hz]at ed;cases ed;refine Yz B hc hi hg ht he ak af hs I E aa ex hz λa vs s3 s' H3 H' fp ar I3 f3 J sm Ha hv r=>?_;have I1:Inv X pins σ H' s':=I3.call' (ch:=fp) J.os J.base J.hok J.bare λb hb=>⟨(f3 b hb).2.2.2.1,(f3 b hb).2.1,(f3 b hb).2.2.2.2.1,(f3 b hb).2.2.2.2.2⟩;have F:=I3.fpOk (H':=H') (jAg s3.heap.objs.size) J.free;refine wpAny_assign_Name ?_
   ·refine Zy (v:=.ref a) I1 nd hN hx rfl (λae I2 ah=>?_) hf;revert ah;refine Xe.Aq λb sb hb=>?_;refine Xe.Aq (λm hn _=>?_) (J.loc);have ai:s3.heap.objs.size≠b:=by
     rcases hb with rfl |hb
     ·exact F.2.1
     ·exact(F.2.2.2.2.1 x b hb).symm
    have aj:ae.heap.Ns s3.heap.objs.size m:=by revert hn;refine Xe.wb9 λo es ep ho rr=>?_;exact⟨o,es,ep,(sb.2 _ ai).trans ho,rr⟩
    refine⟨m,aj,λh' aq=>?_⟩;refine jZb (jZb ⟨σ.set i (some (.ref a)),H',?_,q a vs xs H' rfl sm Ha hv r⟩);exact I2.turned (t':=ae.toks) (h':=h') (it:=s3.heap.objs.size) (λb o hb e=>(aq.2 b hb).trans e) J.free F.2.1 F.2.2.2.1 F.2.2.2.2.1 F.2.2.2.2.2
  ·rw[if_neg hz]at ed;cases ed
 |exc y=>rw[aa]at q;refine wpAny_comprehension_free (cl:=M9 scope X.env) rfl hs (B.clo I) B.kind B.names ?_;refine thn (hi pins s σ H (λ_ _=>False) I ⟨hs',ρ,E,by rw[aa];exact q⟩) λv s1 h1=>thn h1 λau s2 h2=>?_;revert h2;refine Xe.ya1 λ_ _ _ _ _ _ _ _ _ _ z=>?_;exact z.elim
 |bad=>rw[aa]at q;exact q.elim
theorem setC(i:Nat)(nd:X.N.Nodup)(ah:Lg scope X.env.scope X.N caps=true)(hc:X.calm=true)(hi:PId X c l tg iter U)
  (hg:∀(C:Addr)(s:Shared)(H:Hp)(B:List Addr)(H0:Hp)(S0:AS)(Z:List Addr),PGd (cxB X (Ez X T caps) scope C s H B) ⟨H0,S0,[],Gn,Z⟩ tg g)
  (ht:∀(C:Addr)(s:Shared)(H:Hp)(B:List Addr)(H0:Hp)(S0:AS)(Z:List Addr),TsD (cxB X (Ez X T caps) scope C s H B) ⟨H0,S0,[],Gn,Z⟩ ifs t)
  (he:∀(C:Addr)(s:Shared)(H:Hp)(B:List Addr)(H0:Hp)(S0:AS)(Z:List Addr),PEd (cxB X (Ez X T caps) scope C s H B) ⟨H0,S0,[],Gn,Z⟩ .any elt f)
  (ag:∀d ρ aa,g d ρ=.ok aa->aa.length=ρ.length/\∀i,T.length<=i->aa[i]? = ρ[i]?)(ab:Mw c.O l caps=true:=by rfl)(hs:∀x,foldedSetIterable iter X.env x=pure x:=by intro _;rfl)
  (hl:l.le .no=true:=by rfl)(af:c.O.contains i=false:=by rfl)(hN:X.N[i]? = some x:=by rfl)(hx:Loc X.env.scope x:=by first |exact Or.inl rfl |exact Or.inr rfl)(ae:swapsWith (.ListComp elt [⟨tg,iter,ifs,0⟩] scope pos) (some (.Name x L)) apos.line X.env=pure true:=by rfl)
  (hf:X.fn x=true\/X.env.scope.names.lookup x=some .local:=by first |exact .inl rfl |exact .inr rfl):
  PSd X c (.Assign [.Name x L] (.ListComp elt [⟨tg,iter,ifs,0⟩] scope pos) apos) (asg i (Ax U T.length caps g t f)):=λpins s σ H D I q=>by
 revert q;refine Xe.Bt λhs' ρ E q=>?_;refine kl0 i nd ah hc hi (λC s H B H0 S0 Z _=>hg C s H B H0 S0 Z) (λC s H B H0 S0 Z _=>ht C s H B H0 S0 Z) (λC s H B H0 S0 Z _=>he C s H B H0 S0 Z) ag ab hs hN hx ae hf I E ((RQ.bind.mp q).mono (λd q1 a vs ds H' ed s1 ha hv r=>?_) λy z=>Fb E z);subst ed;refine q1 _ H' ((E.mono s1).set (by simpa using af) ⟨a,vs,rfl,.inl ⟨hv,?_⟩,r.mono (Ag.refl _) λo z=>?_⟩)
 ·exact E.freshN ⟨a,rfl,ha⟩
 ·exact Ls E hl z.1
end
theorem wk5{C:List Hd}(E:Bg K c C ρ σ H)
  (h:RQ (f ρ) (λd=>∀v H',Ag H H'->Bg K c C ρ σ H'->Rep K H' (lvS c ρ σ H l) d v->Q [v] H') (λe=>∀v H',Ag H H'->Rep K H' (lvS c ρ σ H .any) e v->c.Ex e v H')):tDA K c 1 l (zv f a0) σ H Q:=by
 refine⟨C,ρ,E,RQ.bind.mpr (h.mono (λd q=>?_) λ_ z=>z)⟩;intro vs H' L r hn;refine Xe.Aq (λv B U=>?_) (An.one r);obtain rfl:=B;exact q v H' L (E.mono L) U
section
variable {o:Expr}{f1 f2:Ev->R D}
def kg3(i:Nat)(f:Ev->R D):Ev->R Fl:=λρ=>match ρ[i]? with
 |some (some (.lst ds))=>(f ρ).bind λd=>match d with
  | .lst es=>if ds.length+es.length<=16777216 then .ok (.nx (ρ.set i (some (.lst (ds++es))))) else .bad
  |_=>.bad
 |_=>.bad
theorem yj7(i:Nat)(he:PEf X c .no e f)(hi:c.O.contains i=true:=by rfl)(hN:X.N[i]? = some x:=by rfl)(hv:Vis X.env.scope x:=by first |exact Or.inl rfl |exact Or.inr (Or.inl rfl) |exact Or.inr (Or.inr rfl))(hd:(x == ("__debug__" : Str))=false:=by decide)
  (af:(x == ("__classdict__" : Str))=false:=by decide)(L:attributeBase (.Name x p) "extend" X.env (eval (.Name x p) X.env)=eval (.Name x p) X.env:=by rfl)
  (ab:((backTo cpos (starEach [e] X.env)).all (λx=>!x.1) && (backToKw cpos (keywordEach [] X.env)).all (λx=>x.1.isSome)
   && decide ([e].length+([]:List Keyword).length+(if([]:List Keyword).isEmpty then 0 else 1)<30))=true:=by rfl)
  (C:(apos.endLine == cpos.line)=true:=by rfl)(hs:starEach [e] X.env=(false,eval e X.env)::starEach [] X.env:=by rfl)(B:(backTo cpos (starEach [] X.env)).any (·.1)=false:=by rfl)
  (ae:swapsWith (.Call (.Attribute (.Name x p) "extend" apos) [e] [] cpos) none pos.line X.env=pure false:=by rfl):
  PSd X c (.Expr (.Call (.Attribute (.Name x p) "extend" apos) [e] [] cpos) pos) (kg3 i f):=
 PS.imp (R4 (kb9 PySem.F.plainAttrs_list PySem.F.slot_list_extend PySem.F.type_list_extend kj5 (pv i hN hv hd af) (G3 he Mi hs) L ab C hs B) ae) λD σ H q=>by
 revert q;refine Xe.Bt λhs ρ E q=>?_;have aa:i∈c.O:=by simpa using hi
 unfold kg3 at q;split at q
 ·rename_i ds hd;refine Xe.wc0 (λa vs ag e0 e1 e2 e3 r=>?_) (E.ownL i _ aa hd);cases e0;refine⟨.ref a,e1,.inl ⟨rfl,vs,SqL.of e2⟩,?_⟩;refine⟨hs,ρ,E,(RQ.bind.mp q).mono (λd U b ws es H1 ed s1 hb hw r1=>?_) λx z=>Fb E z⟩;subst ed;have U:RQ (if ds.length+es.length<=16777216 then R.ok (Fl.nx (ρ.set i (some (PD.D.lst (ds++es))))) else R.bad) _ _:=U;by_cases hz:ds.length+es.length<=16777216
  ·rw[if_pos hz]at U;have l:=r.length;have l1:=r1.length;have E1:=E.mono s1;refine⟨a,b,vs,ws,rfl,rfl,s1 _ _ e2,hw,by rw[sizeLine_eq];omega,?_⟩;exact U σ _ (E1.write aa hd e1 (s1 _ _ e2) ((r.mono s1 λ_ z=>z).append (r1.mono (Ag.refl _) λ_ z=>z.1)))
  ·rw[if_neg hz]at U;exact U.elim
 ·exact q.elim
end
open PySem PySem.Spec PyProof.Rows L2
open PySem PySem.Spec PyProof.Rows L2 PySem.W
def wj1:V->List V->Hp->VK->Prop:=λx vs H Q=>∃(l:Addr)(xs:List V)(j:Nat)(y:V),x=.ref l/\vs=[.int (j:Int),y]/\H l=some (.lst xs)/\j<=xs.length/\xs.length<sizeLine/\Q .non (upd H l (.lst (xs.take j++y::xs.drop j)))
theorem Vals.take:∀{xs:List V}{us:List Value}(j:Nat),Vals xs us->Vals (xs.take j) (us.take j)
 |_,_,0,_=>.nil
 |_,_,_+1,.nil=>.nil
 |_,_,j+1,.cons a r=>.cons a (Vals.take j r)
theorem Vals.drop:∀{xs:List V}{us:List Value}(j:Nat),Vals xs us->Vals (xs.drop j) (us.drop j)
 |_,_,0,r=>r
 |_,_,_+1,.nil=>.nil
 |_,_,j+1,.cons _ r=>Vals.drop j r
section
variable {X:Cx}{c:DC}{l:Lv}
theorem kj6:MtM X "list.insert" wj1:=by
 intro pins s σ H x vs v us Q I rx rv h;obtain⟨l,xs,j,y,rfl,rfl,hH,hj,hz,q⟩:=h;cases rx;obtain⟨u1,L,rfl,r1,U⟩:∃u1 L,us=u1::L/\RelV (.int (j:Int)) u1/\Vals [y] L:=by cases rv with |cons a b=>exact⟨_,_,rfl,a,b⟩
 obtain⟨u2,rfl,r2⟩:=U.one;obtain⟨t,rfl⟩:=(show ∃t,u1=Value.int (j:Int) t from r1);have⟨z,B,n,r,hl,e⟩:=I.lstM hH;have aa:=sizeLine_eq;have hk:(if(j:Int)<0 then((j:Int)+((B.toArray.size:Nat):Int)).toNat else min (j:Int).toNat B.toArray.size)=j:=by rw[if_neg (by lia),jCa,jAo];lia
 have C:¬ (!Builtin.List.listFitsIndex (j:Int))=true:=by rw[fitsIndex_of (by lia) (by lia)];decide
 generalize (j:Int)=k at hk C ⊢;refine call_meets F.slot_list_insert ⟨_,e,rfl⟩ F.entry_list_insert (F.args_list_insert_3 _ _ _) (PySem.AutoSeq1.list_insert_list_int_val_1 l B.toArray n k t u2 C (by rw[jAo];lia)) ⟨e,?_⟩;refine⟨.non,_,I.lset (its':=B.take j++u2::B.drop j) (ys:=xs.take j++y::xs.drop j) hH e ?_ ((Vals.take j r).append (.cons r2 (Vals.drop j r))) ?_,rfl,q⟩
 ·dsimp only;rw[hk];apply Array.toList_inj.mp;simp only[Array.toList_append,jFz,Array.toList_extract,List.extract_eq_take_drop,List.drop_zero,Nat.sub_zero,jAo,jAu,List.singleton_append];rw[jDc (l:=List.drop j B) (by rw[jBr];exact jAg _)]
 ·rw[jAs,jAy,jBd,jBr];lia
def kh6(i:Nat)(z q:Ev->R D):Ev->R Fl:=λρ=>match ρ[i]? with
 |some (some (.lst ds))=>(z ρ).bind λk=>(q ρ).bind λd=>match k with
  | .int (.ofNat j)=>if j<=ds.length/\ds.length<16777216 then .ok (.nx (ρ.set i (some (.lst (ds.take j++d::ds.drop j))))) else .bad
  |_=>.bad
 |_=>.bad
theorem yk2(i:Nat){x:Str}{p apos cpos pos:Pos}{ek e:Expr}{fk f:Ev->R D}(hk:PEd X c .no ek fk)(he:PEd X c .no e f)(hi:c.O.contains i=true:=by rfl)(hN:X.N[i]? = some x:=by rfl)(hv:Vis X.env.scope x:=by first |exact Or.inl rfl |exact Or.inr (Or.inl rfl) |exact Or.inr (Or.inr rfl))(hd:(x == ("__debug__" : Str))=false:=by decide)
  (ag:(x == ("__classdict__" : Str))=false:=by decide)(U:attributeBase (.Name x p) "insert" X.env (eval (.Name x p) X.env)=eval (.Name x p) X.env:=by rfl)
  (ab:((backTo cpos (starEach [ek,e] X.env)).all (λx=>!x.1) && (backToKw cpos (keywordEach [] X.env)).all (λx=>x.1.isSome)
   && decide ([ek,e].length+([]:List Keyword).length+(if([]:List Keyword).isEmpty then 0 else 1)<30))=true:=by rfl)
  (L:(apos.endLine == cpos.line)=true:=by rfl)(hs:starEach [ek,e] X.env=(false,eval ek X.env)::starEach [e] X.env:=by rfl)(af:starEach [e] X.env=(false,eval e X.env)::starEach [] X.env:=by rfl)(B:(backTo cpos (starEach [e] X.env)).any (·.1)=false:=by rfl)
  (ae:swapsWith (.Call (.Attribute (.Name x p) "insert" apos) [ek,e] [] cpos) none pos.line X.env=pure false:=by rfl):
  PSd X c (.Expr (.Call (.Attribute (.Name x p) "insert" apos) [ek,e] [] cpos) pos) (kh6 i fk f):=
 PS.imp (R4 (kb9 PySem.F.plainAttrs_list PySem.F.slot_list_insert PySem.F.type_list_insert kj6 (pv i hN hv hd ag) (G3 hk (G3 he Mi af) hs) U ab L hs B) ae) λD0 σ H q=>by
 revert q;refine Xe.Bt λhs ρ E q=>?_;have aa:i∈c.O:=by simpa using hi
 unfold kh6 at q;split at q
 ·rename_i ds hd;refine Xe.wc0 (λa vs ah e0 e1 e2 e3 r=>?_) (E.ownL i _ aa hd);cases e0;refine⟨.ref a,e1,.inl ⟨rfl,vs,SqL.of e2⟩,?_⟩;refine Be E ((RQ.bind.mp q).mono (λdk q1 k H1 s1 E1 r1=>?_) λx z=>Fb E z);refine Be E1 ((RQ.bind.mp q1).mono (λd q2 v H2 s2 E2 r2=>?_) λx z=>Fb E1 z);split at q2
  ·rename_i j;cases(show k=.int (Int.ofNat j) from r1);by_cases hj:j<=ds.length/\ds.length<16777216
   ·rw[if_pos hj]at q2;have ln:=r.length;have C:=s1.trans s2;refine⟨a,vs,j,v,rfl,rfl,C _ _ e2,by lia,by rw[sizeLine_eq];lia,?_⟩;have rr:=r.mono C λ_ z=>z;exact q2 σ _ (E2.write aa hd e1 (C _ _ e2) ((An.take j rr).append (.cons r2 (An.drop j rr))))
   ·rw[if_neg hj]at q2;exact q2.elim
  ·exact q2.elim
 ·exact q.elim
end
end PD
namespace PySem
open Sem (wp)
open AutoSeq1 (wpAny_loadPart')
open PyProof.Rows
variable {A:Around}{P:Program}{s:Shared}{X:Value->Shared->Prop}{w:World}
variable {it:Addr}{i:Nat}{items:Array Value}{Q:Value->Shared->Prop}
theorem Vf{t:Addr}{x:Value}(a:PyProof.Rows.IsTupIter s.heap it t i)(j:PyProof.Rows.IsTup s.heap t items)(h:items[i]? = some x)
  (l:∀g,PyProof.Rows.IsTupIter g it t (i+1)->Heap.SameBut it s.heap g->Q x {s with heap:=g}):wpAny (model P w) A (Builtin.SmallTypes.nextOf (.ref it)) Q X s:=by
 have⟨o,c,k,b⟩:=id a;obtain⟨m,e,_,n,f⟩:=j;unfold Builtin.SmallTypes.nextOf;refine jZa (wpAny_callSpecial?_slot (name:=Str.ofString "__next__") a.typeIs slot_tupleiter_next (wpAny_call_entry slot_tupleiter_next a.typeIs entry_tupleiter_next ?_ (args_tupleiter_next _)));show wpAny _ _ (field (.ref it) 0 >>= _) _ _ s;refine jZa (wpAny_field c b (x:=.ref t) rfl ?_);show wpAny _ _ (if(Value.ref t == Value.none)=true then _ else _) _ _ s;rw[if_neg (show ¬ ((Value.ref t == Value.none)=true) from jCd)];show wpAny _ _ (field (.ref it) 1 >>= _) _ _ s;refine jZa (wpAny_field c b (x:=.int i 0) rfl ?_);show wpAny _ _ (seqItems? (.ref t) >>= _) _ _ s;refine jZa (wpAny_seqItems e f ?_);simp only[jCa,h];refine jZa (wpAny_setField c b (by simp) (jZb ⟨x,rfl,jZb (l _ ?_ (Heap.SameBut.update ..))⟩));exact⟨_,jCj _ c (Obj.isFreed_of_fields (Obj.data_mapFields b _)),(Obj.cls_mapFields ..).trans k,by rw[Obj.data_mapFields b];simp[rawInt]⟩
theorem Nq{t:Addr}(k:A.handled=none)(b:PyProof.Rows.IsTupIter s.heap it t i)(n:PyProof.Rows.IsTup s.heap t items)(l:items[i]? = none)
  (p:∀j e,jFs it s.heap j->(∃o,j.get? e=some o/\o.cls=.type "StopIteration")->X (.ref e) {s with heap:=j}):wpAny (model P w) A (Builtin.SmallTypes.nextOf (.ref it)) Q X s:=by
 have⟨o,f,u,h⟩:=id b;obtain⟨q,c,_,r,g⟩:=n;unfold Builtin.SmallTypes.nextOf;refine jZa (wpAny_callSpecial?_slot (name:=Str.ofString "__next__") b.typeIs slot_tupleiter_next (wpAny_call_entry slot_tupleiter_next b.typeIs entry_tupleiter_next ?_ (args_tupleiter_next _)));show wpAny _ _ (field (.ref it) 0 >>= _) _ _ s;refine jZa (wpAny_field f h (x:=.ref t) rfl ?_);show wpAny _ _ (if(Value.ref t == Value.none)=true then _ else _) _ _ s;rw[if_neg (show ¬ ((Value.ref t == Value.none)=true) from jCd)];show wpAny _ _ (field (.ref it) 1 >>= _) _ _ s;refine jZa (wpAny_field f h (x:=.int i 0) rfl ?_);show wpAny _ _ (seqItems? (.ref t) >>= _) _ _ s;refine jZa (wpAny_seqItems c g ?_);simp only[jCa,l];refine jZa (wpAny_rule (jZa (wpAny_setField f h (by simp) ?_)));show wpAny _ _ (newExc (.type "StopIteration") [] >>= _) _ _ _;refine jZa ?_;simp only[newExc,newTuple];refine jZa (wpAny_newObj_type ?_ (by size_fits));refine jZa (m:=firstArgMember _ _) (wpAny_of_eq (a:=Value.none) (by first |rfl | (simp only[firstArgMember];rfl)) ?_);refine wpAny_newObj_type ?_ (by size_fits);simp only[raiseNew];refine jZa (wpAny_handled ?_)
 first |rw[show A.in1.handled=none from k] |rw[k]
 refine jZa (jZb (wpAny_throw ?_));exact p _ _ (((Heap.SameBut.update ..).extBut.push _).push _) ⟨_,jAp _ rfl,rfl⟩
theorem kg0(hh:A.handled=none){t:Addr}(hne:t≠it):Draws P w A it [it,t] items.size (λi x=>items[i]? = some x) (λi h=>IsTupIter h it t i/\IsTup h t items) where
 live:=λi h ⟨⟨o,ho,_⟩,_⟩=>⟨o,ho⟩
 frame:=λi h h' ⟨⟨o,ho,r⟩,o2,ho2,r2⟩ k=>⟨⟨o,k it (by simp) o ho,r⟩,o2,k t (by simp) o2 ho2,r2⟩
 item:=λi s Q E hi ⟨hit,ht⟩ hQ=>by refine Vf hit ht (jBx hi) λh' h1 h2=>hQ _ h' s.toks (jBx hi) ⟨h1,?_⟩ h2;revert ht;refine Xe.Aq λo ho r=>?_;exact⟨o,(h2.2 t hne).trans ho,r⟩
 done:=λs Q E ⟨hit,ht⟩ hE=>Nq hh hit ht (by simp) hE
theorem W3(l:Addr)(items:Array Value)(n:Nat)(dct:Option Addr)(j:Array (Option Value)):Meets (Builtin.«enumerate.__new__» ⟨[.type "enumerate",.ref l],[]⟩) (λ_ R s=>s.heap.get? l=some {cls:=.type "tuple",dict:=dct,data:=.seq items n,slots:=j} /\
   R (.ok (.ret (.ref (s.heap.push {cls:=.type "tuple_iterator",data:=.fields #[.ref l,.int 0 0] }).objs.size))) {s with heap:=(s.heap.push {cls:=.type "tuple_iterator",data:=.fields #[.ref l,.int 0 0] }).push {cls:=.type "enumerate",data:=.fields #[.none,.bool false,.ref s.heap.objs.size,rawInt 0,.none,.none] } }):=
 .of_wp λprog w A R s h=>by
  obtain⟨m,g,d,f,k⟩:=s;obtain⟨a,h⟩:=h;have b:=sub_enumerate;have e:IsTup (Shared.heap ⟨m,g,d,f,k⟩) l items:=⟨_,a,rfl,n,rfl⟩
  wp_walk using wpAny_loadPart' a
  refine wpAny_stack_any λo=>jZb ?_;split
  ·rename_i c _ _ _ _ _;cases(c == Value.type "enumerate")<;>(wp_walk using wpAny_loadPart' a,iter_tuple e;exact⟨_,rfl,h⟩)
  ·wp_walk using wpAny_loadPart' a,iter_tuple e;exact⟨_,rfl,h⟩
theorem X5{l:Addr}(p:IsTup s.heap l items)
  (h:∀a,IsEnum a (s.heap.objs.size+1) s.heap.objs.size 0 .none->IsTupIter a s.heap.objs.size l 0->a.objs.size=s.heap.objs.size+2->(∀b o,s.heap.get? b=some o->a.get? b=some o)->Q (.ref (s.heap.objs.size+1)) {s with heap:=a}):wpAny (model P w) A (call (.type "enumerate") [.ref l]) Q X s:=by
 obtain⟨⟨c,dct,q,k⟩,m,g,n,f⟩:=p
 replace g:c=.type "tuple":=g;replace f:q=.seq items n:=f
 subst g f;refine callType_new F.called_enumerate (by decide) (F.typeCall_enumerate_1 _) (F.newCall_enumerate_1 _) (λobj=>F.args_object_init_2 obj _) F.entry_enumerate_new (W3 l items n dct k) ⟨m,?_⟩;have e:(s.heap.push {cls:=.type "tuple_iterator",data:=.fields #[.ref l,.int 0 0] }).objs.size=s.heap.objs.size+1:=jCc ..;show _/\_;rw[e];have j:IsEnum ((s.heap.push {cls:=.type "tuple_iterator",data:=.fields #[.ref l,.int 0 0] }).push {cls:=.type "enumerate",data:=.fields #[.none,.bool false,.ref s.heap.objs.size,rawInt 0,.none,.none] }) (s.heap.objs.size+1) s.heap.objs.size 0 .none:=by have z:=jAp (s.heap.push {cls:=.type "tuple_iterator",data:=.fields #[.ref l,.int 0 0] }) (o:={cls:=.type "enumerate",data:=.fields #[.none,.bool false,.ref s.heap.objs.size,rawInt 0,.none,.none] }) rfl;rw[e]at z;exact z
 exact⟨⟨_,j,rfl⟩,h _ j ⟨_,jAc _ (jAp _ rfl),rfl,rfl⟩ (by rw[jCc,e]) λb o x=>jAc _ (jAc _ x)⟩
end PySem
namespace PD
open PySem PySem.Spec PyProof.Rows L2
variable {P:Program}{w:World}
theorem kf9{A:Around}{items:Array Value}(hh:A.handled=none){t it:Addr}{n:Nat}(hn:items[n]? = none):Draws P w A it [it,t] n (λ_ _=>True) (λj h=>(IsTupIter h it t j/\IsTup h t items)/\j=n) where
 live:=λi h ⟨⟨⟨o,ho,_⟩,_⟩,_⟩=>⟨o,ho⟩
 frame:=λi h h' ⟨⟨⟨o,ho,r⟩,o2,ho2,r2⟩,e⟩ k=>⟨⟨⟨o,k it (by simp) o ho,r⟩,o2,k t (by simp) o2 ho2,r2⟩,e⟩
 item:=λi s Q E hi ⟨_,e⟩ hQ=>absurd hi (by lia)
 done:=λs Q E ⟨⟨hit,ht⟩,_⟩ hE=>Nq hh hit ht hn hE
def Iet(K:Frag)(a:Addr):It:=
 ⟨λi H=>∃b x,SqT K H a b/\b[i]? = some x,λi H x c=>∃t v,x=.ref t/\H t=none/\c=upd H t (.tup [.int (i:Int),v])/\∀b,SqT K H a b->b[i]? = some v,λi H=>∃b,SqT K H a b/\b.length<=i⟩
variable {K:Frag}
theorem jx0{elts:List Expr}{k:Nat}{pos:Pos}(a e it:Addr)(hne:e≠it)(hai:a≠it)(hea:e≠a):
  Turn P w K (.Tuple elts k pos) (Iet K a) [e,it] e (λi h=>(∃old,IsEnum h e it (i:Int) old)/\IsTupIter h it a i) where
 mem:=by simp
 obj:=λi h st b hb=>by
  obtain⟨⟨old,he⟩,o,ho,hc,hd⟩:=st;have hb':b=e\/b=it:=by simpa using hb
  rcases hb' with rfl |rfl
  ·exact⟨_,he,λv z=>by cases z⟩
  ·exact⟨o,ho,λv z=>by rw[hd]at z;cases z⟩
 keep:=λi h h' st kp=>⟨st.1.imp λold he=>kp e (by simp) _ he,let ⟨o,q,r⟩:=st.2; ⟨o,kp it (by simp) o q,r⟩⟩
 item:=by
  intro X hP hw hK hc i pins s σ H E I hf st hg;subst hP hw hK;obtain⟨xs,x,hq,hx⟩:=hg;have⟨its,rv,p,hz⟩:=I.tuple hq;have⟨u,hu,ru⟩:=rv.get hx;obtain⟨⟨old,he⟩,hit⟩:=st;have hD:=kg0 (P:=X.prog) (w:=X.w) (A:=X.A.in1) (items:=its.toArray) (by simpa using I.ok.hd hc) hai;have hlt:i<its.toArray.size:=by have:=(jAl.mp hu).1;simpa using this
  refine wpAny_pyNext_enum_itemD hD he ⟨hit,p⟩ hlt hne (by simp[hne,hea]) λx' h1 tk hx' heo hst ht1 hz1 hk1=>⟨_,rfl,?_⟩;have hxu:x'=u:=by
   have:its.toArray[i]? = some u:=by simpa using hu
   exact Option.some.inj (hx'.symm.trans this)
  subst hxu;refine wpAny_letOwnedTupleGo_enum heo λh2 he2 hs2=>?_;have hT:s.heap.objs.size≠e:=jCq (jAr he);have ht2:h2.get? s.heap.objs.size=some {cls:=.type "tuple",data:=.seq #[.int i tk,x'] }:=(hs2.2 _ hT).trans ht1;have I2:Inv X pins σ (upd H s.heap.objs.size (.tup [.int (i:Int),x])) {s with heap:=h2,toks:=tk+1}:=
   Jq (t':=tk+1) I hf (λb o hb q=>by
    have hb':b≠e/\b≠it:=by simpa using hb
    exact(hs2.2 b hb'.1).trans (hk1 b o hb'.1 hb'.2 q)) (jAg _)
    (show Dj X.prog X.w _ h2 _ (.tup [.int (i:Int),x]) from⟨by show 2<=sizeLine;rw[sizeLine_eq];lia,[.int i tk,x'],.cons ⟨_,rfl⟩ (.cons ru .nil),⟨_,ht2,rfl,_,rfl⟩⟩)
  refine⟨.ref s.heap.objs.size,_,I2,rfl,⟨_,x,rfl,I.hok.fresh (jAg _),rfl,λys hy=>by rw[I.tuple_inj hy hq];exact hx⟩,⟨⟨x',by simpa using he2⟩,?_⟩,λb hb=>?_⟩
  ·obtain⟨o,q,r⟩:=hst.1;exact⟨o,(hs2.2 it (Ne.symm hne)).trans q,r⟩
  ·have hlt:b<s.heap.objs.size:=by
    have⟨oi,hoi,_⟩:=id hit;have hb':b=e\/b=it:=by simpa using hb
    rcases hb' with rfl |rfl
    ·exact jAr he
    ·exact jAr hoi
   rw[Aj (jAv hlt)];exact(hf b hb).1
 done:=by intro X hP hw hK hc i pins s σ H E I hf st hg;subst hP hw hK;obtain⟨xs,hq,hx⟩:=hg;have⟨its,rv,p,hz⟩:=I.tuple hq;obtain⟨⟨old,he⟩,hit⟩:=st;have hl:=rv.length;exact wpAny_pyNext_enum_endD (kf9 (by simpa using I.ok.hd hc) (items:=its.toArray) (n:=i) (t:=a) (by simp;lia)) he ⟨⟨hit,p⟩,rfl⟩ λh' eb=>⟨rfl,Kr (t':=s.toks) I hf λb o hb q=>eb b o (λz=>hb (by simp[z])) q⟩
 self:=λA i s Q E st h=>by obtain⟨⟨old,he⟩,_⟩:=st;exact wpAny_pyIter_enum he h
variable {ds:List D}
theorem kh9{a:Addr}{vs:List V}:ItD K (Iet K a) (Mx ds) λH S=>SqT K H a vs/\An K H S ds vs where
 stab:=jo6
 go:=λi H S hi h=>by rw[Oq]at hi;refine Xe.Aq (λv hv _=>?_) (h.2.get (jAa hi));exact⟨vs,v,h.1,hv⟩
 yld:=λi H S x H' h y=>by revert y;refine Xe.X7 λt v hz5 ht hz6 y=>?_;obtain rfl:=hz5;obtain rfl:=hz6;refine⟨Ar ht _,λd hd=>?_⟩;refine Xe.Aq (λe he hz7=>?_) (Y5 hd);obtain rfl:=hz7;refine Xe.Aq (λw hw rw'=>?_) (h.2.get he);have ev:v=w:=Option.some.inj ((y vs h.1).symm.trans hw);subst ev;exact⟨t,_,rfl,TpR.of Ao,.int (i:Int),[v],rfl,rfl,v,[],rfl,rw'.mono (Ar ht _) (λ_ z=>z),rfl⟩
 stop:=λi H S hi h=>⟨vs,h.1,by rw[<-h.2.length];rw[Oq]at hi;exact hi⟩
def ks2(f:Ev->R D):Ev->R (List D):=λa=>(f a).bind λd=>match d with
 | .lst ds=>.ok (Mx ds)
 | .tup ds=>.ok (Mx ds)
 |_=>.bad
variable {X:Cx}{c:DC}{e:Expr}{l:Lv}{pos:Pos}
section
variable {f:Ev->R D}{p i:Pos}{g:List Expr}{k:Nat}
theorem wr4(hm:X.mg "enumerate" = none)(he:PEd X c l e f)(ae:Gl X "enumerate":=by rfl)(G:starEach [e] X.env=[(false,eval e X.env)]:=by rfl):
  PId X c l (.Tuple g k pos) (.Call (.Name "enumerate" p) [e] [] i) (ks2 f):=by
 intro n s σ H R I h;refine Call_ (Tv I ae hm boot_enumerate (PyProof.Rows.callWith_type1 (thG ((G3 he Mi G:PA X [e] _) i n s σ H (λr m=>∃a,r=[.ref a]/\(((∃A,SqL X.K m a A)/\R (Iel X.K a) m)\/((∃A,SqT X.K m a A)/\R (Iet X.K a) m))) I ?_) λus j r m y T B=>?_) G rfl))
 ·revert h;refine Xe.Bt λhs ρ E q=>?_;refine Be E ((RQ.bind.mp q).mono (λd B v m j E1 T=>?_) λ_ z=>z);cases d with
  |lst ds=>revert T;refine Xe.Bu λa r aa M U=>?_;obtain rfl:=aa;exact⟨a,rfl,.inl ⟨⟨r,M.sq⟩,B _ _ m j ks3 ⟨M,U⟩⟩⟩
  |tup ds=>revert T;refine Xe.Bu λa r Z M U=>?_;obtain rfl:=Z;exact⟨a,rfl,.inr ⟨⟨r,(TpR.sq M)⟩,B _ _ m j kh9 ⟨(TpR.sq M),U⟩⟩⟩
  |_=>exact B.elim
 ·revert B;refine Xe.Aq λa F q=>?_;obtain rfl:=F;refine Xe.Aq (λu C ru=>?_) (vals1 T);obtain rfl:=C;cases ru;have Q:∀(h':Heap),(∀b o,j.heap.get? b=some o->h'.get? b=some o)->(∀b,b∈[j.heap.objs.size+1,j.heap.objs.size]->Q5 X n m b):=λh' x b hb=>by
   have af:b=j.heap.objs.size+1\/b=j.heap.objs.size:=by simpa using hb
   have L:j.heap.objs.size<=b:=by
    rcases af with rfl |rfl
    ·exact jFt _
    ·exact jAg _
   exact y.fpOk L (y.hok.fresh L)
  rcases q with ⟨⟨A,hq⟩,q⟩ | ⟨⟨A,hq⟩,q⟩
  ·refine Xe.G6 (λY rv pl hz=>?_) (y.list hq);refine call_enumerate_list pl.isList λh' O hI ab x=>?_;refine wpAny_pyIter_enum O ?_;exact⟨j.heap.objs.size+1,[j.heap.objs.size+1,j.heap.objs.size],_,_,m,rfl,y.kept (t':=j.toks) x,kl8 a _ _ (jGf _),⟨⟨.none,by simpa using O⟩,hI⟩,Q h' x,q⟩
  ·refine Xe.G6 (λY rv pl hz=>?_) (y.tuple hq);have J:a<j.heap.objs.size:=let ⟨o,ho,_⟩:=pl;jAr ho;refine X5 pl λh' O hI ab x=>?_;refine wpAny_pyIter_enum O ?_;exact⟨j.heap.objs.size+1,[j.heap.objs.size+1,j.heap.objs.size],_,_,m,rfl,y.kept (t':=j.toks) x,jx0 a _ _ (jGf _) (jAv J) (jCq (jCt J)),⟨⟨.none,by simpa using O⟩,hI⟩,Q h' x,q⟩
end
theorem wq3{f:Ev->R D}{ρ:Ev}(h:f ρ=.ok (.lst ds)):ks2 f ρ=.ok (Mx ds):=by unfold ks2;rw[h];rfl
def wo8(i:Nat)(g:List D->List D):Ev->R Fl:=λa=>match a[i]? with
 |some (some (.lst ds))=>.ok (.nx (a.set i (some (.lst (g ds)))))
 |_=>.bad
variable {p:Pos}
theorem wo7(i:Nat){x:Str}{apos b:Pos}(hi:c.O.contains i=true:=by rfl)(y:X.N[i]? = some x:=by rfl)(v:Vis X.env.scope x:=by first |exact Or.inl rfl |exact Or.inr (Or.inl rfl) |exact Or.inr (Or.inr rfl))(j:(x == ("__debug__" : Str))=false:=by decide)
  (m:(x == ("__classdict__" : Str))=false:=by decide)(g:attributeBase (.Name x p) "clear" X.env (eval (.Name x p) X.env)=eval (.Name x p) X.env:=by rfl)(f:(apos.endLine == b.line)=true:=by rfl)
  (k:swapsWith (.Call (.Attribute (.Name x p) "clear" apos) [] [] b) none pos.line X.env=pure false:=by rfl):
  PSd X c (.Expr (.Call (.Attribute (.Name x p) "clear" apos) [] [] b) pos) (wo8 i λ_=>[]):=
 PS.imp (R4 (wu3 PySem.F.plainAttrs_list PySem.F.slot_list_clear PySem.F.type_list_clear ku9 (pv i y v j m) g f) k) λI u H q=>by
 revert q;refine Xe.Bt λC B E q=>?_;have h:i∈c.O:=by simpa using hi
 unfold wo8 at q;split at q
 ·rename_i ds j;refine Xe.wc0 (λa o A z s n G r=>?_) (E.ownL i _ h j);cases z;exact⟨.ref a,s,.inl ⟨rfl,o,SqL.of n⟩,a,o,rfl,rfl,n,q u _ (E.write h j s n An.nil)⟩
 ·exact q.elim
def jp6(ns:List Int):Int:=ns.getD (argBest (λi j=>decide (ns.getD i 0>ns.getD j 0)) (ns.length - 1)) 0
def jk4(ns:List Int):Int:=ns.getD (argBest (λi j=>decide (ns.getD i 0<ns.getD j 0)) (ns.length - 1)) 0
def Ze:List D->Option D
 | [.lst a]=>if a.isEmpty then none else(Ay a).map λb=>.int (jp6 b)
 |_=>none
def Zg:List D->Option D
 | [.lst a]=>if a.isEmpty then none else(Ay a).map λb=>.int (jk4 b)
 |_=>none
theorem Vn{g:List Int->Int}{ys:List D}{d:D}(e:(if ys.isEmpty then none else(Ay ys).map λb=>D.int (g b))=some d):∃b,Ay ys=some b/\0<b.length/\d=.int (g b):=by
 by_cases h:ys.isEmpty=true
 ·rw[if_pos h]at e;cases e
 ·rw[if_neg h]at e;cases f:Ay ys with
  |none=>rw[f]at e;cases e
  |some b =>
   rw[f]at e;cases e;refine⟨b,rfl,?_,rfl⟩;rw[Ti f];cases ys with
   |nil=>exact absurd rfl h
   |cons a l=>exact Nat.succ_pos _
theorem kr8:∀a d,Ze a=some d->d.imm=true:=λa d h=>by
 obtain⟨b,rfl⟩:=inv1 h rfl (λx _ _=>by cases x<;>rfl);cases b with
 |lst f=>obtain⟨_,_,_,rfl⟩:=Vn (g:=jp6) h;rfl
 |_=>exact nos h
theorem kr9:∀a d,Zg a=some d->d.imm=true:=λa d h=>by
 obtain⟨b,rfl⟩:=inv1 h rfl (λx _ _=>by cases x<;>rfl);cases b with
 |lst f=>obtain⟨_,_,_,rfl⟩:=Vn (g:=jk4) h;rfl
 |_=>exact nos h
section
variable {es:List Expr}{fs:Ev->R (List D)}
theorem Rr{its:List Value}{ns:List Int}(h:IntsAre its ns)(i:Nat)(v:Value)(g:its.toArray[i]? = some v):∃t,v=.int (ns.getD i 0) t:=by
 have a:its[i]? = some v:=by simpa using g
 have⟨f,j⟩:=jAl.mp a;have⟨t,b⟩:=jb6 h f;rw[jAi,a,jBs]at b;exact⟨t,b⟩
theorem wo2(O:X.calm=true):Eh X (.builtin "max") (rC X.K Ze):=by
 rintro y s σ H xs us Q I r ⟨S,ds,d,G,e,q⟩;obtain⟨C,rfl⟩:=inv1 e rfl (λx _ _=>by cases x<;>rfl);cases C with
 |lst ys =>
  obtain⟨v,rfl,a,vs,rfl,U,J⟩:=G.one;obtain⟨k,Z,B,rfl⟩:=Vn (g:=jp6) e;obtain⟨u,rfl,F⟩:=vals1 r;cases F;have⟨f,E,pl,hz⟩:=I.list U.sq;have o:=ints_of J E Z;have m:=pl.isList;have h:a<s.heap.objs.size:=by obtain⟨_,z,_⟩:=m;exact jAr z
  have j:f.length=k.length:=IntsAre.length o;refine call_max_walk (wpAny_pyIter_list m ?_);refine⟨s.heap.objs.size,[s.heap.objs.size,a],[s.heap.objs.size],f.toArray.size,_,_,_,rfl,Walks.list (A:=X.A.in1) (I.ok.hd O) _ a (jAv h) f.toArray,
   ⟨⟨_,jAp _ rfl,rfl,rfl⟩,m.push _⟩,λb T=>?_,by rw[jAo];lia,CmpOf.ints_gt (λi=>k.getD i 0) (Rr o),λv h' tk Y M=>?_⟩
  ·have n:b=s.heap.objs.size\/b=a:=by simpa using T
   rw[jCc];rcases n with rfl |rfl
   ·exact jDr _
   ·exact jCt h
  ·obtain⟨t,rfl⟩:=Rr o _ v Y;refine⟨.int (jp6 k),H,I.kept (λb x z=>M b x (λL=>by rw[jAh.mp L]at z;exact jCf _ (jAr z)) (jAc _ z)),(show ∃t,_=Value.int (jp6 k) t from⟨t,?_⟩),q _ H (Ag.refl _) rfl⟩;unfold jp6;rw[jAo,j]
 |_=>exact nos e
theorem wo3(O:X.calm=true):Eh X (.builtin "min") (rC X.K Zg):=by
 rintro y s σ H xs us Q I r ⟨S,ds,d,G,e,q⟩;obtain⟨C,rfl⟩:=inv1 e rfl (λx _ _=>by cases x<;>rfl);cases C with
 |lst ys =>
  obtain⟨v,rfl,a,vs,rfl,U,J⟩:=G.one;obtain⟨k,Z,B,rfl⟩:=Vn (g:=jk4) e;obtain⟨u,rfl,F⟩:=vals1 r;cases F;have⟨f,E,pl,hz⟩:=I.list U.sq;have o:=ints_of J E Z;have m:=pl.isList;have h:a<s.heap.objs.size:=by obtain⟨_,z,_⟩:=m;exact jAr z
  have j:f.length=k.length:=IntsAre.length o;refine call_min_walk (wpAny_pyIter_list m ?_);refine⟨s.heap.objs.size,[s.heap.objs.size,a],[s.heap.objs.size],f.toArray.size,_,_,_,rfl,Walks.list (A:=X.A.in1) (I.ok.hd O) _ a (jAv h) f.toArray,
   ⟨⟨_,jAp _ rfl,rfl,rfl⟩,m.push _⟩,λb T=>?_,by rw[jAo];lia,CmpOf.ints_lt (λi=>k.getD i 0) (Rr o),λv h' tk Y M=>?_⟩
  ·have n:b=s.heap.objs.size\/b=a:=by simpa using T
   rw[jCc];rcases n with rfl |rfl
   ·exact jDr _
   ·exact jCt h
  ·obtain⟨t,rfl⟩:=Rr o _ v Y;refine⟨.int (jk4 k),H,I.kept (λb x z=>M b x (λL=>by rw[jAh.mp L]at z;exact jCf _ (jAr z)) (jAc _ z)),(show ∃t,_=Value.int (jk4 k) t from⟨t,?_⟩),q _ H (Ag.refl _) rfl⟩;unfold jk4;rw[jAo,j]
 |_=>exact nos e
theorem yc6(h:X.calm=true)(b:X.mg "max" = none)(i:PAd X c l (e::es) fs)(f:Gl X "max":=by rfl)(g:starEach (e::es) X.env=(false,eval e X.env)::starEach es X.env:=by rfl)(a:(backTo pos (starEach es X.env)).any (·.1)=false:=by rfl):
  PEd X c l (.Call (.Name "max" p) (e::es) [] pos) (bA fs Ze):=Yx (wo2 h) PyProof.Rows.boot_max b i f (by decide) (by decide) g a
theorem yc7(h:X.calm=true)(b:X.mg "min" = none)(i:PAd X c l (e::es) fs)(f:Gl X "min":=by rfl)(g:starEach (e::es) X.env=(false,eval e X.env)::starEach es X.env:=by rfl)(a:(backTo pos (starEach es X.env)).any (·.1)=false:=by rfl):
  PEd X c l (.Call (.Name "min" p) (e::es) [] pos) (bA fs Zg):=Yx (wo3 h) PyProof.Rows.boot_min b i f (by decide) (by decide) g a
end
end PD
namespace PySem
open Sem (wp)
theorem jt6{P:Program}{w:World}(d:Addr)(b:(d == sysModules)=false):
  MeetsIn P w (Builtin.«dict.items» ⟨[.ref d],[]⟩) (λ_ R s=>s.TypeIs (.ref d) "dict"/\R (.ok (.ret (.ref s.heap.objs.size))) {s with heap:=s.heap.push {cls:=.type "dict_items",data:=.fields #[.ref d] } }):=
 .of_wp λA R s ⟨a,h⟩=>by unfold Builtin.«dict.items» Builtin.Dict.noArgs;refine jZa (jZa (wpAny_notOrdered_dict a ?_));show wpAny _ _ (pure d) _ _ s;refine jZb ?_;show wpAny _ _ (Builtin.Dict.showsAll d >>= _) _ _ s;unfold Builtin.Dict.showsAll;rw[if_neg (by rw[b];exact jCd)];refine jZa (jZb (jZa (wpAny_newObj_type (jZb ⟨_,rfl,h⟩))))
variable {od:Obj}{ep i:Nat}{Q:Option Value->Shared->Prop}{it:Addr}{c:Value}
section
variable {P:Program}{w:World}{A:Around}{E:Value->Shared->Prop}{s:Shared}
theorem jt5{v d:Addr}{es:Array DictEntry}{Q:Value->Shared->Prop}(e:s.heap.IsItemsView v d)(h:s.heap.get? d=some od)(a:od.data=.dict es ep)
  (k:Q (.ref s.heap.objs.size) {s with heap:=s.heap.push {cls:=.type "dict_itemiterator",data:=.fields #[.none,.bool false,.ref d,.int 0 0,.int es.size 0,.int ep 0,.none,.none] } }):wpAny (model P w) A (pyIter (.ref v)) Q E s:=by
 refine Xe.G6 (λc f j g=>?_) (id e);refine wpAny_pyIter_slot e.typeIs F.slot_dict_items_iter (wpAny_call_entry F.slot_dict_items_iter e.typeIs F.entry_dict_items_iter ?_ (F.args_dict_items_iter_1 _));unfold Builtin.«dict_items.__iter__»;refine jZa (jZb ?_);refine jZa ?_;unfold Builtin.Dict_items.dictOf;refine jZa (wpAny_field f g (x:=.ref d) rfl (jZb ?_));refine jZa ?_;unfold Builtin.Dict_items.newIterator;refine jZa (wpAny_dictEntries h a (jZa (wpAny_dictEpoch h a ?_)));have b:Builtin.Dict_items.ownsTuple "dict_itemiterator" = true:=(by decide);simp only[b,if_true];refine wpAny_newObj_type (jZb ⟨_,rfl,"dict_itemiterator",_,⟨_,jAp _ rfl,rfl⟩,F.slot_dict_itemiterator_next.lookup,?_⟩) (by simp only[sizeOk,Builtin.Dict_items.ownedTupleFields,jAo,jAs,jAy,jGj,sizeLine_eq];lia);simpa[rawInt,Builtin.Dict_items.ownedTupleFields] using k
theorem jt7{d:Addr}{es:Array DictEntry}{e:DictEntry}{ok:Value}(K:IsItemIter s.heap it d i es.size ep ok c)(ab:s.heap.get? d=some od)(ae:od.data=.dict es ep)(hx:es[i]? = some e)
  (hQ:∀h',IsItemIterOut h' it d (i+1) es.size ep e.key e.val s.heap.objs.size->h'.get? s.heap.objs.size=some {cls:=.type "tuple",data:=.seq #[e.key,e.val] }->h'.objs.size=s.heap.objs.size+1->(∀b o,b≠it->s.heap.get? b=some o->h'.get? b=some o)->Q (some (.ref s.heap.objs.size)) {s with heap:=h'}):
  wpAny (model P w) A (pyNext (.ref it)) Q E s:=by
 obtain⟨J,g,dr,Y,Z⟩:=s;have X:Shared.TypeIs ⟨J,g,dr,Y,Z⟩ (.ref it) "dict_itemiterator":=⟨_,K,rfl⟩;unfold pyNext;refine jZa (wpAny_attempt (wpAny_callSpecial?_slot (name:=Str.ofString "__next__") X F.slot_dict_itemiterator_next (wpAny_call_entry F.slot_dict_itemiterator_next X F.entry_dict_itemiterator_next ?_ (F.args_dict_itemiterator_next_1 _))));refine jZa (jZb ?_);refine jZa ?_;refine jZa ?_
 first | (refine jZa (wpAny_typeNameOfWhole_itemiter X (jZb ?_))) | (refine jZa (wpAny_typeNameOf_itemiter X (jZb ?_)))
 refine jZa (wpAny_fieldsOf K rfl ?_);have aa:Builtin.Dict_items.ownsTuple "dict_itemiterator" = true:=(by decide);simp only[aa,if_true];show wpAny _ _ (if(Value.ref d == Value.none)=true then _ else _) _ _ _;rw[if_neg (show ¬ ((Value.ref d == Value.none)=true) from jCd)];refine jZa (jZb ?_);refine jZa (wpAny_dictEntries ab ae ?_);rw[if_neg (by simp)];refine jZa (jZb ?_);refine jZa (wpAny_dictEpoch ab ae ?_);rw[if_neg (by simp)];refine jZb ?_;simp only[show ¬ ((i:Int)<0) from(by lia),if_false,jCa,hx];refine jZa ?_
 first | (refine jZa (wpAny_typeNameOfWhole_itemiter X (jZb ?_))) | (refine jZa (wpAny_typeNameOf_itemiter X (jZb ?_)))
 refine jZa (wpAny_isOneOf_itemiter X ?_);show wpAny _ _ (setField (.ref it) 3 (rawInt ((i:Int)+1)) >>= _) _ _ ⟨J,g,dr,Y,Z⟩;refine jZa (wpAny_setField_rec K (by simp) λa n l=>?_);replace l:Heap.SameBut it J a:=l
 replace n:IsItemIter a it d (i+1) es.size ep ok c:=(by
  have e:((i+1:Nat):Int)=(i:Int)+1:=(by lia);unfold IsItemIter;rw[e];simpa[rawInt] using n)
 have B:Shared.TypeIs ⟨a,g,dr,Y,Z⟩ (.ref it) "dict_itemiterator":=⟨_,n,rfl⟩;refine jZa (wpAny_holding ?_);refine jZa (wpAny_isOneOf_itemiter B ?_);refine jZa (wpAny_isOneOf_itemiter B ?_);show wpAny _ _ (Builtin.Dict_items.pairFromOwner (.ref it) 6 e.key e.val) _ _ ⟨a,g,dr,Y,Z⟩;unfold Builtin.Dict_items.pairFromOwner;refine jZa (wpAny_newTuple ?_);have m:IsItemIter (a.push {cls:=.type "tuple",data:=.seq #[e.key,e.val] }) it d (i+1) es.size ep ok c:=jAc _ n;generalize q:a.push {cls:=.type "tuple",data:=.seq #[e.key,e.val] }=r at m;have p:a.objs.size=J.objs.size:=l.1;have L:it<J.objs.size:=jAr K;have O:r.get? J.objs.size=some {cls:=.type "tuple",data:=.seq #[e.key,e.val] }:=(by rw[<-q,<-p];exact jAp _ rfl);have M:r.objs.size=J.objs.size+1:=(by rw[<-q,jCc,p]);have T:∀b o,b≠it->J.get? b=some o->r.get? b=some o:=λb o U e=>(by rw[<-q];exact jAc _ (l.extBut b o U e));show wpAny _ _ (Builtin.Dict_items.ownedTupleIsFree (.ref it) >>= _) _ _ ⟨r,g,dr,Y,Z⟩;rw[p];clear q n l B p a;refine jZa ?_;unfold Builtin.Dict_items.ownedTupleIsFree;refine jZa (wpAny_field m rfl (x:=.none) rfl (jZb ?_));simp only[if_true];refine jZa (wpAny_field m rfl (x:=ok) rfl (jZa (wpAny_field m rfl (x:=c) rfl ?_)));refine jZa (wpAny_setField_rec m (by simp) λI z k=>?_);replace k:Heap.SameBut it r I:=k;replace z:IsItemIter I it d (i+1) es.size ep e.key c:=z;refine jZa (wpAny_setField_rec z (by simp) λH y j=>?_);replace j:Heap.SameBut it I H:=j;replace y:IsItemIter H it d (i+1) es.size ep e.key e.val:=y;refine jZa (wpAny_setField_rec y (by simp) λG v h=>?_);replace h:Heap.SameBut it H G:=h;replace v:IsItemIterOut G it d (i+1) es.size ep e.key e.val J.objs.size:=v;refine jZa (wpAny_setField_rec v (by simp) λC u f=>?_);replace f:Heap.SameBut it G C:=f;replace u:IsItemIterOut C it d (i+1) es.size ep e.key e.val J.objs.size:=u;refine jZa (wpAny_letGo (jZb (jZb ⟨_,rfl,jZb (hQ C u ?_ ?_ ?_)⟩)))
 ·exact f.extBut _ _ (jCq L) (h.extBut _ _ (jCq L) (j.extBut _ _ (jCq L) (k.extBut _ _ (jCq L) O)))
 ·show C.objs.size=J.objs.size+1;rw[f.1,h.1,j.1,k.1,M]
 ·exact λb o U e=>(f.extBut b o U (h.extBut b o U (j.extBut b o U (k.extBut b o U (T b o U e)))))
theorem jt4{d:Addr}{es:Array DictEntry}{ok:Value}(n:A.handled=none)(e:IsItemIter s.heap it d i es.size ep ok c)(h:s.heap.get? d=some od)(j:od.data=.dict es ep)(l:es[i]? = none)
  (o:∀k,jFs it s.heap k->Q none {s with heap:=k}):wpAny (model P w) A (pyNext (.ref it)) Q E s:=by
 have f:s.TypeIs (.ref it) "dict_itemiterator":=⟨_,e,rfl⟩;unfold pyNext;refine jZa (wpAny_attempt (wpAny_callSpecial?_slot (name:=Str.ofString "__next__") f F.slot_dict_itemiterator_next (wpAny_call_entry F.slot_dict_itemiterator_next f F.entry_dict_itemiterator_next ?_ (F.args_dict_itemiterator_next_1 _))));refine jZa (jZb ?_);refine jZa ?_;refine jZa ?_
 first | (refine jZa (wpAny_typeNameOfWhole_itemiter f (jZb ?_))) | (refine jZa (wpAny_typeNameOf_itemiter f (jZb ?_)))
 refine jZa (wpAny_fieldsOf e rfl ?_);have g:Builtin.Dict_items.ownsTuple "dict_itemiterator" = true:=(by decide);simp only[g,if_true];show wpAny _ _ (if(Value.ref d == Value.none)=true then _ else _) _ _ s;rw[if_neg (show ¬ ((Value.ref d == Value.none)=true) from jCd)];refine jZa (jZb ?_);refine jZa (wpAny_dictEntries h j ?_);rw[if_neg (by simp)];refine jZa (jZb ?_);refine jZa (wpAny_dictEpoch h j ?_);rw[if_neg (by simp)];refine jZb ?_;simp only[show ¬ ((i:Int)<0) from(by lia),if_false,jCa,l];refine jZa ?_
 first | (refine jZa (wpAny_typeNameOfWhole_itemiter f (jZb ?_))) | (refine jZa (wpAny_typeNameOf_itemiter f (jZb ?_)))
 show wpAny _ _ (setField (.ref it) 2 .none >>= _) _ _ s;refine jZa (wpAny_setField e rfl (by simp) ?_);show wpAny _ _ (newExc (.type "StopIteration") [] >>= _) _ _ _;refine jZa ?_;simp only[newExc,newTuple];refine jZa (wpAny_newObj_type ?_ (by size_fits));refine jZa (m:=firstArgMember _ _) (wpAny_of_eq (a:=Value.none) (by first |rfl | (simp only[firstArgMember];rfl)) ?_);refine wpAny_newObj_type ?_ (by size_fits);simp only[raiseNew];refine jZa (wpAny_handled ?_);rw[show A.in1.handled=none from n];refine jZa (jZb (wpAny_throw ?_));refine jZa (wpAny_isInstance (T:="StopIteration") (b:=true) ⟨_,jAp _ rfl,rfl⟩ isSubtype_stop (jZb (o _ (((Heap.SameBut.update ..).extBut.push _).push _))))
end
end PySem
namespace PD
open PySem PySem.Spec PyProof.Rows L2
variable {X:Cx}
variable {H:Hp}{a:Addr}{u v:HO}{P:Program}{w:World}{o:Obj}
section
variable {pins:List (Addr×Obj)}{σ:St}{H:Hp}{s:Shared}{a:Addr}{o:Obj}{u:HO}
theorem je6:upd (upd H a u) a v=upd H a v:=by
 funext b;by_cases h:b=a
 ·subst h;rw[Ao,Ao]
 ·rw[Aj h,Aj h,Aj h]
theorem kr3{h:Heap}(ok:HOk P w H h)(f:H a=some u)(n:∀z,u≠.own z)(m:∀z,u≠.tup z)(l:∀x z,u≠.frz x (.own z))(new:Dj P w H h a v):HOk P w (upd H a v) h:=λb x q=>by
 have j:∀b o y,H b=some (.frz o (.own y))->upd H a v b=some (.frz o (.own y)):=λb o y e=>by rw[Aj (λz=>by rw[z,f]at e;exact l _ _ (Option.some.inj e))];exact e
 have i:∀b y,H b=some (.own y)->upd H a v b=some (.own y):=λb y e=>by rw[Aj (λz=>by rw[z,f]at e;exact n _ (Option.some.inj e))];exact e
 have g:∀b y,H b=some (.tup y)->upd H a v b=some (.tup y):=λb y e=>by rw[Aj (λz=>by rw[z,f]at e;exact m _ (Option.some.inj e))];exact e
 by_cases k:b=a
 ·subst k;rw[Ao]at q;cases q;exact new.stay (λ_ _ _ e=>e) (λc e=>i c _ e) g j
 ·rw[Aj k]at q;exact(ok b x q).stay (λ_ _ _ e=>e) (λc e=>i c _ e) g j
theorem Inv.swap(I:Inv X pins σ H s)(g:H a=some u)(l:∀z,u≠.own z)(h:∀z,u≠.tup z)(k:∀z,u≠.tbl z)(f:(∀x z,u≠.frz x z)\/X.H₀ a=none)(new:Dj X.prog X.w H s.heap a v)(j:∀x z,u≠.frz x (.own z):=by intro _ _ z;cases z):Inv X pins σ (upd H a v) s:=by
 have ne:∀b,H b=none->upd H a v b=none:=λb e=>by rw[Aj (λz=>by rw[z,g]at e;cases e)];exact e
 refine⟨I.ok,I.os,I.bare,⟨I.base.keep,I.base.slot,λb x q n m=>ne b (I.base.free b x q n m),I.base.there,λb i q=>?_,λb x y q=>?_,λb ps q=>?_⟩,I.loc,I.cell,ne _ I.free,λx c e=>ne _ (I.freeC x c e),λp r=>?_,kr3 I.hok g l h j new,I.len⟩
 ·have e:=I.base.tups b i q;rw[Aj (λz=>by rw[z,g]at e;exact h _ (Option.some.inj e))];exact e
 ·have e:=I.base.frzs b x y q;rw[Aj (λz=>by
   rcases f with f |f
   ·rw[z,g]at e;exact f _ _ (Option.some.inj e)
   ·rw[z,f]at q;cases q)];exact e
 ·have⟨more,e⟩:=I.base.tbls b ps q;exact⟨more,by rw[Aj (λz=>by rw[z,g]at e;exact k _ (Option.some.inj e))];exact e⟩
 ·refine Xe.wb8 (λC B A=>?_) (I.pin p r);exact⟨C,ne _ B,A⟩
theorem Inv.thaw(I:Inv X pins σ H s)(b:H a=some (.frz o v))(f:X.H₀ a=none)(c:∀z,v≠.own z:=by intro _ z;cases z):Inv X pins σ (upd H a v) s:=
 Inv.swap I b (λ_ z=>by cases z) (λ_ z=>by cases z) (λ_ z=>by cases z) (.inr f) (I.hok a _ b).2 λx z e=>by cases e;exact c _ rfl
theorem Inv.cold{b:List (List Key×V)}(I:Inv X pins σ H s)(g:H a=some (.dT b)):∃o,Inv X pins σ (upd H a (.frz o (.dT b))) s:=by have⟨z,y,h,r,f,i,j,e,c⟩:=(show Dj X.prog X.w H s.heap a (.dT b) from I.hok a _ g);exact⟨f,Inv.swap I g (λ_ z=>by cases z) (λ_ z=>by cases z) (λ_ z=>by cases z) (.inl λ_ _ z=>by cases z) ⟨e,z,y,h,r,f,i,j,e,c⟩⟩
end
variable {pos:Pos}
section
variable {o i c f:Expr}{j ty g b:TE}{e apos cpos:Pos}
theorem kw2:PE X (.Dict [] [] pos) (λ_ H Q=>∀p,H p=none->∀l,Q (.ref p) (upd H p (.frz l (.dT [])))):=λk s x H Q I h=>by refine wpAny_mono (kw3 k s x H (λv q=>∃p,v=.ref p/\H p=none/\q=upd H p (.dT [])) I λp m=>⟨p,rfl,m,rfl⟩) (λu B y=>?_) λ_ _ z=>z;obtain⟨v,q,A,r,p,rfl,m,rfl⟩:=y;have⟨l,n⟩:=Inv.cold A Ao;rw[je6]at n;exact⟨_,_,n,r,h p m l⟩
theorem jm5(hu:X.A.units+1<cLine)(ho:PE X o j)(hi:PE X i ty)(hv:PE X c g)(hs:swapsWith c (some (.Subscript o i e)) pos.line X.env=pure false):
  PS X (.Assign [.Subscript o i e] c pos) (λD m H=>g m H λv F=>j m F λx E=>ty m E λy q=>∃a G n k b,x=.ref a/\q a=some (.frz G (.dT n))/\X.H₀ a=none/\y=.ref b/\q b=some (.tup (k.map kV))/\n.length<sizeLine/\∀p,D.nx m (upd q a (.frz p (.dT (putK n k v))))):=by
 intro l s m H D I h;refine wpAny_Assign_Subscript (thG (hv l s m H _ I h) λr O v F I1 U q1=>thG (ho l O m F _ I1 q1) λu M x E I2 T Z=>thG (hi l M m E _ I2 Z) λiv s3 y q I3 Q L=>?_) hs;revert L;refine Xe.kp3 λa G n k b ex J h0 ey C hl Y=>?_;subst ex;subst ey;obtain rfl:u=Value.ref a:=T;have B:b≠a:=λz=>by rw[z,J]at C;cases C
 refine kf7 hu (Inv.thaw I3 J h0) (wa2.t (k:=k) Ao (by rw[Aj B];exact C) hl) Q U λs4 I4=>?_;have⟨p,K⟩:=Inv.cold I4 Ao;rw[je6,je6]at K;exact⟨m,_,K,Y p⟩
end
def Idi(a:Addr)(o:Obj)(c:List (List Key×V)):It:=
 ⟨λi H=>H a=some (.frz o (.dT c))/\i<c.length,λi H x e=>∃t b k v,x=.ref t/\H t=none/\e=upd H t (.tup [.ref b,v])/\c[i]? = some (k,v)/\H b=some (.tup (k.map kV)),λi H=>H a=some (.frz o (.dT c))/\c.length<=i⟩
theorem Qo{b c:Type}{F:b->c->Prop}:∀{l:List b}{m:List c}{i:Nat}{x:b},Paired F l m->l[i]? = some x->∃y,m[i]? = some y/\F x y
 |_,_,i,x,.nil,h=>by simp at h
 |_,_,0,x,.cons r t,h=>by simp at h;subst h;exact⟨_,by simp,r⟩
 |_,_,i+1,x,.cons r t,h=>by refine Xe.Aq (λy e q=>?_) (Qo (i:=i) t (by simpa using h));exact⟨y,by simpa using e,q⟩
variable {K:Frag}{C:List Expr}
theorem jx1{k:Nat}(a it:Addr)(o:Obj)(kvs:List (List Key×V))(hne:a≠it):
  Turn P w K (.Tuple C k pos) (Idi a o kvs) [it] it (λi h=>∃es ep ok ov,o.data=.dict es ep/\IsItemIter h it a i es.size ep ok ov) where
 mem:=by simp
 obj:=λi h st b hb=>by obtain⟨es,ep,ok,ov,_,he⟩:=st;rw[jAh.mp hb];exact⟨_,he,λv z=>by cases z⟩
 keep:=λi h h' st kp=>by obtain⟨es,ep,ok,ov,hd,he⟩:=st;exact⟨es,ep,ok,ov,hd,kp it (by simp) _ he⟩
 item:=by
  intro X hP hw hK hc i pins s σ H E I hf st hg;subst hP hw hK;obtain⟨ha,hi⟩:=hg;obtain⟨es,ep,ok,ov,hd,he⟩:=st;have⟨ho,z,y,xs,r,ob,es',ep',e1,ex,e2,e3,nd⟩:=I.hok a _ ha;have eo:o=ob:=Option.some.inj (ho.symm.trans e1);subst eo;rw[hd]at e2;cases e2;have⟨q,hq,hq1,hq2,hq3⟩:=Qo r (jAa hi);have hes:es[i]? = some (entryOfKey (tupleKind (Dh X.prog X.w)) q):=by rw[entry_at e3,hq];rfl
  refine jt7 he ho hd hes λh1 heo ht1 hz1 hk1=>⟨_,rfl,?_⟩;refine wpAny_letOwnedTupleGo_items heo λh2 he2 hs2=>?_;have hT:s.heap.objs.size≠it:=jCq (jAr he);have ht2:h2.get? s.heap.objs.size=some {cls:=.type "tuple",data:=.seq #[.ref q.2.1,q.2.2] }:=(hs2.2 _ hT).trans ht1;have I2:Inv X pins σ (upd H s.heap.objs.size (.tup [.ref q.2.1,kvs[i].2])) {s with heap:=h2}:=
   Jq (t':=s.toks) I hf (λb o hb q=>by
    have hb':b≠it:=by simpa using hb
    exact(hs2.2 b hb').trans (hk1 b o hb' q)) (jAg _)
    (show Dj X.prog X.w _ h2 _ (.tup [.ref q.2.1,kvs[i].2]) from⟨by show 2<=sizeLine;rw[sizeLine_eq];lia,[.ref q.2.1,q.2.2],.cons rfl (.cons hq3 .nil),⟨_,ht2,rfl,_,rfl⟩⟩)
  refine⟨.ref s.heap.objs.size,_,I2,rfl,⟨_,q.2.1,kvs[i].1,kvs[i].2,rfl,I.hok.fresh (jAg _),rfl,jAa hi,hq2⟩,⟨es,ep,_,_,hd,he2⟩,λb hb=>?_⟩;rw[jAh.mp hb,Aj (Ne.symm hT)];exact(hf it (by simp)).1
 done:=by
  intro X hP hw hK hc i pins s σ H E I hf st hg;subst hP hw hK;obtain⟨ha,hi⟩:=hg;obtain⟨es,ep,ok,ov,hd,he⟩:=st;have⟨ho,z,y,xs,r,ob,es',ep',e1,ex,e2,e3,nd⟩:=I.hok a _ ha;have eo:o=ob:=Option.some.inj (ho.symm.trans e1);subst eo;rw[hd]at e2;cases e2;have hl:xs.length=kvs.length:=(Paired.length r).symm;have hes:es[i]? = none:=by rw[entry_at e3,jCs (by lia)];rfl
  exact jt4 (by simpa using I.ok.hd hc) he ho hd hes λh' eb=>⟨rfl,Kr (t':=s.toks) I hf λb o hb q=>eb b o (λz=>hb (by simp[z])) q⟩
 self:=λA i s Q E st h=>by obtain⟨es,ep,ok,ov,hd,he⟩:=st;exact W.kcp_self he h
def Ec:List D->Option (List Key)
 | []=>some []
 | .int i::r=>(Ec r).map λk=>Sum.inl i::k
 | .str x::r=>(Ec r).map λk=>Sum.inr x::k
 |_=>none
theorem Tt:∀k:List Key,Ec (k.map kyD)=some k
 | []=>rfl
 | .inl i::r=>by rw[jAk];show(Ec (r.map kyD)).map _=_;rw[Tt r];rfl
 | .inr x::r=>by rw[jAk];show(Ec (r.map kyD)).map _=_;rw[Tt r];rfl
theorem G9:∀{l:List D}{k:List Key},Ec l=some k->l=k.map kyD
 | [],k,h=>by cases h;rfl
 | .int i::r,k,h=>by
  cases e:Ec r with
  |none=>simp[Ec,e]at h
  |some b=>simp[Ec,e]at h;subst h;rw[G9 e];rfl
 | .str x::r,k,h=>by
  cases e:Ec r with
  |none=>simp[Ec,e]at h
  |some b=>simp[Ec,e]at h;subst h;rw[G9 e];rfl
 | .non::r,k,h=>by simp[Ec]at h
 | .bl _::r,k,h=>by simp[Ec]at h
 | .tup _::r,k,h=>by simp[Ec]at h
 | .lst _::r,k,h=>by simp[Ec]at h
 | .exc _ _ _::r,k,h=>by simp[Ec]at h
theorem R5{K:Frag}{H:Hp}{S:AS}:∀k:List Key,An K H S (k.map kyD) (k.map kV)
 | []=>An.nil
 | .inl i::r=>.cons (show Rep K H S (.int i) (.int i) from rfl) (R5 r)
 | .inr x::r=>.cons (show Rep K H S (.str x) (.str x) from rfl) (R5 r)
theorem Jr{K:Frag}{H:Hp}{S:AS}:∀{k:List Key}{vs:List V},An K H S (k.map kyD) vs->vs=k.map kV
 | [],vs,h=>h
 | .inl i::r,vs,h=>by revert h;refine Xe.Bu λv t c f e=>?_;obtain rfl:=c;rw[Jr e];cases(show v=.int i from f);rfl
 | .inr x::r,vs,h=>by revert h;refine Xe.Bu λv t b f e=>?_;obtain rfl:=b;rw[Jr e];cases(show v=.str x from f);rfl
def Rg:D->Option (List Key)
 | .tup l=>Ec l
 |_=>none
def Gj:List D->List D->List Key->Option D
 |kd::ks,f::fs,k=>if Rg kd=some k then some f else Gj ks fs k
 |_,_,_=>none
def dput:List D->List D->List Key->D->List D×List D
 |kd::ks,f::fs,k,v=>if Rg kd=some k then(kd::ks,v::fs) else((kd::(dput ks fs k v).1),(f::(dput ks fs k v).2))
 |_,_,k,v=>([.tup (k.map kyD)],[v])
theorem Nf(k:List Key):Rg (.tup (k.map kyD))=some k:=Tt k
theorem Oo{K:Frag}{H:Hp}{S:AS}(k:List Key):∀{kk:List (List Key)}{fs:List D}{vs:List V},kk.length=vs.length->An K H S fs vs ->
  (S6 (kk.zip vs) k=none/\Gj (kk.map λk=>D.tup (k.map kyD)) fs k=none)\/∃v f,S6 (kk.zip vs) k=some v/\Gj (kk.map λk=>D.tup (k.map kyD)) fs k=some f/\Rep K H S f v
 | [],fs,vs,b,r=>by
  have:vs=[]:=by cases vs<;>simp at b ⊢
  subst this;exact .inl ⟨rfl,by simp[Gj]⟩
 |q::kk,fs,[],b,r=>by simp at b
 |q::kk,fs,v::vs,b,r=>by
  have c:kk.length=vs.length:=by simpa using b
  cases fs with
  |nil=>cases(show v::vs=[] from r)
  |cons f fs =>
   revert r;refine Xe.Bu λl g e j i=>?_;cases e;rw[jDi,jAk];by_cases h:q=k
   ·exact .inr ⟨v,f,Oh h,by rw[Gj,if_pos (by rw[Nf,h])],j⟩
   ·rw[Og h,Gj,if_neg (by rw[Nf];intro z;exact h (Option.some.inj z))];exact Oo k c i
variable {k q:List Key}{r:List (List Key×V)}
theorem jd0{u v:V}(h:q=k)(hn:¬ k∈r.map (·.1)):putK ((q,u)::r) k v=(q,v)::r:=by
 have e:r.map (λb=>if b.1=k then(b.1,v) else b)=r:=by refine(jBy λx c=>?_).trans (List.map_id r);rw[if_neg (λz=>hn (jAm.mpr ⟨x,c,z⟩))];rfl
 unfold putK;rw[if_pos (by simp[h]),jAk,if_pos h,e]
theorem jd1{u v:V}(h:¬ q=k):putK ((q,u)::r) k v=(q,u)::putK r k v:=by
 unfold putK;by_cases b:(r.any λc=>decide (c.1=k))=true
 ·rw[if_pos (by simp only[jEq,b,Bool.or_true]),if_pos b,jAk,if_neg h]
 ·rw[if_neg (by simp only[jEq,decide_eq_false h,Bool.false_or];exact b),if_neg b,jFc]
theorem Wa{K:Frag}{H:Hp}{S:AS}(k:List Key){d:D}{v:V}(m:Rep K H S d v):∀{kk:List (List Key)}{fs:List D}{vs:List V},kk.length=vs.length->kk.Nodup->An K H S fs vs ->
  ∃(b:List (List Key))(c:List V),putK (kk.zip vs) k v=b.zip c/\b.length=c.length/\b.Nodup/\(∀x∈b,x∈kk\/x=k)/\(dput (kk.map λk=>D.tup (k.map kyD)) fs k d).1=b.map (λk=>D.tup (k.map kyD))/\An K H S (dput (kk.map λk=>D.tup (k.map kyD)) fs k d).2 c
 | [],fs,vs,j,l,r=>by
  have:vs=[]:=by cases vs<;>simp at j ⊢
  subst this;refine⟨[k],[v],rfl,rfl,by simp,by simp,by simp[dput],?_⟩;simp only[jEf,dput];exact .cons m An.nil
 |q::kk,fs,[],j,l,r=>by simp at j
 |q::kk,fs,u::vs,j,l,r=>by
  have i:kk.length=vs.length:=by simpa using j
  have⟨s,n⟩:=jBj.mp l;cases fs with
  |nil=>cases(show u::vs=[] from r)
  |cons f fs =>
   revert r;refine Xe.Bu λM c e E p=>?_;cases e;rw[jDi,jAk];by_cases h:q=k
   ·refine⟨q::kk,v::vs,?_,by simp[i],l,λx g=>.inl g,?_,?_⟩
    ·rw[jd0 h (λz=>by
      refine Xe.Aq (λx g e=>?_) (jAm.mp z);exact s (h ▸ e ▸ (jFj g).1)),jDi]
    ·rw[dput,if_pos (by rw[Nf,h])];rfl
    ·rw[dput,if_pos (by rw[Nf,h])];exact .cons m p
   ·refine Xe.wp6 (λb B L J I A G F=>?_) (Wa k m i n p);have y:¬ Rg (.tup (q.map kyD))=some k:=by rw[Nf];intro z;exact h (Option.some.inj z)
    refine⟨q::b,u::B,by rw[jd1 h,L,jDi],by simp[J],jBj.mpr ⟨λz=>(A q z).elim s (λz=>h z),I⟩,λx g=>?_,?_,?_⟩
    ·rcases jAe.mp g with z |z
     ·exact .inl (by simp[z])
     ·exact(A x z).imp (λz=>jAb _ z) λz=>z
    ·rw[dput,if_neg y];show _::_=_;rw[G];rfl
    ·rw[dput,if_neg y];exact .cons E F
def Kl(ks fs:List D):D:=.exc "dict" ks fs
def ka7:D->Option (List D×List D)
 | .exc c b e=>if c = "dict" then some (b,e) else none
 |_=>none
theorem Zb{d:D}{p:List D×List D}(h:ka7 d=some p):d=Kl p.1 p.2:=by
 cases d with
 |exc c b f =>
  by_cases e:c = "dict"
  ·subst e;have h:(if("dict" : Str) = "dict" then some (b,f) else none)=some p:=h;rw[if_pos rfl]at h;cases h;rfl
  ·have h:(if c = "dict" then some (b,f) else none)=some p:=h;rw[if_neg e]at h;cases h
 |_=>cases h
theorem Za(ks fs:List D):ka7 (Kl ks fs)=some (ks,fs):=by show(if("dict" : Str) = "dict" then some (ks,fs) else none)=some (ks,fs);rw[if_pos rfl]
def gvD(i:Nat):Ev->R (List D×List D):=λb=>(gv i b).bind λd=>R.of (ka7 d)
def jh2(i:Nat)(fks:Ev->R (List D))(f0:Ev->R D):Ev->R D:=λb=>(gvD i b).bind λp=>(fks b).bind λl=>if l.length<=16777216 then(f0 b).bind λz=>R.of ((Ec l).map λk=>(Gj p.1 p.2 k).getD z) else .bad
def V8(i:Nat)(fks:Ev->R (List D))(c:Ev->R D):Ev->R Fl:=λb=>(c b).bind λv=>(gvD i b).bind λp=>(fks b).bind λl=>if l.length<=16777216/\p.1.length<16777216 then(R.of (Ec l)).bind λk=>.ok (.nx (b.set i (some (Kl (dput p.1 p.2 k v).1 (dput p.1 p.2 k v).2)))) else .bad
def itI(i:Nat):Ev->R (List D):=λb=>(gvD i b).bind λp=>.ok ((p.1.zip p.2).map λq=>.tup [q.1,q.2])
variable {i:Nat}{ρ:Ev}
theorem Rk{q:List D×List D->Prop}{e:D->Prop}(h:RQ (gvD i ρ) q e):∃p,ρ[i]? = some (some (Kl p.1 p.2))/\q p:=by refine Xe.Aq (λd b h=>?_) (jt0 (RQ.bind.mp h));refine Xe.Aq (λp c h=>?_) (h.of);rw[Zb c]at b;exact⟨p,b,h⟩
variable {c:DC}{f:Ev->R D}
variable {p y apos cpos B:Pos}{ks:List D}{x:Str}
section
variable {l:Lv}{e:Expr}{es:List Expr}{g f0:Ev->R D}{fks:Ev->R (List D)}
theorem R0{h:List Hd}{b:St}{fs:List D}(E:Bg K c h ρ b H)(hi:i∈c.O)(j:ρ[i]? = some (some (Kl ks fs))):
  ∃(a:Addr)(vs:List V)(kk:List (List Key))(o:Obj),b[i]? = some (some (.ref a))/\(c.H0 a=none/\a∉c.Z)/\ks=kk.map (λk=>D.tup (k.map kyD))/\kk.length=vs.length/\kk.Nodup/\H a=some (.frz o (.dT (kk.zip vs)))/\An K H (c.N ρ b) fs vs:=by
 refine Xe.G6 (λa L J I=>?_) (E.own i _ hi j);refine Xe.Aq (λvs G F=>?_) (I.dct);rcases G with ⟨_,kk,A,z,s,o,n⟩ | ⟨m,_⟩
 ·exact⟨a,vs,kk,o,L,J,A,z,s,n,F⟩
 ·exact absurd m (by decide)
theorem wm4(i:Nat)(m:X.N.Nodup)(hi:c.O.contains i=true:=by rfl)(z:X.N[i]? = some x:=by rfl)(n:Loc X.env.scope x:=by first |exact Or.inl rfl |exact Or.inr rfl)(b:swapsWith (.Dict [] [] p) (some (.Name x y)) pos.line X.env=pure false:=by rfl)
  (s:X.fn x=true\/X.env.scope.names.lookup x=some .local:=by first |exact .inl rfl |exact .inr rfl):PSd X c (.Assign [.Name x y] (.Dict [] [] p) pos) (asg i (kd (Kl [] []))):=PS.imp (jv7 (i:=i) m z n kw2 b s) λF A H q=>by
 revert q;refine Xe.Bt λb ρ E q=>?_;intro a h j;exact q _ _ (E.setW (by simpa using hi) (Ar h _) h (.inr ⟨[],"dict",[],[],rfl,.inl ⟨rfl,[],rfl,rfl,jEo,j,Ao⟩,An.nil⟩))
theorem yc0(hu:X.A.units+70<cLine)(i:Nat){x1}{f':Expr}(he:PAd X c .no es fks)(Y:PEd X c .no f' f0)(hi:c.O.contains i=true:=by rfl)(hN:X.N[i]? = some x:=by rfl)(hv:Vis X.env.scope x:=by first |exact Or.inl rfl |exact Or.inr (Or.inl rfl) |exact Or.inr (Or.inr rfl))(Z:(x == ("__debug__" : Str))=false:=by decide)
  (aa:(x == ("__classdict__" : Str))=false:=by decide)(m:M2 X (.Name x p) "get" apos (.Tuple es x1 B) f' cpos:=by exact⟨rfl,rfl,rfl,rfl⟩):PEd X c .no (.Call (.Attribute (.Name x p) "get" apos) [.Tuple es x1 B,f'] [] cpos) (jh2 i fks f0):=
 PE.imp (jm2 (by lia) (pv i hN hv Z aa) (jv2 he) Y m) λσ H Q q=>by
 revert q;refine Xe.Bt λhs ρ E q=>?_;have U:i∈c.O:=by simpa using hi
 refine Xe.Aq (λpr Z q=>?_) (Rk (RQ.bind.mp q));refine Xe.wc1 (λa vs kk o e1 e2 e3 e4 e5 e6 e7=>?_) (R0 E U Z);refine⟨.ref a,e1,a,rfl,.inr ⟨_,.inr ⟨o,e6⟩⟩,?_⟩;refine Dk E ((RQ.bind.mp q).mono (λds G xs H1 n E1 r1 hn=>?_) λ_ z=>z);by_cases M:ds.length<=16777216
 ·rw[if_pos M]at G;refine⟨Gz (by rw[<-r1.length];exact M),λt ht=>?_⟩;have b:=Ar ht (.tup xs);refine Be (E1.mono b) ((RQ.bind.mp G).mono (λdz q2 vz J j E2 r2=>?_) λe z=>Cz z (n.trans b));refine Xe.Aq (λd I h=>?_) (q2.of);cases T:Ec ds with
  |none=>rw[T]at I;cases I
  |some k =>
   rw[T]at I;cases I;have ev:=Jr (by rw[<-G9 T];exact r1);subst ev;have F:J a=some (.frz o (.dT (kk.zip vs))):=j _ _ (b _ _ (n _ _ e6));have s:J t=some (.tup (k.map kV)):=j _ _ Ao;dsimp only at h;rw[e3]at h;rcases Oo k e4 e7 with ⟨v1,L⟩ | ⟨v,f1,v1,L,v3⟩
   ·refine⟨none,.inr ⟨_,k,t,.inr ⟨o,F⟩,rfl,s,v1.symm⟩,?_⟩;rw[L]at h;exact h _ J ((n.trans b).trans j) (r2.mono (Ag.refl _) λ_ z=>z)
   ·refine⟨some v,.inr ⟨_,k,t,.inr ⟨o,F⟩,rfl,s,v1.symm⟩,?_⟩;rw[L]at h;exact h _ J ((n.trans b).trans j) (v3.mono ((n.trans b).trans j) λ_ z=>z)
 ·rw[if_neg M]at G;exact G.elim
theorem wz6(hu:X.A.units+70<cLine)(i:Nat){x1}{value:Expr}(hv:PEd X c .no value g)(he:PAd X c .no es fks)(hX:∀b,c.H0 b=none->X.H₀ b=none)(hi:c.O.contains i=true:=by rfl)(hN:X.N[i]? = some x:=by rfl)(h:Vis X.env.scope x:=by first |exact Or.inl rfl |exact Or.inr (Or.inl rfl) |exact Or.inr (Or.inr rfl))(G:(x == ("__debug__" : Str))=false:=by decide)
  (U:(x == ("__classdict__" : Str))=false:=by decide)(hs:swapsWith value (some (.Subscript (.Name x p) (.Tuple es x1 B) y)) pos.line X.env=pure false:=by rfl):PSd X c (.Assign [.Subscript (.Name x p) (.Tuple es x1 B) y] value pos) (V8 i fks g):=
 PS.imp (jm5 (by lia) (pv i hN h G U) (jv2 he) hv hs) λD0 Z H q=>by
 revert q;refine Xe.Bt λhs ρ E q=>?_;have m:i∈c.O:=by simpa using hi
 refine Be E ((RQ.bind.mp q).mono (λd L v H1 s1 Y r1=>?_) λx z=>Fb E z);refine Xe.Aq (λpr G L=>?_) (Rk (RQ.bind.mp L));refine Xe.wc1 (λa vs kk o e1 e2 e3 e4 e5 e6 e7=>?_) (R0 Y m G);refine⟨.ref a,e1,?_⟩;refine Dk Y ((RQ.bind.mp L).mono (λds F xs H2 I E2 r2 hn=>?_) λx z=>Fb Y z);by_cases T:ds.length<=16777216/\pr.1.length<16777216
 ·rw[if_pos T]at F;refine⟨Gz (by rw[<-r2.length];exact T.1),λt ht=>?_⟩;have s:=Ar ht (.tup xs);refine Xe.Aq (λk hk q3=>?_) ((RQ.bind.mp F).of);have ev:=Jr (by rw[<-G9 hk];exact r2);subst ev;have n:upd H2 t (.tup (k.map kV)) a=some (.frz o (.dT (kk.zip vs))):=s _ _ (I _ _ e6);have j:(kk.zip vs).length<sizeLine:=by
   have h1:pr.1.length=kk.length:=by rw[e3,jAd]
   rw[jDn,sizeLine_eq];lia
  refine⟨a,o,_,k,t,rfl,n,hX a e2.1,rfl,Ao,j,λM=>?_⟩;have E3:=E2.mono s;have J:Rep X.K (upd H2 t (.tup (k.map kV))) (c.N ρ Z) d v:=r1.mono (I.trans s) λ_ z=>z;refine Xe.wp6 (λQ aa p1 p2 p3 _ p5 p6=>?_) (Wa k J e4 e5 (e7.mono (I.trans s) λ_ z=>z));rw[p1];rw[<-e3]at p5 p6;exact q3 Z _ (E3.writeD (cc:="dict") m G e1 n rfl (.inl ⟨rfl,Q,p5,p2,p3,M,Ao⟩) p6)
 ·rw[if_neg T]at F;exact F.elim
theorem ki0{kk:List (List Key)}{vs:List V}{fs:List D}(hl:kk.length=vs.length):ItD K (Idi a o (kk.zip vs)) (((kk.map λk=>D.tup (k.map kyD)).zip fs).map λq=>.tup [q.1,q.2]) λH S=>(H a=some (.frz o (.dT (kk.zip vs)))/\S (some a))/\An K H S fs vs where
 stab:=⟨λs hS h=>⟨⟨s _ _ h.1.1,hS _ h.1.2⟩,h.2.mono s hS⟩,λhl hn h=>⟨⟨by rw[Aj (λz=>by rw[z,hl]at h;cases h.1.1)];exact h.1.1,h.1.2⟩,h.2.wr hl hn⟩,
  λhl ho hn h=>⟨⟨by rw[Aj (λz=>hn (by rw[<-z];exact h.1.2))];exact h.1.1,h.1.2⟩,h.2.wrD hl ho hn⟩,λhp h=>⟨⟨h.1.1,h.1.2,λz=>by cases z;rw[hp]at h;cases h.1.1⟩,h.2.avoid hp⟩⟩
 go:=λi H S hi h=>by have:=h.2.length;refine⟨h.1.1,?_⟩;rw[jAd,jDn,jAd]at hi;rw[jDn];lia
 yld:=λi H S x H' h y=>by
  revert y;refine Xe.yi1 λt b k v hz1 ht hz2 hk hb=>?_;obtain rfl:=hz1;obtain rfl:=hz2;have s1:=Ar ht (.tup [.ref b,v]);refine⟨s1,λd hd=>?_⟩;have⟨h1,h2⟩:=jEr.mp hk;rw[jBa]at hd;cases hz:((kk.map λk=>D.tup (k.map kyD)).zip fs)[i]? with
  |none=>rw[hz]at hd;cases hd
  |some q=>rw[hz]at hd;cases hd;have⟨h3,h4⟩:=jEr.mp hz;rw[jBa,h1]at h3;have e3:q.1=D.tup (k.map kyD):=(Option.some.inj h3).symm;refine Xe.Aq (λw hw rw'=>?_) (h.2.get h4);have ev:v=w:=Option.some.inj (h2.symm.trans hw);subst ev;show Rep K _ S (D.tup [q.1,q.2]) _;rw[e3];exact⟨t,_,rfl,TpR.of Ao,.cons ⟨b,_,rfl,TpR.of (s1 _ _ hb),R5 k⟩ (.cons (rw'.mono s1 λ_ z=>z) An.nil)⟩
 stop:=λi H S hi h=>by have:=h.2.length;refine⟨h.1.1,?_⟩;rw[jAd,jDn,jAd]at hi;rw[jDn];lia
theorem wr5(i:Nat){k:Nat}(hi:c.O.contains i=true:=by rfl)(hN:X.N[i]? = some x:=by rfl)(hv:Vis X.env.scope x:=by first |exact Or.inl rfl |exact Or.inr (Or.inl rfl) |exact Or.inr (Or.inr rfl))(hd:(x == ("__debug__" : Str))=false:=by decide)
  (aa:(x == ("__classdict__" : Str))=false:=by decide)(A:attributeBase (.Name x p) "items" X.env (eval (.Name x p) X.env)=eval (.Name x p) X.env:=by rfl)(n:(apos.endLine == cpos.line)=true:=by rfl):
  PId X c .any (.Tuple C k B) (.Call (.Attribute (.Name x p) "items" apos) [] [] cpos) (itI i):=by
 intro G s σ H R I h;obtain⟨hs,ρ,E,q⟩:=h;have Y:i∈c.O:=by simpa using hi
 have⟨pr,Z,q⟩:=Rk (RQ.bind.mp q);have⟨a,vs,kk,o,e1,e2,e3,e4,e5,e6,e7⟩:=R0 E Y Z;refine wpAny_Call_method0_late A n (thG (pv i hN hv hd aa G s σ H (λv H'=>v=.ref a/\H'=H) I ⟨_,e1,rfl,rfl⟩) λv j x' H1 M r1 m=>?_);obtain⟨ex,eH⟩:=m;subst ex;subst eH;obtain rfl:v=Value.ref a:=r1;have⟨Q,t2,J⟩:=jb7 M (.inr ⟨_,.inr ⟨o,e6⟩⟩);refine⟨"dict","dict.items",PySem.F.plainAttrs_dict,PySem.F.slot_dict_items,PySem.F.type_dict_items,Q,t2,Calls.callWith_builtin rfl (PySem.evalArgs_none ?_)⟩;refine call_meetsIn PySem.F.slot_dict_items Q PySem.F.entry_dict_items (PySem.F.args_dict_items_1 _) (jt6 a J) ⟨Q,?_⟩;have⟨T,z,y,xs,r,ob,es,ep,f1,f2,f3,f4,f5⟩:=M.hok a _ e6;have eo:o=ob:=Option.some.inj (T.symm.trans f1);subst eo;have U:a<j.heap.objs.size:=jAr T;refine jt5 (od:=o) (es:=es) (ep:=ep) ⟨_,jAp _ rfl,rfl,rfl⟩ (jAc _ T) f3 ?_;have hz:(j.heap.push {cls:=.type "dict_items",data:=.fields #[.ref a] }).objs.size=j.heap.objs.size+1:=jCc ..;refine⟨(j.heap.push {cls:=.type "dict_items",data:=.fields #[.ref a] }).objs.size,[(j.heap.push {cls:=.type "dict_items",data:=.fields #[.ref a] }).objs.size],_,_,H1,rfl,M.kept (t':=j.toks) λb w e=>jAc _ (jAc _ e),jx1 a _ o (kk.zip vs) (by rw[hz];exact jAv (jCt U)),⟨es,ep,.none,.none,f3,jAp _ rfl⟩,λb hb=>?_,?_⟩
 ·rw[jAh.mp hb];have L:j.heap.objs.size<=(j.heap.push {cls:=.type "dict_items",data:=.fields #[.ref a] }).objs.size:=by rw[hz];exact jFt _
  exact M.fpOk L (M.hok.fresh L)
 ·have q:=q;rw[e3]at q;exact q _ _ H1 (Ag.refl _) (ki0 (a:=a) (o:=o) (fs:=pr.2) e4) ⟨⟨e6,.inr ⟨a,rfl,e2.1,e2.2⟩⟩,e7.mono (Ag.refl _) λ_ z=>z.1⟩
end
theorem wq9{j:Str->Option Value}{base:Heap}{qual:Str}{st:Stmt}{f:Addr}{e:FuncData}{N ps:List Str}{k:Nat}(F:Fun K x qual st f e)(S:Am N ps (Ad st)):
  Bq P w K j base CX0 (k+1) f e ps (sp0 K ps.length λ_=>.bad):=F.ok S (λg H Q E h=>h.1) (λl A b s H g Q E m h=>by
 obtain⟨_,z,n,r,q⟩:=h;exact q.elim)
theorem ji0{fs:List D}(h:gv i ρ=.ok (Kl ks fs)):gvD i ρ=.ok (ks,fs):=by unfold gvD;rw[h,R.ok_bind,Za];rfl
variable {l:List D}{fks:Ev->R (List D)}
theorem wc3{fs:List D}{f0:Ev->R D}{z:D}(h:gv i ρ=.ok (Kl ks fs))(j:fks ρ=.ok l)(b:l.length<=16777216)(g:f0 ρ=.ok z)(e:Ec l=some k):
  jh2 i fks f0 ρ=.ok ((Gj ks fs k).getD z):=by
 unfold jh2;rw[ji0 h,R.ok_bind,j,R.ok_bind,if_pos b,g,R.ok_bind,e];rfl
theorem wc5{fs:List D}{e:Ev->R D}{v:D}(j:e ρ=.ok v)(h:gv i ρ=.ok (Kl ks fs))(n:fks ρ=.ok l)(g:l.length<=16777216)(b:ks.length<16777216)(m:Ec l=some k):
  V8 i fks e ρ=.ok (.nx (ρ.set i (some (Kl (dput ks fs k v).1 (dput ks fs k v).2)))):=by
 unfold V8;rw[j,R.ok_bind,ji0 h,R.ok_bind,n,R.ok_bind,if_pos ⟨g,b⟩,m];rfl
theorem ya8{fs:List D}(h:gv i ρ=.ok (Kl ks fs)):itI i ρ=.ok ((ks.zip fs).map λq=>.tup [q.1,q.2]):=by unfold itI;rw[ji0 h];rfl
section
variable {a:Expr}
theorem u1(h:PEd X c .fr a f):PEd X c .no a f:=h.up
theorem u2(h:PEd X c .fr a f):PEd X c .any a f:=h.up
theorem u3(h:PEd X c .no a f):PEd X c .any a f:=h.up
end
theorem ll0{b:Type}{P:List b->Prop}(h:P []):∀e:List b,e.length=0->P e
 | [],_=>h
theorem ll1{g:Type}{P:List g->Prop}(h:∀a,P [a])(b:List g)(e:b.length=1):P b:=by
 cases b with
 |nil=>cases e
 |cons a b=>exact ll0 (P:=λu=>P (a::u)) (h a) b (Nat.succ.inj e)
theorem ll2{j:Type}{P:List j->Prop}(h:∀a b,P [a,b])(g:List j)(e:g.length=2):P g:=by
 cases g with
 |nil=>cases e
 |cons a g=>exact ll1 (P:=λu=>P (a::u)) (h a) g (Nat.succ.inj e)
theorem ll3{j:Type}{P:List j->Prop}(h:∀a b c,P [a,b,c])(g:List j)(e:g.length=3):P g:=by
 cases g with
 |nil=>cases e
 |cons a g=>exact ll2 (P:=λu=>P (a::u)) (h a) g (Nat.succ.inj e)
theorem ll4{j:Type}{P:List j->Prop}(h:∀a b c d,P [a,b,c,d])(g:List j)(e:g.length=4):P g:=by
 cases g with
 |nil=>cases e
 |cons a g=>exact ll3 (P:=λu=>P (a::u)) (h a) g (Nat.succ.inj e)
def FI(K:Frag)(x:Str)(st:Stmt):Prop:=∃(f:Addr)(b:FuncData),W.nsIn K PySem.mainGlobals x=some (some (.ref f))/\Fun K x x st f b/\W.keepIn K (.ref f)=true
section
variable {P:Program}{w:World}{K:Frag}{h:Heap}{mg:Str->Option Value}{base:Heap}{x:Str}{st:Stmt}{k n:Nat}{ps:List Str}{m:List D->R D}
theorem Bw{f:Addr}{s:Value}{od an:Option Addr}{e:Array (Option Value)}{kV g j b ct:Value}(a:W.nsIn K PySem.mainGlobals x=some (some (.ref f)))(l:K.lookup f=some ⟨s,od,.func (W.fnOf x x (Gf st) (Dq st) (Ad st) .none kV g j an b ct),e⟩)
  (c:W.codeIn K b x=true)(k:W.keepIn K (.ref f)=true):FI K x st:=⟨f,_,a,kq7 l c k,k⟩
theorem Dc(P:Program)(w:World)(base:Heap)(X:K.In h)(G:h.Ns PySem.mainGlobals mg)(I:FI K x st)(g:∀a b,Fun K x x st a b->Bq P w K mg base CX0 k a b ps (sp0 K n m))
  (E:∀(kV j z:Value)(an:Option Addr)(s ct:Value)(e:List Value),e.length=ps.length->bindArgs (W.fnOf x x (Gf st) (Dq st) (Ad st) .none kV j z an s ct) ⟨e,[]⟩=pure (ps.zip e)):FnC P w K mg base k x ps n m:=by
 revert I;refine Xe.Bu λf b a F A=>?_;exact⟨f,b,g f b F,W.mg_of X G a,A,F.binds E⟩
theorem wq7(P:Program)(w:World)(base:Heap)(X:K.In h)(G:h.Ns PySem.mainGlobals mg)(I:FI K x st)(g:∀a b,Fun K x x st a b->mg x=some (.ref a)->W.keepIn K (.ref a)=true->Binds K b ps []->Bq P w K mg base CX0 k a b ps (sp0 K n m))
  (E:∀(kV j J:Value)(an:Option Addr)(s ct:Value)(e:List Value),e.length=ps.length->bindArgs (W.fnOf x x (Gf st) (Dq st) (Ad st) .none kV j J an s ct) ⟨e,[]⟩=pure (ps.zip e)):FnC P w K mg base k x ps n m:=by
 revert I;refine Xe.Bu λf b a F z=>?_;have A:=W.mg_of X G a;exact⟨f,b,g f b F A z (F.binds E),A,z,F.binds E⟩
end
end PD
namespace PySem
open Sem (wp)
variable {od:Obj}{ep i:Nat}{Q:Option Value->Shared->Prop}{it:Addr}
section
variable {P:Program}{w:World}{A:Around}{E:Value->Shared->Prop}{s:Shared}
theorem ki4{d:Addr}{es:Array DictEntry}{Q:Value->Shared->Prop}(b:s.TypeIs (.ref d) "dict")(e:(d == sysModules)=false)(c:s.heap.get? d=some od)(a:od.data=.dict es ep)
  (f:Q (.ref s.heap.objs.size) {s with heap:=s.heap.push {cls:=.type "dict_keyiterator",data:=.fields #[.ref d,.int 0 0,.int es.size 0,.int ep 0] } }):wpAny (model P w) A (pyIter (.ref d)) Q E s:=by
 refine wpAny_pyIter_slot b F.slot_dict_iter (wpAny_call_entry F.slot_dict_iter b F.entry_dict_iter ?_ (F.args_dict_iter_1 _));unfold Builtin.«dict.__iter__»;refine jZa ?_;unfold Builtin.Dict.dictSlotNone;refine jZa (wpAny_notOrdered_dict b ?_);show wpAny _ _ (pure (Value.ref d)) _ _ s;refine jZb ?_;show wpAny _ _ (Builtin.Dict.showsAll d >>= _) _ _ s;unfold Builtin.Dict.showsAll;rw[if_neg (by rw[e];exact jCd)];refine jZa (jZb (jZa (wpAny_dictEntries c a (jZa (wpAny_dictEpoch c a ?_)))));refine jZa (wpAny_newObj_type (jZb ⟨_,rfl,"dict_keyiterator",_,⟨_,jAp _ rfl,rfl⟩,F.slot_dict_keyiterator_next.lookup,?_⟩));simpa[rawInt] using f
theorem ki5{d:Addr}{es:Array DictEntry}{e:DictEntry}(g:s.heap.IsKeyIter it d i es.size ep)(f:s.heap.get? d=some od)(h:od.data=.dict es ep)(m:es[i]? = some e)
  (p:∀l,l.IsKeyIter it d (i+1) es.size ep->Heap.SameBut it s.heap l->Q (some e.key) {s with heap:=l}):wpAny (model P w) A (pyNext (.ref it)) Q E s:=by
 have⟨o,k,n,j⟩:=id g;have b:=g.typeIs;unfold pyNext;refine jZa (wpAny_attempt (wpAny_callSpecial?_slot (name:=Str.ofString "__next__") b F.slot_dict_keyiterator_next (wpAny_call_entry F.slot_dict_keyiterator_next b F.entry_dict_keyiterator_next ?_ (F.args_dict_keyiterator_next_1 _))));refine jZa (jZb ?_);refine jZa ?_;refine jZa ?_
 first | (refine jZa (wpAny_typeNameOfWhole_keyiter b (jZb ?_))) | (refine jZa (wpAny_typeNameOf_keyiter b (jZb ?_)))
 refine jZa (wpAny_fieldsOf k j ?_);have c:Builtin.Dict_items.ownsTuple "dict_keyiterator" = false:=(by decide);simp only[c,jBn,if_false];show wpAny _ _ (if(Value.ref d == Value.none)=true then _ else _) _ _ s;rw[if_neg (show ¬ ((Value.ref d == Value.none)=true) from jCd)];refine jZa (jZb ?_);refine jZa (wpAny_dictEntries f h ?_);rw[if_neg (by simp)];refine jZa (jZb ?_);refine jZa (wpAny_dictEpoch f h ?_);rw[if_neg (by simp)];refine jZb ?_;simp only[show ¬ ((i:Int)<0) from(by lia),if_false,jCa,m];refine jZa ?_
 first | (refine jZa (wpAny_typeNameOfWhole_keyiter b (jZb ?_))) | (refine jZa (wpAny_typeNameOf_keyiter b (jZb ?_)))
 refine jZa (wpAny_isOneOf_keyiter b ?_);show wpAny _ _ (setField (.ref it) 1 (rawInt ((i:Int)+1)) >>= _) _ _ s;refine jZa (wpAny_setField k j (by simp) ?_);have a:(s.heap.update it (Obj.mapFields (·.setIfInBounds 1 (rawInt ((i:Int)+1))))).IsKeyIter it d (i+1) es.size ep:=⟨_,jCj _ k (Obj.isFreed_of_fields (Obj.data_mapFields j _)),(Obj.cls_mapFields ..).trans n,by rw[Obj.data_mapFields j];simp[rawInt]⟩;refine jZa (wpAny_holding (jZa (wpAny_isOneOf_keyiter (s:={s with heap:=s.heap.update it (Obj.mapFields (·.setIfInBounds 1 (rawInt ((i:Int)+1))))}) a.typeIs ?_)));show wpAny _ _ (pure e.key) _ _ _;exact jZb (jZb ⟨_,rfl,jZb (p _ a (Heap.SameBut.update ..))⟩)
theorem ki3{d:Addr}{es:Array DictEntry}(p:A.handled=none)(g:s.heap.IsKeyIter it d i es.size ep)(f:s.heap.get? d=some od)(h:od.data=.dict es ep)(n:es[i]? = none)
  (q:∀l,jFs it s.heap l->Q none {s with heap:=l}):wpAny (model P w) A (pyNext (.ref it)) Q E s:=by
 have⟨o,j,r,k⟩:=id g;have c:=g.typeIs;unfold pyNext;refine jZa (wpAny_attempt (wpAny_callSpecial?_slot (name:=Str.ofString "__next__") c F.slot_dict_keyiterator_next (wpAny_call_entry F.slot_dict_keyiterator_next c F.entry_dict_keyiterator_next ?_ (F.args_dict_keyiterator_next_1 _))));refine jZa (jZb ?_);refine jZa ?_;refine jZa ?_
 first | (refine jZa (wpAny_typeNameOfWhole_keyiter c (jZb ?_))) | (refine jZa (wpAny_typeNameOf_keyiter c (jZb ?_)))
 refine jZa (wpAny_fieldsOf j k ?_);have e:Builtin.Dict_items.ownsTuple "dict_keyiterator" = false:=(by decide);simp only[e,jBn,if_false];show wpAny _ _ (if(Value.ref d == Value.none)=true then _ else _) _ _ s;rw[if_neg (show ¬ ((Value.ref d == Value.none)=true) from jCd)];refine jZa (jZb ?_);refine jZa (wpAny_dictEntries f h ?_);rw[if_neg (by simp)];refine jZa (jZb ?_);refine jZa (wpAny_dictEpoch f h ?_);rw[if_neg (by simp)];refine jZb ?_;simp only[show ¬ ((i:Int)<0) from(by lia),if_false,jCa,n];refine jZa ?_
 first | (refine jZa (wpAny_typeNameOfWhole_keyiter c (jZb ?_))) | (refine jZa (wpAny_typeNameOf_keyiter c (jZb ?_)))
 show wpAny _ _ (setField (.ref it) 0 .none >>= _) _ _ s;refine jZa (wpAny_setField j k (by simp) ?_);show wpAny _ _ (newExc (.type "StopIteration") [] >>= _) _ _ _;refine jZa ?_;simp only[newExc,newTuple];refine jZa (wpAny_newObj_type ?_ (by size_fits));refine jZa (m:=firstArgMember _ _) (wpAny_of_eq (a:=Value.none) (by first |rfl | (simp only[firstArgMember];rfl)) ?_);refine wpAny_newObj_type ?_ (by size_fits);simp only[raiseNew];refine jZa (wpAny_handled ?_);rw[show A.in1.handled=none from p];refine jZa (jZb (wpAny_throw ?_));refine jZa (wpAny_isInstance (T:="StopIteration") (b:=true) ⟨_,jAp _ rfl,rfl⟩ isSubtype_stop (jZb (q _ (((Heap.SameBut.update ..).extBut.push _).push _))))
end
end PySem
namespace PD
open PySem PySem.Spec PyProof.Rows L2
def Idk(a:Addr)(o:Obj)(c:List (List Key×V)):It:=
 ⟨λi H=>H a=some (.frz o (.dT c))/\i<c.length,λi H x e=>e=H/\∃b k v,x=.ref b/\c[i]? = some (k,v)/\H b=some (.tup (k.map kV)),λi H=>H a=some (.frz o (.dT c))/\c.length<=i⟩
variable {K:Frag}
theorem kl9{P:Program}{w:World}{tg:Expr}(a it:Addr)(o:Obj)(kvs:List (List Key×V)):
  Turn P w K tg (Idk a o kvs) [it] it (λi h=>∃es ep,o.data=.dict es ep/\h.IsKeyIter it a i es.size ep) where
 mem:=by simp
 obj:=λi h st b hb=>by obtain⟨es,ep,_,q,he,_,hd⟩:=st;rw[jAh.mp hb];exact⟨_,he,λv z=>by rw[hd]at z;cases z⟩
 keep:=λi h h' st kp=>by obtain⟨es,ep,hd,q,he,r⟩:=st;exact⟨es,ep,hd,q,kp it (by simp) _ he,r⟩
 item:=by
  intro X hP hw hK hc i pins s σ H E I hf st hg;subst hP hw hK;obtain⟨ha,hi⟩:=hg;obtain⟨es,ep,hd,he⟩:=st;have⟨ho,z,y,xs,r,ob,es',ep',e1,ex,e2,e3,nd⟩:=I.hok a _ ha;have eo:o=ob:=Option.some.inj (ho.symm.trans e1);subst eo;rw[hd]at e2;cases e2;have⟨q,hq,hq1,hq2,hq3⟩:=Qo r (jAa hi);have hes:es[i]? = some (entryOfKey (tupleKind (Dh X.prog X.w)) q):=by rw[entry_at e3,hq];rfl
  refine ki5 he ho hd hes λh1 he1 hs1=>⟨_,rfl,?_⟩;have I1:Inv X pins σ H {s with heap:=h1}:=Kr (t':=s.toks) I hf λb w hb e=>hs1.extBut b w (λz=>hb (by simp[z])) e;have⟨oi,hoi,hci,hdi⟩:=id he1;exact ka2 (s:={s with heap:=h1}) hoi hci hdi (by decide) ⟨.ref q.2.1,H,I1,rfl,⟨rfl,q.2.1,kvs[i].1,kvs[i].2,rfl,jAa hi,hq2⟩,⟨es,ep,hd,he1⟩,λb hb=>(hf b hb).1⟩
 done:=by
  intro X hP hw hK hc i pins s σ H E I hf st hg;subst hP hw hK;obtain⟨ha,hi⟩:=hg;obtain⟨es,ep,hd,he⟩:=st;have⟨ho,z,y,xs,r,ob,es',ep',e1,ex,e2,e3,nd⟩:=I.hok a _ ha;have eo:o=ob:=Option.some.inj (ho.symm.trans e1);subst eo;rw[hd]at e2;cases e2;have hl:xs.length=kvs.length:=(Paired.length r).symm;have hes:es[i]? = none:=by rw[entry_at e3,jCs (by lia)];rfl
  exact ki3 (by simpa using I.ok.hd hc) he ho hd hes λh' eb=>⟨rfl,Kr (t':=s.toks) I hf λb o hb q=>eb b o (λz=>hb (by simp[z])) q⟩
 self:=λA i s Q E st h=>by obtain⟨es,ep,hd,he⟩:=st;exact wpAny_pyIter_keyiter he h
theorem ks4{a:Addr}{o:Obj}{kk:List (List Key)}{vs:List V}(hl:kk.length=vs.length):ItD K (Idk a o (kk.zip vs)) (kk.map λk=>D.tup (k.map kyD)) λH S=>H a=some (.frz o (.dT (kk.zip vs)))/\S (some a) where
 stab:=⟨λs hS h=>⟨s _ _ h.1,hS _ h.2⟩,λhl hn h=>⟨by rw[Aj (λz=>by rw[z,hl]at h;cases h.1)];exact h.1,h.2⟩,
  λhl ho hn h=>⟨by rw[Aj (λz=>hn (by rw[<-z];exact h.2))];exact h.1,h.2⟩,λhp h=>⟨h.1,h.2,λz=>by cases z;rw[hp]at h;cases h.1⟩⟩
 go:=λi H S hi h=>by refine⟨h.1,?_⟩;rw[jAd]at hi;rw[jDn];lia
 yld:=λi H S x H' h y=>by obtain⟨rfl,b,k,v,rfl,hk,hb⟩:=y;refine⟨Ag.refl _,λd hd=>?_⟩;have⟨h1,h2⟩:=jEr.mp hk;rw[jBa,h1]at hd;cases hd;exact⟨b,_,rfl,TpR.of hb,R5 k⟩
 stop:=λi H S hi h=>by refine⟨h.1,?_⟩;rw[jAd]at hi;rw[jDn];lia
def itK(f:Ev->R D):Ev->R (List D):=λa=>(f a).bind λd=>(R.of (ka7 d)).bind λp=>.ok p.1
variable {k:List Key}
section
variable {X:Cx}{c:DC}{l:Lv}{e a b:Expr}{f f1 f2:Ev->R D}{pos p:Pos}{tg:Expr}
theorem yc5(U:PEd X c l e f):PId X c l tg e (itK f):=by
 intro m s M H R I h;obtain⟨hs,ρ,E,q⟩:=h;refine thn (U m s M H (λv i=>∃(a:Addr)(o:Obj)(kk:List (List Key))(vs:List V),v=.ref a/\kk.length=vs.length/\i a=some (.frz o (.dT (kk.zip vs)))/\R (Idk a o (kk.zip vs)) i) I ?_) λv j A=>?_
 ·refine Be E ((RQ.bind.mp q).mono (λd g v i j E1 x=>?_) λ_ z=>z);have⟨pr,T,g⟩:=(RQ.bind.mp g).of;rw[Zb T]at x;obtain⟨a,vs,rfl,O,rr⟩:=x;obtain⟨xd,B⟩:=O.dctT;rcases xd with ⟨_,kk,h1,J,h3,o,G⟩ | ⟨Y,_⟩
  ·refine⟨a,o,kk,vs,rfl,J,G,?_⟩;rw[h1]at g;exact g _ _ i j (ks4 J) ⟨G,B⟩
  ·exact absurd Y (by decide)
 ·revert A;refine Xe.Bu λx' i u x A=>?_;revert A;refine Xe.ya0 λa o kk vs ex hl F g=>?_;subst ex;obtain rfl:v=Value.ref a:=x;have⟨P,t2,n⟩:=jb7 u (.inr ⟨_,.inr ⟨o,F⟩⟩);have⟨C,z,y,B,r,Q,es,ep,g1,g2,L,g4,g5⟩:=u.hok a _ F;have eo:o=Q:=Option.some.inj (C.symm.trans g1);subst eo;refine ki4 P n C L ⟨j.heap.objs.size,[j.heap.objs.size],_,_,i,rfl,u.kept (t':=j.toks) λb w e=>jAc _ e,kl9 a _ o (kk.zip vs),⟨es,ep,L,⟨_,jAp _ rfl,rfl,rfl⟩⟩,λb Z=>?_,g⟩;rw[jAh.mp Z];exact u.fpOk (jAg _) (u.hok.fresh (jAg _))
def kyO:D->Option Key
 | .int i=>some (.inl i)
 | .str x=>some (.inr x)
 |_=>none
theorem wf7{d:D}{k:Key}(h:kyO d=some k):d=kyD k:=by
 cases d with
 |int i=>cases h;rfl
 |str x=>cases h;rfl
 |_=>cases h
theorem kt3(k:Key):kyO (kyD k)=some k:=by cases k<;>rfl
def Li:List D->List D->Key->Option D
 |kd::ks,f::fs,k=>if kyO kd=some k then some f else Li ks fs k
 |_,_,_=>none
def kf8:D->D->Option D
 | .exc c g h,k=>if c = "dict" then(Rg k).bind (Gj g h) else if c = "dictK" then(kyO k).bind (Li g h) else none
 |_,_=>none
theorem V7{K:Frag}{H:Hp}{S:AS}(k:Key):∀{kk:List Key}{fs:List D}{vs:List V},kk.length=vs.length->An K H S fs vs ->
  (S6 (kk.zip vs) k=none/\Li (kk.map kyD) fs k=none)\/∃v f,S6 (kk.zip vs) k=some v/\Li (kk.map kyD) fs k=some f/\Rep K H S f v
 | [],fs,vs,g,r=>by have:vs=[]:=jEi g.symm;subst this;exact .inl ⟨rfl,by simp[Li]⟩
 |q::kk,fs,[],g,r=>by simp at g
 |q::kk,fs,v::vs,g,r=>by
  have i:kk.length=vs.length:=by simpa using g
  cases fs with
  |nil=>cases(show v::vs=[] from r)
  |cons f fs =>
   revert r;refine Xe.Bu λo j e n m=>?_;cases e;rw[jDi,jAk];by_cases h:q=k
   ·exact .inr ⟨v,f,Oh h,by rw[Li,if_pos (by rw[kt3,h])],n⟩
   ·rw[Og h,Li,if_neg (by rw[kt3];intro z;exact h (Option.some.inj z))];exact V7 k i m
theorem ws2{X:Cx}{g:List (Addr×Obj)}{j:St}{H:Hp}{s:Shared}{b:Addr}(I:Inv X g j H s)(h:SqT X.K H b (k.map kV)):(tupleKind (Dh X.prog X.w)).is s.heap k b:=by have⟨i,m,⟨o,u,r,n,q⟩,_⟩:=I.tuple h;exact⟨o,i.toArray,n,u,r,q,by simpa using Tq m⟩
theorem dix(hu:X.A.units+70<cLine)(ha:PEd X c l a f1)(hb:PEd X c l b f2)(hs:wy1 b:=by exact λ_ _=>rfl):PEd X c l (.Subscript a b pos) (b2 f1 f2 kf8):=by
 intro i s σ H Q I h;refine wk3 PySem.F.slot_dict_getitem.lookup hs (thG (ha i s σ H _ I (jp4 h)) λu s1 x H1 I1 rx q1=>thG (hb i s1 σ H1 _ I1 q1) λiv s2 y r q ry n=>?_);obtain⟨S,dx,E,d,r1,r2,e,q2⟩:=n;cases dx with
 |exc cc w L =>
  obtain⟨a,vs,rfl,M,rr⟩:=r1;have xd:Q4 r cc w a vs:=by
   rcases M with M | ⟨C,W,ec,_⟩
   ·exact M.1
   ·have e0:(if cc = "dict" then(Rg E).bind (Gj w L) else if cc = "dictK" then(kyO E).bind (Li w L) else none)=some d:=e;rw[if_neg ec.nd.1,if_neg ec.nd.2]at e0;cases e0
  obtain rfl:u=Value.ref a:=rx;rcases xd with ⟨rfl,kk,Z,Y,h3,o,J⟩ | ⟨rfl,kk,Z,Y,h3,o,J⟩
  ·have B:(Rg E).bind (Gj w L)=some d:=e;clear e;have⟨k,G,e⟩:=jEw.mp B;clear B;cases E with
   |tup ds =>
    obtain⟨b',ws,rfl,hw,P⟩:=r2;have ev:=Jr (by rw[<-G9 G];exact P);subst ev;obtain rfl:iv=Value.ref b':=ry;have⟨t1,t2,aa⟩:=jb7 q (.inr ⟨_,.inr ⟨o,J⟩⟩);have⟨z,hd,ps,rel,dd⟩:=Y0 q.hok (.inr ⟨o,J⟩);rw[Z]at e;rcases Oo k Y rr with ⟨_,j⟩ | ⟨v,f1,v1,j,O⟩
    ·rw[j]at e;cases e
    ·rw[j]at e;cases e;have⟨w',T,m⟩:=S8.some_of (v:=v) (o:=(atKey ps k).map (·.2)) (by rw[<-v1];exact rel.val k);have⟨p,hp,U⟩:=jEz.mp T;refine⟨t1,wpAny_getItem_heap (tupleKind_room_in1 (by lia)) (ws2 q (TpR.sq hw)) dd hp ?_⟩;rw[U];exact⟨v,r,q.tok _,m,q2 v r (Ag.refl _) (O.mono (Ag.refl _) λ_ z=>.inl z)⟩
   |_=>cases G
  ·have B:(kyO E).bind (Li w L)=some d:=e;clear e;have⟨k,G,e⟩:=jEw.mp B;clear B;have ek:=wf7 G;subst ek;have ey:y=kV k:=by cases k<;>exact r2
   subst ey;rw[Z]at e;rcases V7 k Y rr with ⟨_,j⟩ | ⟨v,f1,v1,j,O⟩
   ·rw[j]at e;cases e
   ·rw[j]at e;cases e;have g:km1 r a (kV k) (some v):=.inl ⟨_,k,.inr ⟨o,J⟩,rfl,v1.symm⟩;exact⟨jh4 q g,kf6 (by lia) q g ry λw' s3 I3 m=>⟨v,r,I3,m,q2 v r (Ag.refl _) (O.mono (Ag.refl _) λ_ z=>.inl z)⟩⟩
 |_=>cases e
end
variable {ks:List D}
theorem wp8{fs ds:List D}(h:Ec ds=some k):kf8 (Kl ks fs) (.tup ds)=Gj ks fs k:=by show(Ec ds).bind (Gj ks fs)=_;rw[h];rfl
theorem ya9{f:Ev->R D}{ρ:Ev}{fs:List D}(h:f ρ=.ok (Kl ks fs)):itK f ρ=.ok ks:=by unfold itK;rw[h];simp only[R.ok_bind,Za];rfl
open PySem PySem.Spec PyProof.Rows L2
def jh3(i:Nat)(I f0:Ev->R D):Ev->R D:=λa=>(gvD i a).bind λp=>(I a).bind λy=>(f0 a).bind λz=>(R.of (Rg y)).bind λk=>.ok ((Gj p.1 p.2 k).getD z)
def V9(i:Nat)(I z:Ev->R D):Ev->R Fl:=λa=>(z a).bind λv=>(gvD i a).bind λp=>(I a).bind λkd=>if p.1.length<16777216 then(R.of (Rg kd)).bind λk=>.ok (.nx (a.set i (some (Kl (dput p.1 p.2 k v).1 (dput p.1 p.2 k v).2)))) else .bad
variable {X:Cx}{c:DC}{pos:Pos}
variable {k:List Key}{x:Str}{p:Pos}
section
variable {f e f0:Ev->R D}
theorem jh7{d:D}(h:Rg d=some k):∃a,d=.tup a/\Ec a=some k:=by
 cases d with
 |tup a=>exact⟨a,rfl,h⟩
 |_=>exact nos h
theorem yc1(hu:X.A.units+70<cLine)(i:Nat){apos g:Pos}{b I:Expr}(hb:PEd X c .no b f)(C:PEd X c .no I f0)(hi:c.O.contains i=true:=by rfl)(hN:X.N[i]? = some x:=by rfl)(hv:Vis X.env.scope x:=by first |exact Or.inl rfl |exact Or.inr (Or.inl rfl) |exact Or.inr (Or.inr rfl))(F:(x == ("__debug__" : Str))=false:=by decide)
  (G:(x == ("__classdict__" : Str))=false:=by decide)(m:M2 X (.Name x p) "get" apos b I g:=by exact⟨rfl,rfl,rfl,rfl⟩):PEd X c .no (.Call (.Attribute (.Name x p) "get" apos) [b,I] [] g) (jh3 i f f0):=
 PE.imp (jm2 (by lia) (pv i hN hv F G) hb C m) λσ H Q q=>by
 revert q;refine Xe.Bt λhs ρ E q=>?_;have B:i∈c.O:=by simpa using hi
 refine Xe.Aq (λpr F q=>?_) (Rk (RQ.bind.mp q));refine Xe.wc1 (λa L kk o e1 e2 e3 e4 e5 J e7=>?_) (R0 E B F);refine⟨.ref a,e1,a,rfl,.inr ⟨_,.inr ⟨o,J⟩⟩,?_⟩;refine Be E ((RQ.bind.mp q).mono (λdy Z y H1 j E1 U=>?_) λ_ z=>z);refine Be E1 ((RQ.bind.mp Z).mono (λdz Y vz s h E2 T=>?_) λe z=>Cz z j);refine Xe.Aq (λk w l=>?_) ((RQ.bind.mp Y).of);obtain⟨ds,rfl,w⟩:=jh7 w;revert U;refine Xe.Bu λt ws hz ht P=>?_;obtain rfl:=hz;have ev:=Jr (by rw[<-G9 w];exact P);subst ev;have r:s a=some (.frz o (.dT (kk.zip L))):=h _ _ (j _ _ J);have n:s t=some (.tup (k.map kV)):=h _ _ ht;rw[e3]at l;rcases Oo k e4 e7 with ⟨v1,u⟩ | ⟨v,f1,v1,u,M⟩
 ·refine⟨none,.inr ⟨_,k,t,.inr ⟨o,r⟩,rfl,n,v1.symm⟩,?_⟩;rw[u]at l;exact l _ s (j.trans h) (T.mono (Ag.refl _) λ_ z=>z)
 ·refine⟨some v,.inr ⟨_,k,t,.inr ⟨o,r⟩,rfl,n,v1.symm⟩,?_⟩;rw[u]at l;exact l _ s (j.trans h) (M.mono (j.trans h) λ_ z=>z)
theorem wp4(hu:X.A.units+70<cLine)(i:Nat){pos':Pos}{key value:Expr}(hv:PEd X c .no value e)(hk:PEd X c .no key f)(hX:∀b,c.H0 b=none->X.H₀ b=none)(hi:c.O.contains i=true:=by rfl)(hN:X.N[i]? = some x:=by rfl)(h:Vis X.env.scope x:=by first |exact Or.inl rfl |exact Or.inr (Or.inl rfl) |exact Or.inr (Or.inr rfl))(s:(x == ("__debug__" : Str))=false:=by decide)
  (G:(x == ("__classdict__" : Str))=false:=by decide)(T:swapsWith value (some (.Subscript (.Name x p) key pos')) pos.line X.env=pure false:=by rfl):PSd X c (.Assign [.Subscript (.Name x p) key pos'] value pos) (V9 i f e):=
 PS.imp (jm5 (by lia) (pv i hN h s G) hk hv T) λD0 J H q=>by
 revert q;refine Xe.Bt λT ρ E q=>?_;have l:i∈c.O:=by simpa using hi
 refine Be E ((RQ.bind.mp q).mono (λd B v H1 s1 I r1=>?_) λx z=>Fb E z);refine Xe.Aq (λM s B=>?_) (Rk (RQ.bind.mp B));refine Xe.wc1 (λa L kk o Y e2 U e4 e5 e6 e7=>?_) (R0 I l s);refine⟨.ref a,Y,?_⟩;refine Be I ((RQ.bind.mp B).mono (λkd n y Z u E2 r2=>?_) λx z=>Fb I z);by_cases r:M.1.length<16777216
 ·rw[if_pos r]at n;refine Xe.Aq (λk g q3=>?_) ((RQ.bind.mp n).of);obtain⟨ds,rfl,g⟩:=jh7 g;revert r2;refine Xe.Bu λt ws r ht rr=>?_;obtain rfl:=r;have ev:=Jr (by rw[<-G9 g];exact rr);subst ev;have m:Z a=some (.frz o (.dT (kk.zip L))):=u _ _ e6;have j:(kk.zip L).length<sizeLine:=by
   have h1:M.1.length=kk.length:=by rw[U,jAd]
   rw[jDn,sizeLine_eq];lia
  refine⟨a,o,_,k,t,rfl,m,hX a e2.1,rfl,ht,j,λC=>?_⟩;have w:Rep X.K Z (c.N ρ J) d v:=r1.mono u λ_ z=>z;refine Xe.wp6 (λF aa p1 p2 p3 _ Q P=>?_) (Wa k w e4 e5 (e7.mono u λ_ z=>z));rw[p1];rw[<-U]at Q P;exact q3 J _ (E2.writeD (cc:="dict") l s Y m rfl (.inl ⟨rfl,F,Q,p2,p3,C,Ao⟩) P)
 ·rw[if_neg r]at n;exact n.elim
end
variable {i:Nat}{ρ:Ev}{ks:List D}{I:Ev->R D}
theorem wc4{fs:List D}{f0:Ev->R D}{y z:D}(h:gv i ρ=.ok (Kl ks fs))(e:I ρ=.ok y)(b:f0 ρ=.ok z)(a:Rg y=some k):
  jh3 i I f0 ρ=.ok ((Gj ks fs k).getD z):=by
 unfold jh3;rw[ji0 h,R.ok_bind,e,R.ok_bind,b,R.ok_bind,a];rfl
variable {z:Ev->R D}
theorem kp6{fs:List D}{v kd:D}(b:z ρ=.ok v)(h:gv i ρ=.ok (Kl ks fs))(f:I ρ=.ok kd)(a:ks.length<16777216)(e:Rg kd=some k):
  V9 i I z ρ=.ok (.nx (ρ.set i (some (Kl (dput ks fs k v).1 (dput ks fs k v).2)))):=by
 unfold V9;rw[b,R.ok_bind,ji0 h,R.ok_bind,f,R.ok_bind,if_pos a,e];rfl
def kq4:D->Bool
 | .lst b=>Dw b
 | .exc c _ a=>decide (c = "dict") && Dw a
 |_=>false
def flS(d:D)(F S:AS):AS:=if kq4 d=true then F else S
def tG(K:Frag)(c:DC)(f:Ev->R D):TE:=λb H Q=>∃g ρ,Bg K c g ρ b H/\RQ (f ρ) (λd=>∀v a,Ag H a->Rep K a (flS d (fresh H) c.S) d v->Q v a) (λe=>∀v a,Ag H a->Rep K a (lvS c ρ b H .any) e v->c.Ex e v a)
abbrev PEg(X:Cx)(c:DC)(e:Expr)(f:Ev->R D):Prop:=PE X e (tG X.K c f)
def Fl.endG(K:Frag)(c:DC)(b:List Hd)(E:Ends):Fl->Prop
 | .rt d=>∀v a,Ag c.H0 a->Rep K a (flS d (fresh c.H0) c.S) d v->E.rt v a
 |o=>Fl.ends K c b E o
def ym3(K:Frag)(c:DC)(g:Ev->R Fl):TS:=λE b H=>∃a ρ,Bg K c a ρ b H/\RQ (g ρ) (Fl.endG K c a E) (ji1 K c)
abbrev ke2(X:Cx)(c:DC)(a:List Stmt)(g:Ev->R Fl):Prop:=PSs X a (ym3 X.K c g)
def spG(K:Frag)(n:Nat)(m:List D->R D):Sp:=λb H Q _=>b.length=n/\∃S e,An K H S e b/\RQ (m e) (λr=>∀v a,Ag H a->Rep K a (flS r (fresh H) (AS.plus S H)) r v->Q v a) (λ_=>False)
def FnG(P:Program)(w:World)(K:Frag)(a:Str->Option Value)(base:Heap)(k:Nat)(x:Str)(ps:List Str)(n:Nat)(m:List D->R D):Prop:=
 ∃(f:Addr)(b:FuncData),Bq P w K a base CX0 k f b ps (spG K n m)/\a x=some (.ref f)/\W.keepIn K (.ref f)=true/\Binds K b ps []
def ju5(g:Ev->R Fl):Prop:=∀ρ d,g ρ≠.ok (.rt d)
variable {f:Ev->R D}
theorem kv2:ju5 (asg i f):=λρ d h=>by unfold asg at h;cases e:f ρ<;>rw[e]at h<;>cases h
theorem kj8{fks:Ev->R (List D)}:ju5 (V8 i fks z):=λρ d h=>by
 unfold V8 at h;cases e:z ρ with
 |ok v =>
  rw[e,R.ok_bind]at h;cases g:gvD i ρ with
  |ok p =>
   rw[g,R.ok_bind]at h;cases b:fks ρ with
   |ok l =>
    rw[b,R.ok_bind]at h;split at h
    ·cases a:Ec l with
     |none=>rw[a]at h;cases h
     |some k=>rw[a]at h;cases h
    ·cases h
   |_=>rw[b]at h;cases h
  |_=>rw[g]at h;cases h
 |_=>rw[e]at h;cases h
theorem T3{g:D->Ev->R Ev}{b:Ev->R Fl}(l:ju5 b):∀(ds:List D)(ρ:Ev)(d:D),Kc ds g b ρ≠.ok (.rt d)
 | [],ρ,d,h=>by cases h
 |x::ds,ρ,d,h=>by
  rw[Kc]at h;cases e:g x ρ with
  |ok j =>
   rw[e,R.ok_bind]at h;cases m:b j with
   |ok n =>
    rw[m,R.ok_bind]at h;cases n with
    |nx a=>exact T3 l ds a d h
    |ct a=>exact T3 l ds a d h
    |bk a=>cases h
    |rt z=>exact l _ _ m
   |_=>rw[m]at h;cases h
  |_=>rw[e]at h;cases h
theorem jl1{f:Ev->R (List D)}{g:D->Ev->R Ev}{b:Ev->R Fl}(a:ju5 b):ju5 (Tg f g b):=λρ d h=>by
 unfold Tg at h;cases e:f ρ with
 |ok j=>rw[e,R.ok_bind]at h;exact T3 a j ρ d h
 |_=>rw[e]at h;cases h
variable {e:Expr}
section
variable {st:Stmt}{a:List Stmt}{f:Ev->R D}{b g:Ev->R Fl}
theorem scG(o:PSd X c st b)(n:ke2 X c a g)(hn:ju5 b:=by first |exact kv2 |exact jl1 kj8 |exact jl1 noRt_ext):ke2 X c (st::a) (sq b g):=PSs.imp (jm6 o n) λD u H q=>by
 revert q;refine Xe.Bt λl ρ E q=>?_;refine⟨l,ρ,E,?_⟩;have q:=RQ.bind.mp q;cases j:b ρ with
 |ok r =>
  rw[j]at q;cases r with
  |nx h=>exact λm v s=>⟨l,h,s,q⟩
  |rt d=>exact absurd j (hn ρ d)
  |bk h=>exact q
  |ct h=>exact q
 |exc x=>rw[j]at q;exact q
 |bad=>rw[j]at q;exact q.elim
theorem rG(r:PEg X c e f):ke2 X c [.Return (some e) pos] (Bx f):=PSs.imp (jc9 (jv6 r)) λD u H q=>by
 revert q;refine Xe.Bt λn ρ E q=>?_;refine⟨n,ρ,E,(RQ.bind.mp q).mono (λd m v s j l=>?_) λx z=>Fb E z⟩;refine m v s (E.same.trans j) (l.mono (Ag.refl _) λo z=>?_);unfold flS at z ⊢;split
 ·rename_i h;rw[if_pos h]at z;obtain⟨a,e,z⟩:=z;exact⟨a,e,E.same.free z⟩
 ·rename_i h;rw[if_neg h]at z;exact z
theorem rGl(w:PEf X c .any e f)(hl:∀ρ d,f ρ=.ok d->∃h,d=.lst h):ke2 X c [.Return (some e) pos] (Bx f):=PSs.imp (jc9 (jv6 w)) λD B H q=>by
 revert q;refine Xe.Bt λv ρ E q=>?_;refine⟨v,ρ,E,(RQ.bind.mp q).mono (λd u a j h A y s n m r=>?_) λx z=>Fb E z⟩;subst y;have fr:fresh c.H0 (some a):=⟨a,rfl,E.same.free n⟩;refine u _ A (E.same.trans s) ?_;by_cases l:Dw h=true
 ·rw[show flS (.lst h) (fresh c.H0) c.S=fresh c.H0 from if_pos l];exact⟨a,j,rfl,.inl ⟨m,fr⟩,Nv h j l r⟩
 ·rw[show flS (.lst h) (fresh c.H0) c.S=c.S from if_neg l];exact⟨a,j,rfl,.inl ⟨m,(E.freshN ⟨a,rfl,n⟩).1⟩,r.mono (Ag.refl _) λo z=>z.1⟩
def flt(f:Ev->R D):Ev->R D:=λρ=>(f ρ).bind λd=>if kq4 d=true then .ok d else .bad
theorem PEg.fr(h:PEg X c e f):PEd X c .fr e (flt f):=PE.imp h λs H Q q=>by
 revert q;refine Xe.Bt λo ρ E q=>?_;refine⟨o,ρ,E,(RQ.bind.mp q).mono (λd j v r n m=>?_) λx z=>z⟩;by_cases l:kq4 d=true
 ·rw[if_pos l]at j;rw[show flS d (fresh H) c.S=fresh H from if_pos l]at m;exact j v r n m
 ·rw[if_neg l]at j;exact j.elim
theorem kp8{es:List D}(h:f ρ=.ok (.lst es))(j:Dw es=true):flt f ρ=.ok (.lst es):=by unfold flt;rw[h,R.ok_bind];exact if_pos j
end
variable {st:Stmt}
section
variable {P:Program}{w:World}{K:Frag}{mg:Str->Option Value}{base:Heap}
theorem wr0{qual:Str}{f:Addr}{C:FuncData}{N ps:List Str}{k:Nat}{O:List Nat}{g:Ev->R Fl}(F:Fun K x qual st f C)(S:Am N ps (Ad st))(T:O.all (λi=>decide (ps.length<=i))=true)
  (m:∀(j:Value)(A:Around)(b:List Env)(s:Shared)(H:Hp)(E:XK)(u:AS),Gq k (A.deeper (envOfC qual (Ad st) s.heap.objs.size f j))->(A.deeper (envOfC qual (Ad st) s.heap.objs.size f j)).units+70<cLine ->
   ke2 (V3 CX0 P w K mg base N qual (Ad st) f j A b s H E).nox ⟨H,u,O,Gn,[]⟩ (Dq st) g):
  Bq P w K mg base CX0 (k+1) f C ps (spG K ps.length (Cy N.length g)):=by
 refine F.ok S (λJ H Q E h=>h.1) (λj A b s H J Q E B h=>?_);obtain⟨L,u,n,r,q⟩:=h;refine⟨_,m j A b s H E u B (by have:=B.un;lia),[],Af N.length n,Ot r (λi M=>?_),?_⟩
 ·have:=jAw.mp T i M;rw[L];exact of_decide_eq_true this
 ·have l:RQ (jr9 (g (Af N.length n))) _ _:=q;cases e:g (Af N.length n) with
  |ok U =>
   rw[e]at l;cases U with
   |nx ρ=>exact λG y E'=>l .non y E'.same rfl
   |rt d =>
    refine λv y s r=>l v y s (r.mono (Ag.refl _) λo z=>?_);unfold flS at z ⊢;split
    ·rename_i h;rw[if_pos h]at z;exact z
    ·rename_i h;rw[if_neg h]at z;exact z.elim .inl λ⟨a,Z,Y,_⟩=>.inr ⟨a,Z,Y⟩
   |bk ρ=>exact l.elim
   |ct ρ=>exact l.elim
  |exc x=>rw[e]at l;exact l.elim
  |bad=>rw[e]at l;exact l.elim
theorem wq6(P:Program)(w:World)(base:Heap){h:Heap}{k n:Nat}{ps:List Str}{m:List D->R D}(X:K.In h)(G:h.Ns PySem.mainGlobals mg)(I:FI K x st)(j:∀a b,Fun K x x st a b->Bq P w K mg base CX0 k a b ps (spG K n m))
  (s:∀(kV l q:Value)(an:Option Addr)(o ct:Value)(g:List Value),g.length=ps.length->bindArgs (W.fnOf x x (Gf st) (Dq st) (Ad st) .none kV l q an o ct) ⟨g,[]⟩=pure (ps.zip g)):FnG P w K mg base k x ps n m:=by
 revert I;refine Xe.Bu λf b a F r=>?_;exact⟨f,b,j f b F,W.mg_of X G a,r,F.binds s⟩
end
section
variable {l:Lv}{es:List Expr}{fs:Ev->R (List D)}{p:Pos}{x:Str}{k n:Nat}{ps:List Str}{m:List D->R D}
theorem wz1(F:FnG X.prog X.w X.K X.mg X.base k x ps n m)(J:Gq k X.A)(Z:PAd X c l (e::es) fs)(hn:(e::es).length=n:=by rfl)(L:ps.length=n:=by rfl)(T:Gl X x:=by rfl)
  (s:(x == ("__debug__" : Str))=false:=by decide)(U:starEach (e::es) X.env=(false,eval e X.env)::starEach es X.env:=by rfl)(r:(backTo pos (starEach es X.env)).any (·.1)=false:=by rfl):
  PEg X c (.Call (.Name x p) (e::es) [] pos) (cl fs m):=by
 revert F;refine Xe.X7 λf fd F M P Y=>?_;refine PE.imp (Vo F J T M P Y .nil kb8 Z s U r) λB H Q q=>?_;revert q;refine Xe.Bt λhs ρ E q=>?_;refine Dk E ((RQ.bind.mp q).mono (λy b vs H1 j E1 u O=>?_) λ_ z=>z);rw[jDa];cases g:m y with
 |ok d =>
  rw[g]at b;refine⟨?_,lvS c ρ B H l,y,u,?_⟩
  ·rw[<-u.length,O,hn]
  ·rw[g];refine λv H' C G=>b v H' (j.trans C) (G.mono (Ag.refl _) λo z=>?_);unfold flS at z ⊢;split
   ·rename_i h;rw[if_pos h]at z;obtain⟨a,e,z⟩:=z;exact⟨a,e,j.free z⟩
   ·rename_i h;rw[if_neg h]at z;exact Ls E (l':=.any) (by cases l<;>rfl) (Lw E j z)
 |exc x=>rw[g]at b;exact b.elim
 |bad=>rw[g]at b;exact b.elim
end
open PySem PySem.Spec PyProof.Rows L2
open PySem PySem.Spec PyProof.Rows L2 PySem.W
theorem jt1{K:Frag}{H:Hp}{S:AS}:∀{ds:List D}{xs:List V}{ns:List Int},An K H S ds xs->Ay ds=some ns->xs=ns.map V.int
 | [],xs,ns,b,h=>by cases h;cases(show xs=[] from b);rfl
 |d::ds,xs,ns,b,h=>by
  obtain⟨v,r,rfl,j,g⟩:=b;cases d with
  |int a=>have n:(Ay ds).map (a::·)=some ns:=h;have⟨o,m,l⟩:=jEz.mp n;subst l;cases(show v=.int a from j);rw[jt1 g m];rfl
  |_=>cases h
def yk3(k:Int):Value->Bool
 | .int a _=>a == k
 |_=>false
theorem ke1:∀{ns:List Int}{its:List Value},Vals (ns.map V.int) its->∀(m:Nat)(b:m<its.length),∃t,its[m]=Value.int (ns.getD m 0) t
 | [],its,h,m,b=>by cases h;cases b
 |a::ns,its,h,m,b=>by
  cases h with
  |cons r t =>
   cases m with
   |zero=>exact r
   |succ m=>exact ke1 t m (by simpa using b)
open PySem PySem.Spec PyProof.Rows L2
open PySem PySem.Spec PyProof.Rows L2 PySem.W
def Wn(f1 f2:Ev->R D):Ev->R D:=λρ=>(f1 ρ).bind λx=>match x with
 | .lst a=>(f2 ρ).bind λy=>match y with
  | .int k=>R.of ((Ay a).bind λbs=>if k∈bs then some (.int (bs.idxOf k:Nat)) else none)
  |_=>.bad
 |_=>.bad
variable {f1 f2:Ev->R D}
theorem kr7:∀ρ d,Wn f1 f2 ρ=.ok d->d.imm=true:=λρ d h=>by
 refine Xe.Aq (λx n h=>?_) (Cu h);cases x with
 |lst g =>
  refine Xe.Aq (λy m h=>?_) (Cu (show(f2 ρ).bind (λy=>match y with | .int k=>R.of ((Ay g).bind λbs=>if k∈bs then some (D.int (bs.idxOf k:Nat)) else none) |_=>.bad)=_ from h));cases y with
  |int k =>
   have b:R.of ((Ay g).bind λbs=>if k∈bs then some (D.int (bs.idxOf k:Nat)) else none)=.ok d:=h;cases l:Ay g with
   |none=>rw[l]at b;cases b
   |some z =>
    rw[l]at b;have a:R.of (if k∈z then some (D.int (z.idxOf k:Nat)) else none)=.ok d:=b;by_cases j:k∈z
    ·rw[if_pos j]at a;cases a;rfl
    ·rw[if_neg j]at a;cases a
  |_=>cases h
 |_=>cases h
theorem wq0{ρ:Ev}{ns:List Int}{k:Int}(g:f1 ρ=.ok (.lst (ns.map .int)))(b:f2 ρ=.ok (.int k))(a:k∈ns):Wn f1 f2 ρ=.ok (.int (ns.idxOf k:Nat)):=by unfold Wn;rw[g,R.ok_bind];show(f2 ρ).bind _=_;rw[b,R.ok_bind];show R.of ((Ay (ns.map .int)).bind _)=_;rw[Tj];show R.of (if k∈ns then _ else _)=_;rw[if_pos a];rfl
def yf1(K:Frag):V->List V->Hp->VK->Prop:=λx g H Q=>∃S b k a,Rep K H S (.lst b) x/\g=[.int k]/\Ay b=some a/\k∈a/\Q (.int (a.idxOf k:Nat)) H
variable {X:Cx}{c:DC}{e:Expr}{l:Lv}
section
variable {o:Expr}{f1 f2:Ev->R D}
theorem wg6:MtR X "list.index" (yf1 X.K):=by
 intro J s σ H x vs v us Q I U Y h;obtain⟨S,ds,k,b,hx,rfl,hi,hb,q⟩:=h;obtain⟨a,xs,rfl,hl,hr⟩:=hx;cases U;obtain⟨u,rfl,Z⟩:=Y.one;obtain⟨t,rfl⟩:=(show ∃t,u=Value.int k t from Z);have⟨g,A,pl,hz⟩:=I.list hl.sq;have ex:=jt1 hr hi;subst ex;have at_:=ke1 A;have E:b.idxOf k<b.length:=jCh hb;have M:g.length=b.length:=by have:=A.length;simpa using this.symm
 obtain⟨⟨cls,dd,data,T⟩,L,P,n,O⟩:=pl.isList;simp only at P O;subst P O;have j:((b.idxOf k:Nat):Int)<2 ^ 63 - 1:=by
  have h1:g.length<=sizeLine:=by rw[<-A.length];exact hz
  rw[sizeLine_eq]at h1;lia
 refine call_meets PySem.F.slot_list_index ⟨_,L,rfl⟩ PySem.F.entry_list_index (PySem.F.args_list_index_2 _ _) (SeqAt.list_indexAt a g.toArray n dd T (.int k t) (yk3 k) (b.idxOf k) (by rw[jAo];lia) j ?_ ?_) ⟨L,λy hy=>?_,?_⟩
 ·have⟨G,r⟩:=at_ (b.idxOf k) (by lia);rw[jGs,r];show(b.getD (b.idxOf k) 0 == k)=true;rw[jAi,jAa E,jBs,jDt];simp
 ·intro m w C;rw[jAo]at w;have⟨G,r⟩:=at_ m w;rw[jGs,r];show(b.getD m 0 == k)=false;rw[jAi,jAa (by lia),jBs];have:=List.not_of_lt_findIdx (xs:=b) (p:=(· == k)) C;simpa using this
 ·have B:y∈g:=by simpa using hy
  obtain⟨m,w,rfl⟩:=jBz.mp B;have⟨G,r⟩:=at_ m w;rw[r];exact(MeetsSeq.EqGives.int _ _ _ _).at _ _
 ·exact⟨.int (b.idxOf k:Nat),H,I.tok _,(show ∃t,Value.int (b.idxOf k:Nat) s.toks=Value.int (b.idxOf k:Nat) t from⟨_,rfl⟩),q⟩
theorem yc4{apos b:Pos}(T:PEd X c l o f1)(Y:PEd X c l e f2)(n:attributeBase o "index" X.env (eval o X.env)=eval o X.env:=by rfl)
  (s:((backTo b (starEach [e] X.env)).all (λx=>!x.1) && (backToKw b (keywordEach [] X.env)).all (λx=>x.1.isSome)
   && decide ([e].length+([]:List Keyword).length+(if([]:List Keyword).isEmpty then 0 else 1)<30))=true:=by rfl)
  (m:(apos.endLine == b.line)=true:=by rfl)(u:starEach [e] X.env=(false,eval e X.env)::starEach [] X.env:=by rfl)(g:(backTo b (starEach [] X.env)).any (·.1)=false:=by rfl):
  PEd X c l (.Call (.Attribute o "index" apos) [e] [] b) (Wn f1 f2):=
 PE.imp (kb9 PySem.F.plainAttrs_list PySem.F.slot_list_index PySem.F.type_list_index wg6 T (ac Y an u) n s m u g) λσ H Q h=>by
 revert h;refine Xe.Bt λu ρ E q=>?_;refine Be E ((RQ.bind.mp q).mono (λdx J x H1 B E1 C=>?_) λ_ z=>z);cases dx with
 |lst L =>
  refine Xe.Bu (λa M r U hr=>?_) (id C);obtain rfl:=r;refine⟨.inl ⟨rfl,M,U.sq⟩,?_⟩;refine wk5 E1 ((RQ.bind.mp J).mono (λZ G y H2 A E2 O=>?_) λe z=>Cz z B);cases Z with
  |int k =>
   refine Xe.Aq (λd e P=>?_) ((show RQ (R.of ((Ay L).bind λbs=>if k∈bs then some (D.int (bs.idxOf k:Nat)) else none)) _ _ from G).of);refine Xe.Aq (λbs w j=>?_) (jEw.mp e);by_cases v:k∈bs
   ·rw[if_pos v]at j;cases j;cases(show y=.int k from O);exact⟨_,L,k,bs,C.mono A (λ_ z=>z),rfl,w,v,P _ _ (B.trans A) rfl⟩
   ·rw[if_neg v]at j;cases j
  |_=>exact(G:False).elim
 |_=>exact(J:False).elim
end
def jb4:Bool->Keyed->Array Keyed->Nat->Nat->Nat->StateT SortSt Sem (Option Nat):=sortPriv% PySem.Builtin.gallop
def ku3:Array Keyed->Array Keyed->StateT SortSt Sem (Array Keyed):=sortPriv% PySem.Builtin.mergeLo
def ku2:Array Keyed->Array Keyed->StateT SortSt Sem (Array Keyed):=sortPriv% PySem.Builtin.mergeHi
variable {A:Around}{it:Array Keyed}{O:KeyOrd}{prog:Program}{s:Shared}{κ:SortKind}{E:Value->Shared->Prop}{w:World}
variable {b i j J lo hi hint:Nat}{left:Bool}
section
variable {key:Nat->O.α}
def Tr(prog:Program)(w:World)(A:Around)(E:Value->Shared->Prop)(s:Shared){h:Type}(m:StateT SortSt Sem h)(st:SortSt)(R:h->SortSt->Prop):Prop:=
 ∀(tk:Nat)(Q:h->SortSt->Shared->Prop),(∀a g n,R a g->Q a g {s with toks:=n})->kasC (model prog w) A E m Q st {s with toks:=tk}
theorem Ab{g:Type}{a:g}{st:SortSt}{R:g->SortSt->Prop}(h:R a st):Tr prog w A E s (pure a) st R:=λm Q q=>kasC_pure (q a st m h)
theorem Aw{n u:Type}{m:StateT SortSt Sem n}{f:n->StateT SortSt Sem u}{st:SortSt}{R:n->SortSt->Prop}{v:u->SortSt->Prop}(h:Tr prog w A E s m st R)(B:∀a g,R a g->Tr prog w A E s (f a) g v):Tr prog w A E s (m >>= f) st v:=
 λy Q q=>kasC_bind (h y _ λa g o r=>B a g r o Q q)
theorem Ld{o:Type}{m:StateT SortSt Sem o}{st:SortSt}{R u:o->SortSt->Prop}(h:Tr prog w A E s m st R)(y:∀a g,R a g->u a g):Tr prog w A E s m st u:=λv Q q=>h v Q λa g n r=>q a g n (y a g r)
theorem Jj{a:Type}{f:SortSt->StateT SortSt Sem a}{st:SortSt}{R:a->SortSt->Prop}(h:Tr prog w A E s (f st) st R):Tr prog w A E s (get >>= f) st R:=λg Q q=>kasC_bind (kasC_get (h g Q q))
theorem Kg{a:Type}{g:SortSt->SortSt}{f:PUnit->StateT SortSt Sem a}{st:SortSt}{R:a->SortSt->Prop}(h:Tr prog w A E s (f ⟨⟩) (g st) R):Tr prog w A E s (modify g >>= f) st R:=λm Q q=>kasC_bind (kasC_modify (h m Q q))
theorem Lf{a:Type}{x:String}{f:PUnit->StateT SortSt Sem a}{st:SortSt}{R:a->SortSt->Prop}(h:Tr prog w A E s (f ⟨⟩) st R):Tr prog w A E s (liftM (rule x) >>= f) st R:=λg Q q=>kasC_bind (kasC_lift (wpAny_rule (h g Q q)))
theorem Ey{u:Type}{a:Nat}{f:Nat->u->StateT SortSt Sem (ForInStep u)}(I:Nat->u->SortSt->Prop){Q:u->SortSt->Prop}
  (m:∀i c st,a<=i->i<b->I i c st->Tr prog w A E s (f i c) st (λr g=>match r with | .done o=>Q o g | .yield o=>I (i+1) o g))
  (B:∀c st,I (max a b) c st->Q c st){c:u}{st:SortSt}(h:I a c st):Tr prog w A E s (forIn [a:b] c f) st Q:=by
 have L:∀(n i:Nat)(c:u)(st:SortSt),a<=i->i+n=max a b->I i c st->Tr prog w A E s (forIn (List.range' i n) c f) st Q:=by
  intro n;induction n with
  |zero=>intro i c st _ hi h y C q;exact kasC_nil (q c st y (B c st (by rw[<-hi];exact h)))
  |succ n G =>
   intro i c st H hi h y C q;rw[jHl];refine kasC_cons (m i c st H (by lia) h y _ λr g v F=>?_);cases r with
   |done o=>exact q o g v F
   |yield o=>exact G (i+1) o g (by lia) (by lia) F v C q
 intro y C q;exact kasC_range (L (b - a) a c st (jAg _) (by lia) h y C q)
def Al(it:Array Keyed)(l:List Nat):Array Keyed:=(l.map (kas_item it)).toArray
theorem km9(l:List Nat)(i:Nat):(Al it l)[i]? = (l[i]?).map (kas_item it):=by unfold Al;simp
theorem Bp(l:List Nat):(Al it l).size=l.length:=by unfold Al;simp
theorem Bf{a:Type}{l:List Nat}{k:Nat}{f:Keyed->StateT SortSt Sem a}{st:SortSt}{R:a->SortSt->Prop}(h:l[i]? = some k)(m:Tr prog w A E s (f (kas_item it k)) st R):Tr prog w A E s (elem' (Al it l) i >>= f) st R:=by rw[elem'_eq,km9,h];exact λg Q q=>kasC_bind (kasC_pure (m g Q q))
def Ans(prog:Program)(w:World)(A:Around)(s:Shared)(κ:SortKind)(it:Array Keyed)(key:Nat->O.α)(n:Nat):Prop:=
 ∀(i j:Nat)(C:Bool->Shared->Prop)(tk:Nat),i<n->j<n->(∀a,C (ltO key i j) {s with toks:=a})->kas_cmp prog w A κ it i j C {s with toks:=tk}
theorem jf1{g:Type}{n:Nat}{f:Option Bool->StateT SortSt Sem g}{st:SortSt}{R:g->SortSt->Prop}(an:Ans prog w A s κ it key n)(hi:i<n)(r:j<n)(o:kindOf st=κ)(y:Tr prog w A E s (f (some (ltO key i j))) st R):
  Tr prog w A E s (lt' (kas_item it i) (kas_item it j) >>= f) st R:=λh Q q=>by
 rw[lt'_eq];refine kasC_bind (kasC_bind (kasC_get ?_));refine kasC_bind (kasC_lift (wpAny_attempt (wpAny_mono (show wpAny (model prog w) A (keyLt' (kindOf st) (kas_item it i).1 (kas_item it j).1) (λc m=>kasC (model prog w) A E (f (some c)) Q st m) (λ_ _=>False) {s with toks:=h} from ?_) (λc m u=>?_) λ_ _ v=>v.elim)))
 ·rw[o];exact an i j _ h hi r λa=>y a Q q
 ·exact kasC_pure u
def bz(key:Nat->O.α)(left:Bool)(k x:Nat):Bool:=if left=true then ltO key x k else !ltO key k x
theorem wn7{k:Nat}{l:List Nat}{st:SortSt}{b:Bool}(an:Ans prog w A s κ it key J)(n:k<J)(g:kindOf st=κ){x:Nat}(o:l[i]? = some x)(m:x<J)(q:b=bz key left k x):
  Tr prog w A E s (elem' (Al it l) i >>= λy=>if left=true then lt' y (kas_item it k) else(lt' (kas_item it k) y >>= λr=>pure (r.map λz=>!z))) st (λr a=>a=st/\r=some b):=by
 refine Bf o ?_;subst q;unfold bz;cases left with
 |true=>rw[if_pos rfl,if_pos rfl];have h:=jf1 (prog:=prog) (E:=E) (f:=λr=>pure r) (R:=λr a=>a=st/\r=some (ltO key x k)) an m n g (Ab ⟨rfl,rfl⟩);rwa [bind_pure]at h
 |false=>rw[if_neg (by decide),if_neg (by decide)];exact jf1 an n m g (Ab ⟨rfl,rfl⟩)
abbrev GS:=Option (Option Nat)×Nat×Nat
def Cut(b:Nat->Bool)(n lo hi:Nat):Prop:=(∀i,i<lo->b i=true)/\∀i,hi<=i->i<n->b i=false
theorem jf7{n:Nat}{b:Nat->Bool}{st:SortSt}{f:Nat->GS->StateT SortSt Sem (ForInStep GS)}
  (mono:∀i j,i<=j->j<n->b j=true->b i=true)
  (L:∀x lo hi,lo≥hi->Tr prog w A E s (f x (none,lo,hi)) st (λr a=>a=st/\r=.done (none,lo,hi)))
  (H:∀x lo hi,lo<hi->hi<=n->Tr prog w A E s (f x (none,lo,hi)) st (λr a=>a=st/\r=.yield (if b (lo+(hi - lo) / 2)=true then(none,lo+(hi - lo) / 2+1,hi) else(none,lo,lo+(hi - lo) / 2))))(T:lo<=hi)(Q:hi<=n)(P:Cut b n lo hi):
  Tr prog w A E s (forIn [0:n] ((none,lo,hi):GS) f) st (λr a=>a=st/\∃m u,r=(none,u,m)/\m<=n/\Cut b n m m):=by
 refine Ey (I:=λx c a=>a=st/\∃lo hi,c=(none,lo,hi)/\lo<=hi/\hi<=n/\hi - lo<=n - x/\Cut b n lo hi) (λx c a _ Y C=>?_) (λc a C=>?_) ⟨rfl,lo,hi,rfl,T,Q,by lia,P⟩
 ·obtain⟨rfl,lo,hi,rfl,U,o,F,g⟩:=C;by_cases h:lo≥hi
  ·refine Ld (L x lo hi h) λr a v=>?_;obtain⟨rfl,rfl⟩:=v;exact⟨rfl,hi,lo,rfl,o,by rw[show lo=hi by lia]at g;exact g⟩
  ·refine Ld (H x lo hi (by lia) o) λr a v=>?_;obtain⟨rfl,rfl⟩:=v;refine⟨rfl,?_⟩;by_cases q:b (lo+(hi - lo) / 2)=true
   ·rw[if_pos q];exact⟨_,_,rfl,by lia,o,by lia,λi G=>mono i _ (by lia) (by lia) q,g.2⟩
   ·rw[if_neg q];refine⟨_,_,rfl,by lia,by lia,by lia,g.1,λi B y=>?_⟩;cases M:b i with
    |false=>rfl
    |true=>exact absurd (mono _ i B y M) q
 ·obtain⟨rfl,lo,hi,rfl,U,o,F,g⟩:=C;rw[show max 0 n=n by lia]at F;exact⟨rfl,hi,lo,rfl,o,by rw[show lo=hi by lia]at g;exact g⟩
theorem Y8{k:Nat}{l:List Nat}{base n:Nat}{st:SortSt}{b:Nat->Bool}(an:Ans prog w A s κ it key J)(hl:∀x∈l,x<J)(hk:k<J)(aa:kindOf st=κ)(hb:base+n<=l.length)(hh:hint<n)
  (af:∀i x,i<n->l[base+i]? = some x->b i=bz key left k x)(mono:∀i j,i<=j->j<n->b j=true->b i=true):
  Tr prog w A E s (jb4 left (kas_item it k) (Al it l) base n hint) st (λr q=>q=st/\∃m,r=some m/\m<=n/\Cut b n m m):=by
 have hx:∀i,i<n->∃x,l[base+i]? = some x/\x<J:=λi hi=>by
  have Q:base+i<l.length:=by lia
  exact⟨_,jAa Q,hl _ (jBi Q)⟩
 have H:=λi (hi:i<n)=>(hx i hi).elim λx z=>wn7 (prog:=prog) (E:=E) (left:=left) (b:=b i) an hk aa z.1 z.2 (af i x hi z.1);refine Aw (H hint hh) λr q v=>?_;obtain⟨rfl,rfl⟩:=v;dsimp only;by_cases v:b hint=true
 ·rw[if_pos v];refine Aw (R:=λc o=>o=q/\∃a g,c=(none,a,g)/\a<g/\hint+a<n/\b (hint+a)=true/\(n - hint<=g\/(g<n - hint/\b (hint+g)=false))) ?_ λc o C=>?_
  ·refine Ey (I:=λx c o=>o=q/\∃a g,c=(none,a,g)/\a<g/\hint+a<n/\b (hint+a)=true/\x+1<=g) (λx c o _ ab M=>?_) (λc o M=>?_) ⟨rfl,0,1,rfl,by lia,by lia,v,by lia⟩
   ·obtain⟨rfl,a,g,rfl,G,B,y,F⟩:=M;dsimp only;by_cases h:g≥n - hint
    ·rw[if_pos h];exact Ab ⟨rfl,_,_,rfl,G,B,y,.inl h⟩
    ·rw[if_neg h];refine Aw (H (hint+g) (by lia)) λr q v=>?_;obtain⟨rfl,rfl⟩:=v;dsimp only;cases P:b (hint+g) with
     |true=>exact Ab ⟨rfl,_,_,rfl,by lia,by lia,P,by lia⟩
     |false=>exact Ab ⟨rfl,_,_,rfl,G,B,y,.inr ⟨by lia,P⟩⟩
   ·obtain⟨rfl,a,g,rfl,G,B,y,F⟩:=M;exact⟨rfl,_,_,rfl,G,B,y,.inl (by lia)⟩
  ·obtain⟨rfl,a,g,rfl,G,B,y,F⟩:=C;dsimp only;refine Aw (jf7 (b:=b) mono (λx lo hi h=>?_) (λx lo hi h h2=>?_) (by lia) (by lia) ⟨λi hi=>mono i _ (by lia) B y,λi ae L=>?_⟩) λc U C=>?_
   ·dsimp only;rw[if_pos h];exact Ab ⟨rfl,rfl⟩
   ·dsimp only;rw[if_neg (by lia)];refine Aw (H (lo+(hi - lo) / 2) (by lia)) λr q v=>?_;obtain⟨rfl,rfl⟩:=v;dsimp only;split
    ·exact Ab ⟨rfl,rfl⟩
    ·exact Ab ⟨rfl,rfl⟩
   ·rcases F with F | ⟨F,T⟩
    ·lia
    ·cases C:b i with
     |false=>rfl
     |true=>rw[mono (hint+g) i (by lia) L C]at T;cases T
   ·obtain⟨rfl,m,u,rfl,Z,Y⟩:=C;exact Ab ⟨rfl,m,rfl,Z,Y⟩
 ·rw[if_neg v];have v:b hint=false:=by cases h:b hint;rfl;exact absurd h v
  refine Aw (R:=λc o=>o=q/\∃a g,c=(none,a,g)/\a<g/\a<=hint/\b (hint - a)=false/\(hint+1<=g\/(g<hint+1/\b (hint - g)=true))) ?_ λc o C=>?_
  ·refine Ey (I:=λx c o=>o=q/\∃a g,c=(none,a,g)/\a<g/\a<=hint/\b (hint - a)=false/\x+1<=g) (λx c o _ ab M=>?_) (λc o M=>?_) ⟨rfl,0,1,rfl,by lia,by lia,v,by lia⟩
   ·obtain⟨rfl,a,g,rfl,G,B,y,F⟩:=M;dsimp only;by_cases h:g≥hint+1
    ·rw[if_pos h];exact Ab ⟨rfl,_,_,rfl,G,B,y,.inl h⟩
    ·rw[if_neg h];refine Aw (H (hint - g) (by lia)) λr q v=>?_;obtain⟨rfl,rfl⟩:=v;dsimp only;cases P:b (hint - g) with
     |true=>exact Ab ⟨rfl,_,_,rfl,G,B,y,.inr ⟨by lia,P⟩⟩
     |false=>exact Ab ⟨rfl,_,_,rfl,by lia,by lia,P,by lia⟩
   ·obtain⟨rfl,a,g,rfl,G,B,y,F⟩:=M;exact⟨rfl,_,_,rfl,G,B,y,.inl (by lia)⟩
  ·obtain⟨rfl,a,g,rfl,G,B,y,F⟩:=C;dsimp only;refine Aw (jf7 (b:=b) mono (λx lo hi h=>?_) (λx lo hi h h2=>?_) (by lia) (by lia) ⟨λi hi=>?_,λi ae L=>?_⟩) λc U C=>?_
   ·dsimp only;rw[if_pos h];exact Ab ⟨rfl,rfl⟩
   ·dsimp only;rw[if_neg (by lia)];refine Aw (H (lo+(hi - lo) / 2) (by lia)) λr q v=>?_;obtain⟨rfl,rfl⟩:=v;dsimp only;split
    ·exact Ab ⟨rfl,rfl⟩
    ·exact Ab ⟨rfl,rfl⟩
   ·rcases F with F | ⟨F,T⟩
    ·lia
    ·exact mono i (hint - g) (by lia) (by lia) T
   ·cases C:b i with
    |false=>rfl
    |true=>rw[mono (hint - a) i (by lia) L C]at y;cases y
   ·obtain⟨rfl,m,u,rfl,Z,Y⟩:=C;exact Ab ⟨rfl,m,rfl,Z,Y⟩
end
variable {y ia ib:Nat}{la lb:List Nat}
section
variable {key:Nat->O.α}
theorem Ai{a:Type}{c:Prop}[Decidable c]{x y:StateT SortSt Sem a}{st:SortSt}{R:a->SortSt->Prop}(m:c->Tr prog w A E s x st R)(g:¬ c->Tr prog w A E s y st R):Tr prog w A E s (if c then x else y) st R:=by
 by_cases h:c
 ·rw[if_pos h];exact m h
 ·rw[if_neg h];exact g h
def kl(key:Nat->O.α)(x y:Nat):Prop:=O.kle (key x) (key y)
theorem Gx{x z:Nat}(g:kl key x y)(a:kl key y z):kl key x z:=KeyOrd.kle_trans g a
theorem Gw{x:Nat}(h:ltO key x y=true):kl key x y:=KeyOrd.kle_of_klt h
theorem Fz{x:Nat}(h:ltO key y x=false):kl key x y:=h
abbrev Srt(key:Nat->O.α)(l:List Nat):Prop:=l.Pairwise (kl key)
theorem O3{l:List Nat}(h:Srt key l){x:Nat}(g:i<=j)(n:l[i]? = some x)(m:l[j]? = some y):kl key x y:=by
 obtain⟨q,rfl⟩:=jAl.mp n;obtain⟨o,rfl⟩:=jAl.mp m;rcases Nat.lt_or_eq_of_le g with a |rfl
 ·exact jCx.mp h i j q o a
 ·exact KeyOrd.kle_refl _
theorem Js{l:List Nat}(h:y∈l.drop i):∃j,i<=j/\l[j]? = some y:=by obtain⟨j,a,rfl⟩:=jBz.mp h;rw[jBr]at a;exact⟨i+j,by lia,by rw[jEl];exact jAa (by lia)⟩
theorem kb5{l:List Nat}{k:Nat}(h:y∈(l.drop i).take k):∃j,j<k/\l[i+j]? = some y:=by obtain⟨j,a,rfl⟩:=jBz.mp h;rw[jBd,jBr]at a;refine⟨j,by lia,?_⟩;rw[jDo,jEl];exact jAa (by lia)
theorem J9{l:List Nat}(h:Srt key l){x a:Nat}(m:l[i]? = some a)(hl:kl key x a):∀y∈l.drop i,kl key x y:=λy g=>by have⟨j,n,e⟩:=Js g;exact Gx hl (O3 h n m e)
structure Mg(key:Nat->O.α)(la lb lo:List Nat)(ia ib:Nat):Prop where
 perm:lo.Perm (la.take ia++lb.take ib)
 srt:Srt key lo
 ra:∀x∈lo,∀y∈la.drop ia,kl key x y
 rb:∀x∈lo,∀y∈lb.drop ib,kl key x y
def Md(key:Nat->O.α)(la lb r:List Nat):Prop:=r.Perm (la++lb)/\Srt key r
theorem kz2(l:List Nat)(i k:Nat):l.take (i+k)=l.take i++(l.drop i).take k:=by rw[jGu]
theorem Mg.as{lo:List Nat}(m:Mg key la lb lo ia ib)(n:Srt key la)(k:Nat)(o:∀x∈(la.drop ia).take k,∀y∈lb.drop ib,kl key x y):Mg key la lb (lo++(la.drop ia).take k) (ia+k) ib:=by
 refine⟨?_,?_,λx a y g=>?_,λx a y g=>?_⟩
 ·rw[kz2];refine(m.perm.append_right _).trans ?_;rw[jAu,jAu];exact jCu.append_left _
 ·refine jBo.mpr ⟨m.srt,(n.drop).take,λx a y g=>m.ra x a y (jDk g)⟩
 ·rcases jAq.mp a with h |h
  ·refine m.ra x h y ?_;rw[<-List.drop_drop]at g;exact jDl g
  ·have⟨i,hi,r⟩:=kb5 h;have⟨j,u,q⟩:=Js g;exact O3 n (by lia) r q
 ·rcases jAq.mp a with h |h
  ·exact m.rb x h y g
  ·exact o x h y g
theorem Mg.swap{lo:List Nat}(m:Mg key la lb lo ia ib):Mg key lb la lo ib ia:=⟨m.perm.trans jCu,m.srt,m.rb,m.ra⟩
theorem Mg.bs{lo:List Nat}(m:Mg key la lb lo ia ib)(g:Srt key lb)(k:Nat)(a:∀x∈(lb.drop ib).take k,∀y∈la.drop ia,kl key x y):Mg key la lb (lo++(lb.drop ib).take k) ia (ib+k):=(m.swap.as g k a).swap
theorem kd5{l:List Nat}{a:Nat}(h:l[i]? = some a):(l.drop i).take 1=[a]:=by obtain⟨hi,rfl⟩:=jAl.mp h;rw[jBw hi];rfl
theorem Mg.a1{lo:List Nat}{a:Nat}(m:Mg key la lb lo ia ib)(q:Srt key la)(h:la[ia]? = some a)(o:∀y∈lb.drop ib,kl key a y):Mg key la lb (lo++[a]) (ia+1) ib:=by
 have:=m.as q 1 λx g y n=>by rw[kd5 h,jAh]at g;rw[g];exact o y n
 rwa [kd5 h]at this
theorem Mg.b1{lo:List Nat}(m:Mg key la lb lo ia ib)(g:Srt key lb)(h:lb[ib]? = some b)(a:∀y∈la.drop ia,kl key b y):Mg key la lb (lo++[b]) ia (ib+1):=(m.swap.a1 g h a).swap
theorem Mg.last{lo:List Nat}(m:Mg key la lb lo ia ib)(q:Srt key la)(o:Srt key lb)(n:∀x∈lb.drop ib,∀y∈la.drop ia,kl key x y):Md key la lb (lo++lb.drop ib++la.drop ia):=by
 refine⟨?_,?_⟩
 ·have r:(la++lb)=(la.take ia++la.drop ia)++(lb.take ib++lb.drop ib):=by rw[jBm,jBm]
  rw[r];refine((m.perm.append_right _).append_right _).trans ?_;rw[jAu,jAu,jAu];refine List.Perm.append_left _ ?_;refine List.Perm.trans ?_ jCu;rw[jAu]
 ·refine jBo.mpr ⟨jBo.mpr ⟨m.srt,o.drop,m.rb⟩,q.drop,λx a y g=>?_⟩;rcases jAq.mp a with h |h
  ·exact m.ra x h y g
  ·exact n x h y g
theorem Mg.done{lo:List Nat}(m:Mg key la lb lo ia ib)(h:Srt key la)(g:Srt key lb)(a:∀x∈la.drop ia,∀y∈lb.drop ib,kl key x y):Md key la lb (lo++la.drop ia++lb.drop ib):=by have:=m.swap.last g h a;exact⟨this.1.trans jCu,this.2⟩
theorem Ae(lo:List Nat)(k:Nat):(Al it lo).push (kas_item it k)=Al it (lo++[k]):=by unfold Al;simp
theorem Ei(a b:List Nat):Al it a++Al it b=Al it (a++b):=by unfold Al;simp
theorem jf3(l:List Nat)(i:Nat):(Al it l).extract i (Al it l).size=Al it (l.drop i):=by unfold Al;apply jEd;simp;exact jDc (by simp)
theorem Gu(l:List Nat)(i k:Nat):(Al it l).extract i (i+k)=Al it ((l.drop i).take k):=by unfold Al;apply jEd;simp
structure Kp(st st':SortSt):Prop where
 kind:kindOf st'=kindOf st
 arr:arrOf st'=arrOf st
 pend:pendingOf st'=pendingOf st
 fail:failedOf st'=failedOf st
end
section
variable {key:Nat->O.α}
theorem Kp.refl(st:SortSt):Kp st st:=⟨rfl,rfl,rfl,rfl⟩
theorem Oi{m:Type}{g:SortSt->SortSt}{f:PUnit->StateT SortSt Sem m}{st0 st:SortSt}{R:m->SortSt->Prop}(h:Kp st0 (g st))(n:∀a,Kp st0 a->Tr prog w A E s (f ⟨⟩) a R):Tr prog w A E s (modify g >>= f) st R:=Kg (n _ h)
theorem Sy{l:List Nat}(h:(i == (Al it l).size)=true):i=l.length:=by rw[Bp]at h;exact beq_iff_eq.mp h
theorem Sx{l:List Nat}(h:¬ (i == (Al it l).size)=true):i≠l.length:=λe=>h (by rw[Bp,e];exact beq_self_eq_true _)
theorem Vl(lo la lb:List Nat)(ia ib:Nat):Al it lo++(Al it la).extract ia (Al it la).size++(Al it lb).extract ib (Al it lb).size=Al it (lo++la.drop ia++lb.drop ib):=by rw[jf3,jf3,Ei,Ei]
theorem Ut(lo la lb:List Nat)(b ia ib:Nat):(Al it lo).push (kas_item it b)++(Al it la).extract ia (Al it la).size++(Al it lb).extract ib (Al it lb).size=Al it (lo++[b]++la.drop ia++lb.drop ib):=by rw[Ae,Vl]
theorem jz4(lo la lb a:List Nat)(i k ia ib:Nat):Al it lo++(Al it a).extract i (i+k)++(Al it la).extract ia (Al it la).size++(Al it lb).extract ib (Al it lb).size=Al it (lo++(a.drop i).take k++la.drop ia++lb.drop ib):=by rw[Gu,Ei,Vl]
theorem kn4{x:Nat}(h:bz key false b x=true):kl key x b:=by unfold bz at h;rw[if_neg (by decide)]at h;exact Fz (by simpa using h)
theorem kn3{x:Nat}(h:bz key false b x=false):kl key b x:=by unfold bz at h;rw[if_neg (by decide)]at h;exact Gw (by simpa using h)
theorem jg2{a x:Nat}(h:bz key true a x=true):kl key x a:=by unfold bz at h;rw[if_pos rfl]at h;exact Gw h
theorem jg1{a x:Nat}(h:bz key true a x=false):kl key a x:=by unfold bz at h;rw[if_pos rfl]at h;exact Fz h
theorem jy7{l:List Nat}(o:Srt key l){k x:Nat}(g:i<=j)(n:l[i]? = some x)(m:l[j]? = some y)(h:bz key left k y=true):bz key left k x=true:=by
 have a:kl key x y:=O3 o g n m;unfold bz at h ⊢;cases left with
 |true =>
  rw[if_pos rfl]at h ⊢;cases q:ltO key x k with
  |true=>rfl
  |false=>have:kl key k y:=Gx (Fz q) a;exact absurd h (by rw[show ltO key y k=false from this];decide)
 |false=>rw[if_neg (by decide)]at h ⊢;have r:kl key y k:=Fz (by simpa using h);have:kl key x k:=Gx a r;rw[show ltO key k x=false from this];rfl
def gb(key:Nat->O.α)(left:Bool)(k:Nat)(l:List Nat)(base:Nat)(i:Nat):Bool:=bz key left k ((l[base+i]?).getD 0)
theorem Je{k:Nat}{l:List Nat}{base n:Nat}{st:SortSt}(an:Ans prog w A s κ it key J)(hl:∀x∈l,x<J)(B:Srt key l)(F:k<J)(q:kindOf st=κ)(P:base+n<=l.length)(M:hint<n):
  Tr prog w A E s (jb4 left (kas_item it k) (Al it l) base n hint) st (λr a=>a=st/\∃m,r=some m/\m<=n/\(∀x∈(l.drop base).take m,bz key left k x=true)/\(∀j y,base+m<=j->j<base+n->l[j]? = some y->bz key left k y=false)):=by
 refine Ld (Y8 (b:=gb key left k l base) an hl F q P M (λi x _ u=>by unfold gb;rw[u];rfl) (λi j L T h=>?_)) λr a C=>?_
 ·unfold gb at h ⊢;have o:base+i<l.length:=by lia
  have g:base+j<l.length:=by lia
  rw[jAa o];rw[jAa g]at h;exact jy7 B (by lia) (jAa o) (jAa g) h
 ·obtain⟨rfl,m,rfl,o,g,Q⟩:=C;refine⟨rfl,m,rfl,o,λx u=>?_,λj y H G v=>?_⟩
  ·have⟨i,hi,e⟩:=kb5 u;have:=g i hi;unfold gb at this;rwa [e]at this
  ·have:=Q (j - base) (by lia) (by lia);unfold gb at this;rwa [show base+(j - base)=j by lia,v]at this
theorem ju3{st:SortSt}(an:Ans prog w A s κ it key J)(aq:∀x∈la,x<J)(ag:∀x∈lb,x<J)(n:Srt key la)(o:Srt key lb)(na:1<=la.length)(nb:1<=lb.length)
  (first:∀a b,la[0]? = some a->lb[0]? = some b->kl key b a)(top:∀x∈lb,∀y,la[la.length - 1]? = some y->kl key x y)(af:kindOf st=κ):
  Tr prog w A E s (ku3 (Al it la) (Al it lb)) st (λr aw=>Kp st aw/\∃lo,r=Al it lo/\Md key la lb lo):=by
 have ga:∀i,i<la.length->∃x,la[i]? = some x/\x<J:=λi hi=>⟨_,jAa hi,aq _ (jBi hi)⟩;have ah:∀i,i<lb.length->∃x,lb[i]? = some x/\x<J:=λi hi=>⟨_,jAa hi,ag _ (jBi hi)⟩;have u:∀{ia ib},ia+1=la.length->∀x∈lb.drop ib,∀y∈la.drop ia,kl key x y:=λ{ia ib} h x M y hy=>by have⟨j,hj,e⟩:=Js hy;have bj:=(jAl.mp e).1;exact top x (jDl M) y (by rw[show la.length - 1=j by lia];exact e)
 have P:∀{ia ib},ib=lb.length->∀x∈la.drop ia,∀y∈lb.drop ib,kl key x y:=λ{ia ib} h x M y hy=>by rw[h,jCo (jAg _)]at hy;cases hy
 have ax:∀{ia ib},ia=la.length->∀x∈la.drop ia,∀y∈lb.drop ib,kl key x y:=λ{ia ib} h x M y hy=>by rw[h,jCo (jAg _)]at M;cases M
 refine Lf ?_;have⟨b0,ai,bf⟩:=ah 0 nb;have⟨a0,ar,bg⟩:=ga 0 na;have m0:Mg key la lb [b0] 0 1:=(show Mg key la lb [] 0 0 from⟨List.Perm.refl _,List.Pairwise.nil,(λx M=>by cases M),(λx M=>by cases M)⟩).b1 o ai (J9 n ar (first a0 b0 ar ai));refine Bf ai ?_;refine Ai (λh=>?_) (λh1=>?_)
 ·exact Ab ⟨Kp.refl st,_,Vl [b0] la lb 0 1,m0.done n o (P (Sy h))⟩
 refine Ai (λh=>?_) (λh2=>?_)
 ·exact Ab ⟨Kp.refl st,_,Vl [b0] lb la 1 0,m0.last n o (u (Sy h))⟩
 have h1:=Sx h1;have h2:=Sx h2;refine Jj ?_;refine Aw (R:=λc g=>Kp st g/\∃lo,c.1=some (Al it lo)/\Md key la lb lo) ?_ λc g hc=>?_
 ·refine Ey (I:=λx c g=>Kp st g/\∃lo ia ib mg,c=(none,Al it lo,ia,ib,mg)/\Mg key la lb lo ia ib/\ia+1<la.length/\ib<lb.length/\x+1<=ia+ib) (λx c g _ bh hI=>?_) (λc g hI=>?_) ⟨Kp.refl st,[b0],0,1,_,rfl,m0,by lia,by lia,by lia⟩
  ·obtain⟨k2,lo,ia,ib,mg,rfl,m,L,G,i3⟩:=hI;refine Aw (R:=λc g=>Kp st g/\((∃r,c.1=some (Al it r)/\Md key la lb r)\/∃lo ia ib ac T,c=(none,Al it lo,ia,ib,ac,T)/\Mg key la lb lo ia ib/\ia+1<la.length/\ib<lb.length/\x+2<=ia+ib)) ?_ λc ao hc=>?_
   ·refine Ey (I:=λx2 c g=>Kp st g/\∃lo ia ib ac T,c=(none,Al it lo,ia,ib,ac,T)/\Mg key la lb lo ia ib/\ia+1<la.length/\ib<lb.length/\x+1+min x2 1<=ia+ib) (λx2 c ao _ az hI=>?_) (λc ao hI=>?_) ⟨k2,lo,ia,ib,_,_,rfl,m,L,G,by lia⟩
    ·obtain⟨Y,lo,ia,ib,ac,T,rfl,m,L,G,i3⟩:=hI;have⟨b,Z,bn⟩:=ah ib G;have⟨a,C,ae⟩:=ga ia (by lia);refine Bf Z (Bf C (jf1 an bn ae (Y.kind.trans af) ?_));refine Ai (λh=>?_) (λh=>?_)
     ·have m':=m.b1 o Z (J9 n C (Gw h));refine Bf Z ?_;refine Ai (λh=>?_) (λh=>?_)
      ·exact Ab ⟨Y,.inl ⟨_,congrArg some (Ut lo la lb b ia (ib+1)),m'.done n o (P (Sy h))⟩⟩
      ·have h:=Sx h;refine Ai (λB=>?_) (λB=>?_)
       ·exact Ab ⟨Y,.inr ⟨_,_,_,_,_,by rw[Ae],m',L,by lia,by lia⟩⟩
       ·exact Ab ⟨Y,_,_,_,_,_,by rw[Ae],m',L,by lia,by lia⟩
     ·have m':=m.a1 n C (J9 o Z (Fz (by simpa using h)));refine Bf C ?_;refine Ai (λh=>?_) (λh=>?_)
      ·exact Ab ⟨Y,.inl ⟨_,congrArg some (Ut lo lb la a ib (ia+1)),m'.last n o (u (Sy h))⟩⟩
      ·have h:=Sx h;refine Ai (λB=>?_) (λB=>?_)
       ·exact Ab ⟨Y,.inr ⟨_,_,_,_,_,by rw[Ae],m',by lia,G,by lia⟩⟩
       ·exact Ab ⟨Y,_,_,_,_,_,by rw[Ae],m',by lia,G,by lia⟩
    ·obtain⟨Y,lo,ia,ib,ac,T,rfl,m,L,G,i3⟩:=hI;exact⟨Y,.inr ⟨_,_,_,_,_,rfl,m,L,G,by lia⟩⟩
   ·obtain⟨Y,hc⟩:=hc;rcases hc with ⟨r,er,md⟩ | ⟨lo,ia,ib,ac,T,rfl,m,L,G,i3⟩
    ·obtain⟨c1,c2⟩:=c;cases er;exact Ab ⟨Y,r,rfl,md⟩
    refine Lf ?_;refine Aw (R:=λc g=>Kp st g/\((∃r,c.1=some (Al it r)/\Md key la lb r)\/∃lo ia ib mg ac T,c=(none,Al it lo,ia,ib,mg,ac,T)/\Mg key la lb lo ia ib/\ia+1<la.length/\ib<lb.length/\x+2<=ia+ib)) ?_ λc ak hc=>?_
    ·refine Ey (I:=λx2 c g=>Kp st g/\∃lo ia ib mg ac T,c=(none,Al it lo,ia,ib,mg,ac,T)/\Mg key la lb lo ia ib/\ia+1<la.length/\ib<lb.length/\x+2<=ia+ib) (λx2 c ak _ az hI=>?_) (λc ak hI=>?_) ⟨Y,lo,ia,ib,_,_,_,rfl,m,L,G,i3⟩
     ·obtain⟨F,lo,ia,ib,mg,ac,T,rfl,m,L,G,i3⟩:=hI;have⟨b,Z,bn⟩:=ah ib G;refine Ai (λ_=>Oi (st0:=st) ⟨F.1,F.2,F.3,F.4⟩ λaj q=>Bf Z ?_) (λ_=>Oi (st0:=st) ⟨F.1,F.2,F.3,F.4⟩ λaj q=>Bf Z ?_)
      all_goals
       refine Aw (Je an aq n bn (q.kind.trans af) (by rw[Bp];show ia+_<=_;lia) (by rw[Bp];show 0<_ - ia;lia)) λr ba hr=>?_;obtain⟨rfl,k,rfl,U,q2,q3⟩:=hr;have U:k<=la.length - ia:=by rw[Bp]at U;exact U
       have mA:=m.as n k λx M=>J9 o Z (kn4 (q2 x M));have aa:∀y∈la.drop (ia+k),kl key b y:=λy hy=>by have⟨j,hj,e⟩:=Js hy;have:=(jAl.mp e).1;exact kn3 (q3 j y hj (by rw[Bp];show j<ia+(_ - ia);lia) e)
       refine Ai (λhk=>Ai (λh=>?_) (λh=>Ai (λB=>?_) (λB=>?_))) (λhk=>?_)
       ·exact Ab ⟨q,.inl ⟨_,congrArg some (jz4 lo lb la la ia k ib (ia+k)),mA.last n o (u (Sy h))⟩⟩
       ·exact Ab ⟨q,.inl ⟨_,congrArg some (jz4 lo la lb la ia k (ia+k) ib),mA.done n o (ax (Sy B))⟩⟩
       ·have h:=Sx h;have B:=Sx B;have L:ia+k+1<la.length:=by lia
        have i3:x+2<=ia+k+ib:=by lia
        clear q2 q3 hk h B U m;dsimp only;rw[Gu,Ei];generalize lo++(la.drop ia).take k=bb at *
        generalize ia+k=ay at *
        refine Bf Z ?_;have mB:=mA.b1 o Z aa;refine Ai (λh=>?_) (λh=>?_)
        ·exact Ab ⟨q,.inl ⟨_,congrArg some (Ut _ la lb b _ (ib+1)),mB.done n o (P (Sy h))⟩⟩
        have h:=Sx h;have⟨a,C,ae⟩:=ga ay (by lia);refine Bf C ?_;refine Aw (Je an ag o ae (q.kind.trans af) (by rw[Bp];show ib+1+_<=_;lia) (by rw[Bp];show 0<_ - (ib+1);lia)) λr au hr=>?_;obtain⟨rfl,Q,rfl,U,q2,q3⟩:=hr;have U:Q<=lb.length - (ib+1):=by rw[Bp]at U;exact U
        have mC:=mB.bs o Q λx M=>J9 n C (jg2 (q2 x M));have v:∀y∈lb.drop (ib+1+Q),kl key a y:=λy hy=>by have⟨j,hj,e⟩:=Js hy;have:=(jAl.mp e).1;exact jg1 (q3 j y hj (by rw[Bp];show j<ib+1+(_ - (ib+1));lia) e)
        refine Ai (λhk=>Ai (λB=>?_) (λB=>?_)) (λhk=>?_)
        ·exact Ab ⟨q,.inl ⟨_,congrArg some (by rw[Ae];exact jz4 _ la lb lb (ib+1) Q _ (ib+1+Q)),mC.done n o (P (Sy B))⟩⟩
        ·have B:=Sx B;have H:=mC.a1 n C v;refine Bf C (Ai (λh=>?_) (λh=>?_))
         ·exact Ab ⟨q,.inl ⟨_,congrArg some (by rw[Ae,Gu,Ei];exact Ut _ lb la a _ _),H.last n o (u (Sy h))⟩⟩
         have h:=Sx h;refine Ai (λ_=>?_) (λ_=>?_)
         ·exact Ab ⟨q,.inr ⟨_,_,_,_,_,_,by rw[Ae,Gu,Ei,Ae],H,by lia,by lia,by lia⟩⟩
         ·exact Ab ⟨q,_,_,_,_,_,_,by rw[Ae,Gu,Ei,Ae],H,by lia,by lia,by lia⟩
        ·have ab:Q=0:=by lia
         subst ab;have H:=mB.a1 n C v;refine Bf C (Ai (λh=>?_) (λh=>?_))
         ·exact Ab ⟨q,.inl ⟨_,congrArg some (by rw[Ae];exact Ut _ lb la a _ _),H.last n o (u (Sy h))⟩⟩
         have h:=Sx h;refine Ai (λ_=>?_) (λ_=>?_)
         ·exact Ab ⟨q,.inr ⟨_,_,_,_,_,_,by rw[Ae,Ae],H,by lia,by lia,by lia⟩⟩
         ·exact Ab ⟨q,_,_,_,_,_,_,by rw[Ae,Ae],H,by lia,by lia,by lia⟩
       ·have ab:k=0:=by lia
        subst ab;have mA:=m;dsimp only;refine Bf Z ?_;have mB:=mA.b1 o Z aa;refine Ai (λh=>?_) (λh=>?_)
        ·exact Ab ⟨q,.inl ⟨_,congrArg some (Ut _ la lb b _ (ib+1)),mB.done n o (P (Sy h))⟩⟩
        have h:=Sx h;have⟨a,C,ae⟩:=ga ia (by lia);refine Bf C ?_;refine Aw (Je an ag o ae (q.kind.trans af) (by rw[Bp];show ib+1+_<=_;lia) (by rw[Bp];show 0<_ - (ib+1);lia)) λr au hr=>?_;obtain⟨rfl,Q,rfl,U,q2,q3⟩:=hr;have U:Q<=lb.length - (ib+1):=by rw[Bp]at U;exact U
        have mC:=mB.bs o Q λx M=>J9 n C (jg2 (q2 x M));have v:∀y∈lb.drop (ib+1+Q),kl key a y:=λy hy=>by have⟨j,hj,e⟩:=Js hy;have:=(jAl.mp e).1;exact jg1 (q3 j y hj (by rw[Bp];show j<ib+1+(_ - (ib+1));lia) e)
        refine Ai (λhk=>Ai (λB=>?_) (λB=>?_)) (λhk=>?_)
        ·exact Ab ⟨q,.inl ⟨_,congrArg some (by rw[Ae];exact jz4 _ la lb lb (ib+1) Q _ (ib+1+Q)),mC.done n o (P (Sy B))⟩⟩
        ·have B:=Sx B;have H:=mC.a1 n C v;refine Bf C (Ai (λh=>?_) (λh=>?_))
         ·exact Ab ⟨q,.inl ⟨_,congrArg some (by rw[Ae,Gu,Ei];exact Ut _ lb la a _ _),H.last n o (u (Sy h))⟩⟩
         have h:=Sx h;refine Ai (λ_=>?_) (λ_=>?_)
         ·exact Ab ⟨q,.inr ⟨_,_,_,_,_,_,by rw[Ae,Gu,Ei,Ae],H,by lia,by lia,by lia⟩⟩
         ·exact Ab ⟨q,_,_,_,_,_,_,by rw[Ae,Gu,Ei,Ae],H,by lia,by lia,by lia⟩
        ·have ab:Q=0:=by lia
         subst ab;have H:=mB.a1 n C v;refine Bf C (Ai (λh=>?_) (λh=>?_))
         ·exact Ab ⟨q,.inl ⟨_,congrArg some (by rw[Ae];exact Ut _ lb la a _ _),H.last n o (u (Sy h))⟩⟩
         have h:=Sx h;refine Ai (λ_=>?_) (λ_=>?_)
         ·exact Ab ⟨q,.inr ⟨_,_,_,_,_,_,by rw[Ae,Ae],H,by lia,by lia,by lia⟩⟩
         ·exact Ab ⟨q,_,_,_,_,_,_,by rw[Ae,Ae],H,by lia,by lia,by lia⟩
     ·obtain⟨F,lo,ia,ib,mg,ac,T,rfl,m,L,G,i3⟩:=hI;exact⟨F,.inr ⟨_,_,_,_,_,_,rfl,m,L,G,i3⟩⟩
    ·obtain⟨F,hc⟩:=hc;rcases hc with ⟨r,er,md⟩ | ⟨lo,ia,ib,mg,ac,T,rfl,m,L,G,i3⟩
     ·obtain⟨c1,c2⟩:=c;cases er;exact Ab ⟨F,r,rfl,md⟩
     ·exact Oi (st0:=st) ⟨F.1,F.2,F.3,F.4⟩ λaj q=>Ab ⟨q,lo,ia,ib,_,rfl,m,L,G,by lia⟩
  ·obtain⟨k2,lo,ia,ib,mg,rfl,m,L,G,i3⟩:=hI;rw[Bp,Bp]at i3;lia
 ·obtain⟨k,lo,e,md⟩:=hc;obtain⟨c1,c2⟩:=c;cases e;exact Ab ⟨k,lo,rfl,md⟩
end
variable {ro:List Nat}{na nb:Nat}
section
variable {key:Nat->O.α}
theorem Ky{l:List Nat}{n:Nat}(h:y∈l.take n):∃j,j<n/\l[j]? = some y:=by obtain⟨j,a,rfl⟩:=jBz.mp h;rw[jBd]at a;exact⟨j,by lia,by rw[jDo];exact jAa (by lia)⟩
theorem mem_mid{l:List Nat}{n:Nat}(h:y∈(l.take n).drop i):∃j,i<=j/\j<n/\l[j]? = some y:=by obtain⟨j,a,rfl⟩:=jBz.mp h;rw[jBr,jBd]at a;refine⟨i+j,by lia,by lia,?_⟩;rw[jEl,jDo];exact jAa (by lia)
theorem O4{l:List Nat}(h:Srt key l){n x a:Nat}(m:l[n - 1]? = some a)(hl:kl key a x):∀y∈l.take n,kl key y x:=λy g=>by have⟨j,o,e⟩:=Ky g;exact Gx (O3 h (by lia) e m) hl
structure Mh(key:Nat->O.α)(la lb ro:List Nat)(na nb:Nat):Prop where
 perm:ro.Perm (la.drop na++lb.drop nb)
 srt:ro.Pairwise λx y=>kl key y x
 ra:∀x∈ro,∀y∈la.take na,kl key y x
 rb:∀x∈ro,∀y∈lb.take nb,kl key y x
theorem ku4(l:List Nat){n:Nat}(h:i<=n):l.drop i=(l.take n).drop i++l.drop n:=by
 have e:l=l.take n++l.drop n:=(jBm n l).symm
 by_cases a:n<=l.length
 ·conv=>lhs;rw[e]
  rw[List.drop_append_of_le_length (by rw[jBd];lia)]
 ·rw[jDc (by lia),jCo (show l.length<=n by lia),jDa]
theorem Mh.as(m:Mh key la lb ro na nb)(n:Srt key la){k:Nat}(q:k<=na)(o:∀x∈(la.take na).drop k,∀y∈lb.take nb,kl key y x):Mh key la lb (ro++((la.take na).drop k).reverse) k nb:=by
 refine⟨?_,?_,λx a y g=>?_,λx a y g=>?_⟩
 ·rw[ku4 la q];refine((m.perm.append_right _).trans jCu).trans ?_;rw[jAu];exact(jHg _).append_right _
 ·refine jBo.mpr ⟨m.srt,jEm.mpr (n.take.drop),λx a y g=>?_⟩;exact m.ra x a y (jDl (jDg.mp g))
 ·rcases jAq.mp a with h |h
  ·have⟨j,u,e⟩:=Ky g;refine m.ra x h y ?_;obtain⟨r,rfl⟩:=jAl.mp e;exact jBz.mpr ⟨j,by rw[jBd];lia,by rw[jDo]⟩
  ·have⟨i,hi,_,B⟩:=mem_mid (jDg.mp h);have⟨j,u,v⟩:=Ky g;exact O3 n (by lia) v B
 ·rcases jAq.mp a with h |h
  ·exact m.rb x h y g
  ·exact o x (jDg.mp h) y g
theorem Mh.swap(m:Mh key la lb ro na nb):Mh key lb la ro nb na:=⟨m.perm.trans jCu,m.srt,m.rb,m.ra⟩
theorem Mh.bs(m:Mh key la lb ro na nb)(h:Srt key lb){k:Nat}(g:k<=nb)(a:∀x∈(lb.take nb).drop k,∀y∈la.take na,kl key y x):Mh key la lb (ro++((lb.take nb).drop k).reverse) na k:=(m.swap.as h g a).swap
theorem kb6{l:List Nat}{n a:Nat}(h:l[n - 1]? = some a)(hn:1<=n):(l.take n).drop (n - 1)=[a]:=by
 obtain⟨hi,rfl⟩:=jAl.mp h;have g:(l.take n).length=n:=by rw[jBd];lia
 rw[jBw (by lia),jCo (by lia),jDo]
theorem Mh.a1{a:Nat}(m:Mh key la lb ro na nb)(q:Srt key la)(hn:1<=na)(h:la[na - 1]? = some a)(o:∀y∈lb.take nb,kl key y a):Mh key la lb (ro++[a]) (na - 1) nb:=by
 have:=m.as q (k:=na - 1) (by lia) λx g y n=>by rw[kb6 h hn,jAh]at g;rw[g];exact o y n
 rwa [kb6 h hn]at this
theorem Mh.b1(m:Mh key la lb ro na nb)(g:Srt key lb)(hn:1<=nb)(h:lb[nb - 1]? = some b)(a:∀y∈la.take na,kl key y b):Mh key la lb (ro++[b]) na (nb - 1):=(m.swap.a1 g hn h a).swap
theorem Mh.done(m:Mh key la lb ro na nb)(q:Srt key la)(o:Srt key lb)(n:∀x∈la.take na,∀y∈lb.take nb,kl key x y):Md key la lb (la.take na++lb.take nb++ro.reverse):=by
 refine⟨?_,?_⟩
 ·have r:(la++lb)=(la.take na++la.drop na)++(lb.take nb++lb.drop nb):=by rw[jBm,jBm]
  rw[r];refine(((jHg ro).trans m.perm).append_left _).trans ?_;rw[jAu,jAu];refine List.Perm.append_left _ ?_;rw[<-jAu,<-jAu];exact jCu.append_right _
 ·refine jBo.mpr ⟨jBo.mpr ⟨q.take,o.take,n⟩,jEm.mpr m.srt,λx a y g=>?_⟩;rcases jAq.mp a with h |h
  ·exact m.ra y (jDg.mp g) x h
  ·exact m.rb y (jDg.mp g) x h
theorem Mh.last(m:Mh key la lb ro na nb)(h:Srt key la)(g:Srt key lb)(a:∀x∈lb.take nb,∀y∈la.take na,kl key x y):Md key la lb (lb.take nb++la.take na++ro.reverse):=by have:=m.swap.done g h a;exact⟨this.1.trans jCu,this.2⟩
theorem Vw(l:List Nat)(i n:Nat):(Al it l).extract i n=Al it ((l.take n).drop i):=by unfold Al;apply jEd;simp[jFd,jFe,List.extract_eq_drop_take,List.drop_take]
theorem jf4(l:List Nat):(Al it l).reverse=Al it l.reverse:=by unfold Al;simp
theorem ja6(ro la lb:List Nat)(na nb:Nat):(Al it la).extract 0 na++(Al it lb).extract 0 nb++(Al it ro).reverse=Al it (la.take na++lb.take nb++ro.reverse):=by rw[Vw,Vw,jf4,Ei,Ei];rfl
theorem ji2(ro la lb:List Nat)(b na nb:Nat):(Al it la).extract 0 na++(Al it lb).extract 0 nb++((Al it ro).push (kas_item it b)).reverse=Al it (la.take na++lb.take nb++(ro++[b]).reverse):=by rw[Ae,ja6]
theorem N8(ro l:List Nat)(i n:Nat):Al it ro++((Al it l).extract i n).reverse=Al it (ro++((l.take n).drop i).reverse):=by rw[Vw,jf4,Ei]
theorem kq1(ro la lb a:List Nat)(i n na nb:Nat):(Al it la).extract 0 na++(Al it lb).extract 0 nb++(Al it ro++((Al it a).extract i n).reverse).reverse=Al it (la.take na++lb.take nb++(ro++((a.take n).drop i).reverse).reverse):=by rw[N8,ja6]
end
section
variable {key:Nat->O.α}
theorem Nh(h:(i == j)=true):i=j:=beq_iff_eq.mp h
theorem M4(h:¬ (i == j)=true):i≠j:=λe=>h (by rw[e];exact beq_self_eq_true _)
theorem ju2{st:SortSt}(an:Ans prog w A s κ it key J)(au:∀x∈la,x<J)(af:∀x∈lb,x<J)(n:Srt key la)(q:Srt key lb)(na:1<=la.length)(nb:1<=lb.length)
  (first:∀a b,la[0]? = some a->lb[0]? = some b->kl key b a)(top:∀x∈lb,∀y,la[la.length - 1]? = some y->kl key x y)(ae:kindOf st=κ):
  Tr prog w A E s (ku2 (Al it la) (Al it lb)) st (λr az=>Kp st az/\∃lo,r=Al it lo/\Md key la lb lo):=by
 have ga:∀i,i<la.length->∃x,la[i]? = some x/\x<J:=λi hi=>⟨_,jAa hi,au _ (jBi hi)⟩;have ag:∀i,i<lb.length->∃x,lb[i]? = some x/\x<J:=λi hi=>⟨_,jAa hi,af _ (jBi hi)⟩;have⟨b0,aw,bh⟩:=ag 0 nb;have⟨a0,ax,bo⟩:=ga 0 na;have v:∀{na nb},nb=1->∀x∈lb.take nb,∀y∈la.take na,kl key x y:=λ{na nb} h x P y T=>by have⟨j,hj,e⟩:=Ky P;rw[show j=0 by lia,aw]at e;cases e;exact J9 n ax (first a0 b0 ax aw) y (jDk T)
 have L:∀{na nb},na=0->∀x∈la.take na,∀y∈lb.take nb,kl key x y:=λ{na nb} h x P y T=>by rw[h,jHz]at P;cases P
 have ao:∀{na nb},nb=0->∀x∈la.take na,∀y∈lb.take nb,kl key x y:=λ{na nb} h x P y T=>by rw[h,jHz]at T;cases T
 have za:(Al it la).size=la.length:=Bp la;have zb:(Al it lb).size=lb.length:=Bp lb;refine Lf ?_;have⟨a1,ah,bj⟩:=ga (la.length - 1) (by lia);have m0:Mh key la lb [a1] ((Al it la).size - 1) (Al it lb).size:=by rw[za,zb];refine(show Mh key la lb [] la.length lb.length from⟨?_,List.Pairwise.nil,(λx P=>by cases P),(λx P=>by cases P)⟩).a1 n na ah λy T=>top y (jDk T) a1 ah;rw[jCo (jAg _),jCo (jAg _)];exact List.Perm.refl _
 refine Bf (show la[(Al it la).size - 1]? = some a1 by rw[za];exact ah) ?_;refine Ai (λh=>?_) (λh1=>?_)
 ·exact Ab ⟨Kp.refl st,_,ja6 [a1] la lb _ _,m0.done n q (L (Nh h))⟩
 refine Ai (λh=>?_) (λh2=>?_)
 ·exact Ab ⟨Kp.refl st,_,ja6 [a1] lb la _ _,m0.last n q (v (Nh h))⟩
 have h1:=M4 h1;have h2:=M4 h2;refine Jj ?_;refine Aw (R:=λc g=>Kp st g/\∃lo,c.1=some (Al it lo)/\Md key la lb lo) ?_ λc g hc=>?_
 ·refine Ey (I:=λx c g=>Kp st g/\∃na nb lo mg,c=(none,na,nb,Al it lo,mg)/\Mh key la lb lo na nb/\(1<=na/\na<=la.length)/\(2<=nb/\nb<=lb.length)/\na+nb+x+1<=la.length+lb.length) (λx c g _ bp hI=>?_) (λc g hI=>?_) ⟨Kp.refl st,_,_,[a1],_,rfl,m0,by lia,by lia,by lia⟩
  ·obtain⟨k2,na,nb,lo,mg,rfl,m,G,Q,i3⟩:=hI;refine Aw (R:=λc g=>Kp st g/\((∃r,c.1=some (Al it r)/\Md key la lb r)\/∃na nb lo ac Y,c=(none,na,nb,Al it lo,ac,Y)/\Mh key la lb lo na nb/\(1<=na/\na<=la.length)/\(2<=nb/\nb<=lb.length)/\na+nb+x+2<=la.length+lb.length)) ?_ λc ak hc=>?_
   ·refine Ey (I:=λx2 c g=>Kp st g/\∃na nb lo ac Y,c=(none,na,nb,Al it lo,ac,Y)/\Mh key la lb lo na nb/\(1<=na/\na<=la.length)/\(2<=nb/\nb<=lb.length)/\na+nb+x+1+min x2 1<=la.length+lb.length) (λx2 c ak _ bb hI=>?_) (λc ak hI=>?_) ⟨k2,na,nb,lo,_,_,rfl,m,G,Q,by lia⟩
    ·obtain⟨k3,na,nb,lo,ac,Y,rfl,m,G,Q,i3⟩:=hI;have⟨b,eb,bn⟩:=ag (nb - 1) (by lia);have⟨a,C,ab⟩:=ga (na - 1) (by lia);refine Bf eb (Bf C (jf1 an bn ab (k3.kind.trans ae) ?_));refine Ai (λh=>?_) (λh=>?_)
     ·have m':=m.a1 n G.1 C (O4 q eb (Gw h));refine Bf C ?_;refine Ai (λh=>?_) (λh=>?_)
      ·exact Ab ⟨k3,.inl ⟨_,congrArg some (ji2 lo la lb a (na - 1) nb),m'.done n q (L (Nh h))⟩⟩
      ·have h:=M4 h;refine Ai (λU=>?_) (λU=>?_)
       ·exact Ab ⟨k3,.inr ⟨_,_,_,_,_,by rw[Ae],m',by lia,Q,by lia⟩⟩
       ·exact Ab ⟨k3,_,_,_,_,_,by rw[Ae],m',by lia,Q,by lia⟩
     ·have m':=m.b1 q (by lia) eb (O4 n C (Fz (by simpa using h)));refine Bf eb ?_;refine Ai (λh=>?_) (λh=>?_)
      ·exact Ab ⟨k3,.inl ⟨_,congrArg some (ji2 lo lb la b (nb - 1) na),m'.last n q (v (Nh h))⟩⟩
      ·have h:=M4 h;refine Ai (λU=>?_) (λU=>?_)
       ·exact Ab ⟨k3,.inr ⟨_,_,_,_,_,by rw[Ae],m',G,by lia,by lia⟩⟩
       ·exact Ab ⟨k3,_,_,_,_,_,by rw[Ae],m',G,by lia,by lia⟩
    ·obtain⟨k3,na,nb,lo,ac,Y,rfl,m,G,Q,i3⟩:=hI;exact⟨k3,.inr ⟨_,_,_,_,_,rfl,m,G,Q,by lia⟩⟩
   ·obtain⟨k3,hc⟩:=hc;rcases hc with ⟨r,er,md⟩ | ⟨na,nb,lo,ac,Y,rfl,m,G,Q,i3⟩
    ·obtain⟨c1,c2⟩:=c;cases er;exact Ab ⟨k3,r,rfl,md⟩
    refine Lf ?_;refine Aw (R:=λc g=>Kp st g/\((∃r,c.1=some (Al it r)/\Md key la lb r)\/∃na nb lo mg ac Y,c=(none,na,nb,Al it lo,mg,ac,Y)/\Mh key la lb lo na nb/\(1<=na/\na<=la.length)/\(2<=nb/\nb<=lb.length)/\na+nb+x+2<=la.length+lb.length)) ?_ λc aj hc=>?_
    ·refine Ey (I:=λx2 c g=>Kp st g/\∃na nb lo mg ac Y,c=(none,na,nb,Al it lo,mg,ac,Y)/\Mh key la lb lo na nb/\(1<=na/\na<=la.length)/\(2<=nb/\nb<=lb.length)/\na+nb+x+2<=la.length+lb.length) (λx2 c aj _ bb hI=>?_) (λc aj hI=>?_) ⟨k3,na,nb,lo,_,_,_,rfl,m,G,Q,i3⟩
     ·obtain⟨F,na,nb,lo,mg,ac,Y,rfl,m,G,Q,i3⟩:=hI;have⟨b,eb,bn⟩:=ag (nb - 1) (by lia);refine Ai (λ_=>Oi (st0:=st) ⟨F.1,F.2,F.3,F.4⟩ λai o=>Bf eb ?_) (λ_=>Oi (st0:=st) ⟨F.1,F.2,F.3,F.4⟩ λai o=>Bf eb ?_)
      all_goals
       refine Aw (Je an au n bn (o.kind.trans ae) (by show 0+na<=_;lia) (by show na - 1<na;lia)) λr bf hr=>?_;obtain⟨rfl,k,rfl,Z,q2,q3⟩:=hr;have Z:k<=na:=Z;have mA:=m.as n Z λy T=>by have⟨j,ar,aq,e⟩:=mem_mid T;exact O4 q eb (kn3 (q3 j y (by lia) (by show j<0+na;lia) e))
       have H:∀x∈la.take k,kl key x b:=λx P=>kn4 (q2 x P);refine Ai (λhk=>Ai (λh=>?_) (λh=>?_)) (λhk=>?_)
       ·exact Ab ⟨o,.inl ⟨_,congrArg some (kq1 lo la lb la k na k nb),mA.done n q (L (Nh h))⟩⟩
       ·have h:=M4 h;have G:1<=k/\k<=la.length:=by lia
        have i3:k+nb+x+2<=la.length+lb.length:=by lia
        clear q2 q3 hk h Z m;dsimp only;rw[N8];generalize lo++((la.take na).drop k).reverse=bg at *
        generalize k=ba at *
        refine Bf eb ?_;have mB:=mA.b1 q (by lia) eb H;refine Ai (λh=>?_) (λh=>?_)
        ·exact Ab ⟨o,.inl ⟨_,congrArg some (ji2 _ lb la b (nb - 1) _),mB.last n q (v (Nh h))⟩⟩
        have h:=M4 h;have⟨a,C,ab⟩:=ga (ba - 1) (by lia);refine Bf C ?_;refine Aw (Je an af q ab (o.kind.trans ae) (by show 0+(nb - 1)<=_;lia) (by show nb - 1 - 1<nb - 1;lia)) λr ay hr=>?_;obtain⟨rfl,B,rfl,Z,q2,q3⟩:=hr;have Z:B<=nb - 1:=Z;have mC:=mB.bs q Z λy T=>by have⟨j,ar,aq,e⟩:=mem_mid T;exact O4 n C (jg1 (q3 j y (by lia) (by show j<0+(nb - 1);lia) e))
        have u:∀x∈lb.take B,kl key x a:=λx P=>jg2 (q2 x P);refine Ai (λhk=>Ai (λU=>?_) (λU=>Ai (λh2=>?_) (λh2=>?_))) (λhk=>?_)
        ·exact Ab ⟨o,.inl ⟨_,congrArg some (by rw[Ae];exact kq1 _ lb la lb B (nb - 1) B _),mC.last n q (v (Nh U))⟩⟩
        ·exact Ab ⟨o,.inl ⟨_,congrArg some (by rw[Ae];exact kq1 _ la lb lb B (nb - 1) _ B),mC.done n q (ao (Nh h2))⟩⟩
        ·have U:=M4 U;have h2:=M4 h2;have M:=mC.a1 n (by lia) C u;refine Bf C (Ai (λh=>?_) (λh=>?_))
         ·exact Ab ⟨o,.inl ⟨_,congrArg some (by rw[Ae,N8];exact ji2 _ la lb a _ B),M.done n q (L (Nh h))⟩⟩
         have h:=M4 h;refine Ai (λ_=>?_) (λ_=>?_)
         ·exact Ab ⟨o,.inr ⟨_,_,_,_,_,_,by rw[Ae,N8,Ae],M,by lia,by lia,by lia⟩⟩
         ·exact Ab ⟨o,_,_,_,_,_,_,by rw[Ae,N8,Ae],M,by lia,by lia,by lia⟩
        ·have aa:B=nb - 1:=by have:¬ nb - 1 - B>0:=hk;lia
         subst aa;have M:=mB.a1 n (by lia) C u;refine Bf C (Ai (λh=>?_) (λh=>?_))
         ·exact Ab ⟨o,.inl ⟨_,congrArg some (by rw[Ae];exact ji2 _ la lb a _ _),M.done n q (L (Nh h))⟩⟩
         have h:=M4 h;refine Ai (λ_=>?_) (λ_=>?_)
         ·exact Ab ⟨o,.inr ⟨_,_,_,_,_,_,by rw[Ae,Ae],M,by lia,by lia,by lia⟩⟩
         ·exact Ab ⟨o,_,_,_,_,_,_,by rw[Ae,Ae],M,by lia,by lia,by lia⟩
       ·have aa:k=na:=by have:¬ na - k>0:=hk;lia
        rw[aa]at H;have mA:=m;dsimp only;refine Bf eb ?_;have mB:=mA.b1 q (by lia) eb H;refine Ai (λh=>?_) (λh=>?_)
        ·exact Ab ⟨o,.inl ⟨_,congrArg some (ji2 _ lb la b (nb - 1) _),mB.last n q (v (Nh h))⟩⟩
        have h:=M4 h;have⟨a,C,ab⟩:=ga (na - 1) (by lia);refine Bf C ?_;refine Aw (Je an af q ab (o.kind.trans ae) (by show 0+(nb - 1)<=_;lia) (by show nb - 1 - 1<nb - 1;lia)) λr ay hr=>?_;obtain⟨rfl,B,rfl,Z,q2,q3⟩:=hr;have Z:B<=nb - 1:=Z;have mC:=mB.bs q Z λy T=>by have⟨j,ar,aq,e⟩:=mem_mid T;exact O4 n C (jg1 (q3 j y (by lia) (by show j<0+(nb - 1);lia) e))
        have u:∀x∈lb.take B,kl key x a:=λx P=>jg2 (q2 x P);refine Ai (λhk=>Ai (λU=>?_) (λU=>Ai (λh2=>?_) (λh2=>?_))) (λhk=>?_)
        ·exact Ab ⟨o,.inl ⟨_,congrArg some (by rw[Ae];exact kq1 _ lb la lb B (nb - 1) B _),mC.last n q (v (Nh U))⟩⟩
        ·exact Ab ⟨o,.inl ⟨_,congrArg some (by rw[Ae];exact kq1 _ la lb lb B (nb - 1) _ B),mC.done n q (ao (Nh h2))⟩⟩
        ·have U:=M4 U;have h2:=M4 h2;have M:=mC.a1 n (by lia) C u;refine Bf C (Ai (λh=>?_) (λh=>?_))
         ·exact Ab ⟨o,.inl ⟨_,congrArg some (by rw[Ae,N8];exact ji2 _ la lb a _ B),M.done n q (L (Nh h))⟩⟩
         have h:=M4 h;refine Ai (λ_=>?_) (λ_=>?_)
         ·exact Ab ⟨o,.inr ⟨_,_,_,_,_,_,by rw[Ae,N8,Ae],M,by lia,by lia,by lia⟩⟩
         ·exact Ab ⟨o,_,_,_,_,_,_,by rw[Ae,N8,Ae],M,by lia,by lia,by lia⟩
        ·have aa:B=nb - 1:=by have:¬ nb - 1 - B>0:=hk;lia
         subst aa;have M:=mB.a1 n (by lia) C u;refine Bf C (Ai (λh=>?_) (λh=>?_))
         ·exact Ab ⟨o,.inl ⟨_,congrArg some (by rw[Ae];exact ji2 _ la lb a _ _),M.done n q (L (Nh h))⟩⟩
         have h:=M4 h;refine Ai (λ_=>?_) (λ_=>?_)
         ·exact Ab ⟨o,.inr ⟨_,_,_,_,_,_,by rw[Ae,Ae],M,by lia,by lia,by lia⟩⟩
         ·exact Ab ⟨o,_,_,_,_,_,_,by rw[Ae,Ae],M,by lia,by lia,by lia⟩
     ·obtain⟨F,na,nb,lo,mg,ac,Y,rfl,m,G,Q,i3⟩:=hI;exact⟨F,.inr ⟨_,_,_,_,_,_,rfl,m,G,Q,i3⟩⟩
    ·obtain⟨F,hc⟩:=hc;rcases hc with ⟨r,er,md⟩ | ⟨na,nb,lo,mg,ac,Y,rfl,m,G,Q,i3⟩
     ·obtain⟨c1,c2⟩:=c;cases er;exact Ab ⟨F,r,rfl,md⟩
     ·exact Oi (st0:=st) ⟨F.1,F.2,F.3,F.4⟩ λai o=>Ab ⟨o,na,nb,lo,_,rfl,m,G,Q,by lia⟩
  ·obtain⟨k2,na,nb,lo,mg,rfl,m,G,Q,i3⟩:=hI;rw[za,zb]at i3;lia
 ·obtain⟨k,lo,e,md⟩:=hc;obtain⟨c1,c2⟩:=c;cases e;exact Ab ⟨k,lo,rfl,md⟩
end
variable {M Y:List Nat}{pw:Nat}
section
variable {key:Nat->O.α}
theorem wn3{g:Type}{a:SortSt}{f:PUnit->StateT SortSt Sem g}{st:SortSt}{R:g->SortSt->Prop}(h:Tr prog w A E s (f ⟨⟩) a R):Tr prog w A E s (set a >>= f) st R:=λm Q q=>kasC_bind (by
 unfold kasC;rw[StateT.run_set];exact jZb (h m Q q))
theorem Wj{k:Nat}{P X S:List Nat}{base n:Nat}{st:SortSt}(an:Ans prog w A s κ it key J)(hl:∀x∈P++X++S,x<J)(C:Srt key X)(G:k<J)(u:kindOf st=κ)(U:base=P.length)(T:n=X.length)(H:hint<n):
  Tr prog w A E s (jb4 left (kas_item it k) (Al it (P++X++S)) base n hint) st (λr a=>a=st/\∃m,r=some m/\m<=n/\(∀x∈X.take m,bz key left k x=true)/\(∀y∈X.drop m,bz key left k y=false)):=by
 subst U T;have at_:∀i,i<X.length->(P++X++S)[P.length+i]? = X[i]?:=λi hi=>by rw[jAu,jBh (by lia),jEx,jBu hi]
 refine Ld (Y8 (b:=λi=>bz key left k ((X[i]?).getD 0)) an hl G u (by rw[jAs,jAs];lia) H (λi x hi g=>by rw[at_ i hi]at g;rw[g];rfl) (λi j v o h=>?_)) λr a F=>?_
 ·(try dsimp only at h ⊢)
  have q:i<X.length:=by lia
  rw[jAa q];rw[jAa o]at h;exact jy7 C v (jAa q) (jAa o) h
 ·obtain⟨rfl,m,rfl,q,Q,L⟩:=F;refine⟨rfl,m,rfl,q,λx g=>?_,λy B=>?_⟩
  ·have⟨i,hi,e⟩:=Ky g;have:=Q i hi
   (try dsimp only at this)
   rwa [e]at this
  ·have⟨j,o,e⟩:=Js B;have:=L j o (jAl.mp e).1
   (try dsimp only at this)
   rwa [e]at this
theorem ji4(b:Nat):∀(g:List Keyed)(j:Nat)(Q Z R:List Keyed)(a:Array Keyed),a.toList=Q++Z++R->Q.length=b+j->Z.length=g.length ->
  ((g.zipIdx j).foldl (λa x=>a.setIfInBounds (b+x.2) x.1) a).toList=Q++g++R
 | [],j,Q,Z,R,a,h,_,m=>by have:Z=[]:=jEy.mp m;rw[this]at h;exact h
 |x::g,j,Q,Z,R,a,h,n,m=>by
  cases Z with
  |nil=>simp at m
  |cons z Z =>
   rw[List.zipIdx_cons,jEt];have e:=ji4 b g (j+1) (Q++[x]) Z R (a.setIfInBounds (b+j) x) (by
    rw[jFu,h,<-n,jAu,jGm _ _ (jAg _),jHa];simp) (by rw[jAs];simp;lia) (by simpa using m)
   rw[e];simp
theorem kg5{Q Z R:List Nat}(h:b=Q.length)(g:Z.length=M.length):((Al it M).toList.zipIdx).foldl (λa x=>a.setIfInBounds (b+x.2) x.1) (Al it (Q++Z++R))=Al it (Q++M++R):=by apply jEd;have e:(Al it M).toList=M.map (kas_item it):=rfl;rw[e,ji4 b (M.map (kas_item it)) 0 (Q.map (kas_item it)) (Z.map (kas_item it)) (R.map (kas_item it)) _ (by unfold Al;simp) (by simp[h]) (by simp[g])];unfold Al;simp
theorem jd3{X o u r n:List Nat}(Q:X=o++u)(P:Y=r++n)(H:Srt key X)(G:Srt key Y)(m:Md key u r M)(L:∀x∈o,∀y∈Y,kl key x y)(q:∀x∈X,∀y∈n,kl key x y):Md key X Y (o++M++n):=by
 subst Q P;refine⟨?_,?_⟩
 ·refine((m.1.append_left o).append_right n).trans ?_;simp
 ·have⟨F,U,C⟩:=jBo.mp H;have⟨T,B,v⟩:=jBo.mp G;refine jBo.mpr ⟨jBo.mpr ⟨F,m.2,λx g y a=>?_⟩,B,λx g y a=>?_⟩
  ·rcases jAq.mp (m.1.mem_iff.mp a) with h |h
   ·exact C x g y h
   ·exact L x g y (jBk _ h)
  ·rcases jAq.mp g with h |h
   ·exact q x (jBk _ h) y a
   ·rcases jAq.mp (m.1.mem_iff.mp h) with h |h
    ·exact q x (jAn _ h) y a
    ·exact v x h y a
theorem wa7{m:Type}(P:SortSt->Prop){a:SortSt}{f:PUnit->StateT SortSt Sem m}{st:SortSt}{R:m->SortSt->Prop}(h:P a)(n:∀g,P g->Tr prog w A E s (f ⟨⟩) g R):Tr prog w A E s (set a >>= f) st R:=wn3 (n _ h)
theorem jf2{P X S:List Nat}(hi:i=P.length)(a:j=P.length+X.length):(Al it (P++X++S)).extract i j=Al it X:=by subst hi a;rw[Gu];congr 1;rw[jAu,List.drop_left,List.take_left]
theorem ju1{P X S:List Nat}{st:SortSt}{sa sb ae:Nat}(an:Ans prog w A s κ it key J)(hl:∀x∈P++X++Y++S,x<J)(F:Srt key X)(C:Srt key Y)(nx:1<=X.length)(ny:1<=Y.length)
  (G:kindOf st=κ)(u:arrOf st=Al it (P++X++Y++S))(hf:failedOf st=none)(e1:(pendingOf st)[i]? = some (sa,na,pw))(e2:(pendingOf st)[i+1]? = some (sb,nb,ae))(ha:sa=P.length)(aj:na=X.length)(hb:sb=P.length+X.length)(ai:nb=Y.length):
  Tr prog w A E s (mergeAt' i) st (λr o=>r=true/\kindOf o=κ/\failedOf o=none/\pendingOf o=((pendingOf st).setIfInBounds i (sa,na+nb,pw)).eraseIdxIfInBounds (i+1)/\∃Z,arrOf o=Al it (P++Z++S)/\Md key X Y Z):=by
 obtain⟨L,a',af,g',f'⟩:=st;have u:a'=Al it (P++X++Y++S):=u;subst u;have G:L=κ:=G;have hf:f'=none:=hf;subst G hf;refine Jj ?_;rw[e1,e2];refine wa7 (P:=λo=>o=SortSt.mk' L (Al it (P++X++Y++S)) ((af.setIfInBounds i (sa,na+nb,pw)).eraseIdxIfInBounds (i+1)) g' none) rfl λab g=>?_;subst ha aj hb ai;have lx:∀x∈X,x<J:=λx q=>hl x (by simp[q]);have ly:∀x∈Y,x<J:=λx q=>hl x (by simp[q]);have gy:∀j,j<Y.length->(P++X++Y++S)[P.length+X.length+j]? = Y[j]?:=λj hj=>by rw[jBu (by rw[jAs,jAs];lia),jBh (by rw[jAs];lia),jAs,jEx]
 have gx:∀j,j<X.length->(P++X++Y++S)[P.length+j]? = X[j]?:=λj hj=>by rw[jAu,jAu,jBh (by lia),jEx,jBu hj]
 obtain⟨y0,v⟩:∃y,Y[0]? = some y:=⟨_,jAa ny⟩;have ag:y0<J:=ly y0 (jBv v);refine Bf (l:=P++X++Y++S) (i:=P.length+X.length) ((gy 0 ny).trans v) ?_;have g1:=Wj (prog:=prog) (E:=E) (left:=false) (P:=P) (X:=X) (S:=Y++S) (st:=ab) (hint:=0) an (by rw[<-jAu];exact hl) F ag (by rw[g]) rfl rfl nx;rw[<-jAu]at g1;refine Aw g1 λr aa hr=>?_;obtain⟨rfl,k,rfl,q1,q2,q3⟩:=hr;have xy:∀x∈X.take k,∀y∈Y,kl key x y:=λx q y H=>J9 C v (kn4 (q2 x q)) y H;refine Ai (λh=>?_) (λh=>?_)
 ·have hk:X.length - k=0:=Nh h;rw[jDc (by lia)]at xy;refine Ab ⟨rfl,by rw[g],by rw[g],by rw[g],X++Y,by rw[g,<-jAu],List.Perm.refl _,jBo.mpr ⟨F,C,xy⟩⟩
 have hk:X.length - k≠0:=M4 h;obtain⟨x1,B⟩:∃x,X[X.length - 1]? = some x:=⟨_,jAa (by lia)⟩;have ah:x1<J:=lx x1 (jBv B);refine Bf (l:=P++X++Y++S) (i:=P.length+k+(X.length - k) - 1) (k:=x1) ?_ ?_
 ·rw[show P.length+k+(X.length - k) - 1=P.length+(X.length - 1) by lia];exact(gx _ (by lia)).trans B
 have g2:=Wj (prog:=prog) (E:=E) (left:=true) (P:=P++X) (X:=Y) (S:=S) (st:=aa) (base:=P.length+X.length) (hint:=Y.length - 1) an hl C ah (by rw[g]) (by rw[jAs]) rfl (by lia);refine Aw g2 λr U hr=>?_;obtain⟨rfl,m,rfl,p1,p2,p3⟩:=hr;have T:∀x∈X,∀y∈Y.drop m,kl key x y:=λx q y H=>O4 F B (jg1 (p3 y H)) x (by rw[jFf];exact q);refine Ai (λh=>?_) (λh=>?_)
 ·have hm:m=0:=Nh h;subst hm;refine Ab ⟨rfl,by rw[g],by rw[g],by rw[g],X++Y,by rw[g,<-jAu],List.Perm.refl _,jBo.mpr ⟨F,C,T⟩⟩
 have hm:m≠0:=M4 h;have eL:P++X++Y++S=(P++X.take k)++X.drop k++(Y++S):=by rw[jAu P (X.take k),jBm,<-jAu]
 have eR:P++X++Y++S=(P++X)++Y.take m++(Y.drop m++S):=by rw[<-jAu,jAu (P++X) (Y.take m),jBm]
 have eX:(Al it (P++X++Y++S)).extract (P.length+k) (P.length+X.length)=Al it (X.drop k):=by rw[eL];exact jf2 (by rw[jAs,jBd];lia) (by rw[jAs,jBd,jBr];lia)
 have eY:(Al it (P++X++Y++S)).extract (P.length+X.length) (P.length+X.length+m)=Al it (Y.take m):=by rw[eR];exact jf2 (by rw[jAs]) (by rw[jAs,jBd];lia)
 have first:∀a b,(X.drop k)[0]? = some a->(Y.take m)[0]? = some b->kl key b a:=λa b h1 h2=>by rw[jEu (by lia),v]at h2;cases h2;exact kn3 (q3 a (jBv h1))
 have top:∀x∈Y.take m,∀y,(X.drop k)[(X.drop k).length - 1]? = some y->kl key x y:=λx q y H=>by rw[jBr,jGx,show k+(X.length - k - 1)=X.length - 1 by lia,B]at H;cases H;exact jg2 (p2 x q)
 have l1:∀x∈X.drop k,x<J:=λx q=>lx x (jDl q);have l2:∀x∈Y.take m,x<J:=λx q=>ly x (jDk q);have z1:1<=(X.drop k).length:=by rw[jBr];lia
 have z2:1<=(Y.take m).length:=by rw[jBd];lia
 have ml:=ju3 (prog:=prog) (E:=E) (st:=U) an l1 l2 F.drop C.take z1 z2 first top (by rw[g])
 have mh:=ju2 (prog:=prog) (E:=E) (st:=U) an l1 l2 F.drop C.take z1 z2 first top (by rw[g])
 rw[<-eX,<-eY]at ml mh;refine Ai (λ_=>Aw ml λM n hM=>?_) (λ_=>Aw mh λM n hM=>?_)
 all_goals
  obtain⟨kp,M,rfl,md⟩:=hM;have hz:(X.drop k++Y.take m).length=M.length:=md.1.length_eq.symm;refine Kg (Jj (Ab ⟨?_,?_,?_,?_,X.take k++M++Y.drop m,?_,jd3 (jBm k X).symm (jBm m Y).symm F C md xy T⟩))
  ·show(failedOf n).isNone=true;rw[kp.fail,g];rfl
  ·show kindOf n=_;rw[kp.kind,g]
  ·show failedOf n=_;rw[kp.fail,g]
  ·show pendingOf n=_;rw[kp.pend,g]
  ·have ea:arrOf n=Al it ((P++X.take k)++(X.drop k++Y.take m)++(Y.drop m++S)):=by rw[kp.arr,g];show Al it (P++X++Y++S)=_;congr 1;rw[eL];simp only[jAu];rw[<-jAu (Y.take m) (Y.drop m),jBm]
   have ef:=kg5 (it:=it) (Q:=P++X.take k) (Z:=X.drop k++Y.take m) (R:=Y.drop m++S) (M:=M) (b:=P.length+k) (by rw[jAs,jBd];lia) hz;rw[<-ea]at ef;refine Eq.trans ef ?_;congr 1;simp
end
variable {q:List Nat}{src:Nat}
section
variable {key:Nat->O.α}
structure At(it:Array Keyed)(st0 st:SortSt)(p:List Nat):Prop where
 kind:kindOf st=kindOf st0
 arr:arrOf st=Al it p
 pend:pendingOf st=pendingOf st0
 fail:failedOf st=failedOf st0
theorem Gs{h:Type}{x:Nat}{p:List Nat}{st0 st:SortSt}{f:Option Bool->StateT SortSt Sem h}{R:h->SortSt->Prop}(an:Ans prog w A s κ it key J)(hl:∀x∈p,x<J)(g:kindOf st0=κ)(a:At it st0 st p)(n:p[i]? = some x)(m:p[j]? = some y)
  (o:Tr prog w A E s (f (some (ltO key x y))) st R):Tr prog w A E s (ltAt' i j >>= f) st R:=by
 rw[ltAt'_eq];simp only[bind_assoc];refine Jj ?_;rw[a.arr];exact Bf n (Bf m (jf1 an (hl x (jBv n)) (hl y (jBv m)) (a.kind.trans g) o))
def Sg(key:Nat->O.α)(p:List Nat)(lo hi:Nat):Prop:=∀i j x y,lo<=i->i<=j->j<hi->p[i]? = some x->p[j]? = some y->kl key x y
def Lk(p q:List Nat)(lo hi:Nat):Prop:=q.Perm p/\∀i,i<lo\/hi<=i->q[i]? = p[i]?
theorem Lk.refl(p:List Nat)(lo hi:Nat):Lk p p lo hi:=⟨List.Perm.refl _,λ_ _=>rfl⟩
theorem Lk.trans{p r:List Nat}(g:Lk p q lo hi)(a:Lk q r lo hi):Lk p r lo hi:=⟨a.1.trans g.1,λi hi=>(a.2 i hi).trans (g.2 i hi)⟩
theorem Lk.lt{p:List Nat}(h:Lk p q lo hi)(hl:∀x∈p,x<J):∀x∈q,x<J:=λx a=>hl x (h.1.mem_iff.mp a)
def bub(p:List Nat)(src d:Nat):List Nat:=(bubble p.toArray src d).toList
theorem wa9(p:List Nat)(src d:Nat):bubble (Al it p) src d=Al it (bub p src d):=by
 have e:Al it p=p.toArray.map (kas_item it):=by unfold Al;simp
 have a:Al it (bub p src d)=(bubble p.toArray src d).map (kas_item it):=by unfold Al bub;apply jEd;simp
 rw[e,a];exact kas_swaps_map (kas_item it) (λk=>src - k) (λk=>src - k - 1) _ p.toArray
theorem jy6{p:List Nat}{d:Nat}(a:src<p.length)(g:d<=src)(k:Nat):(bub p src d)[k]? = if k=src - d then p[src]? else if src - d<k/\k<=src then p[k - 1]? else p[k]?:=by have:=getElem?_bubble (xs:=p.toArray) (src:=src) (by simpa using a) d g k;unfold bub;rw[jDw,this];simp
theorem wn9{p:List Nat}{d:Nat}(a:src<p.length)(m:lo<=src - d)(hd2:d<=src)(h:src<hi):Lk p (bub p src d) lo hi:=by
 refine⟨?_,λi g=>?_⟩
 ·have:=jFv.mp (bubble_perm p.toArray src d);simpa[bub] using this
 ·rw[jy6 a hd2,if_neg (by lia),if_neg (by lia)]
theorem wo0{p:List Nat}{k l x:Nat}(v:lo+k<p.length)(hl:l<=k)(n:p[lo+k]? = some x)(o:Sg key p lo (lo+k))(C:∀i y,lo<=i->i<lo+l->p[i]? = some y->kl key y x)(B:∀i y,lo+l<=i->i<lo+k->p[i]? = some y->kl key x y):Sg key (bub p (lo+k) (k - l)) lo (lo+k+1):=by
 have g:=jy6 v (show k - l<=lo+k by lia);rw[show lo+k - (k - l)=lo+l by lia]at g;intro i j y z hi r H h a;rw[g]at h a;by_cases u:i=lo+l
 ·rw[if_pos u,n]at h;cases h;by_cases m:j=lo+l
  ·rw[if_pos m,n]at a;cases a;exact KeyOrd.kle_refl _
  ·rw[if_neg m,if_pos (by lia)]at a;exact B (j - 1) z (by lia) (by lia) a
 ·rw[if_neg u]at h;by_cases G:lo+l<i
  ·rw[if_pos (by lia)]at h;rw[if_neg (by lia),if_pos (by lia)]at a;exact o (i - 1) (j - 1) y z (by lia) (by lia) (by lia) h a
  ·rw[if_neg (by lia)]at h;by_cases m:j=lo+l
   ·rw[if_pos m,n]at a;cases a;exact C i y hi (by lia) h
   ·rw[if_neg m]at a;by_cases F:lo+l<j
    ·rw[if_pos (by lia)]at a;exact o i (j - 1) y z hi (by lia) (by lia) h a
    ·rw[if_neg (by lia)]at a;exact o i j y z hi r (by lia) h a
theorem ke8{n ok:Nat}{p:List Nat}{st0 st:SortSt}(an:Ans prog w A s κ it key J)(hl:∀x∈p,x<J)(Q:kindOf st0=κ)(a:At it st0 st p)(hn:lo+n<=p.length)(ab:ok<=n)(hs:Sg key p lo (lo+ok)):
  Tr prog w A E s (binarySort' lo n ok) st (λr g=>r=true/\∃q,Lk p q lo (lo+n)/\At it st0 g q/\Sg key q lo (lo+n)):=by
 rw[binarySort'_eq];refine Aw (R:=λc g=>c.1=none/\∃q,Lk p q lo (lo+n)/\At it st0 g q/\Sg key q lo (lo+n)) ?_ λc g Z=>?_
 ·refine Ey (I:=λk c g=>c=(none,())/\∃q,Lk p q lo (lo+n)/\At it st0 g q/\Sg key q lo (lo+k)) (λk c g af ae v=>?_) (λc g v=>?_) ⟨rfl,p,Lk.refl _ _ _,a,λi j x y hi U hj ex ey=>?_⟩
  ·obtain⟨rfl,q,G,a',F⟩:=v;have hq:q.length=p.length:=G.1.length_eq;have u:lo+k<q.length:=by lia
   obtain⟨x,hx⟩:∃x,q[lo+k]? = some x:=⟨_,jAa u⟩;refine Aw (R:=λc m=>∃l,c=(none,l,l)/\At it st0 m q/\l<=k/\(∀i y,lo<=i->i<lo+l->q[i]? = some y->kl key y x)/\(∀i y,lo+l<=i->i<lo+k->q[i]? = some y->kl key x y)) ?_ λc m Z=>?_
   ·refine Ey (I:=λx2 c m=>∃l r,c=(none,l,r)/\At it st0 m q/\l<=r/\r<=k/\r - l<=k - x2/\(∀i y,lo<=i->i<lo+l->q[i]? = some y->kl key y x)/\(∀i y,lo+r<=i->i<lo+k->q[i]? = some y->kl key x y)) (λx2 c m _ aa v=>?_) (λc m v=>?_) ⟨0,k,rfl,a',by lia,by lia,by lia,λi y B C=>by lia,λi y B C=>by lia⟩
    ·obtain⟨l,r,rfl,o,g1,g2,P,L,H⟩:=v;refine Ai (λh=>?_) (λh=>?_)
     ·have h:l≥r:=h;have e:r=l:=by lia
      subst e;exact Ab ⟨r,rfl,o,by lia,L,H⟩
     ·have h:¬ l≥r:=h;obtain⟨y,T⟩:∃y,q[lo+(l+r) / 2]? = some y:=⟨_,jAa (by lia)⟩;refine Gs an (G.lt hl) Q o hx T ?_;refine Ai (λh'=>?_) (λh'=>?_)
      ·refine Ab ⟨l,(l+r) / 2,rfl,o,by lia,by lia,by lia,L,λi z B C ez=>?_⟩;exact Gx (Gw h') (F _ i y z (by lia) B C T ez)
      ·refine Ab ⟨(l+r) / 2+1,r,rfl,o,by lia,by lia,by lia,λi z B C ez=>?_,H⟩;exact Gx (F i _ z y B (by lia) (by lia) ez T) (Fz (by simpa using h'))
    ·obtain⟨l,r,rfl,o,g1,g2,P,L,H⟩:=v;rw[show max 0 k=k by lia]at P;have:r=l:=by lia
     subst this;exact⟨r,rfl,o,by lia,L,H⟩
   ·obtain⟨l,rfl,o,g1,g2,P⟩:=Z;refine Kg (Ab ⟨rfl,bub q (lo+k) (k - l),G.trans (wn9 u (by lia) (by lia) (by lia)),⟨o.kind,?_,o.pend,o.fail⟩,?_⟩)
    ·show bubble (arrOf m) (lo+k) (lo+k - (lo+l))=_;rw[o.arr,show lo+k - (lo+l)=k - l by lia,wa9]
    ·exact wo0 u g1 hx F g2 P
  ·obtain⟨rfl,q,G,a',F⟩:=v;exact⟨rfl,q,G,a',λi j x y B C h3=>F i j x y B C (by lia)⟩
  ·by_cases h:ok=0
   ·have e:i=j:=by lia
    subst e;rw[ex]at ey;cases ey;exact KeyOrd.kle_refl _
   ·exact hs i j x y hi U (by lia) ex ey
 ·obtain⟨e,h⟩:=Z;obtain⟨c1,c2⟩:=c;cases e;exact Ab ⟨rfl,h⟩
end
variable {v nrem:Nat}
section
variable {key:Nat->O.α}
def mir(p:List Nat)(i j:Nat):List Nat:=(mirror p.toArray i j ((j - i) / 2)).toList
theorem wg4(p:List Nat)(i j:Nat):mirror (Al it p) i j ((j - i) / 2)=Al it (mir p i j):=by
 have e:Al it p=p.toArray.map (kas_item it):=by unfold Al;simp
 have a:Al it (mir p i j)=(mirror p.toArray i j ((j - i) / 2)).map (kas_item it):=by unfold Al mir;apply jEd;simp
 rw[e,a];exact kas_swaps_map (kas_item it) (λk=>i+k) (λk=>j - 1 - k) _ p.toArray
theorem Oz{p:List Nat}(a:j<=p.length)(k:Nat):(mir p i j)[k]? = if i<=k/\k<j then p[i+j - 1 - k]? else p[k]?:=by have:=getElem?_mirror_all (xs:=p.toArray) (i:=i) (j:=j) (by simpa using a) k;unfold mir;rw[jDw,this];simp
theorem Ma{p:List Nat}(m:lo<=i)(h:j<=hi)(a:j<=p.length):Lk p (mir p i j) lo hi:=by
 refine⟨?_,λk g=>?_⟩
 ·have:=jFv.mp (mirror_perm p.toArray i j ((j - i) / 2));simpa[mir] using this
 ·rw[Oz a,if_neg (by lia)]
def Ek(key:Nat->O.α)(p:List Nat)(i j:Nat):Prop:=∀a b x y,i<=a->a<j->i<=b->b<j->p[a]? = some x->p[b]? = some y->key x=key y
def Ds(key:Nat->O.α)(p:List Nat)(lo hi:Nat):Prop:=∀a b x y,lo<=a->a<=b->b<hi->p[a]? = some x->p[b]? = some y->kl key y x
theorem Lz{p:List Nat}(n:j<=p.length)(o:Ek key p i j){a x:Nat}(h:(mir p i j)[a]? = some x):∃m,p[a]? = some m/\key m=key x:=by
 rw[Oz n]at h;by_cases c:i<=a/\a<j
 ·rw[if_pos c]at h;have g:a<p.length:=by lia
  exact⟨_,jAa g,o a _ _ _ c.1 c.2 (by lia) (by lia) (jAa g) h⟩
 ·rw[if_neg c]at h;exact⟨x,h,rfl⟩
theorem jc0{p:List Nat}(m:j<=p.length)(n:Ek key p i j)(C:Ds key p lo hi):Ds key (mir p i j) lo hi:=λa b x y H G F P L=>by have⟨r,h,B⟩:=Lz m n P;have⟨o,g,u⟩:=Lz m n L;have:=C a b r o H G F h g;unfold kl at this ⊢;rwa [B,u]at this
theorem jc1{p:List Nat}(m:hi<=p.length)(n:Ds key p lo hi):Sg key (mir p lo hi) lo hi:=λa b x y u r o h g=>by rw[Oz m,if_pos (by lia)]at h g;exact n _ _ y x (by lia) (by lia) (by lia) g h
theorem ww2{p:List Nat}{n u:Nat}(o:Sg key p lo (lo+n))(hn:1<=n)(H:p[lo+n - 1]? = some u)(B:p[lo+n]? = some v)(h:kl key u v):Sg key p lo (lo+n+1):=λa b x y r G L g m=>by
 by_cases C:b=lo+n
 ·rw[C,B]at m;cases m;by_cases F:a=lo+n
  ·rw[F,B]at g;cases g;exact KeyOrd.kle_refl _
  ·exact Gx (o a (lo+n - 1) x u r (by lia) (by lia) g H) h
 ·exact o a b x y r G (by lia) g m
theorem Ng{p:List Nat}{n u:Nat}(o:Ds key p lo (lo+n))(hn:1<=n)(H:p[lo+n - 1]? = some u)(B:p[lo+n]? = some v)(h:kl key v u):Ds key p lo (lo+n+1):=λa b x y r G L g m=>by
 by_cases C:b=lo+n
 ·rw[C,B]at m;cases m;by_cases F:a=lo+n
  ·rw[F,B]at g;cases g;exact KeyOrd.kle_refl _
  ·exact Gx h (o a (lo+n - 1) x u r (by lia) (by lia) g H)
 ·exact o a b x y r G (by lia) g m
theorem ww3(p:List Nat)(lo:Nat):Sg key p lo (lo+1):=λa b x y o n m g h=>by rw[show a=b by lia,h]at g;cases g;exact KeyOrd.kle_refl _
theorem We(p:List Nat)(lo:Nat):Ek key p lo (lo+1):=λa b x y r o n m g h=>by rw[show a=b by lia,h]at g;cases g;rfl
theorem jh8{p:List Nat}(h:Ek key p lo hi):Ds key p lo hi:=λa b x y m r g o n=>by have:=h a b x y m (by lia) (by lia) g o n;unfold kl;rw[this];exact KeyOrd.kle_refl _
theorem Le{m:Type}{p:List Nat}{st0 st:SortSt}{f:PUnit->StateT SortSt Sem m}{R:m->SortSt->Prop}(a:At it st0 st p)(h:∀g,At it st0 g (mir p i j)->Tr prog w A E s (f ⟨⟩) g R):Tr prog w A E s (reverseSlice' i j >>= f) st R:=by rw[reverseSlice'_eq];refine Kg (h _ ⟨a.kind,?_,a.pend,a.fail⟩);show mirror (arrOf st) i j ((j - i) / 2)=_;rw[a.arr,wg4]
abbrev AS1:=Option (Option Nat)×Nat
theorem M6{a:Nat}{st0 st:SortSt}{f:Nat->AS1->StateT SortSt Sem (ForInStep AS1)}
  (hf:∀x n g u v,At it st0 g q->q[lo+n - 1]? = some u->q[lo+n]? = some v->Tr prog w A E s (f x (none,n)) g (λr B=>At it st0 B q/\r=if ltO key v u=true then .done (none,n) else .yield (none,n+1)))
  (at_:At it st0 st q)(h1:1<=a)(h2:a<=nrem)(hz:lo+nrem<=q.length)(U:Sg key q lo (lo+a)):
  Tr prog w A E s (forIn [a:nrem] ((none,a):AS1) f) st (λc o=>∃m,c=(none,m)/\At it st0 o q/\a<=m/\m<=nrem/\Sg key q lo (lo+m)/\(m<nrem->∃u v,q[lo+m - 1]? = some u/\q[lo+m]? = some v/\ltO key v u=true)):=by
 refine Ey (I:=λx c o=>c=(none,x)/\At it st0 o q/\Sg key q lo (lo+x)) (λx c g F T G=>?_) (λc g G=>?_) ⟨rfl,at_,U⟩
 ·obtain⟨rfl,P,C⟩:=G;obtain⟨u,L⟩:∃u,q[lo+x - 1]? = some u:=⟨_,jAa (by lia)⟩;obtain⟨v,H⟩:∃v,q[lo+x]? = some v:=⟨_,jAa (by lia)⟩;refine Ld (hf x x g u v P L H) λr B Z=>?_;obtain⟨Q,rfl⟩:=Z;by_cases h:ltO key v u=true
  ·rw[if_pos h];exact⟨x,rfl,Q,F,by lia,C,λ_=>⟨u,v,L,H,h⟩⟩
  ·rw[if_neg h];exact⟨rfl,Q,ww2 C (by lia) L H (Fz (by simpa using h))⟩
 ·obtain⟨rfl,P,C⟩:=G;exact⟨_,rfl,P,by lia,by lia,C,λh=>by lia⟩
end
section
variable {key:Nat->O.α}
theorem ws9{p:List Nat}(n:j<=p.length)(o:Ek key p i j){a:Nat}(h:Ek key p a b):Ek key (mir p i j) a b:=λc d x y L H G F Q P=>by have⟨u,m,C⟩:=Lz n o Q;have⟨r,g,B⟩:=Lz n o P;rw[<-C,<-B];exact h c d u r L H G F m g
theorem ko7{p:List Nat}{st0 st:SortSt}(an:Ans prog w A s κ it key J)(hl:∀x∈p,x<J)(T:kindOf st0=κ)(a:At it st0 st p)(h1:1<=nrem)(hz:lo+nrem<=p.length):
  Tr prog w A E s (countRun' lo nrem) st (λr Z=>∃m q,r=some m/\1<=m/\m<=nrem/\Lk p q lo (lo+nrem)/\At it st0 Z q/\Sg key q lo (lo+m)):=by
 refine Aw (M6 (key:=key) (q:=p) (λx n ag u v L C G=>?_) a (jAg 1) h1 hz (ww3 p lo)) λc ag hc=>?_
 ·refine Gs an hl T L G C ?_;refine Ai (λh=>?_) (λh=>?_)
  ·exact Ab ⟨L,by rw[if_pos h]⟩
  ·exact Ab ⟨L,by rw[if_neg h]⟩
 obtain⟨m,rfl,L,m1,m2,sg,hb⟩:=hc;refine Ai (λh=>?_) (λh=>?_)
 ·exact Ab ⟨m,p,rfl,m1,m2,Lk.refl _ _ _,L,sg⟩
 have hm:m≠nrem:=M4 h;have⟨u,v,C,G,ba⟩:=hb (by lia);obtain⟨x0,bb⟩:∃x,p[lo]? = some x:=⟨_,jAa (by lia)⟩;refine Ai (λh=>Gs an hl T L bb C (Ai (λh'=>?_) (λh'=>Le L λbh a3=>?_))) (λh=>?_)
 ·exact Ab ⟨m,p,rfl,m1,m2,Lk.refl _ _ _,L,sg⟩
 ·have U:Ek key p lo (lo+m):=λc d x y c1 c2 d1 d2 ex ey=>by
   have aq:∀c x,lo<=c->c<lo+m->p[c]? = some x->key x=key x0:=λc x c1 c2 ex =>
    KeyOrd.kle_antisymm (Gx (sg c (lo+m - 1) x u c1 (by lia) (by lia) ex C) (Fz (by simpa using h'))) (sg lo c x0 x (jAg _) c1 c2 bb ex)
   rw[aq c x c1 c2 ex,aq d y d1 d2 ey]
  have F:lo+m<=p.length:=by lia
  have o:Lk p (mir p lo (lo+m)) lo (lo+nrem):=Ma (jAg _) (by lia) F;have ak:=ws9 F U U;have ab:(mir p lo (lo+m))[lo+m]? = some v:=by rw[Oz F,if_neg (by lia)];exact G
  obtain⟨u2,H⟩:∃x,(mir p lo (lo+m))[lo+m - 1]? = some x:=⟨_,jAa (by rw[o.1.length_eq];lia)⟩;have ku:kl key v u2:=by have⟨u',ae,k'⟩:=Lz F U H;rw[C]at ae;cases ae;have:=Gw ba;unfold kl at this ⊢;rwa [k']at this
  generalize mir p lo (lo+m)=q at *
  have az:Ds key q lo (lo+(m+1)):=Ng (jh8 ak) m1 H ab ku;have ay:Ek key q (lo+(m+1) - (0+1)) (lo+(m+1)):=by rw[show lo+(m+1) - (0+1)=lo+m by lia];exact We q (lo+m)
  refine Lf ?_;refine Aw (R:=λc Z=>∃n g q,c=(none,n,g)/\Lk p q lo (lo+nrem)/\At it st0 Z q/\m+1<=n/\n<=nrem/\g+1<=n/\Ds key q lo (lo+n)/\Ek key q (lo+n - (g+1)) (lo+n)) ?_ λc aj hc=>?_
  ·refine Ey (I:=λx c Z=>∃g q,c=(none,x,g)/\Lk p q lo (lo+nrem)/\At it st0 Z q/\g+1<=x/\Ds key q lo (lo+x)/\Ek key q (lo+x - (g+1)) (lo+x)) (λx c aj ax bf hI=>?_) (λc aj hI=>?_) ⟨0,q,rfl,o,a3,by lia,az,ay⟩
   ·obtain⟨g,q,rfl,o,Q,g1,ds,U⟩:=hI;have zq:q.length=p.length:=o.1.length_eq;obtain⟨u,C⟩:∃u,q[lo+x - 1]? = some u:=⟨_,jAa (by lia)⟩;obtain⟨v,G⟩:∃v,q[lo+x]? = some v:=⟨_,jAa (by lia)⟩;refine Gs an (o.lt hl) T Q G C ?_;refine Ai (λh=>?_) (λh=>?_)
    ·have aa:=Gw h;have ao:∀q:List Nat,Ek key q (lo+(x+1) - (0+1)) (lo+(x+1)):=λq=>by rw[show lo+(x+1) - (0+1)=lo+x by lia];exact We q (lo+x)
     refine Ai (λh'=>Le Q λaw a5=>?_) (λh'=>?_)
     ·have F:lo+x<=q.length:=by lia
      have P:Lk q (mir q (lo+x - (g+1)) (lo+x)) lo (lo+nrem):=Ma (by lia) (by lia) F;obtain⟨u2,H⟩:∃y,(mir q (lo+x - (g+1)) (lo+x))[lo+x - 1]? = some y:=⟨_,jAa (by rw[P.1.length_eq];lia)⟩;have ab:(mir q (lo+x - (g+1)) (lo+x))[lo+x]? = some v:=by rw[Oz F,if_neg (by lia)];exact G
      have ku:kl key v u2:=by have⟨u',ae,k'⟩:=Lz F U H;rw[C]at ae;cases ae;have:=aa;unfold kl at this ⊢;rwa [k']at this
      exact Ab ⟨0,_,rfl,o.trans P,a5,by lia,Ng (jc0 F U ds) (by lia) H ab ku,ao _⟩
     ·exact Ab ⟨0,q,rfl,o,Q,by lia,Ng ds (by lia) C G aa,ao _⟩
    ·refine Gs an (o.lt hl) T Q C G ?_;refine Ai (λh'=>?_) (λh'=>?_)
     ·exact Ab ⟨x,g,q,rfl,o,Q,ax,by lia,g1,ds,U⟩
     ·have e:key v=key u:=O.total _ _ (by simpa using h) (by simpa using h');have aa:kl key v u:=by unfold kl;rw[e];exact KeyOrd.kle_refl _
      refine Ab ⟨g+1,q,rfl,o,Q,by lia,Ng ds (by lia) C G aa,?_⟩;rw[show lo+(x+1) - (g+1+1)=lo+x - (g+1) by lia];have ai:∀c y,lo+x - (g+1)<=c->c<lo+(x+1)->q[c]? = some y->key y=key u:=λc y c1 c2 ec=>by
       by_cases hc:c=lo+x
       ·rw[hc,G]at ec;cases ec;exact e
       ·exact U c (lo+x - 1) y u c1 (by lia) (by lia) (by lia) ec C
      exact λc d y z c1 c2 d1 d2 ec ed=>(ai c y c1 c2 ec).trans (ai d z d1 d2 ed).symm
   ·obtain⟨g,q,rfl,o,Q,g1,ds,U⟩:=hI;exact⟨_,g,q,rfl,o,Q,by lia,by lia,g1,ds,U⟩
  obtain⟨n,g,q,rfl,o,Q,n1,n2,g1,ds,U⟩:=hc;have zq:q.length=p.length:=o.1.length_eq;have F:lo+n<=q.length:=by lia
  refine Ai (λh'=>Le Q λaw a5=>Le a5 λau a6=>?_) (λh'=>Le Q λau a6=>?_)
  ·have P:Lk q (mir q (lo+n - (g+1)) (lo+n)) lo (lo+nrem):=Ma (by lia) (by lia) F;have ah:lo+n<=(mir q (lo+n - (g+1)) (lo+n)).length:=by rw[P.1.length_eq];exact F
   have B:=(o.trans P).trans (Ma (i:=lo) (j:=lo+n) (hi:=lo+nrem) (jAg lo) (by lia) ah);have af:=jc1 ah (jc0 F U ds);generalize mir (mir q (lo+n - (g+1)) (lo+n)) lo (lo+n)=r at *
   refine Aw (M6 (key:=key) (q:=r) (λx n ag u v L C G=>?_) a6 (by lia) n2 (by rw[B.1.length_eq];exact hz) af) λc ar hc=>?_
   ·refine Gs an (B.lt hl) T L G C ?_;refine Ai (λh=>?_) (λh=>?_)
    ·exact Ab ⟨L,by rw[if_pos h]⟩
    ·exact Ab ⟨L,by rw[if_neg h]⟩
   obtain⟨k,rfl,a7,k1,k2,sg,_⟩:=hc;exact Ab ⟨k,r,rfl,by lia,k2,B,a7,sg⟩
  ·have B:=o.trans (Ma (i:=lo) (j:=lo+n) (hi:=lo+nrem) (jAg lo) (by lia) F);have af:=jc1 F ds;generalize mir q lo (lo+n)=r at *
   refine Aw (M6 (key:=key) (q:=r) (λx n ag u v L C G=>?_) a6 (by lia) n2 (by rw[B.1.length_eq];exact hz) af) λc ar hc=>?_
   ·refine Gs an (B.lt hl) T L G C ?_;refine Ai (λh=>?_) (λh=>?_)
    ·exact Ab ⟨L,by rw[if_pos h]⟩
    ·exact Ab ⟨L,by rw[if_neg h]⟩
   obtain⟨k,rfl,a7,k1,k2,sg,_⟩:=hc;exact Ab ⟨k,r,rfl,by lia,k2,B,a7,sg⟩
 ·have bg:m=1:=by have:¬ m>1:=h;lia
  have ak:Ek key p lo (lo+m):=by rw[bg];exact We p lo
  have o:Lk p p lo (lo+nrem):=Lk.refl _ _ _;obtain⟨q,hq⟩:∃q,q=p:=⟨p,rfl⟩;have ku:=Gw ba;have a3:=L;have H:=C;have ab:=G;have bc:=o;clear hb h
  replace o:Lk p q lo (lo+nrem):=by rw[hq];exact bc
  replace ak:Ek key q lo (lo+m):=by rw[hq];exact ak
  replace a3:At it st0 ag q:=by rw[hq];exact a3
  replace H:q[lo+m - 1]? = some u:=by rw[hq];exact H
  replace ab:q[lo+m]? = some v:=by rw[hq];exact ab
  have az:Ds key q lo (lo+(m+1)):=Ng (jh8 ak) m1 H ab ku;have ay:Ek key q (lo+(m+1) - (0+1)) (lo+(m+1)):=by rw[show lo+(m+1) - (0+1)=lo+m by lia];exact We q (lo+m)
  refine Lf ?_;refine Aw (R:=λc Z=>∃n g q,c=(none,n,g)/\Lk p q lo (lo+nrem)/\At it st0 Z q/\m+1<=n/\n<=nrem/\g+1<=n/\Ds key q lo (lo+n)/\Ek key q (lo+n - (g+1)) (lo+n)) ?_ λc aj hc=>?_
  ·refine Ey (I:=λx c Z=>∃g q,c=(none,x,g)/\Lk p q lo (lo+nrem)/\At it st0 Z q/\g+1<=x/\Ds key q lo (lo+x)/\Ek key q (lo+x - (g+1)) (lo+x)) (λx c aj ax bf hI=>?_) (λc aj hI=>?_) ⟨0,q,rfl,o,a3,by lia,az,ay⟩
   ·obtain⟨g,q,rfl,o,Q,g1,ds,U⟩:=hI;have zq:q.length=p.length:=o.1.length_eq;obtain⟨u,C⟩:∃u,q[lo+x - 1]? = some u:=⟨_,jAa (by lia)⟩;obtain⟨v,G⟩:∃v,q[lo+x]? = some v:=⟨_,jAa (by lia)⟩;refine Gs an (o.lt hl) T Q G C ?_;refine Ai (λh=>?_) (λh=>?_)
    ·have aa:=Gw h;have ao:∀q:List Nat,Ek key q (lo+(x+1) - (0+1)) (lo+(x+1)):=λq=>by rw[show lo+(x+1) - (0+1)=lo+x by lia];exact We q (lo+x)
     refine Ai (λh'=>Le Q λaw a5=>?_) (λh'=>?_)
     ·have F:lo+x<=q.length:=by lia
      have P:Lk q (mir q (lo+x - (g+1)) (lo+x)) lo (lo+nrem):=Ma (by lia) (by lia) F;obtain⟨u2,H⟩:∃y,(mir q (lo+x - (g+1)) (lo+x))[lo+x - 1]? = some y:=⟨_,jAa (by rw[P.1.length_eq];lia)⟩;have ab:(mir q (lo+x - (g+1)) (lo+x))[lo+x]? = some v:=by rw[Oz F,if_neg (by lia)];exact G
      have ku:kl key v u2:=by have⟨u',ae,k'⟩:=Lz F U H;rw[C]at ae;cases ae;have:=aa;unfold kl at this ⊢;rwa [k']at this
      exact Ab ⟨0,_,rfl,o.trans P,a5,by lia,Ng (jc0 F U ds) (by lia) H ab ku,ao _⟩
     ·exact Ab ⟨0,q,rfl,o,Q,by lia,Ng ds (by lia) C G aa,ao _⟩
    ·refine Gs an (o.lt hl) T Q C G ?_;refine Ai (λh'=>?_) (λh'=>?_)
     ·exact Ab ⟨x,g,q,rfl,o,Q,ax,by lia,g1,ds,U⟩
     ·have e:key v=key u:=O.total _ _ (by simpa using h) (by simpa using h');have aa:kl key v u:=by unfold kl;rw[e];exact KeyOrd.kle_refl _
      refine Ab ⟨g+1,q,rfl,o,Q,by lia,Ng ds (by lia) C G aa,?_⟩;rw[show lo+(x+1) - (g+1+1)=lo+x - (g+1) by lia];have ai:∀c y,lo+x - (g+1)<=c->c<lo+(x+1)->q[c]? = some y->key y=key u:=λc y c1 c2 ec=>by
       by_cases hc:c=lo+x
       ·rw[hc,G]at ec;cases ec;exact e
       ·exact U c (lo+x - 1) y u c1 (by lia) (by lia) (by lia) ec C
      exact λc d y z c1 c2 d1 d2 ec ed=>(ai c y c1 c2 ec).trans (ai d z d1 d2 ed).symm
   ·obtain⟨g,q,rfl,o,Q,g1,ds,U⟩:=hI;exact⟨_,g,q,rfl,o,Q,by lia,by lia,g1,ds,U⟩
  obtain⟨n,g,q,rfl,o,Q,n1,n2,g1,ds,U⟩:=hc;have zq:q.length=p.length:=o.1.length_eq;have F:lo+n<=q.length:=by lia
  refine Ai (λh'=>Le Q λaw a5=>Le a5 λau a6=>?_) (λh'=>Le Q λau a6=>?_)
  ·have P:Lk q (mir q (lo+n - (g+1)) (lo+n)) lo (lo+nrem):=Ma (by lia) (by lia) F;have ah:lo+n<=(mir q (lo+n - (g+1)) (lo+n)).length:=by rw[P.1.length_eq];exact F
   have B:=(o.trans P).trans (Ma (i:=lo) (j:=lo+n) (hi:=lo+nrem) (jAg lo) (by lia) ah);have af:=jc1 ah (jc0 F U ds);generalize mir (mir q (lo+n - (g+1)) (lo+n)) lo (lo+n)=r at *
   refine Aw (M6 (key:=key) (q:=r) (λx n ag u v L C G=>?_) a6 (by lia) n2 (by rw[B.1.length_eq];exact hz) af) λc ar hc=>?_
   ·refine Gs an (B.lt hl) T L G C ?_;refine Ai (λh=>?_) (λh=>?_)
    ·exact Ab ⟨L,by rw[if_pos h]⟩
    ·exact Ab ⟨L,by rw[if_neg h]⟩
   obtain⟨k,rfl,a7,k1,k2,sg,_⟩:=hc;exact Ab ⟨k,r,rfl,by lia,k2,B,a7,sg⟩
  ·have B:=o.trans (Ma (i:=lo) (j:=lo+n) (hi:=lo+nrem) (jAg lo) (by lia) F);have af:=jc1 F ds;generalize mir q lo (lo+n)=r at *
   refine Aw (M6 (key:=key) (q:=r) (λx n ag u v L C G=>?_) a6 (by lia) n2 (by rw[B.1.length_eq];exact hz) af) λc ar hc=>?_
   ·refine Gs an (B.lt hl) T L G C ?_;refine Ai (λh=>?_) (λh=>?_)
    ·exact Ab ⟨L,by rw[if_pos h]⟩
    ·exact Ab ⟨L,by rw[if_neg h]⟩
   obtain⟨k,rfl,a7,k1,k2,sg,_⟩:=hc;exact Ab ⟨k,r,rfl,by lia,k2,B,a7,sg⟩
end
variable {pre:List (Nat×Nat×Nat)}
section
variable {key:Nat->O.α}
def Runs(key:Nat->O.α)(p:List Nat):List (Nat×Nat×Nat)->Nat->Nat->Prop
 | [],a,b=>a=b
 |x::r,a,b=>x.1=a/\1<=x.2.1/\Sg key p a (a+x.2.1)/\Runs key p r (a+x.2.1) b
theorem Sg.like{p:List Nat}(h:Sg key p lo hi)(e:∀i,lo<=i->i<hi->q[i]? = p[i]?):Sg key q lo hi:=λi j x y g m a o n =>
 h i j x y g m a (by rw[<-e i g (by lia)];exact o) (by rw[<-e j (by lia) a];exact n)
theorem Runs.le{p:List Nat}:∀{r:List (Nat×Nat×Nat)}{a b:Nat},Runs key p r a b->a+r.length<=b
 | [],a,b,h=>by have:a=b:=h;simp;lia
 |x::r,a,b,h=>by have:=Runs.le h.2.2.2;have:=h.2.1;rw[jAy];lia
theorem Runs.like{p q:List Nat}:∀{r:List (Nat×Nat×Nat)}{a b:Nat},Runs key p r a b->(∀i,a<=i->i<b->q[i]? = p[i]?)->Runs key q r a b
 | [],a,b,h,_=>h
 |x::r,a,b,h,e=>by have n:=Runs.le h.2.2.2;exact⟨h.1,h.2.1,h.2.2.1.like λi m g=>e i m (by lia),Runs.like h.2.2.2 λi m g=>e i (by lia) g⟩
theorem Ju{p:List Nat}:∀{r t:List (Nat×Nat×Nat)}{a b:Nat},Runs key p (r++t) a b↔∃c,Runs key p r a c/\Runs key p t c b
 | [],t,a,b=>⟨λh=>⟨a,rfl,h⟩,λ⟨c,g,m⟩=>by have:a=c:=g;rw[this];exact m⟩
 |x::r,t,a,b=>by
  constructor
  ·intro h;have⟨c,g,m⟩:=Ju.mp h.2.2.2;exact⟨c,⟨h.1,h.2.1,h.2.2.1,g⟩,m⟩
  ·rintro⟨c,g,m⟩;exact⟨g.1,g.2.1,g.2.2.1,Ju.mpr ⟨c,g.2.2.2,m⟩⟩
theorem Runs.push{p:List Nat}{r:List (Nat×Nat×Nat)}{n:Nat}(h:Runs key p r 0 lo)(hn:1<=n)(a:Sg key p lo (lo+n)):Runs key p (r++[(lo,n,pw)]) 0 (lo+n):=Ju.mpr ⟨lo,h,rfl,hn,a,rfl⟩
theorem ww7{P X S:List Nat}(h:Srt key X):Sg key (P++X++S) P.length (P.length+X.length):=λi j x y a r o n m=>by
 have g:∀i,P.length<=i->i<P.length+X.length->(P++X++S)[i]? = X[i - P.length]?:=λi a r=>by rw[jAu,jBh a,jBu (by lia)]
 rw[g i a (by lia)]at n;rw[g j (by lia) o]at m;exact O3 h (by lia) n m
theorem ky3{p:List Nat}{n:Nat}(h:Sg key p lo (lo+n)):Srt key ((p.drop lo).take n):=by rw[Srt,jCx];intro i j hi a g;rw[jBd,jBr]at hi a;rw[jDo,jEl,jDo,jEl];exact h (lo+i) (lo+j) _ _ (by lia) (by lia) (by lia) (jAa (by lia)) (jAa (by lia))
theorem wh9{a:Type}(pre post:List a)(x y z:a):((pre++x::y::post).toArray.setIfInBounds pre.length z).eraseIdxIfInBounds (pre.length+1)=(pre++z::post).toArray:=by
 have h:pre.length+1<((pre++x::y::post).toArray.setIfInBounds pre.length z).size:=by simp
 unfold Array.eraseIdxIfInBounds;rw[dif_pos h];apply jEd;rw[Array.toList_eraseIdx,jFu];show((pre++x::y::post).set pre.length z).eraseIdx (pre.length+1)=pre++z::post;rw[jGm _ _ (jAg _),jHa];show(pre++z::y::post).eraseIdx (pre.length+1)=_;rw[List.eraseIdx_append_of_length_le (by lia)];simp
theorem ju4{p:List Nat}{st:SortSt}{post:List (Nat×Nat×Nat)}{x y:Nat×Nat×Nat}(an:Ans prog w A s κ it key J)(hl:∀x∈p,x<J)(T:kindOf st=κ)(o:arrOf st=Al it p)(hf:failedOf st=none)(U:pendingOf st=(pre++x::y::post).toArray)(hi:i=pre.length)(hb:b<=p.length)
  (hr:Runs key p (pre++x::y::post) 0 b):
  Tr prog w A E s (mergeAt' i) st (λr m=>r=true/\kindOf m=κ/\failedOf m=none/\∃q z,pendingOf m=(pre++z::post).toArray/\arrOf m=Al it q/\q.Perm p/\(∀j,b<=j->q[j]? = p[j]?)/\Runs key q (pre++z::post) 0 b):=by
 have⟨c,r1,r2⟩:=Ju.mp hr
 obtain⟨C,a,x3⟩:=x
 obtain⟨y1,g,y3⟩:=y
 obtain⟨B,hx,G,ey,hy,F,u⟩:=r2
 have B:C=c:=B
 have ey:y1=c+a:=ey
 have hx:1<=a:=hx
 have hy:1<=g:=hy
 have G:Sg key p c (c+a):=G
 have F:Sg key p (c+a) (c+a+g):=F
 have u:Runs key p post (c+a+g) b:=u
 have aa:c+a+g<=b:=by have:=u.le;lia
 have ep:p.take c++(p.drop c).take a++(p.drop (c+a)).take g++p.drop (c+a+g)=p:=by
  rw[<-jGu,<-jGu,jBm]
 have Q:(p.take c).length=c:=by rw[jBd];lia
 have L:((p.drop c).take a).length=a:=by rw[jBd,jBr];lia
 have lY:((p.drop (c+a)).take g).length=g:=by rw[jBd,jBr];lia
 have g1:(pendingOf st)[i]? = some (C,a,x3):=by rw[U,hi];simp
 have g2:(pendingOf st)[i+1]? = some (y1,g,y3):=by rw[U,hi];simp
 refine Ld (ju1 (P:=p.take c) (X:=(p.drop c).take a) (Y:=(p.drop (c+a)).take g) (S:=p.drop (c+a+g)) an (by rw[ep];exact hl) (ky3 G) (ky3 F) (by lia) (by lia) T (by rw[ep];exact o) hf g1 g2 (by rw[Q];exact B) L.symm (by rw[Q,L];exact ey) lY.symm) λr m h=>?_
 obtain⟨rfl,k1,k2,k3,Z,ea,H⟩:=h
 have lZ:Z.length=a+g:=by rw[H.1.length_eq,jAs,L,lY]
 have gq:∀j,j<c\/c+a+g<=j->(p.take c++Z++p.drop (c+a+g))[j]? = p[j]?:=λj n=>by
  rcases n with n |n
  ·rw[jBu (by rw[jAs];lia),jBu (by lia),jEu n]
  ·rw[jBh (by rw[jAs];lia),jAs,jGx]
   congr 1
   lia
 refine⟨rfl,k1,k2,_,(C,a+g,x3),?_,ea,?_,λj n=>gq j (by lia),?_⟩
 ·rw[k3,U,hi,wh9]
 ·conv=>rhs;rw[<-ep]
  refine List.Perm.append_right _ ?_
  rw[jAu]
  exact H.1.append_left _
 ·have sz:=ww7 (P:=p.take c) (S:=p.drop (c+a+g)) H.2
  rw[Q,lZ]at sz
  refine Ju.mpr ⟨c,r1.like λj _ n=>gq j (.inl n),B,by show 1<=a+g;lia,sz,?_⟩
  show Runs key _ post (c+(a+g)) b
  rw[<-Nat.add_assoc]
  exact u.like λj n _=>gq j (.inr n)
end
variable {pend:List (Nat×Nat×Nat)}
section
variable {key:Nat->O.α}
structure GS2(κ:SortKind)(it:Array Keyed)(key:Nat->O.α)(p:List Nat)(st:SortSt)(q:List Nat)(lo:Nat)(pend:List (Nat×Nat×Nat)):Prop where
 kind:kindOf st=κ
 fail:failedOf st=none
 arr:arrOf st=Al it q
 perm:q.Perm p
 pnd:pendingOf st=pend.toArray
 runs:Runs key q pend 0 lo
 le:lo<=p.length
theorem ww5{a:Type}{l:List a}(h:i+1<l.length):l=l.take i++l[i]::l[i+1]::l.drop (i+2):=by
 conv=>lhs;rw[<-jBm i l]
 rw[jBw (show i<l.length by lia),jBw h]
theorem Q0{p:List Nat}{st:SortSt}(an:Ans prog w A s κ it key J)(hl:∀x∈p,x<J)(g:GS2 κ it key p st q lo pend)(hi:i+1<pend.length):
  Tr prog w A E s (mergeAt' i) st (λr m=>r=true/\∃n a,GS2 κ it key p m n lo a/\a.length+1=pend.length/\(∀j,lo<=j->n[j]? = q[j]?)):=by
 have Q:=ww5 hi;have u:=g.pnd;have o:=g.runs;rw[Q]at u o;refine Ld (ju4 (b:=lo) an (λx H=>hl x (g.perm.mem_iff.mp H)) g.kind g.arr g.fail u (by rw[jBd];lia) (by have:=g.le;have:=g.perm.length_eq;lia) o) λr m h=>?_;obtain⟨P,G,F,n,z,U,T,C,L,B⟩:=h;refine⟨P,n,_,⟨G,F,T,C.trans g.perm,U,B,g.le⟩,?_,L⟩;rw[jAs,jBd,jAy,jBr];lia
theorem Lk.wide{p:List Nat}{a:Nat}(h:Lk p q lo hi)(g:hi<=a):Lk p q lo a:=⟨h.1,λi hi=>h.2 i (by lia)⟩
theorem Vq{p:List Nat}{st:SortSt}{n:Nat}(g:GS2 κ it key p st q lo pend)(a:Sg key q lo (lo+n))(m:1<=n)(h:lo+n<=p.length):GS2 κ it key p (setPending st ((pendingOf st).push (lo,n,0))) q (lo+n) (pend++[(lo,n,0)]):=
 ⟨g.kind,g.fail,g.arr,g.perm,by show(pendingOf st).push _=_;rw[g.pnd];simp,g.runs.push m a,h⟩
theorem wj5{x:Nat×Nat×Nat}{a:Nat}(h:Runs key q (pre++[x]) a b):Runs key q (pre++[(x.1,x.2.1,pw)]) a b:=by have⟨c,m,g⟩:=Ju.mp h;exact Ju.mpr ⟨c,m,g⟩
theorem Uw{a:Type}(f:a->a)(x:a):∀pre:List a,(pre++[x]).modify pre.length f=pre++[f x]
 | []=>rfl
 |y::pre=>by rw[jFc,jAy,List.modify_succ_cons,Uw f x pre];rfl
theorem ku8{p:List Nat}{st:SortSt}(g:GS2 κ it key p st q lo pend):∃a,GS2 κ it key p (setPending st ((pendingOf st).modify ((pendingOf st).size - 1) λx=>(x.1,x.2.1,pw))) q lo a:=by
 rcases jGn pend with e | ⟨pre,x,e⟩
 ·subst e;refine⟨[],g.kind,g.fail,g.arr,g.perm,?_,g.runs,g.le⟩;show(pendingOf st).modify ((pendingOf st).size - 1) (λx=>(x.1,x.2.1,pw))=_;rw[g.pnd];apply jEd;simp
 ·rw[jGo]at e;subst e;refine⟨pre++[(x.1,x.2.1,pw)],g.kind,g.fail,g.arr,g.perm,?_,wj5 g.runs,g.le⟩;show(pendingOf st).modify ((pendingOf st).size - 1) (λx=>(x.1,x.2.1,pw))=_;rw[g.pnd];apply jEd;rw[Array.toList_modify];simp;exact Uw _ x pre
theorem ky0{p:List Nat}{st:SortSt}(an:Ans prog w A s κ it key J)(hl:∀x∈p,x<J)(hN:1<=p.length)(g:GS2 κ it key p st p 0 []):
  Tr prog w A E s sortRuns' st (λ_ u=>failedOf u=none/\∃q,arrOf u=Al it q/\q.Perm p/\Sg key q 0 p.length):=by
 rw[sortRuns'_eq];refine Jj ?_;have sz:(arrOf st).size=p.length:=by rw[g.arr,Bp]
 rw[sz];refine Aw (R:=λc u=>c.1=none/\∃q pend,GS2 κ it key p u q p.length pend) ?_ λc u hc=>?_
 ·refine Ey (I:=λx c u=>∃q pend lo,c=(none,lo)/\GS2 κ it key p u q lo pend/\x<=lo) (λx c u _ hx P=>?_) (λc u P=>?_) ⟨p,[],0,rfl,g,by lia⟩
  ·obtain⟨q,pend,lo,rfl,g,ao⟩:=P;have ql:q.length=p.length:=g.perm.length_eq;refine Ai (λh=>?_) (λh=>?_)
   ·have h:lo≥p.length:=h;have e:lo=p.length:=by have:=g.le;lia
    exact Ab ⟨rfl,q,pend,by rw[<-e];exact g⟩
   have h:¬ lo≥p.length:=h;have lq:∀x∈q,x<J:=λx hx=>hl x (g.perm.mem_iff.mp hx);refine Aw (ko7 (lo:=lo) (nrem:=p.length - lo) (st0:=u) an lq g.kind ⟨rfl,g.arr,rfl,rfl⟩ (by lia) (by lia)) λr ae hr=>?_;obtain⟨m,q2,rfl,m1,m2,T,a2,ai⟩:=hr;have T:Lk q q2 lo p.length:=T.wide (by lia);have aq:q2.length=p.length:=T.1.length_eq.trans ql;refine Ai (λaa=>Lf (Aw (ke8 (lo:=lo) (n:=min (p.length - lo) (minRun' p.length p.length 0)) (ok:=m) (st0:=u) an (T.lt lq) g.kind a2 (by lia) (by have:m<minRun' p.length p.length 0:=aa;lia) ai) λr G hr=>?_)) (λaa=>?_)
   ·obtain⟨rfl,H,ak,a3,Z⟩:=hr;have aa:m<minRun' p.length p.length 0:=aa;have lk:Lk q H lo p.length:=T.trans (ak.wide (by lia));have n1:1<=min (p.length - lo) (minRun' p.length p.length 0):=by lia
    refine Ai (λh=>absurd h (by decide)) (λ_=>?_);have g3:GS2 κ it key p G H lo pend:=⟨a3.kind.trans g.kind,a3.fail.trans g.fail,a3.arr,lk.1.trans g.perm,a3.pend.trans g.pnd,g.runs.like (λi _ hi=>lk.2 i (.inl hi)),g.le⟩;refine Jj ?_;generalize hb:(pendingOf G).back? = ob;cases ob with
    |none=>exact Kg (Ab ⟨H,_,_,rfl,Vq g3 Z n1 (by lia),by lia⟩)
    |some x1 =>
     obtain⟨s1,L,w1⟩:=x1;refine Aw (R:=λc B=>c.1=none/\∃C a,GS2 κ it key p B C lo a/\(∀j,lo<=j->C[j]? = H[j]?)) ?_ λc B hc=>?_
     ·refine Ey (I:=λx c B=>c=(none,())/\∃C a,GS2 κ it key p B C lo a/\(∀j,lo<=j->C[j]? = H[j]?)) (λx c B _ hx P=>?_) (λc B P=>?_) ⟨rfl,H,pend,g3,λ_ _=>rfl⟩
      ·obtain⟨rfl,C,a,Q,U⟩:=P;refine Jj ?_;have zp:(pendingOf B).size=a.length:=by rw[Q.pnd];simp
       dsimp only;by_cases hs:(pendingOf B).size>1
       ·rw[if_pos hs];generalize (pendingOf B)[(pendingOf B).size - 2]? = o;cases o with
        |none=>exact Ab ⟨rfl,C,a,Q,U⟩
        |some y =>
         obtain⟨y1,y2,y3⟩:=y;refine Ai (λh=>?_) (λh=>?_)
         ·exact Ab ⟨rfl,C,a,Q,U⟩
         ·refine Aw (Q0 an hl Q (by lia)) λr aj hr=>?_;obtain⟨rfl,q5,F,g5,e5,ah⟩:=hr;exact Ab ⟨rfl,q5,F,g5,λj h=>(ah j h).trans (U j h)⟩
       ·rw[if_neg hs];exact Ab ⟨rfl,C,a,Q,U⟩
      ·obtain⟨rfl,h⟩:=P;exact⟨rfl,h⟩
     ·obtain⟨e,C,a,Q,U⟩:=hc;obtain⟨c1,c2⟩:=c;cases e;refine Kg (Kg (Ab ?_));have⟨F,g5⟩:=ku8 (pw:=power' p.length (2 * s1+L) (2 * s1+L+L+min (p.length - lo) (minRun' p.length p.length 0)) p.length) Q;exact⟨C,_,_,rfl,Vq g5 (Z.like λi h1 _=>U i h1) n1 (by lia),by lia⟩
   ·obtain⟨H,ag⟩:∃H,H=q2:=⟨q2,rfl⟩;obtain⟨G,ab⟩:∃G,G=ae:=⟨ae,rfl⟩;have lk:Lk q H lo p.length:=by rw[ag];exact T
    have a3:At it u G H:=by rw[ag,ab];exact a2
    have Z:Sg key H lo (lo+m):=by rw[ag];exact ai
    have n1:=m1;rw[<-ab];have g3:GS2 κ it key p G H lo pend:=⟨a3.kind.trans g.kind,a3.fail.trans g.fail,a3.arr,lk.1.trans g.perm,a3.pend.trans g.pnd,g.runs.like (λi _ hi=>lk.2 i (.inl hi)),g.le⟩;refine Jj ?_;generalize hb:(pendingOf G).back? = ob;cases ob with
    |none=>exact Kg (Ab ⟨H,_,_,rfl,Vq g3 Z n1 (by lia),by lia⟩)
    |some x1 =>
     obtain⟨s1,L,w1⟩:=x1;refine Aw (R:=λc B=>c.1=none/\∃C a,GS2 κ it key p B C lo a/\(∀j,lo<=j->C[j]? = H[j]?)) ?_ λc B hc=>?_
     ·refine Ey (I:=λx c B=>c=(none,())/\∃C a,GS2 κ it key p B C lo a/\(∀j,lo<=j->C[j]? = H[j]?)) (λx c B _ hx P=>?_) (λc B P=>?_) ⟨rfl,H,pend,g3,λ_ _=>rfl⟩
      ·obtain⟨rfl,C,a,Q,U⟩:=P;refine Jj ?_;have zp:(pendingOf B).size=a.length:=by rw[Q.pnd];simp
       dsimp only;by_cases hs:(pendingOf B).size>1
       ·rw[if_pos hs];generalize (pendingOf B)[(pendingOf B).size - 2]? = o;cases o with
        |none=>exact Ab ⟨rfl,C,a,Q,U⟩
        |some y =>
         obtain⟨y1,y2,y3⟩:=y;refine Ai (λh=>?_) (λh=>?_)
         ·exact Ab ⟨rfl,C,a,Q,U⟩
         ·refine Aw (Q0 an hl Q (by lia)) λr aj hr=>?_;obtain⟨rfl,q5,F,g5,e5,ah⟩:=hr;exact Ab ⟨rfl,q5,F,g5,λj h=>(ah j h).trans (U j h)⟩
       ·rw[if_neg hs];exact Ab ⟨rfl,C,a,Q,U⟩
      ·obtain⟨rfl,h⟩:=P;exact⟨rfl,h⟩
     ·obtain⟨e,C,a,Q,U⟩:=hc;obtain⟨c1,c2⟩:=c;cases e;refine Kg (Kg (Ab ?_));have⟨F,g5⟩:=ku8 (pw:=power' p.length (2 * s1+L) (2 * s1+L+L+m) p.length) Q;exact⟨C,_,_,rfl,Vq g5 (Z.like λi h1 _=>U i h1) n1 (by lia),by lia⟩
  ·obtain⟨q,pend,lo,rfl,g,ao⟩:=P;have e:lo=p.length:=by have:=g.le;lia
   exact⟨rfl,q,pend,by rw[<-e];exact g⟩
 ·obtain⟨e,q,pend,g⟩:=hc;obtain⟨c1,c2⟩:=c;cases e;refine Aw (R:=λc u=>c.1=none/\∃q pend,GS2 κ it key p u q p.length pend/\pend.length<=1) ?_ λc u hc=>?_
  ·refine Ey (I:=λx c u=>c=(none,())/\∃q pend,GS2 κ it key p u q p.length pend/\pend.length+x<=p.length+1) (λx c u _ hx P=>?_) (λc u P=>?_) ⟨rfl,q,pend,g,by have:=g.runs.le;lia⟩
   ·obtain⟨rfl,q,pend,g,hp⟩:=P;refine Jj ?_;have zp:(pendingOf u).size=pend.length:=by rw[g.pnd];simp
    refine Ai (λh=>?_) (λh=>?_)
    ·exact Ab ⟨rfl,q,pend,g,by have:(pendingOf u).size<=1:=h;lia⟩
    ·have h:¬ (pendingOf u).size<=1:=h;refine Aw (Q0 an hl g ?_) λr ae hr=>?_
     ·split
      ·lia
      ·lia
     ·obtain⟨rfl,q2,af,g2,e2,_⟩:=hr;exact Ab ⟨rfl,q2,af,g2,by lia⟩
   ·obtain⟨rfl,q,pend,g,hp⟩:=P;exact⟨rfl,q,pend,g,by lia⟩
  ·obtain⟨e,q,pend,g,hp⟩:=hc;obtain⟨c1,c2⟩:=c;cases e;refine Ab ⟨g.fail,q,g.arr,g.perm,?_⟩
   match pend,hp,g.runs with
   | [],_,h=>exact absurd (show 0=p.length from h) (by lia)
   | [x],_,h=>have e:0+x.2.1=p.length:=h.2.2.2;have:=h.2.2.1;rwa [e]at this
end
variable {a:Addr}{vs:List Value}
section
variable {key:Nat->O.α}
theorem ws7{n:Nat}{P:PySem.Fin->Shared->Prop}(ho:s.heap.get? a=some (seqObj "list" vs.toArray n))(ag:vs.length<=16777216)(q:Asks prog w A s a vs κ key)
  (h:∀(p:Array Nat)(h':Heap)(tk:Nat),Vr vs.length p->Vs key p vs.length->Cj a s.heap h'->(∃e,h'.get? a=some (seqObj "list" (jCg (p.toList.map λi=>vs.getD i .none)) e))->P (.done (.ret .none)) {s with heap:=h',toks:=tk}):
  wpAny (model prog w) A (Builtin.«list.sort» ⟨[.ref a],[]⟩) P E s:=by
 rw[list_sort_plain];have af:a<s.heap.objs.size:=jAr ho;have G:vs.toArray.size=vs.length:=jAo;refine jZa (listItems_at ho rfl ?_);refine jZa (listUpdate_at ho rfl ?_ (by rw[G,sizeLine_eq];lia) (jCr _));obtain⟨e1,F⟩:∃e1,(s.heap.update a (Obj.mapSeq λ_=>(#[]:Array Value))).get? a=some (seqObj "list" #[] e1):=⟨_,get?_update_seq ho λ_=>#[]⟩;refine jZa (seqEpoch_at F rfl ?_);refine jZa (wpAny_newTuple ?_ (by show vs.length<=_;rw[sizeLine_eq];lia));refine jZa (wpAny_newList ?_ (jCr _));refine wpAny_holding ?_;generalize eh:((s.heap.update a (Obj.mapSeq λ_=>(#[]:Array Value))).push {cls:=.type "tuple",data:=.seq (vs.toArray.toList).toArray}).push {cls:=.type "list",data:=.seq ([]:List Value).toArray}=o;have k1:Cj a s.heap o:=by rw[<-eh];exact((Cj.upd _ _).trans (Cj.push _ _)).trans (Cj.push _ _)
 have H:o.get? a=some (seqObj "list" #[] e1):=by rw[<-eh];exact jAc _ (jAc _ F)
 show wpAny (model prog w) A _ P E {s with heap:=o};clear eh F;dsimp only;by_cases h2:vs.length<2
 ·rw[if_pos (by rw[G];exact h2),if_pos (by rw[G];exact h2)];refine jZa (jZb ?_);rw[StateT.run_pure];refine jZa (jZb ?_);dsimp only;refine jZa (seqEpoch_at H rfl ?_);have eo:(arrOf (SortSt.mk' general' (vs.toArray.zip vs.toArray) #[] 7 none)).map (·.2)=vs.toArray:=kw0 vs;rw[eo];refine jZa (listUpdate_at H rfl ?_ (jCr _) (by show vs.toArray.size<=_;rw[G,sizeLine_eq];lia));simp only[bne_self_eq_false,jBn,if_false];refine jZb (h (jCg (List.range vs.length)) _ s.toks (List.Perm.refl _) (λi j U T=>by rw[show i=j by lia];exact KeyOrd.kle_refl _) (k1.trans (Cj.upd _ _)) ?_);rw[show(jCg (List.range vs.length)).toList=List.range vs.length from rfl,Xc];exact⟨_,get?_update_seq H λ_=>vs.toArray⟩
 ·rw[if_neg (by rw[G];exact h2),if_neg (by rw[G];exact h2)];have Z:2<=vs.length:=by lia
  refine jZa (wpAny_mono (q.kind Z {s with heap:=o} (λk L=>k=κ/\L = {s with heap:=o}) k1 ⟨rfl,rfl⟩) (λk L hk=>?_) λ_ _ z=>z.elim);obtain⟨rfl,rfl⟩:=hk;have ez:(vs.toArray.zip vs.toArray).size=vs.length:=by simp
  have ae:arrOf (SortSt.mk' k (vs.toArray.zip vs.toArray) #[] 7 none)=Al (vs.toArray.zip vs.toArray) (List.range vs.length):=by have e:=kas_range (vs.toArray.zip vs.toArray);rw[ez]at e;refine Eq.trans e.symm ?_;unfold Al;apply jEd;rw[Array.toList_map]
  have an:Ans (O:=O) prog w A {s with heap:=o} k (vs.toArray.zip vs.toArray) key vs.length:=λi j C tk hi T hC=>by unfold kas_cmp;rw[kat_item rfl,kat_item rfl];exact q.less Z i j {s with heap:=o,toks:=tk} C hi T k1 λB=>hC B
  have run:=ky0 (E:=E) (st:=SortSt.mk' k (vs.toArray.zip vs.toArray) #[] 7 none) an (p:=List.range vs.length) (λx hx=>jAt.mp hx) (by rw[jBb];lia) ⟨rfl,rfl,ae,List.Perm.refl _,rfl,rfl,jCr _⟩;refine jZa (wpAny_mono (run s.toks (λ_ m L=>∃p:Array Nat,arrOf m=p.map (kas_item (vs.toArray.zip vs.toArray))/\failedOf m=none/\(Vr vs.length p/\Vs key p vs.length)/\∃tk,L = {s with heap:=o,toks:=tk}) λu m B hr=>?_) ?_ λ_ _ z=>z)
  ·obtain⟨hf,r,er,pm,sg⟩:=hr;rw[jBb]at sg;refine⟨r.toArray,by rw[er];unfold Al;simp,hf,⟨by unfold Vr;exact pm,λi j U T=>?_⟩,B,rfl⟩;have hl:r.length=vs.length:=by rw[pm.length_eq,jBb]
   have g:∀i,i<vs.length->∃x,r[i]? = some x/\kk key r.toArray i=key x:=λi hi=>⟨_,jAa (by lia),by unfold kk;rw[List.getElem?_toArray,jAa (by lia)];rfl⟩;have⟨x,e1,e2⟩:=g i (by lia);have⟨y,e3,e4⟩:=g j T;rw[e2,e4];exact sg i j x y (by lia) U T e1 e3
  rintro⟨⟨⟩,m⟩ L ⟨p,ab,hf,⟨hp,hs⟩,tk,rfl⟩;dsimp only;have Q:=kat_snds rfl ab;have aa:(jCg (p.toList.map λi=>vs.getD i Value.none)).size=vs.length:=by rw[jAo,jAd,jCi,hp.size]
  rw[Q];refine jZa (seqEpoch_at H rfl ?_);refine jZa (listUpdate_at H rfl ?_ (jCr _) (by show(jCg (p.toList.map λi=>vs.getD i Value.none)).size<=_;rw[aa,sizeLine_eq];lia));rw[hf];simp only[bne_self_eq_false,jBn,if_false];exact jZb (h p _ tk hp hs (k1.trans (Cj.upd _ _)) ⟨_,get?_update_seq H λ_=>jCg (p.toList.map λi=>vs.getD i Value.none)⟩)
end
variable {u:Value}
variable {Q:Value->Shared->Prop}
section
variable {G:List Value->Prop}
theorem Oa(Z:je9 prog w A.in1 s u G)
  (ha:∀vs (h':Heap) B r,(∀b o,s.heap.get? b=some o->h'.get? b=some o)->G vs->vs.length<=16777216/\∃κ key,Asks (O:=Wz) prog w A.in1.in1 {s with heap:=h'.push (seqObj "list" vs.toArray 0),drawn:=r,toks:=B} h'.objs.size vs κ key /\
   ∀(p:Array Nat)(n:Heap) h,Vr vs.length p->Vs key p vs.length->(∀b o,h'.get? b=some o->n.get? b=some o)->(∃e,n.get? h'.objs.size=some (seqObj "list" (jCg (p.toList.map λi=>vs.getD i .none)) e))->Q (.ref h'.objs.size) {s with heap:=n,drawn:=r,toks:=h}):
  wpAny (model prog w) A (call (.builtin "sorted") [u]) Q E s:=by
 refine Calls.call_function_entry kind_sorted plain_sorted entry_sorted (args_sorted1 _) ?_;unfold Builtin.«sorted»;refine jZa (m:=checkCount "sorted" 1 1 _) (jZb ?_);refine jZa (Z _ _ λvs h' B r k P g=>?_);refine jZa (wpAny_newList ?_ P);have⟨C,κ,key,q,F⟩:=ha vs h' B r k g;have H:(h'.push (seqObj "list" vs.toArray 0)).get? h'.objs.size=some (seqObj "list" vs.toArray 0):=jAp _ rfl;show wpAny _ _ _ _ _ {s with heap:=h'.push (seqObj "list" vs.toArray 0),drawn:=r,toks:=B};refine jZa (wpAny_holding (wpAny_call_entry slot_list_sort ⟨_,H,rfl⟩ entry_list_sort ?_ (args_list_sort _)));refine ws7 H C q λp n h U T L e=>⟨_,rfl,?_⟩;refine jZb ⟨_,rfl,F p n h U T (λb o e=>?_) e⟩;exact L b o (jAv (jAr e)) (jAc _ e)
end
theorem wx7{b c:Addr}{Z:List Value}{ns ms:List Int}{P:PySem.Fin->Shared->Prop}(hx:IsTup s.heap b (jCg Z))(hy:IsTup s.heap c (jCg vs))(hu:IntsAre Z ns)(hv:IntsAre vs ms)(h:P (.done (.ret (.bool (Ef ns ms)))) s):
  wpAny (model prog w) A (Builtin.«tuple.__lt__» ⟨[.ref b,.ref c],[]⟩) P E s:=by
 obtain⟨o,ho,hc,n,hd⟩:=hx;obtain⟨o',aa,af,n',ae⟩:=hy;show wpAny _ _ (isInstance (.ref c) (.type "tuple") >>= _) _ _ s;refine jZa (wpAny_isInstance ⟨o',aa,af⟩ isSubtype_tuple_tuple ?_);simp only[jGa,jBn,if_false];refine jZa (wpAny_tupleItemsOf ho hd ?_);refine jZa (wpAny_tupleItemsOf aa ae ?_);refine jZa ?_;have l1:=Rq hu;have l2:=Rq hv;refine wpAny_forIn_list _
  (λT r s'=>r.1=none/\s'=s/\∃C B G H,T=List.zip C B/\IntsAre C G/\IntsAre B H/\Ef G H=Ef ns ms/\(decide (C.length<B.length))=decide (Z.length<vs.length))
  _ ?_ ?_ _ _ ⟨rfl,rfl,Z,vs,ns,ms,rfl,hu,hv,rfl,rfl⟩
 ·rintro⟨u,v⟩ T r s' ⟨hr,rfl,C,B,G,H,hz,U,L,g,F⟩;cases U with
  |nil=>simp at hz
  |cons n t ru =>
   cases L with
   |nil=>simp at hz
   |cons m t' rv =>
    simp only[jDi,List.cons.injEq,Prod.mk.injEq]at hz;obtain⟨⟨rfl,rfl⟩,rfl⟩:=hz;refine jZa (wpAny_eqBool_int ?_);by_cases e:n=m
    ·rw[show(n == m)=true from beq_iff_eq.mpr e];simp only[jGa,jBn,if_false];refine jZb ⟨rfl,rfl,_,_,_,_,rfl,ru,rv,?_,by simpa using F⟩;rw[<-g,Ef,if_pos e]
    ·rw[show(n == m)=false from beq_eq_false_iff_ne.mpr e];simp only[jHy,if_true];refine jZa (wpAny_rule ?_);have hq:Ef ns ms=decide (n<m):=by rw[<-g,Ef,if_neg e]
     rw[hq]at h;refine jZa (lt_int ?_);exact jZa (jZb (jZb (jZb h)))
 ·rintro⟨r1,r2⟩ s' ⟨hr,rfl,C,B,G,H,hz,U,L,g,F⟩;simp only at hr;subst hr;refine jZb ?_;have ab:decide (Z.length<vs.length)=Ef ns ms:=by
   rw[<-g,<-F];cases U with
   |nil =>
    cases L with
    |nil=>simp[Ef]
    |cons _ _ _=>simp[Ef]
   |cons _ _ _ =>
    cases L with
    |nil=>simp[Ef]
    |cons _ _ _=>simp at hz
  rw[<-ab]at h;show P (.done (.ret (.bool (decide (Z.toArray.size<vs.toArray.size))))) s';rw[jAo,jAo];exact h
inductive Hg(h:Heap)(a:Addr):List Value->List (List Int)->Prop
 |nil:Hg h a [] []
 |cons {u:Value} {ns:List Int} {us:List Value} {nss:List (List Int)}:jq6 h a u ns->Hg h a us nss->Hg h a (u::us) (ns::nss)
theorem Hg.keep{h h':Heap}(k:Cj a h h'):∀{m:List Value}{g:List (List Int)},Hg h a m g->Hg h' a m g
 |_,_,.nil=>.nil
 |_,_,.cons x r=>.cons (x.keep k) (Hg.keep k r)
variable {h:Heap}
theorem Hg.get:∀{m:List Value}{g:List (List Int)},Hg h a m g->∀{i:Nat},i<m.length->jq6 h a (m.getD i .none) (g.getD i [])
 |_,_,.cons x r,0,_=>by simpa using x
 |_,_,.cons _ r,i+1,hi=>by simpa using r.get (i:=i) (by simpa using hi)
theorem Hg.firsts{M:Model}{A:Around}{E:Value->Shared->Prop}{s:Shared}:∀{B:List Value}{g:List (List Int)}{Q:List (Option Value)->Shared->Prop},Hg s.heap a B g->(∀m:List (Option Value),m.length=B.length->(∀f,m[0]? = some f->g[0]? = some []->f=none)->Q m s)->wpAny M A (B.mapM firstOfTuple') Q E s
 |_,_,Q,.nil,h=>by rw[List.mapM_nil];exact jZb (h [] rfl λf z=>by simp at z)
 |_,_,Q,.cons (ns:=ns) x r,h=>by obtain⟨b,vs,rfl,_,⟨o,C,P,n,L⟩,hi⟩:=x;rw[List.mapM_cons];refine jZa ?_;rw[kas_first_eq];refine jZa (Looks.here (show Looks M s.heap (typeOf (.ref b)) o.cls from(Looks.ld C).andThen .now) ?_);rw[P,if_neg (by first |decide |simp)];refine jZa (listItems_at C L (jZb ?_));refine jZa (Hg.firsts r λm H _=>jZb (h _ (by simp[H]) λf G F=>?_));simp at G F;subst F;cases hi;rw[<-G];rfl
theorem Hg.looks{M:Model}:∀{B:List Value}{m:List (List Int)},Hg h a B m->∀v∈B,Looks M h (typeOf v) (.type "tuple")
 |_,_,.nil,v,g=>nomatch g
 |_,_,.cons x r,v,g=>by
  rcases jAe.mp g with rfl |g
  ·obtain⟨b,vs,rfl,_,⟨o,C,F,n,G⟩,hi⟩:=x;have:Looks M h (typeOf (.ref b)) o.cls:=(Looks.ld C).andThen .now;rwa [F]at this
  ·exact r.looks v g
theorem jq8{nss:List (List Int)}(hu:A.units<cLine)(h:Hg s.heap a vs ([]::nss)):Asks (O:=Wz) prog w A s a vs oneType' λi=>([]::nss).getD i [] where
 kind:=λh2 s' Q k q=>by
  have hk:=h.keep k;rw[kat_kind_eq,jHh,map_eq_pure_bind];refine jZa (jZa (hk.firsts λfs hl h0=>jZb ?_));obtain⟨f,fr,rfl⟩:∃f fr,fs=f::fr:=by
   cases fs with
   |nil=>simp at hl;lia
   |cons f fr=>exact⟨f,fr,rfl⟩
  have:f=none:=h0 f rfl rfl;subst this;rw[if_neg (by simp),if_neg (by simp)];rw[oneTypeOnly'_eq,jHh,map_eq_pure_bind];refine jZa (jZa (jZa (kas_mapM (r:=Value.type "tuple") _ (λv hv Q' hq=>(hk.looks v hv).here hq) (jZb ?_))));cases vs with
  |nil=>simp at h2
  |cons v vs =>
   have hall:((List.map (λ_=>Value.type "tuple") (v::vs)).toArray.all λx=>x == Value.type "tuple")=true:=by simp only[List.all_toArray,jGi,jAw];intro _ _;rfl
   have h0:(List.map (λ_=>Value.type "tuple") (v::vs)).toArray[0]? = some (Value.type "tuple"):=by simp
   rw[h0];simp only[hall,if_true];exact jZb (jZb q)
 less:=λ_ i j s' Q hi hj k q=>by have⟨b,us,e1,_,t1,h1⟩:=(h.keep k).get hi;have⟨b',us',e2,_,t2,h2⟩:=(h.keep k).get hj;rw[e1,e2,keyLt'_oneType,oneLt'_eq];simp only[if_true];refine jZa (wpAny_cRoomFor hu ?_);have ty:∀{b:Addr}{us:List Value},IsTup s'.heap b (jCg us)->∃o,s'.heap.get? b=some o/\o.cls=.type "tuple":=λ⟨o,ho,hc,_⟩=>⟨o,ho,hc⟩;refine jZa (wpAny_callSpecialIfBound?_slot (ty t1) F.slot_tuple_lt (wpAny_call_entry F.slot_tuple_lt (ty t1) F.entry_tuple_lt (wx7 t1 t2 h1 h2 ⟨_,rfl,?_⟩) (F.args_tuple_lt_2 _ _)));exact wpAny_truthy_bool (q s'.toks)
def Hq:D->Bool
 | .tup g=>(Ay g).isSome
 |_=>false
def X3:List D->Bool
 | .tup []::r=>r.all Hq
 |_=>false
variable {xs:List D}
theorem Z3(h:X3 xs=true):xs.all Hq=true/\∃r,xs=.tup []::r:=by
 unfold X3 at h;split at h
 ·exact⟨by rw[jFb,h];rfl,_,rfl⟩
 ·cases h
theorem jm9{a b:D}(B:Hq a=true)(r:Hq b=true)(e:keyOf a=keyOf b):a=b:=by
 cases a with
 |tup x =>
  cases b with
  |tup y =>
   cases o:Ay x with
   |none=>simp[Hq,o]at B
   |some n =>
    cases g:Ay y with
    |none=>simp[Hq,g]at r
    |some m=>simp[keyOf,jk1,o,g]at e;subst e;rw[Th o g]
  |_=>simp[Hq]at r
 |_=>simp[Hq]at B
theorem kt1(h:X3 xs=true){a b:D}(m:a∈xs)(g:b∈xs)(e:keyOf a=keyOf b):a=b:=by have h:=(Z3 h).1;rw[jAw]at h;exact jm9 (h a m) (h b g) e
theorem jo3{p:Array Nat}{key:Nat->Wz.α}(B:xs.length<2\/X3 xs=true)(o:∀i d,xs[i]? = some d->key i=keyOf d)(F:Vr xs.length p)(Z:Vs key p xs.length):
  p.toList.map (λi=>xs.getD i .non)=if xs.length<2 then xs else srt xs:=by
 have perm:(p.toList.map λi=>xs.getD i .non).Perm xs:=by
  have C:=F.map λi=>xs.getD i D.non;refine C.trans (List.Perm.of_eq ?_);apply jDf
  ·simp
  ·intro i C r;simp at C;simp[C]
 by_cases r:xs.length<2
 ·rw[if_pos r]
  match xs,r,perm with
  | [],_,perm=>exact List.perm_nil.mp perm
  | [x],_,perm=>exact jGt.mp perm
 ·rw[if_neg r];have G:X3 xs=true:=B.resolve_left r;refine eq_of_sorted (le:=λa b=>Gy a b=true) (perm.trans (El xs).symm) ?_ (Fv xs) λa ha b hb P L=>?_
  ·rw[jCx];intro i j hi T H;simp only[jAd,jCi]at hi T;have U:=F.size;have g:∀(k:Nat)(B:k<p.size),keyOf (xs.getD p[k] .non)=kk key p k:=λk B=>by
    have hm:p[k]∈p.toList:=by simp
    have n:p[k]<xs.length:=jAt.mp (F.mem_iff.mp hm);unfold kk;rw[jBx B,jBs,o p[k] xs[p[k]] (jAa n)];simp[n]
   have:=Z i j (jDx H) (by omega);simp only[jGe,jGr];unfold Gy;rw[g i hi,g j T];have m:Ef (kk key p j) (kk key p i)=false:=this;rw[m];rfl
  ·unfold Gy at P L;rw[jCk]at P L;exact kt1 G (perm.mem_iff.mp ha) (perm.mem_iff.mp hb) (Fp _ _ L P)
theorem jn0{X:Cx}{m:List (Addr×Obj)}{U:St}{H:Hp}{s:Shared}{S:AS}{a:Addr}(I:Inv X m U H s)(T:s.heap.objs.size<=a):∀{ds:List D}{vs:List V}{B:List Value},ds.all Hq=true->An X.K H S ds vs->Vals vs B ->
  ∃g,Hg s.heap a B g/\∀i d,ds[i]? = some d->g.getD i []=keyOf d
 | [],vs,B,_,h,r=>by cases(show vs=[] from h);cases r;exact⟨[],.nil,λi d h=>by simp at h⟩
 |d::ds,vs,B,L,h,r=>by
  rw[jFb,jBg]at L;revert h;refine Xe.Bu λv P F h1 h2=>?_;obtain rfl:=F;cases r with
  |cons r1 r2 =>
   refine Xe.Aq (λg q hk=>?_) (jn0 I T L.2 h2 r2)
   match d,L.1 with
   | .tup xs,hd =>
    revert h1;refine Xe.Bu λb ws n hq rr=>?_;obtain rfl:=n;have e1:_=Value.ref b:=r1;subst e1;refine Xe.G6 (λC Z p _=>?_) (I.tuple (TpR.sq hq));cases e:Ay xs with
    |none=>simp[Hq,e]at hd
    |some ns =>
     have hi:=ints_of rr Z e;have hb:b≠a:=by revert p;refine Xe.Aq λo ho _=>?_;exact jAv (jAx (jAr ho) T)
     refine⟨ns::g,.cons ⟨b,C,rfl,hb,p,hi⟩ q,λi y G=>?_⟩;cases i with
     |zero=>simp at G;subst G;simp[keyOf,jk1,e]
     |succ i=>simpa using hk i y (by simpa using G)
def sortedZ:List D->Option D
 | [d]=>match La d with
  |some xs=>if xs.length<=100000/\(xs.length<2\/X3 xs=true) then some (.lst (if xs.length<2 then xs else srt xs)) else none
  |none=>none
 |_=>none
variable {es:List Expr}{p pos:Pos}
section
variable {fs:Ev->R (List D)}
theorem kf0(hu:X.A.units+70<cLine):Eh X (.builtin "sorted") (rCF X.K sortedZ):=by
 rintro B s σ H ys us Q I r ⟨S,ds,d,rs,e,q⟩
 match ds,e with
 | [x],e =>
  obtain⟨v,rfl,rx⟩:=rs.one;obtain⟨u,rfl,ru⟩:=vals1 r;have go:∀(xs:List D)(a:Addr)(vs:List V)(its:List Value)(T:String)(o:Obj)(n:Nat),La x=some xs->(T = "list"\/T = "tuple")->u=.ref a->s.heap.get? a=some o->o.cls=.type T->o.data=.seq its.toArray n->Vals vs its->An X.K H S xs vs->vs.length<=sizeLine ->
    wpAny (model X.prog X.w) X.A (call (.builtin "sorted") [u]) (EP X B σ Q) X.xe s:=by
   intro xs a vs its T o n ex hT eu ho hc U L P hz;subst eu;have hl:=L.length;have aj:=P.length;simp only[sortedZ,ex]at e;obtain⟨⟨ao,hk⟩,rfl⟩:=Bj e;refine Oa (G:=λF=>F=its) (jg6 hT ho hc U (by rw[jAo];lia)) λF Z tk d' k g=>?_;subst g;have I1:Inv X B σ H {s with heap:=Z,drawn:=d',toks:=tk}:=Ou I k;have af:∀(key:Nat->Wz.α),(∀i d,xs[i]? = some d->key i=keyOf d)->∀(pr:Array Nat)(h2:Heap) ab,Vr F.length pr->Vs key pr F.length->(∀b o,Z.get? b=some o->h2.get? b=some o)->(∃e,h2.get? Z.objs.size=some (seqObj "list" (jCg (pr.toList.map λi=>F.getD i .none)) e)) ->
     EP X B σ Q (.ref Z.objs.size) {s with heap:=h2,drawn:=d',toks:=ab}:=λkey m pr h2 ab hp hs k2 e2=>by
    have en:F.length=xs.length:=by lia
    have:=jo3 hk m (by rw[<-en];exact hp) (by rw[<-en];exact hs);exact Qz I1 P L (by lia) hp k2 e2 λb ag H' s1 hb hv ah=>q b ag _ H' rfl s1 hb hv (by rw[<-this];exact ah)
   refine⟨by lia,?_⟩;by_cases h2:xs.length<2
   ·have aa:Asks (O:=Wz) X.prog X.w X.A.in1.in1 {s with heap:=Z.push (seqObj "list" F.toArray 0),drawn:=d',toks:=tk} Z.objs.size F oneType' (λi=>keyOf (xs.getD i .non)):=⟨λz=>by lia,λz=>by lia⟩;exact⟨_,_,aa,af _ λi d U=>by rw[jAi,U];rfl⟩
   ·have ak:=hk.resolve_left h2;have⟨ae,r,er⟩:=Z3 ak;have⟨ai,C,m⟩:=jn0 I1 (a:=Z.objs.size) (jAg _) ae P L;have h0:∃ms,ai=[]::ms:=by
     subst er;cases C with
     |nil=>exact absurd (aj.trans hl) (by rw[jAy,jGj];exact Nat.succ_ne_zero _)
     |cons x r=>have:=m 0 _ rfl;simp[keyOf,jk1,Ay]at this;exact⟨_,by rw[this]⟩
    obtain⟨ms,rfl⟩:=h0;exact⟨_,_,jq8 (by show X.A.units+1+1<cLine;lia) (Hg.keep (Cj.push _ _) C),af _ m⟩
  cases x with
  |lst xs=>obtain⟨a,vs,rfl,ha,P⟩:=rx;have⟨its,L,pl,hz⟩:=I.list ha.sq;obtain⟨o,ho,hc,n,U⟩:=pl.isList;exact go xs a vs its "list" o n rfl (.inl rfl) ru ho hc U L P hz
  |tup xs=>obtain⟨a,vs,rfl,ha,P⟩:=rx;have⟨its,L,pl,hz⟩:=I.tuple (TpR.sq ha);obtain⟨o,ho,hc,n,U⟩:=pl;exact go xs a vs its "tuple" o n rfl (.inr rfl) ru ho hc U L P hz
  |_=>simp[sortedZ,La]at e
theorem ky4(m:X.A.units+70<cLine)(n:X.mg "sorted" = none)(B:PAd X c l (e::es) fs)(o:Gl X "sorted":=by rfl)(r:starEach (e::es) X.env=(false,eval e X.env)::starEach es X.env:=by rfl)(g:(backTo pos (starEach es X.env)).any (·.1)=false:=by rfl):
  PEf X c l (.Call (.Name "sorted" p) (e::es) [] pos) (bA fs sortedZ):=kn6 (kf0 m) PyProof.Rows.boot_sorted n B o (by decide) (by decide) r g
theorem jo0:∀ρ d,bA fs sortedZ ρ=.ok d->∃n,d=.lst n:=λρ d h=>by
 unfold bA at h;cases g:fs ρ with
 |ok xs =>
  rw[g]at h;simp only[R.ok_bind]at h
  match xs,h with
  | [x],h =>
   unfold sortedZ at h;dsimp only at h;cases m:La x with
   |none=>rw[m]at h;cases h
   |some o =>
    rw[m]at h;dsimp only at h;split at h
    ·cases h;exact⟨_,rfl⟩
    ·cases h
  | [],h=>cases h
  |_::_::_,h=>cases h
 |exc _=>rw[g]at h;cases h
 |bad=>rw[g]at h;cases h
end
structure km2(X:Cx)(P:Addr):Prop where
 hd:∃c,X.env.code=.ref c/\CodeHd X.base c P
 bm:∃bm ob,X.mg "__builtins__" = some (.ref bm)/\bm≠builtinsNs/\X.base.get? bm=some ob/\ob.cls=.type "module"/\ob.dict=some builtinsNs/\ob.data=.plain
def jq2(H:Hp)(P c:Addr)(qual:Str):Prop:=∃g vs t,H c=some (.frz g (.own P))/\g.data=.fields vs/\vs[1]? = some (.str qual t)
variable {qual:Str}
theorem jq2.mono{H H':Hp}{P c:Addr}(h:jq2 H P c qual)(e:Ag H H'):jq2 H' P c qual:=by obtain⟨g,vs,t,n,m⟩:=h;exact⟨g,vs,t,e _ _ n,m⟩
variable {P:Addr}{H:Hp}{pins:List (Addr×Obj)}{σ:St}
theorem jq2.rec{Pr:Program}{c:Addr}(q:jq2 H P c qual)(ok:HOk Pr w H h):h.CodeRec (.ref c) qual:=by obtain⟨g,vs,t,o,n,m⟩:=q;exact⟨c,g,vs,t,rfl,(ok c _ o).1,n,m⟩
abbrev tbK(pos:Pos)(qual:Str):HO:=.tbl #[rawInt pos.line,rawInt pos.col,.str qual 0]
variable {Z:Expr}
theorem kt6{M:Model}{params:Arguments}{g:Scope}{B:List (Str×Addr)}(L:km2 X P)(I:Inv X pins σ H s)
  (hT:H P=some (tbK pos (X.env.qual ++ "<lambda>")))(ah:defaultsOf params X.env=([],[]))(aj:closureFor g X.env=pure B)
  (h:∀U F m H' s',Inv X pins σ H' s'->Ag H H'->H' U=none->s.heap.objs.size<=U->jq2 H' P F (X.env.qual ++ "<lambda>") ->
   s'.heap.get? U=some (kla_obj "<lambda>" (X.env.qual ++ "<lambda>") params Z g B ((X.mg "__name__").getD .none) F m)->Q (.ref U) s'):wpAny M A (eval (.Lambda params Z g pos) X.env) Q E s:=by
 obtain⟨⟨c,hc,C⟩,bm,ob,b1,b2,b3,b4,b5,b6⟩:=L;have⟨qs,e,z⟩:=I.hok P _ hT;have nb:∀{b:Addr}{o:Obj},X.base.get? b=some o->b≠P:=λ{b o} e z=>by have:=(I.bs _ _ e).2;rw[z,hT]at this;cases this
 have ao:mainGlobals≠P:=by obtain⟨o,es,ep,e,_⟩:=I.mod.glob;exact nb e
 have aq:bm≠mainGlobals:=λq=>by obtain⟨o,es,ep,e,hd,_⟩:=I.mod.glob;rw[q,e]at b3;cases b3;rw[hd]at b6;cases b6
 have hg:=I.mod.glob.keeps I.bk;have Ck:=C.keeps I.bk;have hb:s.heap.BuiltinsAt X.mg P:=⟨bm,ob,b1,b2,aq,nb b3,I.bk _ _ b3,b4,b5,b6⟩;refine kla_eval ah ?_;rcases z with rfl | ⟨l,cc,q,t,b,o,vs,t',e1,rfl,au,hd,hv⟩
 ·refine kla_makeFunction aj I.ok.glob hg hc Ck e trivial rfl ao hb λF m h' tk hx T aa af ab=>?_;obtain⟨c2,oc,vs,t,e2,ag,hd,hv⟩:=af;cases e2;have ai:H F=none:=I.hok.fresh T;have ne:∀{b:Addr}{u:HO},H b=some u->b≠F:=λq=>Bv q ai;have keep:∀b u,b≠P->s.heap.get? b=some u->(h'.push (kla_obj "<lambda>" (X.env.qual ++ "<lambda>") params Z g B ((X.mg "__name__").getD .none) F m)).get? b=some u:=λb u hb q=>jAc _ (hx b u hb q);have nP:∀b,H b=none->b≠P:=λb n z=>by rw[z,hT]at n;cases n
  have un:Un X.fs [] H (upd H F (.frz oc (.own P))) s.heap (h'.push (kla_obj "<lambda>" (X.env.qual ++ "<lambda>") params Z g B ((X.mg "__name__").getD .none) F m)):=by
   refine⟨λb u q n _ _=>keep b u (nP b n) q,λb u q n _ _=>⟨u.slots,keep b u (nP b n) q⟩,λb u q n _=>?_,λb u q _=>?_,λb xs q=>?_,λb u v q=>?_,λb ps q=>⟨#[],?_⟩⟩
   ·rw[Aj (jAv (jAx (jAr q) T))];exact n
   ·by_cases G:b=P
    ·subst G;exact⟨_,jAc _ ab⟩
    ·exact⟨u,keep b u G q⟩
   ·rw[Aj (ne q)];exact q
   ·rw[Aj (ne q)];exact q
   ·rw[Aj (ne q),q];simp
  have ok:HOk X.prog X.w (upd H F (.frz oc (.own P))) (h'.push (kla_obj "<lambda>" (X.env.qual ++ "<lambda>") params Z g B ((X.mg "__name__").getD .none) F m)):=λb u q=>by
   by_cases ak:b=F
   ·subst ak;rw[Ao]at q;cases q;exact⟨jAc _ ag,_,jAc _ ag⟩
   ·rw[Aj ak]at q;by_cases G:b=P
    ·subst G;rw[hT]at q;cases q;exact⟨_,jAc _ ab,.inr ⟨_,_,_,_,F,oc,vs,t,rfl,by simp,Ao,hd,hv⟩⟩
    ·refine(I.hok b u q).stay (λb2 v ar r=>keep b2 v (λz=>?_) r) (λb2 r=>by rw[Aj (ne r)];exact r) (λb2 xs r=>by rw[Aj (ne r)];exact r) λb2 o y r=>by rw[Aj (ne r)];exact r
     rcases ar with z2 |z2
     ·exact G (z2.symm.trans z)
     ·rw[z,hT]at z2;cases z2
  exact h h'.objs.size F m _ _ (I.un un ok) (Ar ai _) (by
   have hf:H h'.objs.size=none:=I.hok.fresh (jBt T (jDx aa));rw[Aj (jCq aa)];exact hf) (jBt T (jDx aa)) ⟨oc,vs,t,Ao,hd,hv⟩ (jAp _ rfl)
 ·have e2:=congrArg Array.toList e1;simp only[List.cons.injEq,Value.str.injEq,and_true]at e2;obtain⟨rfl,rfl,rfl,rfl⟩:=e2;refine kla_makeFunctionHit (cv:=.ref b) aj I.ok.glob hg hc Ck e (show TriplesOk [rawInt pos.line,rawInt pos.col,.ref b] from trivial) (by simp[codeAmong,rawInt]) hb λm h' tk hk ae=>?_;exact h h'.objs.size b m H _ (I.kept λb u q=>jAc _ (hk b u q)) (Ag.refl _) (I.hok.fresh ae) ae ⟨o,vs,t',au,hd,hv⟩ (jAp _ rfl)
def cxL(X:Cx)(A:Around)(N:List Str)(qual:Str)(g:Scope)(f:Addr)(cd:Value)(cl:List (Str×Addr))(s:Shared)(H:Hp):Cx:=
 {X with A:=A.deeper (envX qual g s.heap.objs.size f cd cl),N:=N,s₀:=s,H₀:=H,env:=envX qual g s.heap.objs.size f cd cl,outer:=X.stack,stack:=envX qual g s.heap.objs.size f cd cl::X.stack,ex:=[],fn:=λ_=>false,pn:=[],calm:=true,xe:=λ_ _=>False}
variable {caps:List Nat}{scope:Scope}{x:Str}
variable {L:Value->Shared->Prop}
section
variable {qual:Str}{f:Addr}{cd:Value}{v:V}
theorem we6(B:Gp X scope [x] caps)(ae:∀y∈scope.names,y.2≠.cell)(hx:scope.names.lookup x=some .local)(I:Inv X pins σ H s)(hA:A.frames=some X.stack)(hh:A.handled=none)(r:RelV v u){G:Heap}{tk:Nat}
  (ab:G.Ns s.heap.objs.size λy=>[(x,u)].reverse.lookup y)(keep:∀b o,s.heap.get? b=some o->G.get? b=some o):
  Inv (cxL X A (Ez X [x] caps) qual scope f cd (M9 scope X.env) s H) [] ((Jk [x] caps σ).set 0 (some v)) H {s with heap:=G,toks:=tk}:=by
 have C:∀{y a},(M9 scope X.env).lookup y=some a->X.env.cells.lookup y=some a:=λh=>(jr5 (PySem.mem_of_lookup h)).elim id λz=>by cases z
 refine⟨⟨I.ok.mod,B.kind,rfl,rfl,jAg _,λy z a G h2=>I.ok.inj y z a (C G) (C h2),λy hy=>?_,λy a hy h=>?_,λ_=>hh,Around.frames_deeper hA,.inr ⟨rfl,rfl⟩,λb U=>absurd (show b∈([]:List Addr) from U) (by simp),I.bs,jBt I.ok.bsz I.sz,λb o e U=>absurd (show b∈([]:List Addr) from U) (by simp),λb U=>absurd (show b∈([]:List Addr) from U) (by simp),I.stack,I.stkFree⟩,
  rfl,I.bare,Un.kept keep,⟨_,ab,λi y w G h2 h3=>?_⟩,λy a h=>?_,I.hok.fresh (jAg _),λy a h=>I.freeC y a (C h),λp hp=>absurd (show p∈([]:List (Addr×Obj)) from hp) (by simp),I.hok.kept keep,?_⟩
 ·have F:scope.names.lookup y=some .cell\/scope.names.lookup y=some .free:=hy;rcases F with h |h
  ·exact absurd rfl (ae (y,.cell) (PySem.mem_of_lookup h))
  ·have⟨a,ha⟩:=I.ok.has y (B.free (y,.free) (PySem.mem_of_lookup h) rfl);exact⟨a,G7 ha (.inl (PySem.mem_of_lookup h))⟩
 ·have F:false=true:=hy;cases F
 ·have g:(Ez X [x] caps)[i]? = some y:=G;have n:((Jk [x] caps σ).set 0 (some v))[i]? = some (some w):=h2;cases i with
  |zero =>
   have e1:x=y:=by unfold Ez at g;simpa using g
   subst e1;have T:v=w:=by unfold Jk at n;simpa using n
   subst T;exact⟨u,r,.inl ⟨hx,by simp⟩⟩
  |succ i =>
   rw[jAz (by lia)]at n;unfold Jk at n;unfold Ez at g;rw[jBh (by simp),jAd,jBa]at n;rw[jBh (by simp),jBa]at g;cases ej:caps[i+1 - [x].length]? with
   |none=>rw[ej]at g;cases g
   |some j =>
    rw[ej]at g n;refine Xe.wp5 (λz hz m1 m2 m3=>?_) (B.cap j (jBv ej));have g:some ((X.N[j]?).getD (Str.ofString ""))=some y:=g;rw[hz]at g;have e1:z=y:=Option.some.inj g;subst e1;have T:(σ[j]?).join=some w:=Option.some.inj n;have e3:σ[j]? = some (some w):=by
     cases q:σ[j]? with
     |none=>rw[q]at T;cases T
     |some o=>rw[q]at T;cases o with
      |none=>cases T
      |some w=>cases T;rfl
    refine Xe.Aq (λm hn af=>?_) (I.loc);have aa:Vis X.env.scope z:=by rcases m3 with q |q;exact .inr (.inl q);exact .inr (.inr q)
    refine Xe.Aq (λu' r' lk=>?_) (af j z w hz e3 aa);refine⟨u',r',.inr ⟨.inr m1,?_⟩⟩;rcases lk with ⟨k,_⟩ | ⟨k,a,ha,hc⟩
    ·rcases m3 with q |q<;>(have k':X.env.kindOf z=some .local:=k;rw[q]at k';cases k')
    ·exact⟨a,G7 ha (.inl (PySem.mem_of_lookup m1)),hc.keeps keep⟩
 ·have⟨c,q⟩:=I.cell y a (C h);exact⟨c,q.keeps keep⟩
 ·show((Jk [x] caps σ).set 0 (some v)).length=(Ez X [x] caps).length;simp[Jk,Ez]
variable {hs:List Hd}{ρ:Ev}{d m:D}{g:Ev->R D}
theorem wc6(E:Bg X.K c hs ρ σ H)(n:Mw c.O l caps=true)(G:Rep X.K H (lvS c ρ σ H l) d v):Bg X.K ⟨H,lvS c ρ σ H l,[],Gn,[]⟩ [] ((Ed 1 caps ρ).set 0 (some d)) ((Jk [x] caps σ).set 0 (some v)) H:=by
 have sub:∀o,lvS c ρ σ H l o->DC.N ⟨H,lvS c ρ σ H l,[],Gn,[]⟩ ((Ed 1 caps ρ).set 0 (some d)) ((Jk [x] caps σ).set 0 (some v)) o:=λo z=>⟨.inl z,λb _ ⟨j,U,_⟩=>by cases U⟩;refine⟨Ag.refl _,by rw[jHr,jHr,jf8,jg0];rfl,(λi d hi=>by cases hi),(λi j a hi=>by cases hi),λi d' hi r=>?_,(λP' C=>by cases C),(λb hb=>by cases hb)⟩;cases i with
 |zero =>
  have e:d=d':=by unfold Ed at r;simpa using r
  subst e;exact⟨v,by unfold Jk;simp,G.mono (Ag.refl _) sub⟩
 |succ i=>rw[jAz (by lia)]at r;have⟨T,j,F,ed⟩:=Vz r;have⟨w,ew,B⟩:=jn6 E n (jBv F) ed;exact⟨w,by rw[jAz (by lia)];exact jf9 T F ew,B.mono (Ag.refl _) sub⟩
theorem kt5{params:Arguments}{U c':Addr}{pm ae:Value}(B:Gp X scope [x] caps)(T:∀y∈scope.names,y.2≠.cell)(hx:scope.names.lookup x=some .local)(ag:scope.isCoroutine=false)(aa:scope.isGenerator=false)
  (I:Inv X pins σ H s)(hA:A.frames=some X.stack)(hh:A.handled=none)(C:A.depth<recursionLimit)(ho:s.heap.get? U=some (kla_obj "<lambda>" qual params Z scope (M9 scope X.env) pm c' ae))(hc:jq2 H P c' qual)
  (F:bindArgs (kla_fn "<lambda>" qual params Z scope (M9 scope X.env) pm (.ref c') ae) ⟨[u],[]⟩=pure [(x,u)])(r:RelV v u)
  (he:∀(s:Shared)(H:Hp)(H0:Hp)(S0:AS),PEd (cxL X A (Ez X [x] caps) qual scope U (.ref c') (M9 scope X.env) s H) ⟨H0,S0,[],Gn,[]⟩ .any Z g)
  (E:Bg X.K c hs ρ σ H)(ab:Mw c.O l caps=true)(rd:Rep X.K H (lvS c ρ σ H l) d v)(ef:g ((Ed 1 caps ρ).set 0 (some d))=.ok m)
  (hQ:∀y w n s',Inv X pins σ n s'->Ag H n->RelV y w->Rep X.K n (AS.plus (lvS c ρ σ H l) H) m y->Q w s'):wpAny (model X.prog X.w) A (call (.ref U) [u]) Q L s:=by
 refine wpAny_call (kla_callFunE C ho rfl ag aa rfl (hc.rec I.hok) ?_);rw[F];refine jZb (wpAny_newFunctionEnv T (λy hy=>?_) (λh1 af G=>⟨I.nolimit.fresh _ G,kla_codeExpr ?_⟩) B.kind)
 ·have:y=(x,u):=by simpa using hy
  subst this;exact hx
 ·have keep:∀b o,s.heap.get? b=some o->h1.get? b=some o:=λb o e=>G.extBut b o (jAv (jAr e)) (jAc _ e);have J:=we6 (qual:=qual) (f:=U) (cd:=.ref c') (tk:=s.toks+1) B T hx I hA hh r af keep;refine thx (E:=cNo) rfl (he s H H (lvS c ρ σ H l) [] _ _ _ (λy n=>Ag H n/\Rep X.K n (AS.plus (lvS c ρ σ H l) H) m y) J ⟨[],_,wc6 E ab rd,?_⟩) λw s' q=>?_
  ·rw[ef];exact λy n sm ry=>⟨sm,ry.mono (Ag.refl _) λo z=>z.elim .inl λ⟨a,e1,e2,_⟩=>.inr ⟨a,e1,e2⟩⟩
  ·obtain⟨y,n,J',ry,sm,rp⟩:=q;exact hQ y w n s' (I.call' (ch:=[]) J'.os J'.base J'.hok J'.bare λb hb=>nomatch hb) sm ry rp
end
variable {U:Addr}{ns:List Int}
variable {o:Obj}{t':Nat}{kf:Nat->Int}
section
variable {H0:Hp}{ps:List (Addr×Obj)}{h':Heap}
theorem Inv.repin{ps':List (Addr×Obj)}(I:Inv X ps σ H s)(h:∀p∈ps',p∈ps):Inv X ps' σ H s:=I.pins_of λp g=>I.pin p (jAn _ (h p g))
theorem Inv.turnP{it:Addr}{m:Obj}(I:Inv X ((it,o)::ps) σ H s)(B:X.s₀.heap.objs.size<=it)(r:∀p∈X.pn++ps,p.1≠it)(k:∀b u,b≠it->s.heap.get? b=some u->h'.get? b=some u)(G:h'.get? it=some m)(T:∀v,m.data≠.cell v):
  Inv X ((it,m)::ps) σ H {s with heap:=h',toks:=t'}:=by
 have⟨e,n,ne,F,d⟩:=I.pin (it,o) (jAn _ jAf);have J:Inv X ps σ H {s with heap:=h',toks:=t'}:=(Inv.repin (ps':=ps) I λp g=>jAb _ g).turned (t':=t') k n ne (.inr B) (λx c hc z=>by
  have⟨v,ob,C,h2⟩:=I.cell x c hc;rw[z,e]at C;cases C;exact d v h2) r
 refine J.pins_of λp g=>?_;rcases jAe.mp g with rfl |g
 ·exact⟨G,n,ne,F,T⟩
 ·exact J.pin p (jAn _ g)
theorem Inv.pinNew(I:Inv X ps σ H s)(k:∀b u,s.heap.get? b=some u->h'.get? b=some u)(g:s.heap.objs.size<=a)(n:h'.get? a=some o)(r:∀v,o.data≠.cell v):Inv X ((a,o)::ps) σ H {s with heap:=h',toks:=t'}:=by
 have J:Inv X ps σ H {s with heap:=h',toks:=t'}:=I.kept k;refine J.pins_of λp m=>?_;rcases jAe.mp m with rfl |m
 ·exact⟨n,I.hok.fresh g,jCq (jAx I.lt g),I.nofs g,r⟩
 ·exact J.pin p (jAn _ m)
theorem SqT.up{K:Frag}{xs:List V}(h:SqT K H a xs)(e:Ag H H0):SqT K H0 a xs:=by
 rcases h with (h | ⟨o,h⟩) |h
 ·exact .inl (.inl (e _ _ h))
 ·exact .inl (.inr ⟨o,e _ _ h⟩)
 ·exact .inr h
abbrev O7(n:Int)(t:Tok)(k:Int)(u:Tok)(c:Nat):Obj:=seqObj "list" #[.int n t,.int k u] c
theorem S5{T:Addr}(I:Inv X ps σ H s)(C:SqT X.K H T (ns.map V.int)):∃g:List Value,s.heap.IsTuple T g.toArray/\g.length=ns.length/\∀(j:Nat)(n:Int),ns[j]? = some n->∃t,g[j]? = some (Value.int n t):=by have⟨g,r,p,_⟩:=I.tuple C;refine⟨g,p,by have:=r.length;simpa using this.symm,λj n e=>?_⟩;have⟨u,B,m⟩:=r.get (i:=j) (show(ns.map V.int)[j]? = some (.int n) by rw[jBa,e];rfl);obtain⟨t,rfl⟩:=(show ∃t,u=Value.int n t from m);exact⟨t,B⟩
def Lst(kf:Nat->Int)(m i:Nat):Prop:=i<m/\∀j,j<m->kf i<=kf j/\(j<i->kf i<kf j)
theorem Lst.keep{m:Nat}(h:Lst kf m i)(g:¬ kf m<kf i):Lst kf (m+1) i:=by
 refine⟨by have:=h.1;lia,λj n=>?_⟩;by_cases e:j=m
 ·subst e;exact⟨by lia,λz=>absurd z (by have:=h.1;lia)⟩
 ·exact h.2 j (by lia)
theorem Lst.new{m:Nat}(h:Lst kf m i)(g:kf m<kf i):Lst kf (m+1) m:=by
 refine⟨by lia,λj n=>?_⟩;by_cases e:j=m
 ·subst e;exact⟨by lia,λz=>absurd z (by lia)⟩
 ·have:=(h.2 j (by lia)).1;exact⟨by lia,λ_=>by lia⟩
def km5(X:Cx)(σ:St)(ps:List (Addr×Obj))(H0:Hp)(ns:List Int)(kf:Nat->Int)(U:Addr):Prop:=
 ∀(j:Nat)(n:Int)(tt:Tok)(H:Hp)(s:Shared)(ps':List (Addr×Obj)),ns[j]? = some n->Ag H0 H->(∀p∈ps,p∈ps')->Inv X ps' σ H s ->
  wpAny (model X.prog X.w) X.A.in1 (call (.ref U) [.int n tt]) (λx m=>∃g t',x=.int (kf j) t'/\Inv X ps' σ g m/\Ag H g) (λ_ _=>False) s
variable {kf:Nat->Int}{T g S:Addr}{R:Result->Shared->Prop}
theorem wg5(hh:X.A.handled=none)(hT:SqT X.K H0 T (ns.map V.int))(ax:T≠g)(ab:S≠g)(ao:X.s₀.heap.objs.size<=S)(aq:X.s₀.heap.objs.size<=g)(C:∀p∈X.pn++ps,p.1≠S/\p.1≠g)(turn:km5 X σ ps H0 ns kf U)
  (aw:∀(i:Nat)(n:Int)(t:Tok)(H:Hp)(s:Shared),ns[i]? = some n->Lst kf ns.length i->Inv X ps σ H s->Ag H0 H->R (.ok (.ret (.int n t))) s):
  ∀(r m i:Nat)(H:Hp)(s:Shared)(n:Int)(t u:Tok)(c:Nat)(oI:Obj),ns.length - m=r->m<=ns.length->Ag H0 H->Inv X ((S,O7 n t (kf i) u c)::(g,oI)::ps) σ H s->s.heap.IsTupleIter g T m->ns[i]? = some n->Lst kf m i ->
   codeAny (model X.prog X.w) X.A (.builtin "min.loop" ⟨[.ref g,.ref U,.ref S],[]⟩) R s:=by
 have nm:(toString "min" ++ toString ".loop" : String) = "min.loop":=by decide
 intro r;induction r with
 |zero =>
  intro m i H s n t u c oI hr hm sm I af hn G;have em:m=ns.length:=by lia
  subst em;have⟨au,pl,il,_⟩:=S5 I (SqT.up hT sm);have pS:=I.pin (S,O7 n t (kf i) u c) (jAn _ jAf);refine codeAny_builtin PySem.F.entry_min_loop ?_;rw[Around.under_plainId PySem.F.plain_min_loop _];show wpAny _ X.A.in1 (seqItems? (.ref S) >>= _) _ _ s;refine jZa (wpAny_seqItems pS.1 rfl ?_);show wpAny _ X.A.in1 (tryCatch (pyNext (.ref g)) _ >>= _) _ _ s;refine jZa (wpAny_tryCatch (wpAny_pyNext_tuple_end hh af pl (by simp[il]) λh1 ex=>?_));have I0:Inv X ((g,oI)::(S,O7 n t (kf i) u c)::ps) σ H s:=Inv.repin I λp B=>by
   simp only[jAe]at B ⊢;rcases B with z |z |z
   ·exact .inr (.inl z)
   ·exact .inl z
   ·exact .inr (.inr z)
  have pI:=I0.pin (g,oI) (jAn _ jAf);have I1:Inv X ((S,O7 n t (kf i) u c)::ps) σ H {s with heap:=h1,toks:=s.toks}:=(Inv.repin (ps':=(S,O7 n t (kf i) u c)::ps) I λp B=>by
   simp only[jAe]at B ⊢;rcases B with z |z
   ·exact .inl z
   ·exact .inr (.inr z)).turned (t':=s.toks) (λb o hb e=>ex b o hb e) pI.2.1 pI.2.2.1 (.inr aq) (λx c hc z=>by
    have⟨v,ob,q1,q2⟩:=I.cell x c hc;rw[z,pI.1]at q1;cases q1;exact pI.2.2.2.2 v q2) λp B=>by
     rcases jAq.mp B with z |z
     ·exact(C p (jBk _ z)).2
     ·rcases jAe.mp z with z |z
      ·rw[z];exact ab
      ·exact(C p (jAn _ z)).2
  have ai:=I1.pin (S,O7 n t (kf i) u c) (jAn _ jAf);have sb:=Heap.SameBut.update h1 S (Obj.mapSeq λ_=>(#[]:Array Value));show wpAny _ X.A.in1 (updateSeq S (λ_=>#[]) >>= _) _ _ _;refine jZa (wpAny_updateSeq ai.1 rfl (jZa (wpAny_letGo (jZb ?_))));have I2:=Inv.turnP (t':=s.toks) I1 ao (λp B=>by
   rcases jAq.mp B with z |z
   ·exact(C p (jBk _ z)).1
   ·exact(C p (jAn _ z)).1) (λb v hb e=>(sb.2 b hb).trans e) (get?_update_seq ai.1 λ_=>#[]) (λv z=>by cases z)
  exact aw i n t H _ hn G (Inv.repin I2 λp B=>jAb _ B) sm
 |succ r ih =>
  intro m i H s n t u c oI hr hm sm I af hn G;have ae:m<ns.length:=by lia
  have⟨au,pl,il,at_⟩:=S5 I (SqT.up hT sm);have en:ns[m]? = some ns[m]:=jAa ae;have⟨t2,ev⟩:=at_ m _ en;have pS:=I.pin (S,O7 n t (kf i) u c) (jAn _ jAf);refine codeAny_builtin PySem.F.entry_min_loop ?_;rw[Around.under_plainId PySem.F.plain_min_loop _];show wpAny _ X.A.in1 (seqItems? (.ref S) >>= _) _ _ s;refine jZa (wpAny_seqItems pS.1 rfl ?_);show wpAny _ X.A.in1 (tryCatch (pyNext (.ref g)) _ >>= _) _ _ s;refine jZa (wpAny_tryCatch (wpAny_pyNext_tuple_item af pl (x:=.int ns[m] t2) (by simpa using ev) λh1 ak ar=>?_));have⟨aa,g1,g2,g3⟩:=id ak;have I0:Inv X ((g,oI)::(S,O7 n t (kf i) u c)::ps) σ H s:=Inv.repin I λp B=>by
   simp only[jAe]at B ⊢;rcases B with z |z |z
   ·exact .inr (.inl z)
   ·exact .inl z
   ·exact .inr (.inr z)
  have I1:=Inv.turnP (t':=s.toks) I0 aq (λp B=>by
   rcases jAq.mp B with z |z
   ·exact(C p (jBk _ z)).2
   ·rcases jAe.mp z with z |z
    ·rw[z];exact ab
    ·exact(C p (jAn _ z)).2) (λb v hb e=>(ar.2 b hb).trans e) g1 (λv z=>by rw[g3]at z;cases z)
  show wpAny _ X.A.in1 (tryCatch (holding [.int ns[m] t2] (call (.ref U) [.int ns[m] t2])) _ >>= _) _ _ _;refine jZa (wpAny_tryCatch (wpAny_holding (wpAny_mono (turn m _ t2 H _ _ en sm (λp B=>jAb _ (jAb _ B)) I1) (λx s2 q=>?_) λ_ _ z=>z.elim)));obtain⟨H2,t3,rfl,I2,ag⟩:=q;have ah:=I2.pin (S,O7 n t (kf i) u c) (jAn _ (jAb _ jAf));have aj:=I2.pin (g,aa) (jAn _ jAf);have I3:Inv X ((S,O7 n t (kf i) u c)::(g,aa)::ps) σ H2 s2:=Inv.repin I2 λp B=>by
   simp only[jAe]at B ⊢;rcases B with z |z |z
   ·exact .inr (.inl z)
   ·exact .inl z
   ·exact .inr (.inr z)
  show wpAny _ X.A.in1 (tryCatch (holding [.int ns[m] t2,.int (kf m) t3] (richCompare .Lt (.int (kf m) t3) (.int (kf i) u) >>= _)) _ >>= _) _ _ _;refine jZa (wpAny_tryCatch (wpAny_holding (jZa (HT.kx8 _ _ (kf m) t3 (kf i) u _ _ _ _ ?_))));refine jZa (wpAny_holding (wpAny_truthy_bool ?_));refine jZa (wpAny_letGo (jZb ?_));by_cases hb:kf m<kf i
  ·have sb:=Heap.SameBut.update s2.heap S (Obj.mapSeq λ_=>#[.int ns[m] t2,.int (kf m) t3]);simp only[hb,decide_true,if_true];refine jZa (wpAny_updateSeq ah.1 rfl (jZa (wpAny_letGo ?_)));rw[nm];have I4:=Inv.turnP (t':=s2.toks) I3 ao (λp B=>by
    rcases jAq.mp B with z |z
    ·exact(C p (jBk _ z)).1
    ·rcases jAe.mp z with z |z
     ·rw[z];exact Ne.symm ab
     ·exact(C p (jAn _ z)).1) (λb v hb e=>(sb.2 b hb).trans e) (get?_update_seq ah.1 λ_=>#[.int ns[m] t2,.int (kf m) t3]) (λv z=>by cases z)
   exact jZb ⟨plainId_quiet PySem.F.plain_min_loop _,ih (m+1) m H2 _ ns[m] t2 t3 _ aa (by lia) ae (sm.trans ag) I4 ⟨aa,(sb.2 g (Ne.symm ab)).trans aj.1,g2,g3⟩ en (G.new hb)⟩
  ·simp only[hb,decide_false,jBn,if_false];refine jZa (wpAny_letGo ?_);rw[nm];exact jZb ⟨plainId_quiet PySem.F.plain_min_loop _,ih (m+1) i H2 _ n t u c aa (by lia) ae (sm.trans ag) I3 ⟨aa,aj.1,g2,g3⟩ hn (G.keep hb)⟩
theorem ku6(hh:X.A.handled=none)(hT:SqT X.K H0 T (ns.map V.int))(ao:T≠g)(B:S≠g)(af:X.s₀.heap.objs.size<=S)(ag:X.s₀.heap.objs.size<=g)(m:∀p∈X.pn++ps,p.1≠S/\p.1≠g)(turn:km5 X σ ps H0 ns kf U)
  (aq:∀(i:Nat)(n:Int)(t:Tok)(H:Hp)(s:Shared),ns[i]? = some n->Lst kf ns.length i->Inv X ps σ H s->Ag H0 H->R (.ok (.ret (.int n t))) s)(ab:0<ns.length){oI:Obj}
  (I:Inv X ((g,oI)::(S,seqObj "list" #[] 0)::ps) σ H0 s)(ak:s.heap.IsTupleIter g T 0):codeAny (model X.prog X.w) X.A (.builtin "min.loop" ⟨[.ref g,.ref U,.ref S],[]⟩) R s:=by
 have nm:(toString "min" ++ toString ".loop" : String) = "min.loop":=by decide
 have⟨ar,pl,il,at_⟩:=S5 I hT;have en:ns[0]? = some ns[0]:=jAa ab;have⟨C,ev⟩:=at_ 0 _ en;have pS:=I.pin (S,seqObj "list" #[] 0) (jAn _ (jAb _ jAf));refine codeAny_builtin PySem.F.entry_min_loop ?_;rw[Around.under_plainId PySem.F.plain_min_loop _];show wpAny _ X.A.in1 (seqItems? (.ref S) >>= _) _ _ s;refine jZa (wpAny_seqItems pS.1 rfl ?_);show wpAny _ X.A.in1 (tryCatch (pyNext (.ref g)) _ >>= _) _ _ s;refine jZa (wpAny_tryCatch (wpAny_pyNext_tuple_item ak pl (x:=.int ns[0] C) (by simpa using ev) λh1 ae ai=>?_));have⟨r,g1,g2,g3⟩:=id ae;have I1:=Inv.turnP (t':=s.toks) I ag (λp G=>by
  rcases jAq.mp G with z |z
  ·exact(m p (jBk _ z)).2
  ·rcases jAe.mp z with z |z
   ·rw[z];exact B
   ·exact(m p (jAn _ z)).2) (λb v hb e=>(ai.2 b hb).trans e) g1 (λv z=>by rw[g3]at z;cases z)
 show wpAny _ X.A.in1 (tryCatch (holding [.int ns[0] C] (call (.ref U) [.int ns[0] C])) _ >>= _) _ _ _;refine jZa (wpAny_tryCatch (wpAny_holding (wpAny_mono (turn 0 _ C H0 _ _ en (Ag.refl _) (λp G=>jAb _ (jAb _ G)) I1) (λx s2 q=>?_) λ_ _ z=>z.elim)));obtain⟨H2,t3,rfl,I2,ah⟩:=q;have aa:=I2.pin (S,seqObj "list" #[] 0) (jAn _ (jAb _ jAf));have aj:=I2.pin (g,r) (jAn _ jAf);have I3:Inv X ((S,seqObj "list" #[] 0)::(g,r)::ps) σ H2 s2:=Inv.repin I2 λp G=>by
  simp only[jAe]at G ⊢;rcases G with z |z |z
  ·exact .inr (.inl z)
  ·exact .inl z
  ·exact .inr (.inr z)
 have sb:=Heap.SameBut.update s2.heap S (Obj.mapSeq λ_=>#[.int ns[0] C,.int (kf 0) t3]);show wpAny _ X.A.in1 (updateSeq S (λ_=>#[.int ns[0] C,.int (kf 0) t3]) >>= _) _ _ _;refine jZa (wpAny_updateSeq aa.1 rfl ?_);rw[nm];have I4:=Inv.turnP (t':=s2.toks) I3 af (λp G=>by
  rcases jAq.mp G with z |z
  ·exact(m p (jBk _ z)).1
  ·rcases jAe.mp z with z |z
   ·rw[z];exact Ne.symm B
   ·exact(m p (jAn _ z)).1) (λb v hb e=>(sb.2 b hb).trans e) (get?_update_seq aa.1 λ_=>#[.int ns[0] C,.int (kf 0) t3]) (λv z=>by cases z)
 exact jZb ⟨plainId_quiet PySem.F.plain_min_loop _,wg5 hh hT ao B af ag m turn aq (ns.length - 1) 1 0 H2 _ ns[0] C t3 _ r rfl ab ah I4 ⟨r,(sb.2 g (Ne.symm B)).trans aj.1,g2,g3⟩ en ⟨by lia,λj hj=>by
  have e:j=0:=by lia
  subst e;exact⟨by lia,λz=>absurd z (by lia)⟩⟩⟩
theorem wt0(hh:X.A.handled=none)(I:Inv X ps σ H0 s)(hT:SqT X.K H0 T (ns.map V.int))(C:0<ns.length)(turn:km5 X σ ps H0 ns kf U)
  (aa:∀(i:Nat)(n:Int)(t:Tok)(H:Hp)(s:Shared),ns[i]? = some n->Lst kf ns.length i->Inv X ps σ H s->Ag H0 H->Q (.int n t) s):
  wpAny (model X.prog X.w) X.A (call (.builtin "min") [.ref T] [(Str.ofString "key",.ref U)]) Q L s:=by
 have nm:(toString "min" ++ toString ".loop" : String) = "min.loop":=by decide
 have⟨ab,pl,il,at_⟩:=S5 I hT;have⟨oT,B,_⟩:=id pl;have G:=jAr B;refine kmk_tree PySem.F.kind_min PySem.F.plain_min PySem.F.entry_min (kmk_min_key _ _) ?_;show wpAny _ X.A.in1 (Builtin.Builtins.bindParams "min" ["key","default"] 0 ⟨[],[(Str.ofString "key",.ref U)]⟩ >>= _) _ _ s;refine jZa (wpAny_of_eq (show _=pure [some (.ref U),none] from rfl) ?_);refine jZa (jZb (jZa (wpAny_pyIter_tuple pl (jZa (wpAny_newList ?_ (jCr _))))));rw[nm];refine jZb ⟨plainId_quiet PySem.F.plain_min_loop _,?_⟩;have I1:=Inv.pinNew (h':=s.heap.push {cls:=.type "tuple_iterator",data:=.fields #[.ref T,.int 0 0] }) (t':=s.toks) I (λb u e=>jAc _ e) (jAg _) (jAp _ rfl) (λv z=>by cases z);have I2:=Inv.pinNew (h':=(s.heap.push {cls:=.type "tuple_iterator",data:=.fields #[.ref T,.int 0 0] }).push {cls:=.type "list",data:=.seq ([]:List Value).toArray}) (t':=s.toks) I1 (λb u e=>jAc _ e) (jAg _) (jAp _ rfl) (λv z=>by cases z);have es:(s.heap.push {cls:=.type "tuple_iterator",data:=.fields #[.ref T,.int 0 0] }).objs.size=s.heap.objs.size+1:=size_push' ..;have r:∀p∈X.pn++ps,p.1<s.heap.objs.size:=λp m=>jAr (I.pin p m).1;have I3:Inv X ((s.heap.objs.size,{cls:=.type "tuple_iterator",data:=.fields #[.ref T,.int 0 0] })::((s.heap.push {cls:=.type "tuple_iterator",data:=.fields #[.ref T,.int 0 0] }).objs.size,seqObj "list" #[] 0)::ps) σ H0 _:=Inv.repin I2 λp m=>by
  simp only[jAe]at m ⊢;rcases m with z |z |z
  ·exact .inr (.inl z)
  ·exact .inl z
  ·exact .inr (.inr z)
 exact ku6 hh hT (jAv G) (by rw[es];exact jGf _) (by rw[es];exact jHf I.sz) I.sz (λp m=>by have:=r p m;rw[es];exact⟨by lia,by lia⟩) turn aa C I3 ⟨_,jAc _ (jAp _ rfl),rfl,rfl⟩
end
def Ka(g:Ev->R D)(B:Ev):List Int->R (List Int)
 | []=>.ok []
 |n::r=>(g (B.set 0 (some (.int n)))).bind λd=>match d with
  | .int k=>(Ka g B r).bind λks=>.ok (k::ks)
  |_=>.bad
theorem Wv{g:Ev->R D}{B:Ev}:∀{ns ks:List Int},Ka g B ns=.ok ks->ks.length=ns.length/\∀j n,ns[j]? = some n->g (B.set 0 (some (.int n)))=.ok (.int (ks.getD j 0))
 | [],ks,h=>by cases h;exact⟨rfl,λj n e=>by simp at e⟩
 |n::r,ks,h=>by
  refine Xe.Aq (λd e1 h=>?_) (Cu h);cases d with
  |int k =>
   refine Xe.Aq (λC T h=>?_) (Cu (show(Ka g B r).bind (λks=>R.ok (k::ks))=_ from h));cases h;have⟨F,G⟩:=Wv T;refine⟨by simp[F],λj m e=>?_⟩;cases j with
   |zero =>
    have:n=m:=by simpa using e
    subst this;simpa using e1
   |succ j=>simpa using G j m (by simpa using e)
  |_=>cases h
def mnI(ks:List Int):Nat:=ks.findIdx λk=>ks.all λj=>decide (k<=j)
theorem wt1{ks:List Int}(h:Lst (λj=>ks.getD j 0) ks.length i):mnI ks=i:=by
 obtain⟨hi,m⟩:=h;have at_:∀j (g:j<ks.length),ks.getD j 0=ks[j]:=λj g=>by rw[jAi,jAa g,jBs]
 unfold mnI;rw[List.findIdx_eq hi];refine⟨?_,λj g=>?_⟩
 ·rw[jAw];intro x n;obtain⟨j,g,rfl⟩:=jBz.mp n;have:ks.getD i 0<=ks.getD j 0:=(m j g).1;rw[at_ i hi,at_ j g]at this;exact decide_eq_true this
 ·rw[Bool.eq_false_iff];intro z;have z:=of_decide_eq_true (jAw.mp z ks[i] (jBi hi));have:ks.getD i 0<ks.getD j 0:=(m j (by lia)).2 g;rw[at_ i hi,at_ j (by lia)]at this;lia
def mkD(f:Ev->R D)(caps:List Nat)(g:Ev->R D):Ev->R D:=λρ=>(f ρ).bind λx=>match x with
 | .tup m=>match Ay m with
  |some ns=>if ns=[] then .bad else((Ka g (Ed 1 caps ρ) ns).bind λks=>.ok (.int (ns.getD (mnI ks) 0))).nox
  |none=>.bad
 |_=>.bad
theorem we2{f g:Ev->R D}:∀ρ d,mkD f caps g ρ=.ok d->d.imm=true:=λρ d h=>by
 refine Xe.Aq (λx C h=>?_) (Cu h);cases x with
 |tup n =>
  cases B:Ay n with
  |none=>have h:(match Ay n with |some ns=>if ns=[] then R.bad else((Ka g (Ed 1 caps ρ) ns).bind λks=>.ok (D.int (ns.getD (mnI ks) 0))).nox |none=>.bad)=R.ok d:=h;rw[B]at h;cases h
  |some ns =>
   have h:(match Ay n with |some ns=>if ns=[] then R.bad else((Ka g (Ed 1 caps ρ) ns).bind λks=>.ok (D.int (ns.getD (mnI ks) 0))).nox |none=>.bad)=R.ok d:=h;rw[B]at h;have h:(if ns=[] then R.bad else((Ka g (Ed 1 caps ρ) ns).bind λks=>.ok (D.int (ns.getD (mnI ks) 0))).nox)=R.ok d:=h;by_cases r:ns=[]
   ·rw[if_pos r]at h;cases h
   ·rw[if_neg r]at h;cases m:Ka g (Ed 1 caps ρ) ns with
    |ok ks=>rw[m]at h;cases h;rfl
    |exc x=>rw[m]at h;cases h
    |bad=>rw[m]at h;cases h
 |_=>cases h
section
variable {C:Expr}{m:Arguments}{F G:Pos}{f g:Ev->R D}
theorem wg3(L:km2 X P)(hr:Gq 1 X.A)(hT:c.H0 P=some (tbK F (X.env.qual ++ "<lambda>")))(hm:X.mg "min" = none)(ha:PEd X c l e f)
  (he:∀(A:Around)(qual:Str)(U:Addr)(cd:Value)(cl:List (Str×Addr))(s:Shared)(H H0:Hp)(S0:AS),PEd (cxL X A (Ez X [x] caps) qual scope U cd cl s H) ⟨H0,S0,[],Gn,[]⟩ .any C g)
  (ae:∀(qual:Str)(cl:List (Str×Addr))(pm cd af u:Value),bindArgs (kla_fn "<lambda>" qual m C scope cl pm cd af) ⟨[u],[]⟩=pure [(x,u)]:=by intros;rfl)
  (bb:Lg scope X.env.scope X.N caps=true:=by rfl)(az:scope.names.all (λy=>y.2 != .cell)=true:=by rfl)(hx:scope.names.lookup x=some .local:=by rfl)(ba:scope.isCoroutine=false:=by rfl)(aj:scope.isGenerator=false:=by rfl)
  (ao:defaultsOf m X.env=([],[]):=by rfl)(aq:Mw c.O l caps=true:=by rfl)(hg:Gl X "min":=by rfl)(hs:starEach [e] X.env=(false,eval e X.env)::starEach [] X.env:=by rfl)
  (ay:(backTo pos (starEach [e] X.env)).any (·.1)=false:=by rfl)(bc:backTo pos (starEach [e] X.env)=(false,eval e X.env)::backTo pos (starEach [] X.env):=by rfl):
  PEd X c l (.Call (.Name "min" p) [e] [⟨some "key",.Lambda m C scope F,G⟩] pos) (mkD f caps g):=λpins s σ H Q I q=>by
 revert q;refine Xe.Bt λaw ρ E q=>?_;have B:Gp X scope [x] caps:=.of bb;have ai:∀y∈scope.names,y.2≠.cell:=λy hy=>by simpa using jAw.mp az y hy
 refine wpAny_Call_Name_kw (Tv I hg hm PyProof.Rows.boot_min ?_ (by decide) (by decide));refine callWith_kw ?_ bc ay rfl rfl;have q:=RQ.bind.mp q;have bg:PAd X c l [e] (zv f a0):=ac ha an hs;refine thG (bg pos pins s σ H (λvs H1=>∃d v,vs=[v]/\f ρ=.ok d/\Ag H H1/\Rep X.K H1 (lvS c ρ σ H l) d v) I ⟨aw,ρ,E,?_⟩) λus s1 vs H1 I1 rv z=>?_
 ·show RQ ((f ρ).bind _) _ _;cases ef:f ρ with
  |ok d=>rw[R.ok_bind];intro vs H' sm rp _;obtain⟨v,r,rfl,h1,h2⟩:=rp;cases(show r=[] from h2);exact⟨d,v,rfl,rfl,sm,h1⟩
  |exc y=>rw[ef]at q;exact q
  |bad=>rw[ef]at q;exact q.elim
 obtain⟨d,v,rfl,ef,ah,rp⟩:=z;obtain⟨u,rfl,ru⟩:=rv.one;rw[ef]at q;have bf:H1 P=some (tbK F (X.env.qual ++ "<lambda>")):=ah _ _ (E.same _ _ hT);show wpAny _ _ (evalAll ((do let w <-eval (.Lambda m C scope F) X.env;standAt pos;pure w)::[])) _ _ s1;refine wpAny_evalAll_cons (jZa (kt6 L I1 bf ao (B.clo I1) λU c' af H2 s2 I2 ag hf ak hc ho=>jZa (wpAny_standAt (jZb (wpAny_evalAll_nil ?_)))));show wpAny _ _ (call (.builtin "min") [u] [(Str.ofString "key",.ref U)]) _ _ s2;cases d with
 |tup ds =>
  obtain⟨T,vs,rfl,ht,ax⟩:=rp;cases(show u=Value.ref T from ru);have q:RQ (match Ay ds with |some ns=>if ns=[] then R.bad else((Ka g (Ed 1 caps ρ) ns).bind λks=>.ok (D.int (ns.getD (mnI ks) 0))).nox |none=>.bad) _ _:=q;cases ei:Ay ds with
  |none=>rw[ei]at q;exact q.elim
  |some ns =>
   rw[ei]at q;have q:RQ (if ns=[] then R.bad else((Ka g (Ed 1 caps ρ) ns).bind λks=>.ok (D.int (ns.getD (mnI ks) 0))).nox) _ _:=q;by_cases hn:ns=[]
   ·rw[if_pos hn]at q;exact q.elim
   rw[if_neg hn]at q;cases ek:Ka g (Ed 1 caps ρ) ns with
   |exc y=>rw[ek]at q;exact q.elim
   |bad=>rw[ek]at q;exact q.elim
   |ok ks =>
    rw[ek]at q;have⟨kl,kk⟩:=Wv ek;have ev:=jt1 ax ei;subst ev;have sm:Ag H H2:=ah.trans ag;have I3:Inv X ((U,kla_obj "<lambda>" (X.env.qual ++ "<lambda>") m C scope (M9 scope X.env) ((X.mg "__name__").getD .none) c' af)::pins) σ H2 s2:=I2.pins_of λw hw=>by
     rcases jAe.mp hw with rfl |hw
     ·exact⟨ho,hf,jCq (jAx I1.lt ak),I1.nofs ak,λv z=>by cases z⟩
     ·exact I2.pin w (jAn _ hw)
    refine wt0 (kf:=λj=>ks.getD j 0) hr.hd I3 (SqT.up ht.sq ag) (List.length_pos_iff.mpr hn) (λj n tt Hk sk bh hj aa sub Ik=>?_) λi n t Hk sk hi ab Ik aa=>?_
    ·have pf:=Ik.pin _ (jAn _ (sub _ jAf));refine kt5 (l:=l) (v:=.int n) (d:=.int n) B ai hx ba aj Ik Ik.ok.frames hr.hd (Gq.in1 hr).depth pf.1 (hc.mono aa) (ae _ _ _ _ _ _) ⟨tt,rfl⟩ (λs H H0 S0=>he _ _ _ _ _ s H H0 S0) (E.mono (sm.trans aa)) aq rfl (kk j n hj) λy w H' s' I' ar ry au=>?_;cases(show y=.int (ks.getD j 0) from au);obtain⟨t',rfl⟩:=(show ∃t,w=Value.int (ks.getD j 0) t from ry);exact⟨H',t',rfl,I',ar⟩
    ·rw[<-kl]at ab;have em:=wt1 ab;have en:ns.getD (mnI ks) 0=n:=by rw[em,jAi,hi];rfl
     refine⟨.int n,Hk,Inv.repin Ik λw hw=>jAb _ hw,⟨t,rfl⟩,?_⟩;have q':=q (.int n) Hk (sm.trans aa) (by rw[en];rfl);exact q'
 |_=>exact q.elim
end
def jq3(n:Str->Option Value)(base:Heap)(y:Str)(P:Addr):Prop:=
 (∃a o r c,n y=some (.ref a)/\base.get? a=some o/\o.data=.func r/\r.code=.ref c/\CodeHd base c P) /\
 ∃m g,n "__builtins__" = some (.ref m)/\m≠builtinsNs/\base.get? m=some g/\g.cls=.type "module"/\g.dict=some builtinsNs/\g.data=.plain
def spT(K:Frag)(P:Addr)(tb:HO)(n:Nat)(m:List D->R D):Sp:=λvs H Q E=>H P=some tb/\sp0 K n m vs H Q E
def FnT(Pr:Program)(w:World)(K:Frag)(g:Str->Option Value)(base:Heap)(P:Addr)(tb:HO)(k:Nat)(x:Str)(ps:List Str)(n:Nat)(m:List D->R D):Prop:=
 ∃(f:Addr)(r:FuncData),Bq Pr w K g base CX0 k f r ps (spT K P tb n m)/\g x=some (.ref f)/\W.keepIn K (.ref f)=true/\Binds K r ps []
variable {base:Heap}{Pr:Program}{K:Frag}{mg:Str->Option Value}
variable {m:List D->R D}{f:Addr}{g:Ev->R Fl}{st:Stmt}{fd:FuncData}
section
variable {tb:HO}
theorem Tf{N ps:List Str}{k:Nat}{O:List Nat}(F:Fun K x qual st f fd)(S:Am N ps (Ad st))(hO:O.all (λi=>decide (ps.length<=i))=true)
  (G:∀(B:Value)(A:Around)(n:List Env)(s:Shared)(H:Hp)(E:XK)(S0:AS),fd.code=B->H P=some tb->Gq k (A.deeper (envOfC qual (Ad st) s.heap.objs.size f B))->(A.deeper (envOfC qual (Ad st) s.heap.objs.size f B)).units+70<cLine ->
   Z4 (V3 CX0 Pr w K mg base N qual (Ad st) f B A n s H E).nox ⟨H,S0,O,Gn,[]⟩ (Dq st) g):
  Bq Pr w K mg base CX0 (k+1) f fd ps (spT K P tb ps.length (Cy N.length g)):=by
 obtain⟨oc,od,kV,ae,pm,an,B,ct,ab,rfl,lk,T⟩:=F.ex;refine kq5 lk T S (λvs H Q E h=>h.2.1) λA n s H vs Q E hr h=>?_;obtain⟨hT,hl,S0,ds,r,q⟩:=h;refine⟨_,(G B A n s H E S0 rfl hT hr (by have:=hr.un;lia)).nox,[],Af N.length ds,Ot r (λi hi=>?_),?_⟩
 ·have:=of_decide_eq_true (jAw.mp hO i hi);rw[hl];exact this
 ·have C:RQ (jr9 (g (Af N.length ds))) _ _:=q;cases e:g (Af N.length ds) with
  |ok fl =>
   rw[e]at C;cases fl with
   |nx ρ=>exact λaa H' E'=>C .non H' E'.same rfl
   |rt d=>exact λv H' s r=>C v H' s (r.mono (Ag.refl _) λo z=>z.elim .inl λ⟨a,e1,e2,_⟩=>.inr ⟨a,e1,e2⟩)
   |bk ρ=>exact C.elim
   |ct ρ=>exact C.elim
  |exc y=>rw[e]at C;exact C.elim
  |bad=>rw[e]at C;exact C.elim
theorem Wf{k n:Nat}{ps:List Str}(X:K.In h)(G:h.Ns PySem.mainGlobals mg)(I:FI K x st)(B:∀a fd,mg x=some (.ref a)->Fun K x x st a fd->Bq Pr w K mg base CX0 k a fd ps (spT K P tb n m))
  (hb:∀(kV C pm:Value)(an:Option Addr)(T ct:Value)(r:List Value),r.length=ps.length->bindArgs (W.fnOf x x (Gf st) (Dq st) (Ad st) .none kV C pm an T ct) ⟨r,[]⟩=pure (ps.zip r)):FnT Pr w K mg base P tb k x ps n m:=by
 revert I;refine Xe.Bu λf fd a F kp=>?_;exact⟨f,fd,B f fd (W.mg_of X G a) F,W.mg_of X G a,kp,F.binds hb⟩
theorem ws5{y:Str}{N:List Str}{scope:Scope}{r:Value}{n:List Env}{E:XK}(L:jq3 mg base y P)(kb:K.In base)(hm:mg y=some (.ref f))(F:Fun K y qual st f fd)(hc:fd.code=r):
  km2 (V3 CX0 Pr w K mg base N qual scope f r A n s H E).nox P:=by
 obtain⟨⟨a,o,aa,c,B,h2,h3,h4,h5⟩,hb⟩:=L;obtain⟨oc,od,kV,ab,pm,an,C,ct,G,rfl,T,_⟩:=F.ex;rw[hm]at B;cases B;have e:=kb _ _ T;rw[h2]at e;cases e;cases h3;exact⟨⟨c,hc.symm.trans h4,h5⟩,hb⟩
end
variable {k n:Nat}
section
variable {fs:Ev->R (List D)}{ps:List Str}{m:List D->R D}{tb:HO}
theorem Uq(F:FnT X.prog X.w X.K X.mg X.base P tb k x ps n m)(hT:c.H0 P=some tb)(hr:Gq k X.A)(ha:PAd X c l (e::es) fs)(hn:(e::es).length=n:=by rfl)(aa:ps.length=n:=by rfl)(hg:Gl X x:=by rfl)
  (T:(x == ("__debug__" : Str))=false:=by decide)(he:starEach (e::es) X.env=(false,eval e X.env)::starEach es X.env:=by rfl)(G:(backTo pos (starEach es X.env)).any (·.1)=false:=by rfl):
  PEd X c l (.Call (.Name x p) (e::es) [] pos) (cl fs m):=by
 revert F;refine Xe.X7 λf fd F hm hk hb=>?_;refine PE.imp (Vo F hr hg hm hk hb .nil kb8 ha T he G) λσ H Q q=>?_;revert q;refine Xe.Bt λhs ρ E q=>?_;refine Dk E ((RQ.bind.mp q).mono (λds r vs H1 C E1 r1 hl=>?_) λ_ z=>z);rw[jDa];cases B:m ds with
 |ok d =>
  rw[B]at r;refine⟨C _ _ (E.same _ _ hT),?_,lvS c ρ σ H l,ds,r1,?_⟩
  ·rw[<-r1.length,hl,hn]
  ·rw[B];exact λv H' s2 r2=>r v H' (C.trans s2) (r2.mono (Ag.refl _) λ_ z=>Lw E C z)
 |exc x=>rw[B]at r;exact r.elim
 |bad=>rw[B]at r;exact r.elim
end
section
variable {mb:Str->Option Value}{c:Addr}{fd:FuncData}{y:Str}{ps:Array Value}{m:List D->R D}
theorem ki6(KX:K.In s.heap)(nt:noTabs K=true)(hn:s.heap.Ns mainGlobals mg)(hb:s.heap.Ns builtinsNs mb)(ao:∀x:Str,x ≠ "__name__"->mb x=bootBuiltins x)(aa:s.heap.NoLimit)(hg:s.gens = #[])
  (B:s.heap.get? a=some {cls:=.type "list",data:=.seq vs.toArray})(hi:IntsAre vs ns)(hl:ns.length<=sizeLine)(hr:Gq k callerA)(tab:s.heap.TableAt c P #[])(L:jq3 mg s.heap y P)
  (F:∀base:Heap,K.In base->base.Ns mainGlobals mg->jq3 mg base y P->Bq Pr w K mg base CX0 k U fd [x] (spT K P (.tbl ps) 1 m))(ab:∀(s:Shared)(u:Value),BindsTo s fd ⟨[u],[]⟩ [(x,u)])
  (hm:m [.lst (ns.map .int)]=.ok (.bl true)):
  codeAny (model Pr w) callerA (.call (.ref U) ⟨[.ref a],[]⟩) (λr C=>r=.ok (.ret (.bool true))/\OldK s.heap C.heap/\C.os=s.os/\AllBare C.gens) s:=by
 have T:=tab.2;have aP:a≠P:=λz=>by rw[z,T]at B;cases B
 have nK:K.lookup P=none:=by
  cases q:K.lookup P with
  |none=>rfl
  |some o=>have e:=KX _ _ q;rw[T]at e;cases e;exact absurd (jAw.mp nt _ (mem_of_lookupK q)) (by simp)
 have core:∀H:Hp,H P=some (.tbl ps)->(∀b,b≠P->H b≠none->b=a/\H b=some (.frz {cls:=.type "list",data:=.seq vs.toArray} (.lst (ns.map V.int))))->SqL K H a (ns.map V.int)->(H a≠none->K.lookup a=none) ->
   codeAny (model Pr w) callerA (.call (.ref U) ⟨[.ref a],[]⟩) (λr C=>r=.ok (.ret (.bool true))/\OldK s.heap C.heap/\C.os=s.os/\AllBare C.gens) s:=by
  intro H hT hO hS hK;have ok:HOk Pr w H s.heap:=λb u e=>by
   by_cases ag:b=P
   ·subst ag;rw[hT]at e;cases e;exact⟨_,T,.inl rfl⟩
   ·obtain⟨rfl,e2⟩:=hO b ag (by rw[e];simp);rw[e2]at e;cases e;exact⟨B,by rw[jAd];exact hl,vs,_,Ji hi,B⟩
  have get:∀{b:Addr}{o:Obj},s.heap.get? b=some o->b≠P->b≠a\/H a=none->(Wm s.heap H).get? b=some o:=λ{b o} e n1 n2=>kr2 e (by
   cases q:H b with
   |none=>rfl
   |some u =>
    have⟨z,_⟩:=hO b n1 (by rw[q];simp);rcases n2 with n2 |n2
    ·exact absurd z n2
    ·rw[z,n2]at q;cases q)
  have au:∀{b:Addr}{o:Obj}{es:Array DictEntry}{ep:Nat},s.heap.get? b=some o->o.data=.dict es ep->(Wm s.heap H).get? b=some o:=λ{b o es ep} e d=>get e (λz=>by
   rw[z,T]at e;cases e;cases d) (.inl λz=>by
   rw[z,B]at e;cases e;cases d)
  have G:∀{b:Addr}{mm:Str->Option Value},s.heap.Ns b mm->(Wm s.heap H).Ns b mm:=λ{b mm} ⟨o,es,ep,e,d,r⟩=>⟨o,es,ep,au e d,d,r⟩;have kB:K.In (Wm s.heap H):=λb o e=>get (KX b o e) (λz=>by rw[z,nK]at e;cases e) (by
   by_cases z:b=a
   ·right;cases q:H a with
    |none=>rfl
    |some u=>rw[z,hK (by rw[q];simp)]at e;cases e
   ·exact .inl z)
  have hM:Mod K mg (Wm s.heap H):=⟨kB,G hn,⟨mb,G hb,ao⟩,let ⟨mc,h1,h2⟩:=aa; ⟨mc,G h1,h2⟩⟩;have LB:jq3 mg (Wm s.heap H) y P:=by
   obtain⟨⟨a1,o1,ar,c1,g1,g2,g3,g4,o2,v2,f2,t2,aq,aj,ak,ah,ai,g5,g6,g7,g8⟩,bm,ob,b1,b2,b3,b4,b5,b6⟩:=L;refine⟨⟨a1,o1,ar,c1,g1,get g2 (λz=>?_) (.inl λz=>?_),g3,g4,o2,v2,f2,t2,aq,aj,ak,ah,ai,get g5 (λz=>?_) (.inl λz=>?_),g6,g7,g8⟩,bm,ob,b1,b2,get b3 (λz=>?_) (.inl λz=>?_),b4,b5,b6⟩
   ·rw[z,T]at g2;cases g2;cases g3
   ·rw[z,B]at g2;cases g2;cases g3
   ·rw[z,T]at g5;cases g5;cases g6
   ·rw[z,B]at g5;cases g5;exact absurd (Value.type.inj g6) (by decide)
   ·rw[z,T]at b3;cases b3;cases b4
   ·rw[z,B]at b3;cases b3;exact absurd (Value.type.inj b4) (by decide)
  have e0:wa3 Pr w K mg (Wm s.heap H) callerA [] s H:=⟨rfl,hM,λb o e=>wg9 e,Nat.le_of_eq (kh2 _ _),trivial,λb hb=>absurd (show b∈([]:List Addr) from hb) (by simp),ok,.of_eq hg⟩;have sp:spT K P (.tbl ps) 1 m [.ref a] H (λv _=>v=.bl true) (λ_ _ _=>False):=⟨hT,rfl,λ_=>True,[.lst (ns.map .int)],.cons ⟨a,_,rfl,SqL.ls hS trivial trivial,K4 ns⟩ An.nil,by
   rw[hm];exact λv H' _ r=>r⟩
  refine codeAny_mono ((F _ kB (G hn) LB).run callerA [] s H ⟨[.ref a],[]⟩ [.ref a] [.ref a] _ _ hr e0 (ab s (.ref a)) (.cons rfl .nil) sp) λr C h=>?_;cases r with
  |error e=>exact(show False from h).elim
  |ok fl =>
   cases fl with
   |ret u =>
    obtain⟨v,H',os,bare,un,af,rv,q⟩:=h;cases(show v=.bl true from q);cases(show u=Value.bool true from rv);have hx:jFs P s.heap C.heap:=λb o hb e=>by
     cases q:H b with
     |none=>exact un.keep b o e q (λz=>absurd (show b∈([]:List Addr) from z) (by simp)) (by simp)
     |some u=>obtain⟨rfl,e2⟩:=hO b hb (by rw[q];simp);have e3:=af _ _ (un.frzs _ _ _ e2);rw[B]at e;cases e;exact e3.1
    have⟨more,eT⟩:=un.tbls P ps hT;have⟨qs,eP,_⟩:=af _ _ eT;have⟨⟨oc,vc,t1,t2,t3,t4⟩,_⟩:=id tab;have cP:c≠P:=λz=>by rw[z,T]at t1;cases t1;cases t2
    refine⟨rfl,(OldK.refl _).step_table (more:=qs) tab tab ⟨⟨oc,vc,hx c oc cP t1,t2,t3,t4⟩,?_⟩ hx (λz=>?_),os,bare⟩
    ·rw[eP];simp
    ·obtain⟨mc,⟨o,es,ep,g1,g2,_⟩,_⟩:=aa;rw[<-z,T]at g1;cases g1;cases g2
   |next=>exact False.elim h
   |brk=>exact False.elim h
   |cont=>exact False.elim h
 cases hk:K.lookup a with
 |some o=>have e:=KX a o hk;rw[B]at e;cases e;refine core (λb=>if b=P then some (.tbl ps) else none) (if_pos rfl) (λb n z=>absurd (if_neg n) z) (.inr ⟨_,vs.toArray,_,hk,rfl,rfl,rfl,by rw[jAo,hi.length];exact hl,by simpa using Ji hi⟩) λz=>absurd (if_neg aP) z
 |none =>
  refine core (λb=>if b=P then some (.tbl ps) else if b=a then some (.frz {cls:=.type "list",data:=.seq vs.toArray} (.lst (ns.map V.int))) else none) (if_pos rfl) (λb n z=>?_) (.inl (.inr ⟨{cls:=.type "list",data:=.seq vs.toArray},(if_neg aP).trans (if_pos rfl)⟩)) λ_=>hk;rw[if_neg n]at z;by_cases ae:b=a
  ·exact⟨ae,by rw[if_neg n,if_pos ae]⟩
  ·exact absurd (if_neg ae) z
end
theorem law_walkT{l:W.OpenLaw}{q:Program}{loose:List Str}{XP:(Str->Option Value)->Heap->Prop}{YP:World->Heap->Prop}{d:DefRec}{K:Params->Frag}{y:Str}{ps:Array Value}
  (hm:∀ns:List Int,ns.length<=63->m [.lst (ns.map .int)]=.ok (.bl true))(hn:l.most=some 63)(ab:d.params.defaults=[])(hr:Gq k callerA)(C:((recsOf q).find? λe=>e.name == y).isSome=true)
  (hY:∀(w:World)(h:Heap),YP w h->(K w.params).In h)
  (F:∀(w:World)(mg:Str->Option Value)(U:Addr)(h:Heap),(K w.params).In h->h.Ns mainGlobals mg->mg d.name=some (.ref U)->noTabs (K w.params)=true /\
   ∃fd:FuncData,(∀(s:Shared)(u:Value),BindsTo s fd ⟨[u],[]⟩ [(x,u)])/\∀(P:Addr)(base:Heap),(K w.params).In base->base.Ns mainGlobals mg->jq3 mg base y P->Bq l.prog w (K w.params) mg base CX0 k U fd [x] (spT (K w.params) P (.tbl ps) 1 m)):
  W.WalkO q loose XP YP l.row.toRowW d [] (λf vs=>PySem.call f vs):=by
 refine Att.jf6 hn ab λw ag af mg mb U o pm cd ai a vs ns G Y ho hd ah aa B hints r hg=>?_;have KX:=hY w _ Y;have⟨dy,C⟩:=jEb.mp C;have⟨nt,fd,hb,hF⟩:=F w mg U _ KX G.T.g aa;have en:dy.name=y:=beq_iff_eq.mp (List.find?_some (p:=λe:DefRec=>e.name == y) C);have⟨f1,o1,ae,c,P,g1,g2,g3,g4,g5,g6⟩:=G.T.tab dy (List.mem_of_find?_eq_some C);rw[en]at g1;exact ki6 (y:=y) KX nt G.T.g G.T.b G.T.builtins G.T.nolimit hg B hints (jBt r (by decide)) hr g6 ⟨⟨f1,o1,ae,c,g1,g2,g3,g4,CodeHd.of g5 g6⟩,G.T.bmain⟩ (hF P) hb (hm ns r)
def wk1(K:Frag)(P:Addr)(tb:HO)(n:Nat)(m:List D->R D):Sp:=λvs H Q E=>H P=some tb/\spG K n m vs H Q E
def wn0(Pr:Program)(w:World)(K:Frag)(mg:Str->Option Value)(base:Heap)(P:Addr)(tb:HO)(k:Nat)(x:Str)(ps:List Str)(n:Nat)(m:List D->R D):Prop:=
 ∃(f:Addr)(fd:FuncData),Bq Pr w K mg base CX0 k f fd ps (wk1 K P tb n m)/\mg x=some (.ref f)/\W.keepIn K (.ref f)=true/\Binds K fd ps []
section
variable {tb:HO}
theorem yb6{ps:List Str}(h:FnG Pr w K mg base k x ps n m):FnC Pr w K mg base k x ps n m:=by
 obtain⟨f,fd,F,r⟩:=h;refine⟨f,fd,F.imp λvs H Q E q=>?_,r⟩;obtain⟨C,S,G,B,q⟩:=q;refine⟨C,S,G,B,q.mono (λd q v T s r=>q v T s (r.mono (Ag.refl _) λo z=>?_)) λ_ z=>z⟩;unfold flS at z;split at z
 ·exact .inr z
 ·exact z
theorem wd0{N ps:List Str}{O:List Nat}(F:Fun K x qual st f fd)(S:Am N ps (Ad st))(hO:O.all (λi=>decide (ps.length<=i))=true)
  (T:∀(C:Value)(A:Around)(B:List Env)(s:Shared)(H:Hp)(E:XK)(S0:AS),fd.code=C->H P=some tb->Gq k (A.deeper (envOfC qual (Ad st) s.heap.objs.size f C))->(A.deeper (envOfC qual (Ad st) s.heap.objs.size f C)).units+70<cLine ->
   ke2 (V3 CX0 Pr w K mg base N qual (Ad st) f C A B s H E).nox ⟨H,S0,O,Gn,[]⟩ (Dq st) g):
  Bq Pr w K mg base CX0 (k+1) f fd ps (wk1 K P tb ps.length (Cy N.length g)):=by
 obtain⟨oc,od,kV,af,pm,an,C,ct,ae,rfl,lk,aa⟩:=F.ex;refine kq5 lk aa S (λvs H Q E h=>h.2.1) λA B s H vs Q E hr h=>?_;obtain⟨hT,hl,S0,ds,r,q⟩:=h;refine⟨_,(T C A B s H E S0 rfl hT hr (by have:=hr.un;lia)).nox,[],Af N.length ds,Ot r (λi hi=>?_),?_⟩
 ·have:=of_decide_eq_true (jAw.mp hO i hi);rw[hl];exact this
 ·have G:RQ (jr9 (g (Af N.length ds))) _ _:=q;cases e:g (Af N.length ds) with
  |ok fl =>
   rw[e]at G;cases fl with
   |nx ρ=>exact λab H' E'=>G .non H' E'.same rfl
   |rt d =>
    refine λv H' s r=>G v H' s (r.mono (Ag.refl _) λo z=>?_);unfold flS at z ⊢;split
    ·rename_i h;rw[if_pos h]at z;exact z
    ·rename_i h;rw[if_neg h]at z;exact z.elim .inl λ⟨a,e1,e2,_⟩=>.inr ⟨a,e1,e2⟩
   |bk ρ=>exact G.elim
   |ct ρ=>exact G.elim
  |exc y=>rw[e]at G;exact G.elim
  |bad=>rw[e]at G;exact G.elim
theorem wc7{ps:List Str}(X:K.In h)(G:h.Ns PySem.mainGlobals mg)(I:FI K x st)(B:∀a fd,mg x=some (.ref a)->Fun K x x st a fd->Bq Pr w K mg base CX0 k a fd ps (wk1 K P tb n m))
  (hb:∀(kV C pm:Value)(an:Option Addr)(T ct:Value)(r:List Value),r.length=ps.length->bindArgs (W.fnOf x x (Gf st) (Dq st) (Ad st) .none kV C pm an T ct) ⟨r,[]⟩=pure (ps.zip r)):wn0 Pr w K mg base P tb k x ps n m:=by
 revert I;refine Xe.Bu λf fd a F kp=>?_;exact⟨f,fd,B f fd (W.mg_of X G a) F,W.mg_of X G a,kp,F.binds hb⟩
end
section
variable {fs:Ev->R (List D)}{ps:List Str}{m:List D->R D}{tb:HO}
theorem jr0(F:wn0 X.prog X.w X.K X.mg X.base P tb k x ps n m)(hT:c.H0 P=some tb)(hr:Gq k X.A)(ha:PAd X c l (e::es) fs)(hn:(e::es).length=n:=by rfl)(aa:ps.length=n:=by rfl)(hg:Gl X x:=by rfl)
  (T:(x == ("__debug__" : Str))=false:=by decide)(he:starEach (e::es) X.env=(false,eval e X.env)::starEach es X.env:=by rfl)(G:(backTo pos (starEach es X.env)).any (·.1)=false:=by rfl):
  PEg X c (.Call (.Name x p) (e::es) [] pos) (cl fs m):=by
 revert F;refine Xe.X7 λf fd F hm hk hb=>?_;refine PE.imp (Vo F hr hg hm hk hb .nil kb8 ha T he G) λσ H Q q=>?_;revert q;refine Xe.Bt λhs ρ E q=>?_;refine Dk E ((RQ.bind.mp q).mono (λds r vs H1 B E1 r1 hl=>?_) λ_ z=>z);rw[jDa];cases C:m ds with
 |ok d =>
  rw[C]at r;refine⟨B _ _ (E.same _ _ hT),?_,lvS c ρ σ H l,ds,r1,?_⟩
  ·rw[<-r1.length,hl,hn]
  ·rw[C];refine λv H' s2 r2=>r v H' (B.trans s2) (r2.mono (Ag.refl _) λo z=>?_);unfold flS at z ⊢;split
   ·rename_i h;rw[if_pos h]at z;obtain⟨a,e,z⟩:=z;exact⟨a,e,B.free z⟩
   ·rename_i h;rw[if_neg h]at z;exact Ls E (l':=.any) (by cases l<;>rfl) (Lw E B z)
 |exc x=>rw[C]at r;exact r.elim
 |bad=>rw[C]at r;exact r.elim
end
theorem kv3{f:Ev->R D}:ju5 (drp f):=λρ d h=>by unfold drp at h;cases e:f ρ<;>rw[e]at h<;>cases h
section
variable {fs:Ev->R (List D)}{r B:Pos}
theorem ke9:Eh X (.builtin "sorted") (rCF X.K Dl):=by
 rintro pins s σ H ys us Q I r ⟨S,ds,d,rs,e,q⟩
 match ds,e with
 | [x],e =>
  obtain⟨v,rfl,rx⟩:=rs.one;obtain⟨u,rfl,ru⟩:=vals1 r;have go:∀(xs:List D)(a:Addr)(vs:List V)(its:List Value)(T:String)(o:Obj)(n:Nat),La x=some xs->(T = "list"\/T = "tuple")->u=.ref a->s.heap.get? a=some o->o.cls=.type T->o.data=.seq its.toArray n->Vals vs its->An X.K H S xs vs->vs.length<=sizeLine ->
    wpAny (model X.prog X.w) X.A (call (.builtin "sorted") [u]) (EP X pins σ Q) X.xe s:=by
   intro xs a vs its T o n ex hT eu ho hc hd rv rr hz;subst eu;have hl:=rv.length;have aj:=rr.length;simp only[Dl,ex]at e;obtain⟨⟨ak,hk⟩,rfl⟩:=Bj e;refine Oa (G:=λws=>ws=its) (jg6 hT ho hc hd (by rw[jAo];lia)) λws h' tk d' k g=>?_;subst g;have I1:Inv X pins σ H {s with heap:=h',drawn:=d',toks:=tk}:=Ou I k;have ab:∀(key:Nat->Wz.α),(∀i d,xs[i]? = some d->key i=keyOf d)->∀(pr:Array Nat)(h2:Heap) af,Vr ws.length pr->Vs key pr ws.length->(∀b o,h'.get? b=some o->h2.get? b=some o)->(∃e,h2.get? h'.objs.size=some (seqObj "list" (jCg (pr.toList.map λi=>ws.getD i .none)) e)) ->
     EP X pins σ Q (.ref h'.objs.size) {s with heap:=h2,drawn:=d',toks:=af}:=λkey C pr h2 af hp hs k2 e2=>by
    have en:ws.length=xs.length:=by lia
    have:=Xv hk C (by rw[<-en];exact hp) (by rw[<-en];exact hs);exact Qz I1 rr rv (by lia) hp k2 e2 λb ag H' s1 hb hv ah=>q b ag _ H' rfl s1 hb hv (by rw[<-this];exact ah)
   refine⟨by lia,?_⟩;by_cases h2:xs.length<2
   ·have ae:Asks (O:=Wz) X.prog X.w X.A.in1.in1 {s with heap:=h'.push (seqObj "list" ws.toArray 0),drawn:=d',toks:=tk} h'.objs.size ws oneType' (λi=>keyOf (xs.getD i .non)):=⟨λz=>by lia,λz=>by lia⟩;exact⟨_,_,ae,ab _ λi d hd=>by rw[jAi,hd];rfl⟩
   ·have F:=hk.resolve_left h2;unfold Du at F;rw[jCb]at F;rcases F with F |F
    ·have⟨ns,e1,hn,C⟩:=jj7 F;exact⟨_,_,Ys (ints_of rr rv e1),ab _ C⟩
    ·have⟨ai,aa,C⟩:=kc8 I1 (a:=h'.objs.size) (jAg _) F rr rv;exact⟨_,_,ke6 aa.push,ab _ C⟩
  cases x with
  |lst xs=>obtain⟨a,vs,rfl,ha,rr⟩:=rx;have⟨its,rv,pl,hz⟩:=I.list ha.sq;obtain⟨o,ho,hc,n,hd⟩:=pl.isList;exact go xs a vs its "list" o n rfl (.inl rfl) ru ho hc hd rv rr hz
  |tup xs=>obtain⟨a,vs,rfl,ha,rr⟩:=rx;have⟨its,rv,pl,hz⟩:=I.tuple (TpR.sq ha);obtain⟨o,ho,hc,n,hd⟩:=pl;exact go xs a vs its "tuple" o n rfl (.inr rfl) ru ho hc hd rv rr hz
  |_=>simp[Dl,La]at e
theorem jq9(hc:X.calm=true):Eh X (.builtin "sorted") (yf6 X.K X.prog X.w):=by
 rintro pins s σ H ys us Q I r ⟨a,ns,e,ha,hn,q⟩;subst e;refine Xe.Aq (λu ag ru=>?_) (vals1 r);obtain rfl:=ag;cases ru;refine Xe.wb8 (λaf _ _=>?_) (I.hok a _ ha);revert af;refine Xe.Aq λo ho hD=>?_;refine Oa (G:=wl1 ns) (ko3 (A:=X.A.in1) (by simpa using I.ok.hd hc) ho hD) λws h' tk d' k g=>?_;revert g;refine Xe.wp5 λC hi ah T _=>?_;have I1:Inv X pins σ H {s with heap:=h',drawn:=d',toks:=tk}:=Ou I k;have pm:C.Perm (V6 ns):=(jBl ah (Lh ns)).mpr λk=>(T k).trans (Nb k ns).symm;have lm:C.length=ws.length:=(IntsAre.length hi).symm;have aj:ws.length<64:=by have h1:=pm.length_eq;have h2:=jh1 ns;lia
 refine⟨by lia,_,_,Ys hi,λpr h2 ai hp hs k2 e2=>?_⟩;refine Qz I1 (S:=λ_=>True) (K4 C) (Ji hi) (by rw[sizeLine_eq];lia) hp k2 e2 λb aa H' s1 hb hv ab=>q b aa H' s1 hb hv λS=>?_;have ek:∀i d,(C.map D.int)[i]? = some d->[C.getD i 0]=keyOf d:=λi d F=>by
  rw[jBa]at F;cases em:C[i]? with
  |none=>rw[em]at F;cases F
  |some m=>rw[em]at F;cases F;rw[jAi,em];rfl
 have en:(C.map D.int).length=ws.length:=by rw[jAd,lm]
 have:=Xv (xs:=C.map D.int) (p:=pr) (key:=λi=>[C.getD i 0]) (.inr (Tu C)) ek (by rw[en];exact hp) (by rw[en];exact hs);have e3:kl2 ns=pr.toList.map λi=>(C.map D.int).getD i .non:=by
  rw[this];unfold kl2;rw[<-Oc (Tu _) (pm.map D.int)];by_cases h2:(C.map D.int).length<2
  ·rw[if_pos h2,Ul h2]
  ·rw[if_neg h2]
 rw[e3];refine Nv _ _ ?_ ab;have:∀ds:List D,(∀d∈ds,d.imm=true)->Dw ds=true:=λds=>by
  induction ds with
  |nil=>intro _;rfl
  |cons d ds ih=>intro h;rw[Dw,h d jAf,ih λx hx=>h x (jAb _ hx)];rfl
 refine this _ λd F=>?_;refine Xe.Aq (λi _ ae=>?_) (jAm.mp F);obtain rfl:=ae;rw[jAi,jBa];cases C[i]? <;> rfl
theorem je4(hc:X.calm=true)(hm:X.mg "sorted" = none)(ae:X.mg "set" = none)(ha:PAd X c l (e::es) fs)(hg:Gl X "sorted":=by rfl)(af:Gl X "set":=by rfl)(he:starEach (e::es) X.env=(false,eval e X.env)::starEach es X.env:=by rfl)
  (ab:(backTo r (starEach es X.env)).any (·.1)=false:=by rfl)(aa:starEach [.Call (.Name "set" B) (e::es) [] r] X.env=(false,eval (.Call (.Name "set" B) (e::es) [] r) X.env)::starEach [] X.env:=by rfl)(G:(backTo pos (starEach [] X.env)).any (·.1)=false:=by rfl):
  PEf X c l (.Call (.Name "sorted" p) [.Call (.Name "set" B) (e::es) [] r] [] pos) (bA fs Dv):=
 PE.imp (R1 (jq9 hc) hg hm PyProof.Rows.boot_sorted (G3 (Hf (wz0 hc) af ae PyProof.Rows.boot_set ha (by decide) (by decide) he ab) Mi aa) (by decide) (by decide) aa G) λσ H Q q=>by
 revert q;refine Xe.Bt λhs ρ E q=>?_;refine Dk E ((RQ.bind.mp q).mono (λds q1 vs H1 s1 E1 r1 hn=>?_) λ_ z=>z);refine Xe.Aq (λd e' q2=>?_) (q1.of);unfold Dv at e';cases F:Ss ds with
 |none=>rw[F]at e';cases e'
 |some ns =>
  rw[F]at e';cases e';have T:ns.length<64:=by
   obtain⟨x',rfl⟩:=inv1 F rfl (λx _ _=>by cases x<;>rfl);cases x' with
   |lst xs =>
    have C:(if xs.length<64 then Ay xs else none)=some ns:=F;by_cases hz:xs.length<64
    ·rw[if_pos hz]at C;rw[Ti C];exact hz
    ·rw[if_neg hz]at C;cases C
   |_=>exact nos F
  refine⟨_,ds,ns,r1,F,λa ha=>⟨a,ns,rfl,Ao,T,λb ws H' s2 hb hv rr=>?_⟩⟩;have sn:=Ar (o:=HO.ext (jx6 X.prog X.w a ns)) ha;exact q2 b ws _ H' rfl ((s1.trans sn).trans s2) ((s1.trans sn).free hb) hv (rr _)
theorem jo1(hc:X.calm=true)(hm:X.mg "sorted" = none)(G:X.mg "set" = none)(ha:PAd X c l (e::es) fs)(hg:Gl X "sorted":=by rfl)(T:Gl X "set":=by rfl)(he:starEach (e::es) X.env=(false,eval e X.env)::starEach es X.env:=by rfl)
  (F:(backTo r (starEach es X.env)).any (·.1)=false:=by rfl)(aa:starEach [.Call (.Name "set" B) (e::es) [] r] X.env=(false,eval (.Call (.Name "set" B) (e::es) [] r) X.env)::starEach [] X.env:=by rfl)(C:(backTo pos (starEach [] X.env)).any (·.1)=false:=by rfl):
  PEd X c l (.Call (.Name "sorted" p) [.Call (.Name "set" B) (e::es) [] r] [] pos) (bA fs Dv):=PEf.d (je4 hc hm G ha hg T he F aa C) λ_ _ h=>Yr h
theorem Sv(F:X.mg "sorted" = none)(ha:PAd X c l (e::es) fs)(G:Gl X "sorted":=by rfl)(T:starEach (e::es) X.env=(false,eval e X.env)::starEach es X.env:=by rfl)(C:(backTo pos (starEach es X.env)).any (·.1)=false:=by rfl):
  PEf X c l (.Call (.Name "sorted" p) (e::es) [] pos) (bA fs Dl):=kn6 ke9 PyProof.Rows.boot_sorted F ha G (by decide) (by decide) T C
end
theorem Eg{N P:List Str}{sc:Scope}(h1:sc.kind=.function:=by rfl)(T:sc.isCoroutine=false:=by rfl)(G:sc.isGenerator=false:=by rfl)(F:N.Nodup:=by decide +kernel)(C:N.take P.length=P:=by rfl)(B:∀x∈P,sc.names.lookup x=some .local\/sc.names.lookup x=some .cell:=by decide +kernel)(r:∀y∈sc.names,y.2≠.free:=by decide +kernel):Am N P sc:=⟨h1,T,G,F,C,B,r⟩
end PD
namespace Gr
abbrev Ah:=List (Nat×Nat)
inductive Bc(es:Ah):Nat->Nat->Prop
 |refl (i:Nat):Bc es i i
 |tie {a b:Nat}:(a,b)∈es->Bc es a b
 |symm {a b:Nat}:Bc es a b->Bc es b a
 |trans {a b c:Nat}:Bc es a b->Bc es b c->Bc es a c
variable {es:Ah}{i j:Nat}
theorem Bc.mono{fs:Ah}(h:∀e∈es,e∈fs)(c:Bc es i j):Bc fs i j:=by
 induction c with
 |refl i=>exact .refl i
 |tie m=>exact .tie (h _ m)
 |symm _ f=>exact f.symm
 |trans _ _ b a=>exact b.trans a
theorem Bc.closed{P:Nat->Prop}(h:∀a b,(a,b)∈es->(P a↔P b))(c:Bc es i j):P i↔P j:=by
 induction c with
 |refl i=>exact Iff.rfl
 |tie m=>exact h _ _ m
 |symm _ g=>exact g.symm
 |trans _ _ f e=>exact f.trans e
variable {a b:Nat}
theorem Tc:Bc (es++[(a,b)]) i j↔Bc es i j\/(Bc es i a/\Bc es b j)\/(Bc es i b/\Bc es a j):=by
 have up:∀{x y},Bc es x y->Bc (es++[(a,b)]) x y:=λc=>c.mono λe r=>jBk _ r;have tie:Bc (es++[(a,b)]) a b:=.tie (jAn _ (jAh.mpr rfl));constructor
 ·intro c;induction c with
  |refl i=>exact .inl (.refl i)
  |tie m =>
   rcases jAq.mp m with m |m
   ·exact .inl (.tie m)
   ·cases jAh.mp m;exact .inr (.inl ⟨.refl _,.refl _⟩)
  |symm _ q =>
   rcases q with h | ⟨f,g⟩ | ⟨f,g⟩
   ·exact .inl h.symm
   ·exact .inr (.inr ⟨g.symm,f.symm⟩)
   ·exact .inr (.inl ⟨g.symm,f.symm⟩)
  |trans _ _ p o =>
   rcases p with h | ⟨f,g⟩ | ⟨f,g⟩<;>rcases o with k | ⟨n,l⟩ | ⟨n,l⟩
   ·exact .inl (h.trans k)
   ·exact .inr (.inl ⟨h.trans n,l⟩)
   ·exact .inr (.inr ⟨h.trans n,l⟩)
   ·exact .inr (.inl ⟨f,g.trans k⟩)
   ·exact .inr (.inl ⟨f,l⟩)
   ·exact .inl (f.trans l)
   ·exact .inr (.inr ⟨f,g.trans k⟩)
   ·exact .inl (f.trans l)
   ·exact .inr (.inr ⟨f,l⟩)
 ·rintro(h | ⟨f,g⟩ | ⟨f,g⟩)
  ·exact up h
  ·exact((up f).trans tie).trans (up g)
  ·exact((up f).trans tie.symm).trans (up g)
def Hb(l:List Nat)(x y:Nat):List Nat:=l.map λz=>if z=x\/z=y then min x y else z
def Dy(n:Nat)(es:Ah):List Nat:=es.foldl (λl e=>Hb l (l.getD e.1 0) (l.getD e.2 0)) (List.range n)
def lab(n:Nat)(es:Ah)(i:Nat):Nat:=(Dy n es).getD i 0
theorem Qk(n:Nat)(es:Ah):(Dy n es).length=n:=by
 unfold Dy;have:∀(es:Ah)(l:List Nat),(es.foldl (λl e=>Hb l (l.getD e.1 0) (l.getD e.2 0)) l).length=l.length:=by
  intro es;induction es with
  |nil=>intro l;rfl
  |cons e es c=>intro l;rw[jEt,c];simp[Hb]
 rw[this,jBb]
theorem Uu(n:Nat)(es:Ah)(e:Nat×Nat):Dy n (es++[e])=Hb (Dy n es) (lab n es e.1) (lab n es e.2):=by unfold Dy lab;rw[jHi];rfl
theorem Ww(n:Nat)(es:Ah)(a b i:Nat)(hi:i<n):lab n (es++[(a,b)]) i=if lab n es i=lab n es a\/lab n es i=lab n es b then min (lab n es a) (lab n es b) else lab n es i:=by
 have f:=Qk n es;show(Dy n (es++[(a,b)])).getD i 0=_;rw[Uu];have c:i<(Dy n es).length:=by lia
 unfold Hb;rw[jAi,jBa,jAa c];have e:lab n es i=(Dy n es)[i]:=by unfold lab;rw[jAi,jAa c];rfl
 rw[e];rfl
def InW(n:Nat)(es:Ah):Prop:=∀e∈es,e.1<n/\e.2<n
structure Up(n:Nat)(es:Ah)(L:Nat->Nat):Prop where
 le:∀i,i<n->L i<=i
 idem:∀i,i<n->L (L i)=L i
 conn:∀i j,i<n->j<n->(L i=L j↔Bc es i j)
theorem Ow(n i:Nat)(hi:i<n):lab n [] i=i:=by unfold lab Dy;simp[hi]
theorem V2:Bc [] i j↔i=j:=by
 constructor
 ·intro c;have:=Bc.closed (es:=[]) (P:=λx=>x=i) (λa b h=>by cases h) c;exact(this.mp rfl).symm
 ·rintro rfl;exact .refl _
theorem Km(n:Nat):∀es:Ah,InW n es->Up n es (lab n es):=by
 have step:∀(es:Ah)(a b:Nat),a<n->b<n->Up n es (lab n es)->Up n (es++[(a,b)]) (lab n (es++[(a,b)])):=by
  intro es a b u r L;have C:=L.le a u;have B:=L.le b r;have A:=L.idem a u;have y:=L.idem b r;have s:=Ww n es a b;generalize I:lab n es=f at L C B A y s;generalize H:lab n (es++[(a,b)])=g at s;refine⟨λi c=>?_,λi c=>?_,λi j c o=>?_⟩
  ·rw[s i c];have:=L.le i c;split
   ·rename_i h;rcases h with h |h<;>lia
   ·exact this
  ·have G:g i<=i:=by
    rw[s i c];have:=L.le i c;split
    ·rename_i h;rcases h with h |h<;>lia
    ·exact this
   rw[s (g i) (by lia)];by_cases h:f i=f a\/f i=f b
   ·have e:g i=min (f a) (f b):=by rw[s i c,if_pos h]
    rw[e];have:f (min (f a) (f b))=min (f a) (f b):=by
     rcases jEv (f a) (f b) with z |z
     ·rw[jCv z,A]
     ·rw[jDe z,y]
    rw[this];rw[if_pos];rcases jEv (f a) (f b) with z |z
    ·left;exact jCv z
    ·right;exact jDe z
   ·have e:g i=f i:=by rw[s i c,if_neg h]
    rw[e,L.idem i c,if_neg h]
  ·rw[Tc,<-L.conn i j c o,<-L.conn i a c u,<-L.conn b j r o,<-L.conn i b c r,<-L.conn a j u o,s i c,s j o];have J:min (f a) (f b)=f a\/min (f a) (f b)=f b:=by lia
   by_cases l:f i=f a\/f i=f b
   ·by_cases m:f j=f a\/f j=f b
    ·rw[if_pos l,if_pos m];constructor
     ·intro _;rcases l with l |l<;>rcases m with m |m
      ·left;lia
      ·right;left;lia
      ·right;right;lia
      ·left;lia
     ·intro _;rfl
    ·rw[if_pos l,if_neg m];constructor
     ·intro h;exfalso;apply m;lia
     ·intro h;exfalso;apply m;rcases h with h |h |h<;>lia
   ·by_cases m:f j=f a\/f j=f b
    ·rw[if_neg l,if_pos m];constructor
     ·intro h;exfalso;apply l;lia
     ·intro h;exfalso;apply l;rcases h with h |h |h<;>lia
    ·rw[if_neg l,if_neg m];constructor
     ·intro h;exact .inl h
     ·intro h;rcases h with h |h |h
      ·exact h
      ·exfalso;apply l;lia
      ·exfalso;apply l;lia
 intro es;have gen:∀k (es:Ah),es.length=k->InW n es->Up n es (lab n es):=by
  intro k;induction k with
  |zero =>
   intro es q _;cases es with
   |nil=>exact⟨λi c=>by rw[Ow n i c];exact jAg _,λi c=>by rw[Ow n i c,Ow n i c],λi j c o=>by rw[Ow n i c,Ow n j o,V2]⟩
   |cons _ _=>simp at q
  |succ k E =>
   intro es q v;rcases jGn es with rfl | ⟨w,e,rfl⟩
   ·simp at q
   ·rw[jGo]at q v ⊢;have p:w.length=k:=by simpa using q
    have:=v e (jAn _ (jAh.mpr rfl));exact step w e.1 e.2 this.1 this.2 (E w p λx F=>v x (jBk _ F))
 exact gen _ es rfl
theorem Qj{n:Nat}{fs:Ah}{L M:Nat->Nat}(f:Up n es L)(e:Up n fs M)(h:∀i j,i<n->j<n->(Bc es i j↔Bc fs i j))(hi:i<n):L i=M i:=by
 have key:∀{es fs:Ah}{L M:Nat->Nat},Up n es L->Up n fs M->(∀i j,i<n->j<n->(Bc es i j↔Bc fs i j))->L i<=M i:=by intro es fs L M f e h;have g:=e.le i hi;have c:Bc fs (M i) i:=(e.conn (M i) i (by lia) hi).mp (e.idem i hi);have:=(f.conn (M i) i (by lia) hi).mpr ((h _ _ (by lia) hi).mpr c);have l:=f.le (M i) (by lia);lia
 exact Nat.le_antisymm (key f e h) (key e f λi j a b=>(h i j a b).symm)
theorem kt4{n:Nat}{fs:Ah}(f:InW n es)(h:∀e,e∈es↔e∈fs)(hi:i<n):lab n es i=lab n fs i:=
 Qj (Km n es f) (Km n fs λe z=>f e ((h e).mpr z)) (λi j _ _=>⟨λc=>c.mono λe z=>(h e).mp z,λc=>c.mono λe z=>(h e).mpr z⟩) hi
def Ce(n:Nat)(es:Ah):List Nat:=(List.range n).filter λi=>lab n es i=i
def cls(n:Nat)(es:Ah)(m:Nat):List Nat:=(List.range n).filter λi=>lab n es i=m
variable {m:Nat}
theorem Gd{n:Nat}:m∈Ce n es↔m<n/\lab n es m=m:=by simp[Ce]
theorem ws4{n:Nat}(h:InW n es)(hi:i<n):lab n es i<n:=jDj ((Km n es h).le i hi) hi
theorem Lr{n:Nat}(h:InW n es)(hi:i<n):lab n es i∈Ce n es:=Gd.mpr ⟨ws4 h hi,(Km n es h).idem i hi⟩
theorem kj3{n:Nat}{fs:Ah}(f:InW n es)(h:∀e,e∈es↔e∈fs):Ce n es=Ce n fs:=by unfold Ce;apply jEn;intro i c;rw[kt4 f h (jAt.mp c)]
theorem Qn(n:Nat)(es:Ah):(Ce n es).Nodup:=List.Pairwise.filter _ jDh
theorem kj4{n:Nat}(h:InW n es)(p:a<n)(o:b<n):(Ce n (es++[(a,b)])).length<=(Ce n es).length/\(Ce n es).length<=(Ce n (es++[(a,b)])).length+1:=by
 have L:=Km n es h;have s:=Ww n es a b;have sub:∀i∈Ce n (es++[(a,b)]),i∈Ce n es:=λi g=>by
  have⟨f,c⟩:=Gd.mp g;refine Gd.mpr ⟨f,?_⟩;rw[s i f]at c;split at c
  ·have l:=L.idem a p;have k:=L.idem b o;rcases jEv (lab n es a) (lab n es b) with z |z
   ·rw[jCv z]at c;rw[<-c];exact l
   ·rw[jDe z]at c;rw[<-c];exact k
  ·exact c
 have sup:∀i∈Ce n es,i∈max (lab n es a) (lab n es b)::Ce n (es++[(a,b)]):=λi g=>by
  have⟨f,c⟩:=Gd.mp g;by_cases e:i=max (lab n es a) (lab n es b)
  ·rw[e];exact jAf ..
  ·refine jAb _ (Gd.mpr ⟨f,?_⟩);rw[s i f,c];split
   ·lia
   ·rfl
 exact⟨List.Nodup.length_le_of_subset (Qn _ _) sub,by
  have:=List.Nodup.length_le_of_subset (Qn n es) sup;simpa using this⟩
theorem kj2{n:Nat}(h:InW n es)(p:a<n)(o:b<n)(c:Bc es a b):Ce n (es++[(a,b)])=Ce n es:=by
 have q:InW n (es++[(a,b)]):=λe f=>by
  rcases jAq.mp f with f |f
  ·exact h e f
  ·rw[jAh.mp f];exact⟨p,o⟩
 unfold Ce;apply jEn;intro i l;have:lab n (es++[(a,b)]) i=lab n es i:=Qj (Km n _ q) (Km n es h) (λi j _ _=>by
  rw[Tc];constructor
  ·rintro(z | ⟨k,g⟩ | ⟨k,g⟩)
   ·exact z
   ·exact(k.trans c).trans g
   ·exact(k.trans c.symm).trans g
  ·exact .inl) (jAt.mp l)
 rw[this]
theorem ku5{n:Nat}(h:InW n es)(g:a<n)(f:b<n)(c:¬ Bc es a b):(Ce n (es++[(a,b)])).length+1=(Ce n es).length:=by
 have v:=kj4 h g f;have L:=Km n es h;have s:=Ww n es a b;have ne:lab n es a≠lab n es b:=λz=>c ((L.conn a b g f).mp z);have p:max (lab n es a) (lab n es b)∈Ce n es:=by
  rcases jEv (lab n es a) (lab n es b) with z |z
  ·rw[jFg z];exact Lr h f
  ·rw[jFk z];exact Lr h g
 have o:max (lab n es a) (lab n es b)∉Ce n (es++[(a,b)]):=λz=>by have⟨k,e⟩:=Gd.mp z;have⟨_,u⟩:=Gd.mp p;rw[s _ k,u]at e;rw[if_pos (by lia)]at e;lia
 have sub:∀i∈max (lab n es a) (lab n es b)::Ce n (es++[(a,b)]),i∈Ce n es:=λi l=>by
  rcases jAe.mp l with rfl |l
  ·exact p
  ·have⟨k,e⟩:=Gd.mp l;refine Gd.mpr ⟨k,?_⟩;rw[s i k]at e;have r:=L.idem a g;have q:=L.idem b f;split at e
   ·rcases jEv (lab n es a) (lab n es b) with z |z
    ·rw[jCv z]at e;rw[<-e];exact r
    ·rw[jDe z]at e;rw[<-e];exact q
   ·exact e
 have:=List.Nodup.length_le_of_subset (jBj.mpr ⟨o,Qn n _⟩) sub;simp only[jAy]at this;lia
def wy2(n:Nat)(es:Ah):Prop:=es≠[]/\n<(Ce n es).length+es.length/\∀f e c,es=f++e::c->n=(Ce n (f++c)).length+(f++c).length
theorem ko6{fs:Ah}(h:∀a b,(a,b)∈es->Bc fs a b)(c:Bc es i j):Bc fs i j:=by
 induction c with
 |refl i=>exact .refl i
 |tie m=>exact h _ _ m
 |symm _ g=>exact g.symm
 |trans _ _ f e=>exact f.trans e
theorem Zh{n:Nat}{fs:Ah}(k:InW n es)(g:InW n fs)(h:∀e∈es,e∈fs)(l:∀a b,(a,b)∈fs->Bc es a b):(Ce n fs).length=(Ce n es).length:=by
 have:Ce n fs=Ce n es:=by unfold Ce;apply jEn;intro i f;have:lab n fs i=lab n es i:=Qj (Km n fs g) (Km n es k) (λi j _ _=>⟨λc=>ko6 l c,λc=>c.mono h⟩) (jAt.mp f);rw[this]
 rw[this]
def cc(n:Nat)(es:Ah):Nat:=(Ce n es).length
theorem J6{n:Nat}{fs:Ah}(c:InW n es)(h:∀e,e∈es↔e∈fs):cc n es=cc n fs:=by unfold cc;rw[kj3 c h]
theorem M7(n:Nat):cc n []=n:=by unfold cc Ce;rw[jEs.mpr (λi c=>by simp[Ow n i (jAt.mp c)]),jBb]
variable {e:Nat×Nat}
theorem Cd{n:Nat}:InW n (e::es)↔(e.1<n/\e.2<n)/\InW n es:=
 ⟨λh=>⟨h e jAf,λf c=>h f (jAb _ c)⟩,λh f c=>(jAe.mp c).elim (λz=>z ▸ h.1) (h.2 f)⟩
theorem jn7{f:Nat×Nat}:f∈e::es↔f∈es++[e]:=by simp[or_comm]
theorem Rb{n:Nat}(h:InW n ((a,b)::es))(c:Bc es a b):cc n ((a,b)::es)=cc n es:=by have⟨⟨l,k⟩,g⟩:=Cd.mp h;rw[J6 h (λf=>jn7)];unfold cc;rw[kj2 g l k c]
theorem M8{n:Nat}(h:InW n ((a,b)::es))(c:¬ Bc es a b):cc n ((a,b)::es)+1=cc n es:=by have⟨⟨l,k⟩,g⟩:=Cd.mp h;rw[J6 h (λf=>jn7)];exact ku5 g l k c
theorem V0{n:Nat}(h:InW n (e::es)):cc n (e::es)<=cc n es/\cc n es<=cc n (e::es)+1:=by
 obtain⟨a,b⟩:=e;by_cases c:Bc es a b
 ·rw[Rb h c];lia
 ·have:=M8 h c;lia
theorem jg3(n:Nat):∀es:Ah,InW n es->n<=es.length+cc n es
 | [],_=>by rw[M7];simp
 |e::es,h=>by have f:=jg3 n es (Cd.mp h).2;have c:=V0 h;rw[jAy];lia
theorem kn8(n:Nat):∀(fs es:Ah),InW n (fs++es)->cc n (fs++es)<=cc n es
 | [],_,_=>jAg _
 |f::fs,es,h=>by rw[jFc]at h ⊢;exact jBt (V0 h).1 (kn8 n fs es (Cd.mp h).2)
theorem jy9{n:Nat}{fs:Ah}(h:InW n fs)(c:∀e∈es,e∈fs):cc n fs<=cc n es:=by have k:InW n (fs++es):=λe g=>(jAq.mp g).elim (h e) λz=>h e (c e z);have e:cc n fs=cc n (fs++es):=J6 h λf=>⟨λz=>jBk _ z,λz=>(jAq.mp z).elim id (c f)⟩;rw[e];exact kn8 n fs es k
def cp(a b p:Nat):Nat:=if p=b then a else if b<p then p - 1 else p
def ct(a b:Nat)(e:Nat×Nat):Nat×Nat:=(min (cp a b e.1) (cp a b e.2),max (cp a b e.1) (cp a b e.2))
def up(b p:Nat):Nat:=if p<b then p else p+1
theorem wl5{n p:Nat}(c:a<b)(g:b<n)(f:p<n):cp a b p<n - 1:=by unfold cp;split<;>(try split)<;>lia
theorem wl6{n:Nat}(c:a<b)(k:b<n)(h:InW n es):InW (n - 1) (es.map (ct a b)):=λe l=>by obtain⟨f,g,rfl⟩:=jAm.mp l;have p:=wl5 c k (h f g).1;have o:=wl5 c k (h f g).2;unfold ct;dsimp only;lia
theorem jz0{c d:Nat}(h:(c,d)∈es):Bc (es.map (ct a b)) (cp a b c) (cp a b d):=by
 have k:ct a b (c,d)∈es.map (ct a b):=jAm.mpr ⟨_,h,rfl⟩;have f:Bc (es.map (ct a b)) (ct a b (c,d)).1 (ct a b (c,d)).2:=Bc.tie k;unfold ct at f;dsimp only at f;by_cases g:cp a b c<=cp a b d
 ·rw[jCv g,jFg g]at f;exact f
 ·rw[jDe (by lia),jFk (by lia)]at f;exact f.symm
variable {x:Nat}
theorem wb5(l:a<b){y:Nat}:Bc ((a,b)::es) x y↔Bc (es.map (ct a b)) (cp a b x) (cp a b y):=by
 have s:cp a b a=a:=by unfold cp;rw[if_neg (by lia),if_neg (by lia)]
 have n:cp a b b=a:=by unfold cp;rw[if_pos rfl]
 have back:∀x,Bc ((a,b)::es) x (up b (cp a b x)):=λx=>by
  by_cases h:x=b
  ·subst h;rw[n];have:up x a=a:=by unfold up;rw[if_pos l]
   rw[this];exact(Bc.tie jAf).symm
  ·have:up b (cp a b x)=x:=by unfold cp up;rw[if_neg h];split<;>split<;>lia
   rw[this];exact Bc.refl _
 constructor
 ·intro c;refine(Bc.closed (P:=λj=>Bc (es.map (ct a b)) (cp a b x) (cp a b j)) (λc d g=>?_) c).mp (Bc.refl _);rcases jAe.mp g with e |h
  ·cases e;rw[s,n]
  ·exact⟨λz=>z.trans (jz0 h),λz=>z.trans (jz0 h).symm⟩
 ·intro c;have r:Bc ((a,b)::es) x (up b (cp a b y)):=by
   refine(Bc.closed (P:=λj=>Bc ((a,b)::es) x (up b j)) (λc d g=>?_) c).mp (back x);have⟨⟨p,q⟩,o,e⟩:=jAm.mp g;have f:Bc ((a,b)::es) (up b (cp a b p)) (up b (cp a b q)):=(back p).symm.trans ((Bc.tie (jAb _ o)).trans (back q));unfold ct at e;dsimp only at e;cases e;by_cases k:cp a b p<=cp a b q
   ·rw[jCv k,jFg k];exact⟨λz=>z.trans f,λz=>z.trans f.symm⟩
   ·rw[jDe (by lia),jFk (by lia)];exact⟨λz=>z.trans f.symm,λz=>z.trans f⟩
  exact r.trans (back y).symm
theorem kn9{n a b:Nat}(g:a<b)(l:b<n):∀es:Ah,InW n es->cc (n - 1) (es.map (ct a b))=cc n ((a,b)::es)
 | [],_=>by
  have h:InW n [(a,b)]:=λe u=>by rw[jAh.mp u];exact⟨by omega,l⟩
  have:=M8 (es:=[]) h (λc=>by have:=V2.mp c;omega);rw[M7]at this;rw[jEf,M7];omega
 |f::es,h=>by
  have s:=kn9 g l es (Cd.mp h).2;have w:InW n ((a,b)::es):=Cd.mpr ⟨⟨by omega,l⟩,(Cd.mp h).2⟩;have v:InW n ((a,b)::f::es):=Cd.mpr ⟨⟨by omega,l⟩,h⟩;have r:InW n (f::(a,b)::es):=Cd.mpr ⟨(Cd.mp h).1,w⟩;rw[J6 v (λe=>by simp only[jAe];exact⟨λz=>z.elim (λz=>.inr (.inl z)) λz=>z.elim .inl λz=>.inr (.inr z),λz=>z.elim (λz=>.inr (.inl z)) λz=>z.elim .inl λz=>.inr (.inr z)⟩:∀e,e∈(a,b)::f::es↔e∈f::(a,b)::es),jAk];have o:InW (n - 1) (ct a b f::es.map (ct a b)):=by rw[<-jAk];exact wl6 g l h
  obtain⟨p,q⟩:=f;have key:Bc (es.map (ct a b)) (ct a b (p,q)).1 (ct a b (p,q)).2↔Bc ((a,b)::es) p q:=by
   rw[wb5 g];unfold ct;dsimp only;by_cases k:cp a b p<=cp a b q
   ·rw[jCv k,jFg k]
   ·rw[jDe (by omega),jFk (by omega)];exact⟨Bc.symm,Bc.symm⟩
  by_cases c:Bc ((a,b)::es) p q
  ·rw[Rb r c,<-s];exact Rb (a:=(ct a b (p,q)).1) (b:=(ct a b (p,q)).2) o (key.mpr c)
  ·have B:=M8 r c;have A:=M8 (a:=(ct a b (p,q)).1) (b:=(ct a b (p,q)).2) o (λz=>c (key.mp z));have y:cc (n - 1) (ct a b (p,q)::es.map (ct a b))=cc (n - 1) (((ct a b (p,q)).1,(ct a b (p,q)).2)::es.map (ct a b)):=rfl;omega
def subs:Ah->List Ah
 | []=>[[]]
 |e::ts=>subs ts++(subs ts).map (e::·)
theorem Od:∀(ts:Ah)(A:Ah),A∈subs ts->∀e∈A,e∈ts
 | [],A,h,e,c=>by rw[jAh.mp h]at c;exact c
 |f::ts,A,h,e,c=>by
  rcases jAq.mp h with h |h
  ·exact jAb _ (Od ts A h e c)
  ·obtain⟨B,g,rfl⟩:=jAm.mp h;rcases jAe.mp c with z |z
   ·exact z ▸ jAf
   ·exact jAb _ (Od ts B g e z)
theorem jo8(g:Nat×Nat->Nat×Nat):∀c:Ah,subs (c.map g)=(subs c).map (·.map g)
 | []=>rfl
 |e::c=>by rw[jAk,subs,subs,jo8 g c,jBc,jBe,jBe];rfl
def term(n:Nat)(E:Ah)(u v:Int)(A:Ah):Int:=u ^ (cc n A - cc n E) * v ^ (A.length+cc n A - n)
def SS(n:Nat)(ts:Ah)(u v:Int):Int:=((subs ts).map (term n ts u v)).sum
theorem Lb{c:Type}(k:Int)(f:c->Int):∀l:List c,(l.map λx=>k * f x).sum=k * (l.map f).sum
 | []=>by simp
 |a::l=>by rw[jAk,jBq,Lb k f l,jAk,jBq,jHm]
theorem Cg{c:Type}{f g:c->Int}{l:List c}(h:∀a∈l,f a=g a):(l.map f).sum=(l.map g).sum:=by rw[jBy h]
theorem wn2(n:Nat)(u v:Int):SS n [] u v=1:=by simp[SS,subs,term,M7]
theorem Z5(n:Nat)(e:Nat×Nat)(ts:Ah)(u v:Int):SS n (e::ts) u v=((subs ts).map (term n (e::ts) u v)).sum+((subs ts).map λA=>term n (e::ts) u v (e::A)).sum:=by unfold SS;rw[subs,jBc,jDp,jBe];rfl
theorem wa6{n:Nat}{ts:Ah}(h:InW n ((a,a)::ts))(u v:Int):SS n ((a,a)::ts) u v=(1+v) * SS n ts u v:=by
 have k:=(Cd.mp h).2;have c:∀A∈subs ts,InW n A:=λA c e l=>k e (Od ts A c e l);have g:cc n ((a,a)::ts)=cc n ts:=Rb h (Bc.refl _);rw[Z5];have q:((subs ts).map (term n ((a,a)::ts) u v)).sum=SS n ts u v:=Cg λA _=>by unfold term;rw[g]
 have p:((subs ts).map λA=>term n ((a,a)::ts) u v ((a,a)::A)).sum=v * SS n ts u v:=by unfold SS;rw[<-Lb];refine Cg λA f=>?_;have r:=jg3 n A (c A f);have o:cc n ((a,a)::A)=cc n A:=Rb (Cd.mpr ⟨(Cd.mp h).1,c A f⟩) (Bc.refl _);unfold term;rw[g,o,jAy,show A.length+1+cc n A - n=(A.length+cc n A - n)+1 by lia,jDq];rw[jDd (v ^ _) v,<-jCe,<-jCe,jDd _ v]
 rw[q,p,jHn,jFh]
theorem Z6{n:Nat}{ts:Ah}(f:a<b)(h:InW n ((a,b)::ts))(u v:Int):((subs ts).map λA=>term n ((a,b)::ts) u v ((a,b)::A)).sum=SS (n - 1) (ts.map (ct a b)) u v:=by have⟨⟨p,c⟩,g⟩:=Cd.mp h;have c:b<n:=c;unfold SS;rw[jo8,jBe];refine Cg λA l=>?_;have k:InW n A:=λe o=>g e (Od ts A l e o);have q:=jg3 n _ (Cd.mpr ⟨⟨p,c⟩,k⟩:InW n ((a,b)::A));rw[jAy]at q;show term _ _ _ _ _=term (n - 1) (ts.map (ct a b)) u v (A.map (ct a b));unfold term;rw[kn9 f c A k,kn9 f c ts g,jAd,jAy,show A.length+1+cc n ((a,b)::A) - n=A.length+cc n ((a,b)::A) - (n - 1) by lia]
theorem wa5{n:Nat}{ts:Ah}(f:a<b)(h:InW n ((a,b)::ts))(c:Bc ts a b)(u v:Int):SS n ((a,b)::ts) u v=SS n ts u v+SS (n - 1) (ts.map (ct a b)) u v:=by rw[Z5,Z6 f h];congr 1;refine Cg λA _=>?_;unfold term;rw[Rb h c]
theorem wn1{n:Nat}{ts:Ah}(f:a<b)(h:InW n ((a,b)::ts))(c:¬ Bc ts a b)(u v:Int):SS n ((a,b)::ts) u v=(1+u) * SS (n - 1) (ts.map (ct a b)) u v:=by
 have⟨p,o⟩:=Cd.mp h;rw[Z5,Z6 f h];have w:((subs ts).map (term n ((a,b)::ts) u v)).sum=u * SS (n - 1) (ts.map (ct a b)) u v:=by rw[<-Z6 f h,<-Lb];refine Cg λA q=>?_;have k:∀e∈A,e∈ts:=Od ts A q;have r:InW n A:=λe l=>o e (k e l);have g:InW n ((a,b)::A):=Cd.mpr ⟨p,r⟩;have B:=M8 g (λz=>c (z.mono k));have s:=jg3 n _ g;have y:cc n ((a,b)::ts)<=cc n ((a,b)::A):=jy9 h λe l=>(jAe.mp l).elim (λz=>z ▸ jAf) λz=>jAb _ (k e z);rw[jAy]at s;unfold term;rw[jAy,show cc n A - cc n ((a,b)::ts)=(cc n ((a,b)::A) - cc n ((a,b)::ts))+1 by lia,show A.length+cc n A - n=A.length+1+cc n ((a,b)::A) - n by lia,jDq];rw[jDd (u ^ _) u,jCe]
 rw[w,jHn,jFh,Int.add_comm]
abbrev Tr:=Int×Int×Int
abbrev Kv:=(Int×Int)×Int
def val(x y:Int)(r:Tr):Int:=r.2.2 * x ^ r.1.toNat * y ^ r.2.1.toNat
def look:List Kv->Int×Int->Int
 | [],_=>0
 |p::r,k=>if p.1=k then p.2 else look r k
def put:List Kv->Int×Int->Int->List Kv
 | [],k,v=>[(k,v)]
 |p::r,k,v=>if p.1=k then(p.1,v)::r else p::put r k v
def step(l:List Kv)(r:Tr):List Kv:=put l (r.1,r.2.1) (look l (r.1,r.2.1)+r.2.2)
def acc(l:List Kv)(c:List Tr):List Kv:=c.foldl step l
theorem kc3(f:Int×Int->Int)(k:Int×Int)(u:Int):∀l:List Kv,((put l k (look l k+u)).map λp=>p.2 * f p.1).sum=(l.map λp=>p.2 * f p.1).sum+u * f k
 | []=>by simp[put,look]
 |p::r=>by
  by_cases h:p.1=k
  ·rw[put,look,if_pos h,if_pos h,jAk,jBq,jAk,jBq];show(p.2+u) * f p.1+_=_;rw[jHn,h];lia
  ·simp only[put,look,if_neg h,jAk,jBq,kc3 f k u r];lia
theorem jx9(f:Int×Int->Int):∀(c:List Tr)(l:List Kv),((acc l c).map λp=>p.2 * f p.1).sum=(l.map λp=>p.2 * f p.1).sum+(c.map λr=>r.2.2 * f (r.1,r.2.1)).sum
 | [],l=>by simp[acc]
 |r::c,l=>by show((acc (step l r) c).map _).sum=_;rw[jx9 f c (step l r),step,kc3,jAk,jBq];lia
theorem Xb{k:Int×Int}{v:Int}:∀{l:List Kv}{q:Int×Int},q∈(put l k v).map (·.1)↔q∈l.map (·.1)\/q=k
 | [],q=>by simp[put]
 |p::r,q=>by
  by_cases h:p.1=k
  ·simp only[put,if_pos h,jAk,jAe];exact⟨λz=>.inl z,λz=>z.elim id λz=>.inl (z.trans h.symm)⟩
  ·simp only[put,if_neg h,jAk,jAe,Xb (l:=r)];exact⟨λz=>z.elim (λz=>.inl (.inl z)) λz=>z.elim (λz=>.inl (.inr z)) .inr,λz=>z.elim (λz=>z.elim .inl λz=>.inr (.inl z)) λz=>.inr (.inr z)⟩
theorem Zo{k:Int×Int}{v:Int}:∀{l:List Kv},(l.map (·.1)).Nodup->((put l k v).map (·.1)).Nodup
 | [],_=>by simp[put]
 |p::r,h=>by
  rw[jAk,jBj]at h;by_cases c:p.1=k
  ·simp only[put,if_pos c,jAk,jBj];exact h
  ·simp only[put,if_neg c,jAk,jBj];exact⟨λz=>(Xb.mp z).elim h.1 c,Zo h.2⟩
theorem Oj:∀(c:List Tr){l:List Kv},(l.map (·.1)).Nodup->((acc l c).map (·.1)).Nodup
 | [],_,h=>h
 |r::c,l,h=>Oj c (l:=step l r) (Zo h)
theorem Vt:∀(c:List Tr){l:List Kv}{q:Int×Int},q∈(acc l c).map (·.1)->q∈l.map (·.1)\/∃r∈c,q=(r.1,r.2.1)
 | [],_,_,h=>.inl h
 |r::c,l,q,h=>by
  rcases Vt c (l:=step l r) h with z | ⟨s,f,e⟩
  ·rcases Xb.mp z with z |z
   ·exact .inl z
   ·exact .inr ⟨r,jAf,z⟩
  ·exact .inr ⟨s,jAb _ f,e⟩
theorem W0:∀{l:List Kv}{k:Int×Int},(∀p∈l,0<=p.2)->0<=look l k
 | [],_,_=>Int.le_refl _
 |p::r,k,h=>by
  unfold look;split
  ·exact h p jAf
  ·exact W0 λq c=>h q (jAb _ c)
theorem kc2{k:Int×Int}{v:Int}(f:0<=v):∀{l:List Kv},(∀p∈l,0<=p.2)->∀p∈put l k v,0<=p.2
 | [],_,p,c=>by rw[jAh.mp c];exact f
 |q::r,h,p,c=>by
  unfold put at c;split at c
  ·rcases jAe.mp c with z |z
   ·rw[z];exact f
   ·exact h p (jAb _ z)
  ·rcases jAe.mp c with z |z
   ·rw[z];exact h q jAf
   ·exact kc2 f (λq g=>h q (jAb _ g)) p z
theorem jx8:∀(c:List Tr){l:List Kv},(∀r∈c,0<=r.2.2)->(∀p∈l,0<=p.2)->∀p∈acc l c,0<=p.2
 | [],_,_,h=>h
 |r::c,l,f,h=>jx8 c (l:=step l r) (λs g=>f s (jAb _ g)) (kc2 (by
   have o:=W0 (k:=(r.1,r.2.1)) h;have n:=f r jAf;lia) h)
def jy0:List (Int×Int):=(List.range 10).flatMap λ(i:Nat)=>(List.range (10 - i)).map λ(j:Nat)=>((i:Int),(j:Int))
theorem ke4:jy0.length=55:=by decide
theorem kj1{q:Int×Int}(f:0<=q.1)(c:0<=q.2)(g:q.1+q.2<=9):q∈jy0:=by unfold jy0;rw[List.mem_flatMap];refine⟨q.1.toNat,jAt.mpr (by lia),jAm.mpr ⟨q.2.toNat,jAt.mpr (by lia),?_⟩⟩;rw[jEc f,jEc c]
theorem Kz{c:Type}[DecidableEq c]:∀{l m:List c},l.Nodup->(∀x∈l,x∈m)->l.length<=m.length
 | [],m,_,_=>jCr _
 |a::l,m,h,g=>by have⟨o,n⟩:=jBj.mp h;have k:=g a jAf;have:=Kz (l:=l) (m:=m.erase a) n λx f=>(List.mem_erase_of_ne (λ(z:x=a)=>o (z ▸ f))).mpr (g x (jAb _ f));rw[List.length_erase_of_mem k]at this;have p:0<m.length:=List.length_pos_of_mem k;rw[jAy];lia
theorem few{l:List Kv}(hn:(l.map (·.1)).Nodup)(h:∀p∈l,0<=p.1.1/\0<=p.1.2/\p.1.1+p.1.2<=9):l.length<=55:=by
 have:=Kz hn (m:=jy0) λq f=>by obtain⟨p,c,rfl⟩:=jAm.mp f;exact kj1 (h p c).1 (h p c).2.1 (h p c).2.2
 rw[jAd,ke4]at this;exact this
structure Hh(m:Nat)(T:List Tr):Prop where
 few:T.length<=55
 pos:∀r∈T,0<=r.1/\0<=r.2.1/\r.1+r.2.1<=m
 tim:∀r∈T,0<=r.2.2
 all:(T.map (·.2.2)).sum<=2 ^ m
theorem yn3(r:Tr):val 1 1 r=r.2.2:=by unfold val;rw[Int.one_pow,Int.one_pow,jCy,jCy]
theorem Q3:∀{l:List Int},(∀x∈l,0<=x)->0<=l.sum
 | [],_=>by simp
 |a::l,h=>by have g:=h a jAf;have f:=Q3 λx c=>h x (jAb _ c);rw[jBq];lia
theorem W4:∀{l:List Int}{a:Int},(∀x∈l,0<=x)->a∈l->a<=l.sum
 |b::l,a,h,f=>by
  have k:=h b jAf;have g:=Q3 λx c=>h x (jAb _ c);rw[jBq];rcases jAe.mp f with z |z
  ·rw[z];lia
  ·have:=W4 (λx c=>h x (jAb _ c)) z;lia
variable {T:List Tr}
theorem Hh.each(h:Hh m T):∀r∈T,r.2.2<=2 ^ m:=λr g =>
 jGh (W4 (λx c=>by obtain⟨s,f,rfl⟩:=jAm.mp c;exact h.tim s f) (jAm.mpr ⟨r,g,rfl⟩)) h.all
def rowOf(p:Kv):Tr:=(p.1.1,p.1.2,p.2)
def kept(c:List Tr):List Tr:=((acc [] c).filter λp=>decide (p.2≠0)).map rowOf
theorem Oe(f:Int×Int->Int):∀l:List Kv,((l.filter λp=>decide (p.2≠0)).map λp=>p.2 * f p.1).sum=(l.map λp=>p.2 * f p.1).sum
 | []=>rfl
 |p::l=>by
  by_cases h:p.2=0
  ·rw[jCl (by simp[h]),jAk,jBq,Oe f l,h];simp
  ·rw[jCm (by simp[h]),jAk,jBq,Oe f l,jAk,jBq]
theorem ks8(f:Int×Int->Int)(c:List Tr):((kept c).map λr=>r.2.2 * f (r.1,r.2.1)).sum=(c.map λr=>r.2.2 * f (r.1,r.2.1)).sum:=by
 unfold kept;rw[jBe];have e:(λr:Tr=>r.2.2 * f (r.1,r.2.1))∘rowOf=λp:Kv=>p.2 * f p.1:=by funext p;rfl
 rw[e,Oe,jx9];simp
theorem K1{k:Type}(f:k->Int){l m:List k}(h:l.Perm m):(l.map f).sum=(m.map f).sum:=by
 induction h with
 |nil=>rfl
 |cons a _ n=>simp only[jAk,jBq,n]
 |swap a b l=>simp only[jAk,jBq];lia
 |trans _ _ g c=>exact g.trans c
theorem jp8(x y:Int)(r:Tr):val x y r=r.2.2 * ((λq:Int×Int=>x ^ q.1.toNat * y ^ q.2.toNat) (r.1,r.2.1)):=by unfold val;rw[jCe]
theorem Ks(x y:Int)(c:List Tr):((kept c).map (val x y)).sum=(c.map (val x y)).sum:=by have:=ks8 (λq:Int×Int=>x ^ q.1.toNat * y ^ q.2.toNat) c;rw[jBy λr _=>jp8 x y r,jBy (l:=c) λr _=>jp8 x y r];exact this
variable {c:List Tr}{r:Tr}
theorem ks6(h:r∈kept c):∃s∈c,r.1=s.1/\r.2.1=s.2.1:=by
 obtain⟨p,f,rfl⟩:=jAm.mp h;have f:=(jAj.mp f).1;rcases Vt c (l:=[]) (jAm.mpr ⟨p,f,rfl⟩) with z | ⟨s,g,e⟩
 ·simp at z
 ·exact⟨s,g,by rw[Prod.ext_iff]at e;exact⟨e.1,e.2⟩⟩
theorem ks9(h:∀r∈c,0<=r.2.2):∀r∈kept c,0<=r.2.2:=λr f=>by obtain⟨p,g,rfl⟩:=jAm.mp f;exact jx8 c h (by simp) p (jAj.mp g).1
theorem Q7(h:∀r∈c,0<=r.1/\0<=r.2.1/\r.1+r.2.1<=9):(acc [] c).length<=55:=
 Gr.few (Oj c (by simp)) λp g=>by
  rcases Vt c (l:=[]) (jAm.mpr ⟨p,g,rfl⟩) with z | ⟨s,f,e⟩
  ·simp at z
  ·rw[e];exact h s f
theorem Hh.of_rows(u:m<=9)(g:T.Perm (kept c))(k:∀r∈c,0<=r.1/\0<=r.2.1/\r.1+r.2.1<=m)(o:∀r∈c,0<=r.2.2)(h:(c.map (·.2.2)).sum<=2 ^ m):Hh m T:=by
 refine⟨?_,λr f=>?_,λr f=>ks9 o r (g.mem_iff.mp f),?_⟩
 ·rw[g.length_eq];unfold kept;rw[jAd];exact jBt (jBp _ _) (Q7 λr f=>by have:=k r f;lia)
 ·have⟨s,n,q,p⟩:=ks6 (g.mem_iff.mp f);rw[q,p];exact k s n
 ·have e:∀l:List Tr,(l.map (·.2.2)).sum=(l.map (val 1 1)).sum:=λl=>by rw[jBy λr _=>yn3 r]
  rw[e]at h ⊢;rw[K1 _ g,Ks];exact h
def times(S T:List Tr):List Tr:=S.flatMap λr=>T.map λs=>(r.1+s.1,r.2.1+s.2.1,r.2.2 * s.2.2)
theorem O5(S:List Tr)(s:Tr):times S [s]=S.map λr=>(r.1+s.1,r.2.1+s.2.1,r.2.2 * s.2.2):=by
 unfold times;induction S with
 |nil=>rfl
 |cons a l f=>rw[jHj,f];rfl
theorem yh3(x y:Int)(h:0<=r.2.1):val x y (r.1+0,r.2.1+1,r.2.2 * 1)=y * val x y r:=by unfold val;show r.2.2 * 1 * x ^ (r.1+0).toNat * y ^ (r.2.1+1).toNat=_;rw[jCy,Int.add_zero,show(r.2.1+1).toNat=r.2.1.toNat+1 by lia,jDq,<-jCe,jDd _ y]
theorem yh2(x y:Int)(h:0<=r.1):val x y (r.1+1,r.2.1+0,r.2.2 * 1)=x * val x y r:=by unfold val;show r.2.2 * 1 * x ^ (r.1+1).toNat * y ^ (r.2.1+0).toNat=_;rw[jCy,Int.add_zero,show(r.1+1).toNat=r.1.toNat+1 by lia,jDq,<-jCe,jDd _ x,jCe x]
theorem kz8:(2:Int) ^ m<=2 ^ (m+1):=by have:(0:Int)<=2 ^ m:=Int.pow_nonneg (by decide);rw[jDq];lia
variable {g:List Tr}
theorem kl4{n:Nat}{ts:Ah}(k:Hh m T)(q:m+1<=9)(o:∀x y,(T.map (val x y)).sum=SS n ts (x - 1) (y - 1))(h:InW n ((a,a)::ts))(p:g.Perm (kept (times T [(0,1,1)]))):
  Hh (m+1) g/\∀x y,(g.map (val x y)).sum=SS n ((a,a)::ts) (x - 1) (y - 1):=by
 rw[O5]at p;refine⟨Hh.of_rows q p (λr f=>?_) (λr f=>?_) ?_,λx y=>?_⟩
 ·obtain⟨s,l,rfl⟩:=jAm.mp f;have:=k.pos s l;dsimp only;lia
 ·obtain⟨s,l,rfl⟩:=jAm.mp f;have:=k.tim s l;dsimp only;lia
 ·rw[jBe,jBy (λr _=>by show r.2.2 * 1=r.2.2;exact jCy _)];exact jGh k.all kz8
 ·rw[K1 _ p,Ks,jBe,wa6 h,<-o,jBy (λr f=>by show val x y (r.1+0,r.2.1+1,r.2.2 * 1)=y * val x y r;exact yh3 x y (k.pos r f).2.1),Lb];congr 1;lia
theorem ky7{n:Nat}{ts:Ah}(o:a<b)(k:Hh m T)(u:m+1<=9)(q:∀x y,(T.map (val x y)).sum=SS (n - 1) (ts.map (ct a b)) (x - 1) (y - 1))(h:InW n ((a,b)::ts))(c:¬ Bc ts a b)(p:g.Perm (kept (times T [(1,0,1)]))):
  Hh (m+1) g/\∀x y,(g.map (val x y)).sum=SS n ((a,b)::ts) (x - 1) (y - 1):=by
 rw[O5]at p;refine⟨Hh.of_rows u p (λr f=>?_) (λr f=>?_) ?_,λx y=>?_⟩
 ·obtain⟨s,l,rfl⟩:=jAm.mp f;have:=k.pos s l;dsimp only;lia
 ·obtain⟨s,l,rfl⟩:=jAm.mp f;have:=k.tim s l;dsimp only;lia
 ·rw[jBe,jBy (λr _=>by show r.2.2 * 1=r.2.2;exact jCy _)];exact jGh k.all kz8
 ·rw[K1 _ p,Ks,jBe,wn1 o h c,<-q,jBy (λr f=>by show val x y (r.1+1,r.2.1+0,r.2.2 * 1)=x * val x y r;exact yh2 x y (k.pos r f).1),Lb];congr 1;lia
variable {U:List Tr}
theorem kl3{n:Nat}{ts:Ah}(l:a<b)(q:Hh m T)(o:Hh m U)(u:m+1<=9)(s:∀x y,(T.map (val x y)).sum=SS n ts (x - 1) (y - 1))(f:∀x y,(U.map (val x y)).sum=SS (n - 1) (ts.map (ct a b)) (x - 1) (y - 1))(h:InW n ((a,b)::ts))(c:Bc ts a b)(p:g.Perm (kept (T++U))):
  Hh (m+1) g/\∀x y,(g.map (val x y)).sum=SS n ((a,b)::ts) (x - 1) (y - 1):=by
 refine⟨Hh.of_rows u p (λr k=>?_) (λr k=>?_) ?_,λx y=>?_⟩
 ·rcases jAq.mp k with z |z
  ·have:=q.pos r z;lia
  ·have:=o.pos r z;lia
 ·rcases jAq.mp k with z |z
  ·exact q.tim r z
  ·exact o.tim r z
 ·rw[jBc,jDp,jDq];have:=q.all;have:=o.all;lia
 ·rw[K1 _ p,Ks,jBc,jDp,s,f,wa5 l h c]
theorem ky8(n:Nat):Hh 0 [(0,0,1)]/\∀x y,(([(0,0,1)]:List Tr).map (val x y)).sum=SS n [] (x - 1) (y - 1):=by
 refine⟨⟨by simp,λr f=>?_,λr f=>?_,by simp⟩,λx y=>?_⟩
 ·rw[jAh.mp f];simp
 ·rw[jAh.mp f];simp
 ·rw[wn2];simp[val]
def hs(B:Int):Nat->(Nat->Int)->Int
 |0,_=>0
 |n+1,f=>f 0+B * hs B n λe=>f (e+1)
theorem kr4(B:Int):∀(n:Nat)(f g:Nat->Int),hs B n (λe=>f e+g e)=hs B n f+hs B n g
 |0,_,_=>rfl
 |n+1,f,g=>by show f 0+g 0+B * hs B n _=f 0+B * hs B n _+(g 0+B * hs B n _);rw[kr4 B n (λe=>f (e+1)) λe=>g (e+1),jHm];lia
theorem jb5(B:Int):∀n:Nat,hs B n (λ_=>0)=0
 |0=>rfl
 |n+1=>by show 0+B * hs B n (λ_=>0)=0;rw[jb5 B n];simp
theorem Y9(B c:Int):∀(n k:Nat),k<n->hs B n (λe=>if k=e then c else 0)=c * B ^ k
 |0,k,h=>absurd h (jHs k)
 |n+1,0,_=>by show(if 0=0 then c else 0)+B * hs B n (λe=>if 0=e+1 then c else 0)=_;rw[if_pos rfl,show(λe:Nat=>if 0=e+1 then c else 0)=λ_=>0 from funext λe=>if_neg (by lia),jb5];simp
 |n+1,k+1,h=>by
  show(if k+1=0 then c else 0)+B * hs B n (λe=>if k+1=e+1 then c else 0)=_;rw[if_neg (by lia),show(λe:Nat=>if k+1=e+1 then c else 0)=λe=>if k=e then c else 0 from funext λe=>by
   by_cases z:k=e
   ·rw[if_pos z,if_pos (by lia)]
   ·rw[if_neg z,if_neg (by lia)],Y9 B c n k (by lia),jDq,Int.zero_add,<-jCe,jDd B c,jCe,jDd B]
theorem kr5{B:Int}(k:0<B):∀(n:Nat){f g:Nat->Int},(∀e,-B<f e - g e/\f e - g e<B)->hs B n f=hs B n g->∀e,e<n->f e=g e
 |0,_,_,_,_,e,h=>absurd h (jHs e)
 |n+1,f,g,l,h,e,s=>by
  have h:f 0+B * hs B n (λe=>f (e+1))=g 0+B * hs B n (λe=>g (e+1)):=h;have p:f 0 - g 0=B * (hs B n (λe=>g (e+1)) - hs B n (λe=>f (e+1))):=by rw[Int.mul_sub];lia
  have q:hs B n (λe=>g (e+1)) - hs B n (λe=>f (e+1))=0:=by
   have o:=l 0;rw[p]at o;generalize hs B n (λe=>g (e+1)) - hs B n (λe=>f (e+1))=d at o;refine jBf λz=>?_;rcases Int.lt_or_gt_of_ne z with z |z
   ·have:=jFl (show d<=-1 by lia) (jFm k);lia
   ·have:=jFl (show 1<=d by lia) (jFm k);lia
  rw[q,jHb]at p;cases e with
  |zero=>lia
  |succ e=>exact kr5 k n (λe=>l (e+1)) (by lia) e (by lia)
def pl(r:Tr):Nat:=r.1.toNat+10 * r.2.1.toNat
def cf(T:List Tr)(e:Nat):Int:=(T.map λr=>if pl r=e then r.2.2 else 0).sum
def key(r:Tr):Int×Int:=(r.1,r.2.1)
def Sm(r:Tr):Prop:=0<=r.1/\0<=r.2.1/\r.1<=9/\r.2.1<=9
structure Red(T:List Tr):Prop where
 nd:(T.map key).Nodup
 nz:∀r∈T,r.2.2≠0
theorem Red.perm(p:T.Perm U)(h:Red U):Red T:=⟨(p.map key).nodup_iff.mpr h.nd,λr f=>h.nz r (p.mem_iff.mp f)⟩
theorem ks7(c:List Tr):Red (kept c):=by
 refine⟨?_,λr f=>?_⟩
 ·unfold kept;rw[jBe];have:(key∘rowOf)=λp:Kv=>p.1:=rfl;rw[this];exact(List.filter_sublist.map _).nodup (Oj c (l:=[]) jEo)
 ·unfold kept at f;obtain⟨p,h,rfl⟩:=jAm.mp f;have:=(jAj.mp h).2;exact of_decide_eq_true this
theorem ko2(B:Int)(T:List Tr)(h:∀r∈T,Sm r):(T.map (val B (B ^ 10))).sum=hs B 100 (cf T):=by
 induction T with
 |nil=>exact(jb5 B 100).symm
 |cons r T f=>have⟨p,o,n,l⟩:=h r (by simp);rw[jAk,jBq,f λs k=>h s (by simp[k])];have:(cf (r::T))=λe=>(if pl r=e then r.2.2 else 0)+cf T e:=rfl;rw[this,kr4,Y9 B r.2.2 100 (pl r) (by unfold pl;lia)];congr 1;unfold val pl;rw[jFw,Int.pow_mul,jCe]
theorem wo6(h:∀r∈T,0<=r.2.2)(e:Nat):0<=cf T e:=Q3 λx f=>by obtain⟨r,k,rfl⟩:=jAm.mp f;have:=h r k;split<;>lia
theorem wl3:∀{T:List Tr},(∀r∈T,0<=r.2.2)->∀e,cf T e<=(T.map (·.2.2)).sum
 | [],_,_=>Int.le_refl _
 |r::T,h,e=>by have l:=wl3 (T:=T) (λs f=>h s (by simp[f])) e;have k:=h r (by simp);rw[jAk,jBq];show(if pl r=e then r.2.2 else 0)+cf T e<=r.2.2+(T.map (·.2.2)).sum;split<;>lia
theorem jr3:∀{T:List Tr}{e:Nat},(∀r∈T,pl r≠e)->cf T e=0
 | [],_,_=>rfl
 |r::T,e,h=>by show(if pl r=e then r.2.2 else 0)+cf T e=0;rw[if_neg (h r (by simp)),jr3 λs f=>h s (by simp[f])];rfl
theorem jv3{s:Tr}(k:Sm r)(f:Sm s)(h:pl r=pl s):key r=key s:=by unfold pl at h;obtain⟨o,n,l,_⟩:=k;obtain⟨u,q,p,_⟩:=f;exact Prod.ext (by show r.1=s.1;omega) (by show r.2.1=s.2.1;omega)
theorem ko1:∀{T:List Tr},(∀r∈T,Sm r)->(T.map key).Nodup->∀r∈T,cf T (pl r)=r.2.2
 | [],_,_,r,f=>absurd f jDs
 |s::T,h,l,r,f=>by
  rw[jAk,jBj]at l;show(if pl s=pl r then s.2.2 else 0)+cf T (pl r)=r.2.2;rcases jAe.mp f with rfl |f
  ·rw[if_pos rfl,jr3 λt k z=>l.1 (jAm.mpr ⟨t,k,jv3 (h t (by simp[k])) (h r (by simp)) z⟩)];lia
  ·rw[if_neg λz=>l.1 (jAm.mpr ⟨r,f,jv3 (h r (by simp[f])) (h s (by simp)) z.symm⟩),ko1 (λt k=>h t (by simp[k])) l.2 r f];lia
structure Tab(T:List Tr):Prop where
 red:Red T
 pos:∀r∈T,Sm r
 bnd:∀e,-549755813888<cf T e/\cf T e<549755813888
theorem Tab.sub(f:Tab T)(n:Tab U)(h:∀x y,(T.map (val x y)).sum=(U.map (val x y)).sum):∀r∈T,r∈U:=λr o=>by have e:=h 1099511627776 (1099511627776 ^ 10);rw[ko2 _ T f.pos,ko2 _ U n.pos]at e;have c:=kr5 (B:=1099511627776) (by lia) 100 (λe=>by have A:=f.bnd e;have v:=n.bnd e;lia) e (pl r) (by have:=f.pos r o;unfold Sm at this;unfold pl;lia);rw[ko1 f.pos f.red.nd r o]at c;have:∃s∈U,pl s=pl r:=jBf λz=>f.red.nz r o (c.trans (jr3 λs l w=>z ⟨s,l,w⟩));obtain⟨s,l,w⟩:=this;rw[<-w,ko1 n.pos n.red.nd s l]at c;have k:=jv3 (n.pos s l) (f.pos r o) w;have u:s.1=r.1:=congrArg (λq:Int×Int=>q.1) k;have p:s.2.1=r.2.1:=congrArg (λq:Int×Int=>q.2) k;have:r=s:=Prod.ext u.symm (Prod.ext p.symm c);rw[this];exact l
theorem Mf{k n:Type}(f:k->n):∀{l:List k},(l.map f).Nodup->l.Nodup
 | [],_=>jEo
 |a::l,h=>by rw[jAk,jBj]at h;exact jBj.mpr ⟨λz=>h.1 (jAm.mpr ⟨a,z,rfl⟩),Mf f h.2⟩
theorem Tab.perm(k:Tab T)(f:Tab U)(h:∀x y,(T.map (val x y)).sum=(U.map (val x y)).sum):T.Perm U:=
 (jBl (Mf key k.red.nd) (Mf key f.red.nd)).mpr λr=>⟨k.sub f h r,f.sub k (λx y=>(h x y).symm) r⟩
theorem Hh.tab(h:Hh m T)(k:m<=9)(f:Red T):Tab T:=by
 refine⟨f,λr z=>?_,λe=>?_⟩
 ·have:=h.pos r z;unfold Sm;lia
 ·have q:=h.all;have p:(2:Int) ^ m<=2 ^ 9:=by
   have:=jEa (n:=2) (by decide) k
   exact_mod_cast this
  have o:=wo6 h.tim e;have l:=wl3 h.tim e;lia
theorem ko0(n:Nat)(ts:Ah):cc n ts<=n:=by unfold cc Ce;have:=jBp (λi=>decide (lab n ts i=i)) (List.range n);rw[jBb]at this;exact this
def bits(m k:Nat):List Nat:=(List.range m).filter λt=>decide (k / 2 ^ t % 2=1)
variable {k:Nat}
theorem jy4(h:k<2 ^ m):bits (m+1) k=bits m k:=by unfold bits;rw[jEj,jDu,jCl (by simp[jHo h]),List.filter_nil,jDa]
theorem jy3(h:k<2 ^ m):bits (m+1) (2 ^ m+k)=bits m k++[m]:=by
 unfold bits;rw[jEj,jDu];congr 1
 ·refine jEn λt f=>?_;rw[jAt]at f;rw[decide_eq_decide];have e:2 ^ m=2 ^ t * (2 * 2 ^ (m - t - 1)):=by rw[<-Nat.mul_assoc,<-jHc,<-Nat.pow_add];congr 1;lia
  rw[e,Nat.mul_add_div (jHt t)];lia
 ·rw[jCm]
  ·rfl
  ·have:(2 ^ m+k) / 2 ^ m=1:=by rw[Nat.add_div_left _ (jHt m),jHo h]
   simp[this]
def Bk(ts:Ah)(s:List Nat):Ah:=s.map λk=>ts.getD k (0,0)
theorem Um(f:Ah->Int)(e:Nat×Nat):∀h:Ah,∀f:Ah->Int,((subs (h++[e])).map f).sum=((subs h).map f).sum+((subs h).map λA=>f (A++[e])).sum
 | [],f=>by simp[subs]
 |x::h,f=>by rw[jFc,subs,subs,jBc,jDp,jBe,jBc,jDp,jBc,jDp,jBe,jBe];have n:=Um f e h f;have l:=Um f e h (f∘λA=>x::A);rw[n,l];have o:(λA:Ah=>(f∘λA=>x::A) (A++[e]))=(λA=>f (A++[e]))∘λA=>x::A:=rfl;rw[o];exact(λp q r s:Int=>(by lia:p+q+(r+s)=p+r+(q+s))) _ _ _ _
variable {s:List Nat}
theorem Zm{ts:Ah}(h:∀k∈s,k<ts.length):Bk (ts++[e]) s=Bk ts s:=by unfold Bk;refine jBy λk f=>?_;rw[jAi,jAi,jFi,if_pos (h k f)]
theorem masks:∀(m:Nat)(ts:Ah),ts.length=m->∀f:Ah->Int,((List.range (2 ^ m)).map λk=>f (Bk ts (bits m k))).sum=((subs ts).map f).sum
 |0,ts,h,f=>by have:ts=[]:=jEy.mp h;subst this;simp[bits,Bk,subs,jEj]
 |m+1,ts,h,f=>by
  have n:ts≠[]:=λz=>by rw[z]at h;simp at h
  obtain⟨l,e,rfl⟩:∃l e,ts=l++[e]:=⟨ts.dropLast,ts.getLast n,(List.dropLast_concat_getLast n).symm⟩;have o:l.length=m:=by simpa using h
  have q:∀k,∀t∈bits m k,t<l.length:=λk t u=>by rw[o];exact jAt.mp (jAj.mp u).1
  rw[Um f e l f,<-masks m l o f,<-masks m l o (λA=>f (A++[e])),jHc,Nat.mul_two,jIa,jBc,jDp,jBe];congr 1
  ·refine Cg λk p=>?_;rw[jy4 (jAt.mp p),Zm (q k)]
  ·refine Cg λk p=>?_;show f (Bk (l++[e]) (bits (m+1) (2 ^ m+k)))=_;rw[jy3 (jAt.mp p)];have v:Bk (l++[e]) (bits m k++[m])=Bk l (bits m k)++[e]:=by rw[<-Zm (e:=e) (q k)];unfold Bk;rw[jBc,jAk,jEf,jAi,jFi,if_neg (by lia),o,jHa];rfl
   rw[v]
variable {ts:Ah}{n:Nat}
def cN(n:Nat)(ts:Ah)(s:List Nat):Nat:=cc n (Bk ts s)
def Kn(ts:Ah)(s:List Nat):Prop:=∀k∈s,k<ts.length
theorem Zd(f:InW n ts)(h:Kn ts s):InW n (Bk ts s):=λe o=>by obtain⟨k,l,rfl⟩:=jAm.mp o;rw[jAi,jAa (h k l),jBs];exact f _ (jBi _)
theorem Fq{r:List Nat}(h:∀k∈s,k∈r):∀e∈Bk ts s,e∈Bk ts r:=λe l=>by obtain⟨k,f,rfl⟩:=jAm.mp l;exact jAm.mpr ⟨k,h k f,rfl⟩
theorem J5(l:InW n ts){r:List Nat}(o:Kn ts s)(h:∀k,k∈s↔k∈r):cN n ts s=cN n ts r:=
 J6 (Zd l o) λe=>⟨Fq (λk f=>(h k).mp f) e,Fq (λk f=>(h k).mpr f) e⟩
theorem wy5(f:InW n ts)(h:Kn ts s):n<=s.length+cN n ts s:=by have:=jg3 n (Bk ts s) (Zd f h);unfold Bk at this;rw[jAd]at this;exact this
def eN(ts:Ah)(k:Nat):Nat×Nat:=ts.getD k (0,0)
theorem Vj(l:InW n ts)(h:Kn ts (k::s)):(Bc (Bk ts s) (eN ts k).1 (eN ts k).2->cN n ts (k::s)=cN n ts s)/\(¬ Bc (Bk ts s) (eN ts k).1 (eN ts k).2->cN n ts (k::s)+1=cN n ts s):=by have f:=Zd l h;exact⟨λc=>Rb (a:=(eN ts k).1) (b:=(eN ts k).2) f c,λc=>M8 (a:=(eN ts k).1) (b:=(eN ts k).2) f c⟩
def Fr(n:Nat)(ts:Ah)(s:List Nat):Prop:=s.length+cN n ts s=n
def wo(s:List Nat)(k:Nat):List Nat:=s.filter λx=>decide (x≠k)
theorem Dz:x∈wo s k↔x∈s/\x≠k:=by unfold wo;rw[jAj,decide_eq_true_iff]
theorem je8(hn:s.Nodup)(h:k∈s):(wo s k).length+1=s.length:=by
 induction s with
 |nil=>exact absurd h jDs
 |cons a s f =>
  rw[jBj]at hn;unfold wo at f ⊢;by_cases z:a=k
  ·subst z;have e:s.filter (λx=>decide (x≠a))=s:=jEs.mpr λx l=>decide_eq_true (p:=x≠a) λe=>hn.1 (by rw[<-e];exact l);rw[jCl (by simp),e];rfl
  ·rw[jCm (by simpa using z),jAy,jAy,f hn.2 ((jAe.mp h).resolve_left λe=>z e.symm)]
theorem ji6(p:InW n ts)(u:Kn ts s)(hn:s.Nodup)(q:k∈s)(h:Fr n ts s):Fr n ts (wo s k)/\¬ Bc (Bk ts (wo s k)) (eN ts k).1 (eN ts k).2:=by
 have v:=je8 hn q;have l:Kn ts (wo s k):=λx f=>u x (Dz.mp f).1;have o:Kn ts (k::wo s k):=λx f=>by
  rcases jAe.mp f with rfl |f
  ·exact u x q
  ·exact l x f
 have e:cN n ts (k::wo s k)=cN n ts s:=J5 p o λx=>by
  rw[jAe,Dz];constructor
  ·rintro(rfl |z)
   ·exact q
   ·exact z.1
  ·intro z;by_cases w:x=k
   ·exact .inl w
   ·exact .inr ⟨z,w⟩
 have g:=wy5 p l;have c:=Vj p o;unfold Fr at *
 by_cases z:Bc (Bk ts (wo s k)) (eN ts k).1 (eN ts k).2
 ·have:=c.1 z;lia
 ·have:=c.2 z;exact⟨by lia,z⟩
theorem kq6(y:InW n ts):∀(m:Nat){s r:List Nat},r.length<=m+s.length->Kn ts r->r.Nodup->s.Nodup->(∀k∈s,k∈r)->Fr n ts r->Fr n ts s
 |m,s,r,B,A,nr,v,h,f=>by
  by_cases z:∀k∈r,k∈s
  ·have p:s.Perm r:=(jBl v nr).mpr λk=>⟨h k,z k⟩;unfold Fr at *
   rw[p.length_eq,J5 y (λk o=>A k (h k o)) λk=>p.mem_iff];exact f
  ·have:∃k∈r,k∉s:=jBf λw=>z λk o=>jBf λq=>w ⟨k,o,q⟩;obtain⟨k,o,u⟩:=this;have C:=je8 nr o;cases m with
   |zero=>have:=Kz v (m:=wo r k) λx l=>Dz.mpr ⟨h x l,λe=>u (e ▸ l)⟩;lia
   |succ m=>exact kq6 y m (r:=wo r k) (by lia) (λx l=>A x (Dz.mp l).1) (nr.filter _) v (λx l=>Dz.mpr ⟨h x l,λe=>u (e ▸ l)⟩) (ji6 y A nr o f).1
structure Q6(n:Nat)(ts:Ah)(F:List Nat):Prop where
 kn:Kn ts F
 nd:F.Nodup
 fr:Fr n ts F
 sp:cN n ts F=cc n ts
variable {F:List Nat}
theorem Q6.conn(o:InW n ts)(h:Q6 n ts F){t:Nat}(q:t<ts.length):Bc (Bk ts F) (eN ts t).1 (eN ts t).2:=by
 refine jBf λz=>?_;have p:Kn ts (t::F):=λx f=>by
  rcases jAe.mp f with rfl |f
  ·exact q
  ·exact h.kn x f
 have c:=(Vj o p).2 z;have m:cc n ts<=cN n ts (t::F):=jy9 o λe u=>by obtain⟨k,l,rfl⟩:=jAm.mp u;rw[jAi,jAa (p k l),jBs];exact jBi _
 have:=h.sp;lia
def Swp(n:Nat)(ts:Ah)(F:List Nat)(f t:Nat):Prop:=cN n ts (t::wo F f)+F.length=n
variable {f:Nat}
theorem Sw(o:InW n ts)(h:Q6 n ts F){t:Nat}(p:f∈F)(q:t<ts.length):Swp n ts F f t↔¬ Bc (Bk ts (wo F f)) (eN ts t).1 (eN ts t).2:=by
 have g:=ji6 o h.kn h.nd p h.fr;have w:=je8 h.nd p;have u:Kn ts (t::wo F f):=λx l=>by
  rcases jAe.mp l with rfl |l
  ·exact q
  ·exact h.kn x (Dz.mp l).1
 have c:=Vj o u;have v:=g.1;unfold Swp;unfold Fr at v;constructor
 ·intro e z;have:=c.1 z;lia
 ·intro z;have:=c.2 z;lia
open Classical in
theorem way(o:InW n ts){F:List Nat}(h:Q6 n ts F){t:Nat}(p:t<ts.length):∀L:List Nat,(∀f∈L,f∈F/\¬ Swp n ts F f t)->Bc (Bk ts (F.filter λx=>decide (x∉L))) (eN ts t).1 (eN ts t).2
 | [],_=>by rw[jEs.mpr (λx _=>decide_eq_true jDs)];exact h.conn o p
 |f::L,B=>by
  have v:=way o h p L λg G=>B g (jAb _ G);have⟨A,E⟩:=B f jAf;have cf:Bc (Bk ts (wo F f)) (eN ts t).1 (eN ts t).2:=jBf λz=>E ((Sw o h A p).mpr z);by_cases u:f∈L
  ·refine v.mono (Fq λk l=>?_);rw[jAj,decide_eq_true_iff]at l ⊢;exact⟨l.1,λz=>by rcases jAe.mp z with rfl |z;exact l.2 u;exact l.2 z⟩
  ·refine jBf λz=>?_;have sub:∀k∈F.filter (λx=>decide (x∉L)),k∈(F.filter λx=>decide (x∉f::L))++[f]:=λk l=>by
    rw[jAj,decide_eq_true_iff]at l;rw[jAq,jAj,decide_eq_true_iff,jAh,jAe];by_cases w:k=f
    ·exact .inr w
    ·exact .inl ⟨l.1,λq=>q.elim w l.2⟩
   have C:=v.mono (Fq (ts:=ts) sub);have H:Bk ts ((F.filter λx=>decide (x∉f::L))++[f])=Bk ts (F.filter λx=>decide (x∉f::L))++[eN ts f]:=by unfold Bk;rw[jBc];rfl
   rw[H]at C;have up:∀{x y:Nat},Bc (Bk ts (F.filter λx=>decide (x∉f::L))) x y->Bc (Bk ts (wo F f)) x y:=λc=>c.mono (Fq λk l=>by
    rw[jAj,decide_eq_true_iff]at l;exact Dz.mpr ⟨l.1,λq=>l.2 (by simp[q])⟩)
   have no:=(ji6 o h.kn h.nd A h.fr).2;rcases Tc.mp (show Bc (_++[((eN ts f).1,(eN ts f).2)]) _ _ from C) with c |c |c
   ·exact z c
   ·exact no (((up c.1).symm.trans cf).trans (up c.2).symm)
   ·exact no ((((up c.1).symm.trans cf).trans (up c.2).symm).symm)
theorem wb6(l:InW n ts)(h:Q6 n ts F){o:Nat}(q:f∈F)(p:o<ts.length):(o∉wo F f/\Swp n ts F f o)↔¬ Bc (Bk ts (wo F f)) (eN ts o).1 (eN ts o).2:=by rw[Sw l h q p];exact⟨λz=>z.2,λz=>⟨λw=>z (.tie (jAm.mpr ⟨o,w,rfl⟩)),z⟩⟩
theorem wn4{o:Type}{l m:List o}(hl:l.Nodup)(u:∀x∈l,x∈m)(hn:m.length<=l.length):∀x∈m,x∈l:=λx q=>by refine jBf λh=>?_;have:=List.Nodup.length_le_of_subset (l₁:=x::l) (l₂:=m) (jBj.mpr ⟨h,hl⟩) λy p=>(jAe.mp p).elim (λz=>z ▸ q) (u y);rw[jAy]at this;lia
structure Ca(n:Nat)(σ:List Nat):Prop where
 len:σ.length=n
 nd:σ.Nodup
 lt:∀x∈σ,x<n
theorem Ca.all{l:List Nat}(h:Ca n l):∀j,j<n->j∈l:=λj p =>
 wn4 h.nd (m:=List.range n) (λx o=>jAt.mpr (h.lt x o)) (by rw[jBb,h.len];exact jAg _) j (jAt.mpr p)
open Classical in
def stp(ts:Ah)(G:List Nat)(t:Nat):List Nat:=if Bc (Bk ts G) (eN ts t).1 (eN ts t).2 then G else G++[t]
variable {G:List Nat}
theorem ky9{t:Nat}(h:Bc (Bk ts G) (eN ts t).1 (eN ts t).2):stp ts G t=G:=by unfold stp;rw[if_pos h]
theorem kd8{t:Nat}(h:¬ Bc (Bk ts G) (eN ts t).1 (eN ts t).2):stp ts G t=G++[t]:=by unfold stp;rw[if_neg h]
theorem wd1(q:InW n ts){t:Nat}(v:Kn ts G)(u:t<ts.length)(w:Fr n ts G)(h:¬ Bc (Bk ts G) (eN ts t).1 (eN ts t).2):Fr n ts (G++[t]):=by
 have p:Kn ts (t::G):=λx l=>by
  rcases jAe.mp l with rfl |l
  ·exact u
  ·exact v x l
 have e:=J5 (n:=n) q (r:=t::G) (s:=G++[t]) (λk o=>by
  rcases jAq.mp o with z |z
  ·exact v k z
  ·rw[jAh.mp z];exact u) λk=>by simp[or_comm]
 have c:=(Vj q p).2 h;unfold Fr at w ⊢;rw[jAs,e];simp;lia
theorem Wk(I:InW n ts){bef:Nat->Nat->Prop}:∀(l G:List Nat),Kn ts G->G.Nodup->Fr n ts G->(∀k∈l,k<ts.length)->l.Nodup->(∀k∈l,k∉G)->l.Pairwise bef->(∀g∈G,∀t∈l,bef g t) ->
  (Kn ts (l.foldl (stp ts) G)/\(l.foldl (stp ts) G).Nodup/\Fr n ts (l.foldl (stp ts) G))/\(∀g∈G,g∈l.foldl (stp ts) G)/\(∀k∈l.foldl (stp ts) G,k∈G\/k∈l) /\
   ∀t∈l,t∉l.foldl (stp ts) G->∃S:List Nat,(∀k∈S,k∈l.foldl (stp ts) G/\bef k t)/\Bc (Bk ts S) (eN ts t).1 (eN ts t).2
 | [],G,v,y,w,_,_,_,_,_=>⟨⟨v,y,w⟩,λg z=>z,λk z=>.inl z,λt z=>by cases z⟩
 |t::l,G,v,y,w,L,Q,M,P,u=>by
  have K:=jBj.mp Q;have J:=jFo.mp P;have O:=L t jAf;rw[jEt];by_cases c:Bc (Bk ts G) (eN ts t).1 (eN ts t).2
  ·rw[ky9 c];have⟨H,q,E,C⟩:=Wk I l G v y w (λk h=>L k (jAb _ h)) K.2 (λk h=>M k (jAb _ h)) J.2 λg p k h=>u g p k (jAb _ h);refine⟨H,q,λk h=>(E k h).imp id (jAb _),λk h o=>?_⟩;rcases jAe.mp h with rfl |h
   ·exact⟨G,λg p=>⟨q g p,u g p k jAf⟩,c⟩
   ·exact C k h o
  ·rw[kd8 c];have B:Kn ts (G++[t]):=λk h=>by
    rcases jAq.mp h with z |z
    ·exact v k z
    ·rw[jAh.mp z];exact O
   have A:(G++[t]).Nodup:=by rw[jDz];exact⟨y,by simp,λa X b u e=>M t jAf (by rw[<-jAh.mp u,<-e];exact X)⟩
   obtain⟨H,q,E,C⟩:=Wk I l (G++[t]) B A (wd1 I v O w c) (λk h=>L k (jAb _ h)) K.2 (λk h z=>by
    rcases jAq.mp z with z |z
    ·exact M k (jAb _ h) z
    ·rw[jAh.mp z]at h;exact K.1 h) J.2 (λg p k h=>by
    rcases jAq.mp p with z |z
    ·exact u g z k (jAb _ h)
    ·rw[jAh.mp z];exact J.1 k h)
   refine⟨H,λg p=>q g (jBk _ p),λk h=>?_,λk h o=>?_⟩
   ·rcases E k h with z |z
    ·rcases jAq.mp z with z |z
     ·exact .inl z
     ·exact .inr (by rw[jAh.mp z];exact jAf)
    ·exact .inr (jAb _ z)
   ·rcases jAe.mp h with rfl |h
    ·exact absurd (q k (jAn _ (jAh.mpr rfl))) o
    ·exact C k h o
theorem jr7(l:k<ts.length){S:List Nat}(h:k∈S):Bc (Bk ts S) (eN ts k).1 (eN ts k).2:=.tie (jAm.mpr ⟨k,h,rfl⟩)
theorem jj3(p:InW n ts){bef:Nat->Nat->Prop}{l:List Nat}(hl:∀k∈l,k<ts.length)(E:l.Nodup)(pw:l.Pairwise bef)(C:∀k,k<ts.length->k∈l):
  Q6 n ts (l.foldl (stp ts) [])/\∀t,t<ts.length->t∉l.foldl (stp ts) []->∀f∈l.foldl (stp ts) [],Swp n ts (l.foldl (stp ts) []) f t->bef f t:=by
 have Q:Fr n ts []:=by unfold Fr cN Bk;rw[jEf,M7];simp
 have⟨⟨u,K,J⟩,_,_,y⟩:=Wk p l [] (λk o=>by cases o) jEo Q hl E (λk _ z=>by cases z) pw (λg O=>by cases O);generalize l.foldl (stp ts) []=F at *
 have X:∀k,k<ts.length->Bc (Bk ts F) (eN ts k).1 (eN ts k).2:=λk o=>by
  by_cases h:k∈F
  ·exact jr7 o h
  ·have⟨S,q,c⟩:=y k (C k o) h;exact c.mono (Fq λx L=>(q x L).1)
 have B:Q6 n ts F:=⟨u,K,J,by
  unfold cN cc;refine(Zh (Zd p u) p (λe w=>?_) λa b w=>?_).symm
  ·obtain⟨k,o,rfl⟩:=jAm.mp w;rw[jAi,jAa (u k o),jBs];exact jBi _
  ·have⟨k,o,e⟩:=jBz.mp w;have:=X k o;unfold eN at this;rw[jAi,jAa o,jBs,e]at this;exact this⟩
 refine⟨B,λt A v f P M=>?_⟩;have⟨S,q,c⟩:=y t (C t A) v;have H:=(Sw p B P A).mp M;refine jBf λI=>H (c.mono (Fq λk o=>Dz.mpr ⟨(q k o).1,λe=>?_⟩));subst e;exact I (q k o).2
open Classical in
theorem Wl(B:InW n ts){bef:Nat->Nat->Prop}(o:∀a b,bef a b->bef b a->False){F:List Nat}(v:Q6 n ts F)(ok:∀t,t<ts.length->t∉F->∀f∈F,Swp n ts F f t->bef f t):
  ∀(l G:List Nat),(∀k∈G,k∈F)->(∀k∈l,k<ts.length)->l.Nodup->(∀k∈l,k∉G)->l.Pairwise bef->(∀k∈F,k∈G\/k∈l)->∀k,k∈l.foldl (stp ts) G↔k∈F
 | [],G,A,_,_,_,_,y,k=>⟨A k,λz=>(y k z).elim id λz=>by cases z⟩
 |t::l,G,A,H,L,I,K,y,k=>by
  have E:=jBj.mp L;have C:=jFo.mp K;have J:=H t jAf;rw[jEt];by_cases u:t∈F
  ·have M:¬ Bc (Bk ts G) (eN ts t).1 (eN ts t).2:=λc=>(ji6 B v.kn v.nd u v.fr).2 (c.mono (Fq λx h=>Dz.mpr ⟨A x h,λe=>I t jAf (by rw[<-e];exact h)⟩));rw[kd8 M];refine Wl B o v ok l (G++[t]) (λx h=>?_) (λx h=>H x (jAb _ h)) E.2 (λx h z=>?_) C.2 (λx h=>?_) k
   ·rcases jAq.mp h with z |z
    ·exact A x z
    ·rw[jAh.mp z];exact u
   ·rcases jAq.mp z with z |z
    ·exact I x (jAb _ h) z
    ·rw[jAh.mp z]at h;exact E.1 h
   ·rcases y x h with z |z
    ·exact .inl (jBk _ z)
    ·rcases jAe.mp z with rfl |z
     ·exact .inl (jAn _ (jAh.mpr rfl))
     ·exact .inr z
  ·have c:Bc (Bk ts G) (eN ts t).1 (eN ts t).2:=by
    have w:=way B v J (F.filter λx=>decide (¬ Swp n ts F x t)) λf u=>by have:=jAj.mp u;exact⟨this.1,of_decide_eq_true this.2⟩
    refine w.mono (Fq λx h=>?_);have⟨p,q⟩:=jAj.mp h;have q:=of_decide_eq_true q;have O:Swp n ts F x t:=jBf λz=>q (jAj.mpr ⟨p,decide_eq_true z⟩);rcases y x p with z |z
    ·exact z
    ·rcases jAe.mp z with rfl |z
     ·exact absurd p u
     ·exact(o _ _ (ok t J u x p O) (C.1 x z)).elim
   rw[ky9 c];refine Wl B o v ok l G A (λx h=>H x (jAb _ h)) E.2 (λx h=>I x (jAb _ h)) C.2 (λx h=>?_) k;rcases y x h with z |z
   ·exact .inl z
   ·rcases jAe.mp z with rfl |z
    ·exact absurd h u
    ·exact .inr z
def bef(A:List Nat)(p:Nat->Nat)(f t:Nat):Prop:=(f∈A/\(t∉A\/p t<p f))\/(f∉A/\t∉A/\p f<p t)
variable {p:Nat->Nat}{A:List Nat}
theorem kn0:∀a b,bef A p a b->bef A p b a->False:=λa b w u=>by
 rcases w with ⟨q,o⟩ | ⟨q,o,y⟩
 ·rcases u with ⟨h,l⟩ | ⟨h,l,_⟩
  ·have C:=o.resolve_left λz=>z h;have B:=l.resolve_left λz=>z q;lia
  ·exact l q
 ·rcases u with ⟨h,_⟩ | ⟨_,_,v⟩
  ·exact o h
  ·lia
theorem kq3(C:InW n ts)(E:Q6 n ts F):
  ((∀f∈F,f∈A\/∀t,t<ts.length->t∉F->Swp n ts F f t->p f<p t)/\∀t,t<ts.length->t∈A->t∈F\/∀f∈F,Swp n ts F f t->p t<p f)↔∀t,t<ts.length->t∉F->∀f∈F,Swp n ts F f t->bef A p f t:=by
 constructor
 ·rintro⟨B,y⟩ t u l f w v;by_cases q:f∈A
  ·refine .inl ⟨q,?_⟩;by_cases o:t∈A
   ·exact .inr ((y t u o).resolve_left l f w v)
   ·exact .inl o
  ·have k:=(B f w).resolve_left q t u l v;refine .inr ⟨q,λo=>?_,k⟩;have:=(y t u o).resolve_left l f w v;lia
 ·intro h;refine⟨λf w=>?_,λt u o=>?_⟩
  ·by_cases q:f∈A
   ·exact .inl q
   ·refine .inr λt u l v=>?_;rcases h t u l f w v with ⟨z,_⟩ | ⟨_,_,z⟩
    ·exact absurd z q
    ·exact z
  ·by_cases l:t∈F
   ·exact .inl l
   ·refine .inr λf w v=>?_;rcases h t u l f w v with ⟨_,z⟩ | ⟨_,z,_⟩
    ·exact z.resolve_left λz=>z o
    ·exact absurd o z
end Gr
namespace Law
open PySem L2 PD
def top(i:Nat):Stmt:=PySem.Challenge.pw_tietable_k25_whole_every_order_one_table.main.body.getD i (.Pass ⟨0,0,0,0⟩)
abbrev J2:HO:=tbK ⟨106,25,0,0⟩ (("first_of" : Str) ++ ".<locals>." ++ "<lambda>")
abbrev Nx:Stmt:=top 46
def ji7:Ev->R Fl:=(sq (ifS (tb (b2 (gv 1) (bA (zv (gv 0) a0) Ci) ltD)) (Bx (b2 (gv 0) (gv 1) ixD)) nop)
 (Bx (kd (.int 0))))
def J7:List D->R D:=Cy 2 ji7
theorem R8:Am ["_law_script","_law_k"] ["_law_script","_law_k"] (Ad Nx):=Eg
variable {P:Program}{w:World}{K:Frag}{mg:Str->Option Value}{base:Heap}{a:Addr}{fd:FuncData}
theorem jc3(F:Fun K "_law_cell" "_law_cell" Nx a fd)(b:mg "len" = none):
  Bq P w K mg base CX0 1 a fd ["_law_script","_law_k"] (sp0 K 2 J7):=
 Cv (O:=[]) F R8 (by decide) λe A c s H E i h g =>
  have f:=R8.nd
  (sc (if_ (tlt (nv 1) (u1 (PEd.sc (Hs b (ac (nv 0) an)) (Cr Br)))) (s1 (Dd (u3 (ix (nv 0) (nv 1))))) sn)
  (s1 (Dd (u2 ki))))
abbrev Qp:Stmt:=top 47
def js2:Ev->R Fl:=(sq (asg 3 (cl (zv (gv 0) (zv (gv 1) a0)) J7))
 (sq (asg 4 (vo (b2 (gv 3) (kd (.int 0)) ltD) (b2 (gv 3) (b2 (kd (.int 10)) (kd (.int 18)) jv5) geD)))
 (sq (asg 5 (bA a0 M5))
 (sq (Tg (itR Ph (zv (bA (zv (gv 2) a0) Ci) a0)) (gN 6) (ifS (tt (gv 4)) (sq (X4 5 (b2 (gv 3) (b2 (gv 2) (gv 6) ixD) O6))
 (asg 3 (b2 (gv 3) (b2 (gv 2) (gv 6) ixD) Pa))) (sq (asg 7 (b2 (b2 (gv 3) (b2 (kd (.int 1013)) (gv 6) Fd) Bd) (b2 (kd (.int 7)) (gv 1) Fd) Bd))
 (sq (asg 7 (b2 (b2 (b2 (gv 7) (gv 7) Fd) (b2 (kd (.int 30011)) (gv 7) Fd) Bd) (kd (.int 999983)) O6))
 (X4 5 (b2 (b2 (b2 (b2 (b2 (gv 7) (gv 7) Fd) (b2 (kd (.int 7919)) (gv 7) Fd) Bd) (kd (.int 999979)) O6) (kd (.int 5)) Pa) (b2 (gv 2) (gv 6) ixD) O6))))))
 (Bx (gv 5))))))
def Fe:List D->R D:=Cy 8 js2
theorem Uy:Am ["_law_script","_law_at","_law_sizes","_law_cell_here","_law_great","_law_found","_law_k","_law_x"] ["_law_script","_law_at","_law_sizes"] (Ad Qp):=Eg
theorem jl4(F:Fun K "_law_row" "_law_row" Qp a fd)(e:mg "len" = none)(c:mg "range" = none)(b:FnC P w K mg base 1 "_law_cell" ["_law_script","_law_k"] 2 J7):
  Bq P w K mg base CX0 2 a fd ["_law_script","_law_at","_law_sizes"] (sp0 K 3 Fe):=
 Cv (O:=[5]) F Uy (by decide) λi A g s H E k h j =>
  have f:=Uy.nd
  (sc (Gh 3 f (callC b (h.mono (by decide)) (ac (nv 0) (ac (nv 1) an))))
  (sc (Gh 4 f (u1 (vor (PEd.sc (lt_ (nv 3) (u1 ki)) (Em we0)) (v1 (PEd.sc (ge_ (nv 3) (u1 (pow ki ki))) (Em wd7))))))
  (sc (jn5 5 f (PEf.up (l:=.fr) (l':=.no) (kj0 an)))
  (sc (for_ PassesOwn.never rfl (tn 6 f) (PId.up (l:=.fr) (l':=.no) (jj8 c (ac (PEd.sc (Hs e (ac (nv 2) an)) (Cr Br)) an))) (s1 (if_ (tst (nv 4)) (sc (wn5 5 (u1 (PEd.sc (mod (nv 3) (ix (nv 2) (nv 6))) (Em jj6))))
  (s1 (Gh 3 f (u1 (PEd.sc (fdiv (nv 3) (ix (nv 2) (nv 6))) (Em kh5)))))) (sc (Gh 7 f (Hi (Hi (nv 3) (u1 (PEd.sc (mul (u1 ki) (nv 6)) (Em Eu)))) (u1 (PEd.sc (mul (u1 ki) (nv 1)) (Em Eu)))))
  (sc (Gh 7 f (u1 (mod (Hi (PEd.sc (mul (nv 7) (nv 7)) (Em Eu)) (PEd.sc (mul (u1 ki) (nv 7)) (Em Eu))) ki)))
  (s1 (wn5 5 (u1 (PEd.sc (mod (u1 (fdiv (mod (Hi (PEd.sc (mul (nv 7) (nv 7)) (Em Eu)) (PEd.sc (mul (u1 ki) (nv 7)) (Em Eu))) ki) ki)) (ix (nv 2) (nv 6))) (Em jj6))))))))))
  (s1 (Dd (av 5)))))))
abbrev Qq:Stmt:=top 48
def js3:Ev->R Fl:=(sq (wn6 (gT [4,5]) (cl (zv (gv 0) (zv (gv 1) (zv (bA (zv (gv 2) (zv (b2 (gv 3) (kd (.int 1)) Bd) a0)) M5) a0))) Fe))
 (sq (asg 6 (cl (zv (gv 0) (zv (b2 (gv 1) (kd (.int 1)) Bd) (zv (b2 (bA (zv (b2 (gv 4) (kd (.int 1)) Bd) a0) M5) (b2 (kd (.int 2)) (gv 5) Fd) jw0) a0))) Fe))
 (sq (asg 7 (bA a0 M5))
 (sq (Tg (itR Ph (zv (gv 5) a0)) (gN 8) (X4 7 (bA (zv (bA (zv (bS (gv 6) (p1 (b2 (kd (.int 2)) (gv 8) Fd)) (p1 (b2 (b2 (kd (.int 2)) (gv 8) Fd) (kd (.int 2)) Bd)) slA) a0) Zg) (zv (bA (zv (bS (gv 6) (p1 (b2 (kd (.int 2)) (gv 8) Fd)) (p1 (b2 (b2 (kd (.int 2)) (gv 8) Fd) (kd (.int 2)) Bd)) slA) a0) Ze) a0)) De)))
 (Bx (bA (zv (b2 (gv 4) (kd (.int 1)) Bd) (zv (bA (zv (gv 7) a0) Di) a0)) De))))))
def Jl:List D->R D:=Cy 9 js3
theorem Uz:Am ["_law_script","_law_at","_law_points","_law_ties","_law_many","_law_size","_law_ends","_law_found","_law_k"] ["_law_script","_law_at","_law_points","_law_ties"] (Ad Qq):=Eg
theorem jl5(F:Fun K "_law_web" "_law_web" Qq a fd)(g:mg "max" = none)(f:mg "min" = none)(e:mg "range" = none)(c:mg "tuple" = none)(b:FnC P w K mg base 2 "_law_row" ["_law_script","_law_at","_law_sizes"] 3 Fe):
  Bq P w K mg base CX0 3 a fd ["_law_script","_law_at","_law_points","_law_ties"] (sp0 K 4 Jl):=
 Cv (O:=[7]) F Uz (by decide) λk A i s H E n j m =>
  have h:=Uz.nd
  (sc (yf7 (tT rfl (tsc 4 h (tsc 5 h tsn))) (callC b (j.mono (by decide)) (ac (nv 0) (ac (nv 1) (ac (lst (ac (nv 2) (ac (Hi (nv 3) (u1 ki)) an))) an)))))
  (sc (Gh 6 h (callC b (j.mono (by decide)) (ac (nv 0) (ac (Hi (nv 1) (u1 ki)) (ac (rep (kj0 (ac (Hi (nv 4) (u1 ki)) an)) (u1 (PEd.sc (mul (u1 ki) (nv 5)) (Em Eu)))) an)))))
  (sc (jn5 7 h (PEf.up (l:=.fr) (l':=.no) (kj0 an)))
  (sc (for_ PassesOwn.never rfl (tn 8 h) (jj8 e (ac (nv 5) an)) (s1 (wn5 7 (u1 (tup (ac (PEd.sc (yc7 rfl f (ac (Uj (nv 6) (ps (PEd.sc (mul (u1 ki) (nv 8)) (Em Eu))) (ps (Hi (PEd.sc (mul (u1 ki) (nv 8)) (Em Eu)) ki))) an)) (Cr kr9)) (ac (PEd.sc (yc6 rfl g (ac (Uj (nv 6) (ps (PEd.sc (mul (u1 ki) (nv 8)) (Em Eu))) (ps (Hi (PEd.sc (mul (u1 ki) (nv 8)) (Em Eu)) ki))) an)) (Cr kr8)) an)))))))
  (s1 (Dd (tup (ac (u3 (Hi (nv 4) (u1 ki))) (ac (Hx c (ac (av 7) an)) an)))))))))
abbrev Ml:Stmt:=top 52
def ja8:Ev->R Fl:=(sq (asg 3 (bA a0 M5))
 (sq (asg 4 (cl (zv (gv 0) (zv (gv 1) (zv (Ax (itR Ph (zv (gv 2) a0)) 1 [] (gN 0) yes (b2 (gv 0) (kd (.int 1)) Bd)) a0))) Fe))
 (sq (Tg (itR Ph (zv (gv 2) a0)) (gN 5) (kh6 3 (b2 (gv 4) (gv 5) ixD) (gv 5)))
 (Bx (gv 3)))))
def En:List D->R D:=Cy 6 ja8
theorem Pj:Am ["_law_script","_law_at","_law_many","_law_order_here","_law_spots","_law_k"] ["_law_script","_law_at","_law_many"] (Ad Ml):=Eg
theorem Yg(F:Fun K "_law_order" "_law_order" Ml a fd)(b:mg "range" = none)(c:FnC P w K mg base 2 "_law_row" ["_law_script","_law_at","_law_sizes"] 3 Fe):
  Bq P w K mg base CX0 3 a fd ["_law_script","_law_at","_law_many"] (sp0 K 3 En):=
 Cv (O:=[3]) F Pj (by decide) λo A h s H E q n p =>
  have i:=Pj.nd
  (sc (jn5 3 i (PEf.up (l:=.fr) (l':=.no) (kj0 an)))
  (sc (Gh 4 i (callC c (n.mono (by decide)) (ac (nv 0) (ac (nv 1) (ac (comp (T:=["_law_k"]) (caps:=[]) (by rfl) rfl (jj8 b (ac (nv 2) an)) (λm _ k e g f j=>(tn 0 (show List.Nodup (["_law_k"]:List Str) by decide +kernel))) (λm _ k e g f j=>ti0) (λm _ k e g f j=>(u3 (Hi (nv 0) (u1 ki)))) (Cm (by decide))) an)))))
  (sc (for_ PassesOwn.never rfl (tn 5 i) (jj8 b (ac (nv 2) an)) (s1 (yk2 3 (ix (nv 4) (nv 5)) (nv 5))))
  (s1 (Dd (av 3))))))
abbrev Jv:Stmt:=top 13
def Wg:Ev->R Fl:=(Bx (Ax (itS (gv 0)) 1 [1,2] (gN 0) yes (ife (tb (b2 (gv 0) (bA (zv (gv 1) (zv (gv 2) a0)) De) inD)) (bA (zv (gv 1) (zv (gv 2) a0)) minD) (gv 0))))
def Fo:List D->R D:=Cy 3 Wg
theorem My:Am ["leasts","one","other"] ["leasts","one","other"] (Ad Jv):=Eg
theorem Vg(F:Fun K "put_together" "put_together" Jv a fd)(b:mg "min" = none):
  Bq P w K mg base CX0 1 a fd ["leasts","one","other"] (sp0 K 3 Fo):=
 Cv (O:=[]) F My (by decide) λl A g s H E o n k =>
  have m:=My.nd
  (s1 (Dd (u3 (comp (T:=["least"]) (caps:=[1,2]) (by rfl) rfl (Hr (nv 0)) (λj _ i c f e h=>(tn 0 (show List.Nodup (["least","one","other"]:List Str) by decide +kernel))) (λj _ i c f e h=>ti0) (λj _ i c f e h=>(u3 (ifx (tin k (nv 0) (tup (ac (nv 1) (ac (nv 2) an)))) (u1 (PEd.sc (yc8 rfl b (ac (nv 1) (ac (nv 2) an))) (Cr ka4))) (nv 0)))) (Cm (by decide))))))
abbrev Hu:Stmt:=top 12
def Vb:Ev->R Fl:=(sq (asg 2 (bA (zv (b2 (gv 0) (kd (.int 0)) ixD) a0) list_rangeD))
 (sq (Tg (itS (gv 1)) (gN 3) (sq (asg 4 (b2 (b2 (gv 0) (kd (.int 1)) ixD) (gv 3) ixD))
 (asg 2 (cl (zv (gv 2) (zv (b2 (gv 2) (b2 (gv 4) (kd (.int 0)) ixD) ixD) (zv (b2 (gv 2) (b2 (gv 4) (kd (.int 1)) ixD) ixD) a0))) Fo))))
 (Bx (gv 2))))
def Ge:List D->R D:=Cy 5 Vb
theorem K7:Am ["web","some","leasts","tie","ends"] ["web","some"] (Ad Hu):=Eg
theorem T5(F:Fun K "least_of_each" "least_of_each" Hu a fd)(e:mg "list" = none)(c:mg "range" = none)(b:FnC P w K mg base 1 "put_together" ["leasts","one","other"] 3 Fo):
  Bq P w K mg base CX0 2 a fd ["web","some"] (sp0 K 2 Ge):=
 Cv (O:=[]) F K7 (by decide) λi A g s H E k h j =>
  have f:=K7.nd
  (sc (Gh 2 f (list_range rfl e c (ac (ix (nv 0) (u1 ki)) an)))
  (sc (for_ PassesOwn.never rfl (tn 3 f) (Hr (nv 1)) (sc (Gh 4 f (ix (ix (nv 0) (u1 ki)) (nv 3)))
  (s1 (Gh 2 f (callC b (h.mono (by decide)) (ac (nv 2) (ac (ix (nv 2) (ix (nv 4) (u1 ki))) (ac (ix (nv 2) (ix (nv 4) (u1 ki))) an))))))))
  (s1 (Dd (u3 (nv 2))))))
abbrev Ue:Stmt:=top 14
def kg9:Ev->R Fl:=(Bx (bA (zv (Ax (ks2 (gv 0)) 2 [1] (gT [0,1]) (tb (b2 (gv 1) (gv 2) eqD)) (gv 0)) a0) Di))
def Om:List D->R D:=Cy 2 kg9
theorem Xl:Am ["leasts","least"] ["leasts","least"] (Ad Ue):=Eg
theorem ju8(F:Fun K "members" "members" Ue a fd)(b:mg "enumerate" = none)(c:mg "tuple" = none):
  Bq P w K mg base CX0 1 a fd ["leasts","least"] (sp0 K 2 Om):=
 Cv (O:=[]) F Xl (by decide) λm A h s H E p o l =>
  have n:=Xl.nd
  (s1 (Dd (u3 (Hx c (ac (comp (T:=["point","other"]) (caps:=[1]) (by rfl) rfl (wr4 b (nv 0)) (λk _ j e g f i=>(tT rfl (tsc 0 (show List.Nodup (["point","other","least"]:List Str) by decide +kernel) (tsc 1 (show List.Nodup (["point","other","least"]:List Str) by decide +kernel) tsn)))) (λk _ j e g f i=>(ti1 (teq l (nv 1) (nv 2)))) (λk _ j e g f i=>(u3 (nv 0))) (ja7 (by decide))) an)))))
abbrev je1:Stmt:=top 6
def wd4:Ev->R Fl:=(sq (asg 2 (cl (zv (gv 0) (zv (gv 1) a0)) Ge))
 (Bx (Ax (itS (bA (zv (gv 2) a0) Dv)) 1 [2] (gN 0) yes (cl (zv (gv 1) (zv (gv 0) a0)) Om))))
def Vk:List D->R D:=Cy 3 wd4
theorem jn4:Am ["web","some","leasts"] ["web","some"] (Ad je1):=Eg
theorem kv6(F:Fun K "parts" "parts" je1 a fd)(f:mg "set" = none)(e:mg "sorted" = none)(b:FnC P w K mg base 2 "least_of_each" ["web","some"] 2 Ge)(c:FnC P w K mg base 1 "members" ["leasts","least"] 2 Om):
  Bq P w K mg base CX0 3 a fd ["web","some"] (sp0 K 2 Vk):=
 Cv (O:=[]) F jn4 (by decide) λp A j s H E r k q =>
  have o:=jn4.nd
  (sc (Gh 2 o (callC b (k.mono (by decide)) (ac (nv 0) (ac (nv 1) an))))
  (s1 (Dd (u3 (comp (T:=["least"]) (caps:=[2]) (by rfl) rfl (Hr (jo1 rfl e f (ac (nv 2) an))) (λn _ m g i h l=>(tn 0 (show List.Nodup (["least","leasts"]:List Str) by decide +kernel))) (λn _ m g i h l=>ti0) (λn _ m g i h l=>(u3 (callC c (k.mono (by decide)) (ac (nv 1) (ac (nv 0) an))))) (Cm (by decide)))))))
abbrev jw4:Stmt:=top 7
def wr3:Ev->R Fl:=(Bx (b2 (b2 (gv 0) (kd (.int 0)) ixD) (bA (zv (cl (zv (gv 0) (zv (gv 1) a0)) Vk) a0) Ci) jw7))
def By:List D->R D:=Cy 2 wr3
theorem kd4:Am ["web","some"] ["web","some"] (Ad jw4):=Eg
theorem wh2(F:Fun K "rank" "rank" jw4 a fd)(c:mg "len" = none)(b:FnC P w K mg base 3 "parts" ["web","some"] 2 Vk):
  Bq P w K mg base CX0 4 a fd ["web","some"] (sp0 K 2 By):=
 Cv (O:=[]) F kd4 (by decide) λg A e s H E j f i =>
  have h:=kd4.nd
  (s1 (Dd (u2 (PEd.sc (sub (ix (nv 0) (u1 ki)) (u1 (PEd.sc (Hs c (ac (callC b (f.mono (by decide)) (ac (nv 0) (ac (nv 1) an))) an)) (Cr Br)))) (Em Wo)))))
abbrev Ht:Stmt:=top 15
def Va:Ev->R Fl:=(Bx (Ax (itR Ph (zv (bA (zv (gv 0) a0) Ci) a0)) 1 [0] (gN 0) yes (b2 (bS (gv 1) p0 (p1 (gv 0)) slA) (bS (gv 1) (p1 (b2 (gv 0) (kd (.int 1)) Bd)) p0 slA) Bd)))
def Et:List D->R D:=Cy 1 Va
theorem K6:Am ["some"] ["some"] (Ad Ht):=Eg
theorem T4(F:Fun K "each_left_out" "each_left_out" Ht a fd)(c:mg "len" = none)(b:mg "range" = none):
  Bq P w K mg base CX0 1 a fd ["some"] (sp0 K 1 Et):=
 Cv (O:=[]) F K6 (by decide) λm A h s H E q p o =>
  have n:=K6.nd
  (s1 (Dd (u3 (comp (T:=["place"]) (caps:=[0]) (by rfl) rfl (PId.up (l:=.fr) (l':=.no) (jj8 b (ac (PEd.sc (Hs c (ac (nv 0) an)) (Cr Br)) an))) (λk _ j e g f i=>(tn 0 (show List.Nodup (["place","some"]:List Str) by decide +kernel))) (λk _ j e g f i=>ti0) (λk _ j e g f i=>(u3 (Hi (Uj (nv 1) pn (ps (nv 0))) (Uj (nv 1) (ps (Hi (nv 0) (u1 ki))) pn)))) (Cm (by decide))))))
abbrev Ud:Stmt:=top 8
def kg8:Ev->R Fl:=(sq (ifS (tor (tb (b2 (bA (zv (gv 1) a0) Ci) (kd (.int 0)) eqD)) (tb (b2 (cl (zv (gv 0) (zv (gv 1) a0)) By) (bA (zv (gv 1) a0) Ci) geD))) (Bx (kd (.bl false))) nop)
 (Bx (bA (zv (Ax (itS (cl (zv (gv 1) a0) Et)) 1 [0] (gN 0) yes (b2 (cl (zv (gv 1) (zv (gv 0) a0)) By) (bA (zv (gv 0) a0) Ci) eqD)) a0) Q8)))
def Gi:List D->R D:=Cy 2 kg8
theorem Xk:Am ["web","some"] ["web","some"] (Ad Ud):=Eg
theorem ju7(F:Fun K "is_ring" "is_ring" Ud a fd)(f:mg "all" = none)(c:mg "len" = none)(b:FnC P w K mg base 1 "each_left_out" ["some"] 1 Et)(e:FnC P w K mg base 4 "rank" ["web","some"] 2 By):
  Bq P w K mg base CX0 5 a fd ["web","some"] (sp0 K 2 Gi):=
 Cv (O:=[]) F Xk (by decide) λp A j s H E r k l =>
  have q:=Xk.nd
  (sc (if_ (Z0 (kl6 (teq l (PEd.sc (Hs c (ac (nv 1) an)) (Cr Br)) ki) (kz4 (tge (callC e (k.mono (by decide)) (ac (nv 0) (ac (nv 1) an))) (u1 (PEd.sc (Hs c (ac (nv 1) an)) (Cr Br))))))) (s1 (Dd (u2 kb))) sn)
  (s1 (Dd (u2 (PEd.sc (km8 rfl f (ac (comp (T:=["left"]) (caps:=[0]) (by rfl) rfl (Hr (callC b (k.mono (by decide)) (ac (nv 1) an))) (λo _ n g i h m=>(tn 0 (show List.Nodup (["left","web"]:List Str) by decide +kernel))) (λo _ n g i h m=>ti0) (λo _ n g i h m=>(u2 (PEd.sc (eq_ l (callC e (k.mono (by decide)) (ac (nv 1) (ac (nv 0) an))) (u1 (PEd.sc (Hs c (ac (nv 0) an)) (Cr Br)))) (Em Rp)))) (Cm (by decide))) an)) (Cr Ro))))))
abbrev Qt:Stmt:=top 10
def js5:Ev->R Fl:=(Bx (bA (zv (bA (zv (b2 (gv 0) (kd (.int 1)) ixD) a0) Ci) a0) G5))
def Bs:List D->R D:=Cy 1 js5
theorem U3:Am ["web"] ["web"] (Ad Qt):=Eg
theorem jl7(F:Fun K "all_ties" "all_ties" Qt a fd)(e:mg "len" = none)(c:mg "range" = none)(b:mg "tuple" = none):
  Bq P w K mg base CX0 1 a fd ["web"] (sp0 K 1 Bs):=
 Cv (O:=[]) F U3 (by decide) λg A f s H E k j i =>
  have h:=U3.nd
  (s1 (Dd (u2 (tuple_range rfl b c (ac (PEd.sc (Hs e (ac (ix (nv 0) (u1 ki)) an)) (Cr Br)) an)))))
abbrev Xi:Stmt:=top 9
def ji9:Ev->R Fl:=(sq (asg 2 (cl (zv (gv 0) a0) Bs))
 (sq (asg 3 (cl (zv (gv 0) (zv (gv 2) a0)) By))
 (sq (asg 4 (bA (zv (Ax (itS (gv 2)) 1 [1] (gN 0) (tb (b2 (gv 0) (gv 1) Ye)) (gv 0)) a0) Di))
 (sq (ifS (tor (tb (b2 (bA (zv (gv 1) a0) Ci) (kd (.int 0)) eqD)) (tb (b2 (cl (zv (gv 0) (zv (gv 4) a0)) By) (gv 3) geD))) (Bx (kd (.bl false))) nop)
 (Bx (bA (zv (Ax (itS (gv 1)) 1 [0,4,3] (gN 0) yes (b2 (cl (zv (gv 1) (zv (b2 (gv 2) (bA (zv (gv 0) a0) De) Bd) a0)) By) (gv 3) eqD)) a0) Q8))))))
def Ko:List D->R D:=Cy 5 ji9
theorem Zv:Am ["web","some","every","full","rest"] ["web","some"] (Ad Xi):=Eg
theorem kk1(F:Fun K "is_cut" "is_cut" Xi a fd)(j:mg "all" = none)(i:mg "len" = none)(e:mg "tuple" = none)(c:FnC P w K mg base 1 "all_ties" ["web"] 1 Bs)(b:FnC P w K mg base 4 "rank" ["web","some"] 2 By):
  Bq P w K mg base CX0 5 a fd ["web","some"] (sp0 K 2 Ko):=
 Cv (O:=[]) F Zv (by decide) λr A o s H E u n q =>
  have p:=Zv.nd
  (sc (Gh 2 p (callC c (n.mono (by decide)) (ac (nv 0) an)))
  (sc (Gh 3 p (callC b (n.mono (by decide)) (ac (nv 0) (ac (nv 2) an))))
  (sc (Gh 4 p (Hx e (ac (comp (T:=["tie"]) (caps:=[1]) (by rfl) rfl (Hr (nv 2)) (λm _ l f h g k=>(tn 0 (show List.Nodup (["tie","some"]:List Str) by decide +kernel))) (λm _ l f h g k=>(ti1 (yg9 q (nv 0) (nv 1)))) (λm _ l f h g k=>(u3 (nv 0))) (Cm (by decide))) an)))
  (sc (if_ (Z0 (kl6 (teq q (PEd.sc (Hs i (ac (nv 1) an)) (Cr Br)) ki) (kz4 (tge (callC b (n.mono (by decide)) (ac (nv 0) (ac (nv 4) an))) (nv 3))))) (s1 (Dd (u2 kb))) sn)
  (s1 (Dd (u2 (PEd.sc (km8 rfl j (ac (comp (T:=["tie"]) (caps:=[0,4,3]) (by rfl) rfl (Hr (nv 1)) (λm _ l f h g k=>(tn 0 (show List.Nodup (["tie","web","rest","full"]:List Str) by decide +kernel))) (λm _ l f h g k=>ti0) (λm _ l f h g k=>(u2 (PEd.sc (eq_ q (callC b (n.mono (by decide)) (ac (nv 1) (ac (Hi (nv 2) (tup (ac (nv 0) an))) an))) (nv 3)) (Em Rp)))) (Cm (by decide))) an)) (Cr Ro)))))))))
abbrev Qw:Stmt:=top 27
def js8:Ev->R Fl:=(sq (asg 1 (kd (Kl [] [])))
 (sq (Tg (itS (gv 0)) (gT [2,3,4]) (V8 1 (zv (gv 2) (zv (gv 3) a0)) (b2 (jh2 1 (zv (gv 2) (zv (gv 3) a0)) (kd (.int 0))) (gv 4) Bd)))
 (Bx (bA (zv (Ax (itI 1) 2 [] (gT [0,1]) (tb (b2 (gv 1) (kd (.int 0)) neD)) (bA (zv (b2 (gv 0) (kd (.int 0)) ixD) (zv (b2 (gv 0) (kd (.int 1)) ixD) (zv (gv 1) a0))) De)) a0) Dl))))
def Eo:List D->R D:=Cy 5 js8
theorem U6:Am ["tuples","sums","i","j","times"] ["tuples"] (Ad Qw):=Eg
theorem jm0(F:Fun K "gathered" "gathered" Qw a fd)(b:mg "sorted" = none):
  Bq P w K mg base CX0 1 a fd ["tuples"] (spG K 1 Eo):=
 wr0 (O:=[1]) F U6 (by decide) λn A i s H E p o j =>
  have g:=U6.nd
  (scG (wm4 1 g)
  (scG (for_ PassesOwn.never rfl (tT rfl (tsc 2 g (tsc 3 g (tsc 4 g tsn)))) (Hr (nv 0)) (s1 (wz6 j 1 (Hi (yc0 j 1 (ac (nv 2) (ac (nv 3) an)) (u1 ki)) (nv 4)) (ac (nv 2) (ac (nv 3) an)) (λ_ h=>h))))
  (rGl (Sv b (ac (comp (T:=["place","times"]) (caps:=[]) (by rfl) rfl (wr5 1) (λm _ l c f e k=>(tT rfl (tsc 0 (show List.Nodup (["place","times"]:List Str) by decide +kernel) (tsc 1 (show List.Nodup (["place","times"]:List Str) by decide +kernel) tsn)))) (λm _ l c f e k=>(ti1 (tne j (nv 1) (u1 ki)))) (λm _ l c f e k=>(u3 (tup (ac (ix (nv 0) (u1 ki)) (ac (ix (nv 0) (u1 ki)) (ac (nv 1) an)))))) (ja7 (by decide))) an)) Mu)))
abbrev jd9:Stmt:=top 25
def wd2:Ev->R Fl:=(Bx (cl (zv (b2 (gv 0) (gv 1) Bd) a0) Eo))
def Rc:List D->R D:=Cy 2 wd2
theorem jn2:Am ["one","other"] ["one","other"] (Ad jd9):=Eg
theorem kv4(F:Fun K "added" "added" jd9 a fd)(b:FnC P w K mg base 1 "gathered" ["tuples"] 1 Eo):
  Bq P w K mg base CX0 2 a fd ["one","other"] (sp0 K 2 Rc):=
 Cv (O:=[]) F jn2 (by decide) λf A c s H E i e h =>
  have g:=jn2.nd
  (s1 (Dd (u3 (callC b (e.mono (by decide)) (ac (Hi (nv 0) (nv 1)) an)))))
abbrev Mr:Stmt:=top 26
def jb2:Ev->R Fl:=(sq (asg 2 (bA a0 M5))
 (sq (Tg (itS (gv 0)) (gT [3,4,5]) (kg3 2 (Ax (itS (gv 1)) 3 [3,4,5] (gT [0,1,2]) yes (bA (zv (b2 (gv 3) (gv 0) Bd) (zv (b2 (gv 4) (gv 1) Bd) (zv (b2 (gv 5) (gv 2) Fd) a0))) De))))
 (Bx (cl (zv (gv 2) a0) Eo))))
def Df:List D->R D:=Cy 6 jb2
theorem Pu:Am ["one","other","products","i","j","times"] ["one","other"] (Ad Mr):=Eg
theorem Yk(F:Fun K "multiplied" "multiplied" Mr a fd)(b:FnC P w K mg base 1 "gathered" ["tuples"] 1 Eo):
  Bq P w K mg base CX0 2 a fd ["one","other"] (sp0 K 2 Df):=
 Cv (O:=[2]) F Pu (by decide) λn A h s H E p m o =>
  have g:=Pu.nd
  (sc (jn5 2 g (PEf.up (l:=.fr) (l':=.no) (kj0 an)))
  (sc (for_ PassesOwn.never rfl (tT rfl (tsc 3 g (tsc 4 g (tsc 5 g tsn)))) (Hr (nv 0)) (s1 (yj7 2 (wl4 (T:=["more_i","more_j","more"]) (caps:=[3,4,5]) (by rfl) rfl (Hr (nv 1)) (λk _ j c f e i=>(tT rfl (tsc 0 (show List.Nodup (["more_i","more_j","more","i","j","times"]:List Str) by decide +kernel) (tsc 1 (show List.Nodup (["more_i","more_j","more","i","j","times"]:List Str) by decide +kernel) (tsc 2 (show List.Nodup (["more_i","more_j","more","i","j","times"]:List Str) by decide +kernel) tsn))))) (λk _ j c f e i=>ti0) (λk _ j c f e i=>(u3 (tup (ac (Hi (nv 3) (nv 0)) (ac (Hi (nv 4) (nv 1)) (ac (u1 (PEd.sc (mul (nv 5) (nv 2)) (Em Eu))) an)))))) (ja7 (by decide))))))
  (s1 (Dd (callC b (m.mono (by decide)) (ac (av 2) an))))))
abbrev Ms:Stmt:=top 39
def Lp:Ev->R Fl:=(ifS (nt (tb (ch (kd (.int 0)) (gv 1) (bA (zv (b2 (gv 0) (kd (.int 1)) ixD) a0) Ci) leD ltD))) never nop)
def Jc:List D->R D:=Cy 2 Lp
theorem Px:Am ["web","tie"] ["web","tie"] (Ad Ms):=Eg
theorem Yl(F:Fun K "refuse_tie" "refuse_tie" Ms a fd)(b:mg "len" = none):
  Bq P w K mg base CX0 1 a fd ["web","tie"] (sp0 K 2 Jc):=
 Cv (O:=[]) F Px (by decide) λe A c s H E i h g =>
  have f:=Px.nd
  (s1 (if_ (kz3 (wx2 (yl0) (wt5) (u1 ki) (nv 1) (u1 (PEd.sc (Hs b (ac (ix (nv 0) (u1 ki)) an)) (Cr Br))))) (s1 jv8) sn))
abbrev Uh:Stmt:=top 37
def kh1:Ev->R Fl:=(sq (drp (cl (zv (gv 0) (zv (gv 1) a0)) Jc))
 (sq (asg 2 (b2 (gv 0) (kd (.int 1)) ixD))
 (Bx (bA (zv (b2 (gv 0) (kd (.int 0)) ixD) (zv (b2 (bS (gv 2) p0 (p1 (gv 1)) slA) (bS (gv 2) (p1 (b2 (gv 1) (kd (.int 1)) Bd)) p0 slA) Bd) a0)) De))))
def Ew:List D->R D:=Cy 3 kh1
theorem Xn:Am ["web","tie","ties"] ["web","tie"] (Ad Uh):=Eg
theorem jv0(F:Fun K "without" "without" Uh a fd)(b:FnC P w K mg base 1 "refuse_tie" ["web","tie"] 2 Jc):
  Bq P w K mg base CX0 2 a fd ["web","tie"] (sp0 K 2 Ew):=
 Cv (O:=[]) F Xn (by decide) λg A c s H E i f h =>
  have e:=Xn.nd
  (sc (ex_ (u3 (callC b (f.mono (by decide)) (ac (nv 0) (ac (nv 1) an)))))
  (sc (Gh 2 e (ix (nv 0) (u1 ki)))
  (s1 (Dd (u3 (tup (ac (ix (nv 0) (u1 ki)) (ac (Hi (Uj (nv 2) pn (ps (nv 1))) (Uj (nv 2) (ps (Hi (nv 1) (u1 ki))) pn)) an))))))))
abbrev Mt:Stmt:=top 42
def jb3:Ev->R Fl:=(Bx (bA (zv (bA (zv (gv 0) (zv (gv 1) a0)) minD) (zv (bA (zv (gv 0) (zv (gv 1) a0)) maxD) a0)) De))
def Gv:List D->R D:=Cy 2 jb3
theorem Py:Am ["one","other"] ["one","other"] (Ad Mt):=Eg
theorem Ym(F:Fun K "rising_tie" "rising_tie" Mt a fd)(c:mg "max" = none)(b:mg "min" = none):
  Bq P w K mg base CX0 1 a fd ["one","other"] (sp0 K 2 Gv):=
 Cv (O:=[]) F Py (by decide) λf A e s H E j i h =>
  have g:=Py.nd
  (s1 (Dd (u2 (tup (ac (PEd.sc (yc8 rfl b (ac (nv 0) (ac (nv 1) an))) (Cr ka4)) (ac (PEd.sc (yk6 rfl c (ac (nv 0) (ac (nv 1) an))) (Cr we1)) an))))))
abbrev Hv:Stmt:=top 41
def Vc:Ev->R Fl:=(sq (ifS (tb (b2 (gv 0) (gv 2) eqD)) (Bx (gv 1)) nop)
 (sq (ifS (tb (b2 (gv 0) (gv 2) gtD)) (Bx (b2 (gv 0) (kd (.int 1)) jw7)) nop)
 (Bx (gv 0))))
def Cw:List D->R D:=Cy 3 Vc
theorem K8:Am ["point","lesser","greater"] ["point","lesser","greater"] (Ad Hv):=Eg
theorem T6(F:Fun K "number_as_one" "number_as_one" Hv a fd):
  Bq P w K mg base CX0 1 a fd ["point","lesser","greater"] (sp0 K 3 Cw):=
 Cv (O:=[]) F K8 (by decide) λe A b s H E h g c =>
  have f:=K8.nd
  (sc (if_ (teq c (nv 0) (nv 2)) (s1 (Dd (u3 (nv 1)))) sn)
  (sc (if_ (tgt (nv 0) (nv 2)) (s1 (Dd (u2 (PEd.sc (sub (nv 0) (u1 ki)) (Em Wo))))) sn)
  (s1 (Dd (u3 (nv 0))))))
abbrev Xh:Stmt:=top 40
def kr0:Ev->R Fl:=(sq (asg 3 (Ax (itS (b2 (gv 0) (kd (.int 1)) ixD)) 1 [1,2] (gN 0) yes (cl (zv (cl (zv (b2 (gv 0) (kd (.int 0)) ixD) (zv (gv 1) (zv (gv 2) a0))) Cw) (zv (cl (zv (b2 (gv 0) (kd (.int 1)) ixD) (zv (gv 1) (zv (gv 2) a0))) Cw) a0)) Gv)))
 (Bx (bA (zv (b2 (b2 (gv 0) (kd (.int 0)) ixD) (kd (.int 1)) jw7) (zv (bA (zv (gv 3) a0) Di) a0)) De)))
def Rf:List D->R D:=Cy 4 kr0
theorem Zu:Am ["web","lesser","greater","ties"] ["web","lesser","greater"] (Ad Xh):=Eg
theorem kk0(F:Fun K "as_one" "as_one" Xh a fd)(e:mg "tuple" = none)(b:FnC P w K mg base 1 "number_as_one" ["point","lesser","greater"] 3 Cw)(c:FnC P w K mg base 1 "rising_tie" ["one","other"] 2 Gv):
  Bq P w K mg base CX0 2 a fd ["web","lesser","greater"] (sp0 K 3 Rf):=
 Cv (O:=[]) F Zu (by decide) λo A i s H E q j p =>
  have n:=Zu.nd
  (sc (setC (T:=["tie"]) (caps:=[1,2]) 3 n (by rfl) rfl (Hr (ix (nv 0) (u1 ki))) (λm _ l f h g k=>(tn 0 (show List.Nodup (["tie","lesser","greater"]:List Str) by decide +kernel))) (λm _ l f h g k=>ti0) (λm _ l f h g k=>(u3 (callC c (j.mono (by decide)) (ac (callC b (j.mono (by decide)) (ac (ix (nv 0) (u1 ki)) (ac (nv 1) (ac (nv 2) an)))) (ac (callC b (j.mono (by decide)) (ac (ix (nv 0) (u1 ki)) (ac (nv 1) (ac (nv 2) an)))) an))))) (Cm (by decide)))
  (s1 (Dd (u3 (tup (ac (u1 (PEd.sc (sub (ix (nv 0) (u1 ki)) (u1 ki)) (Em Wo))) (ac (Hx e (ac (nv 3) an)) an)))))))
abbrev je0:Stmt:=top 38
def wd3:Ev->R Fl:=(sq (asg 2 (cl (zv (gv 0) (zv (gv 1) a0)) Ew))
 (sq (asg 3 (b2 (b2 (gv 0) (kd (.int 1)) ixD) (gv 1) ixD))
 (sq (ifS (tb (b2 (b2 (gv 3) (kd (.int 0)) ixD) (b2 (gv 3) (kd (.int 1)) ixD) eqD)) (Bx (gv 2)) nop)
 (Bx (cl (zv (gv 2) (zv (b2 (gv 3) (kd (.int 0)) ixD) (zv (b2 (gv 3) (kd (.int 1)) ixD) a0))) Rf)))))
def Jb:List D->R D:=Cy 4 wd3
theorem jn3:Am ["web","tie","others","ends"] ["web","tie"] (Ad je0):=Eg
theorem kv5(F:Fun K "drawn" "drawn" je0 a fd)(c:FnC P w K mg base 2 "as_one" ["web","lesser","greater"] 3 Rf)(b:FnC P w K mg base 2 "without" ["web","tie"] 2 Ew):
  Bq P w K mg base CX0 3 a fd ["web","tie"] (sp0 K 2 Jb):=
 Cv (O:=[]) F jn3 (by decide) λi A e s H E j g h =>
  have f:=jn3.nd
  (sc (Gh 2 f (callC b (g.mono (by decide)) (ac (nv 0) (ac (nv 1) an))))
  (sc (Gh 3 f (ix (ix (nv 0) (u1 ki)) (nv 1)))
  (sc (if_ (teq h (ix (nv 3) (u1 ki)) (ix (nv 3) (u1 ki))) (s1 (Dd (u3 (nv 2)))) sn)
  (s1 (Dd (u3 (callC c (g.mono (by decide)) (ac (nv 2) (ac (ix (nv 3) (u1 ki)) (ac (ix (nv 3) (u1 ki)) an))))))))))
abbrev Qy:Stmt:=top 44
def Wi(b:List D->R D):Ev->R Fl:=(sq (ifS (tb (b2 (bA (zv (b2 (gv 0) (kd (.int 1)) ixD) a0) Ci) (kd (.int 0)) eqD)) (Bx (bA (zv (bA (zv (kd (.int 0)) (zv (kd (.int 0)) (zv (kd (.int 1)) a0))) De) a0) M5)) nop)
 (sq (ifS (tt (cl (zv (gv 0) (zv (bA (zv (kd (.int 0)) a0) De) a0)) Gi)) (Bx (cl (zv (cl (zv (cl (zv (gv 0) (zv (kd (.int 0)) a0)) Ew) a0) b) (zv (bA (zv (bA (zv (kd (.int 0)) (zv (kd (.int 1)) (zv (kd (.int 1)) a0))) De) a0) M5) a0)) Df)) nop)
 (sq (ifS (tt (cl (zv (gv 0) (zv (bA (zv (kd (.int 0)) a0) De) a0)) Ko)) (Bx (cl (zv (cl (zv (cl (zv (gv 0) (zv (kd (.int 0)) a0)) Jb) a0) b) (zv (bA (zv (bA (zv (kd (.int 1)) (zv (kd (.int 0)) (zv (kd (.int 1)) a0))) De) a0) M5) a0)) Df)) nop)
 (Bx (cl (zv (cl (zv (cl (zv (gv 0) (zv (kd (.int 0)) a0)) Ew) a0) b) (zv (cl (zv (cl (zv (gv 0) (zv (kd (.int 0)) a0)) Jb) a0) b) a0)) Rc)))))
def Ea:Nat->List D->R D
 |0=>λ_=>.bad
 |n+1=>Cy 1 (Wi (Ea n))
def P0:List D->R D:=Ea 12
theorem N7:Am ["web"] ["web"] (Ad Qy):=Eg
theorem Rz{P:Program}{w:World}{K:Frag}{mg:Str->Option Value}{base:Heap}{a:Addr}{fd:FuncData}(F:Fun K "table_of" "table_of" Qy a fd)(o:mg "table_of" = some (.ref a))(p:W.keepIn K (.ref a)=true)(q:Binds K fd ["web"] [])(l:mg "len" = none)(i:FnC P w K mg base 2 "added" ["one","other"] 2 Rc)(g:FnC P w K mg base 3 "drawn" ["web","tie"] 2 Jb)(h:FnC P w K mg base 5 "is_cut" ["web","some"] 2 Ko)(f:FnC P w K mg base 5 "is_ring" ["web","some"] 2 Gi)(c:FnC P w K mg base 2 "multiplied" ["one","other"] 2 Df)(e:FnC P w K mg base 2 "without" ["web","tie"] 2 Ew):
  ∀n:Nat,Bq P w K mg base CX0 (6+n) a fd ["web"] (sp0 K 1 (Ea n))
 |0=>wq9 F N7
 |n+1=>Cv (k:=6+n) (O:=[]) F N7 (by decide) λu A m s H E x j r =>
  have v:=N7.nd;have b:FnC P w K mg base (6+n) "table_of" ["web"] 1 (Ea n):=⟨a,fd,Rz F o p q l i g h f c e n,o,p,q⟩
  (sc (if_ (teq r (PEd.sc (Hs l (ac (ix (nv 0) (u1 ki)) an)) (Cr Br)) ki) (s1 (Dd (u2 (lst (ac (tup (ac ki (ac ki (ac ki an)))) an))))) sn)
  (sc (if_ (tst (callC f (j.mono (by omega)) (ac (nv 0) (ac (u1 (tup (ac ki an))) an)))) (s1 (Dd (u3 (callC c (j.mono (by omega)) (ac (callC b (j.mono (by omega)) (ac (callC e (j.mono (by omega)) (ac (nv 0) (ac (u1 ki) an))) an)) (ac (u1 (lst (ac (tup (ac ki (ac ki (ac ki an)))) an))) an)))))) sn)
  (sc (if_ (tst (callC h (j.mono (by omega)) (ac (nv 0) (ac (u1 (tup (ac ki an))) an)))) (s1 (Dd (u3 (callC c (j.mono (by omega)) (ac (callC b (j.mono (by omega)) (ac (callC g (j.mono (by omega)) (ac (nv 0) (ac (u1 ki) an))) an)) (ac (u1 (lst (ac (tup (ac ki (ac ki (ac ki an)))) an))) an)))))) sn)
  (s1 (Dd (u3 (callC i (j.mono (by omega)) (ac (callC b (j.mono (by omega)) (ac (callC e (j.mono (by omega)) (ac (nv 0) (ac (u1 ki) an))) an)) (ac (callC b (j.mono (by omega)) (ac (callC g (j.mono (by omega)) (ac (nv 0) (ac (u1 ki) an))) an)) an)))))))))
abbrev Jw:Stmt:=top 32
def Jp:Ev->R Fl:=(sq (asg 2 (cl (zv (gv 0) a0) Bs))
 (ifS (tor (tb (b2 (bA (zv (gv 1) a0) Ci) (bA (zv (gv 2) a0) Ci) neD)) (nt (tt (bA (zv (Ax (itS (gv 2)) 1 [1] (gN 0) yes (b2 (gv 0) (gv 1) inD)) a0) Q8)))) never nop))
def Cp:List D->R D:=Cy 3 Jp
theorem Mz:Am ["web","order","every"] ["web","order"] (Ad Jw):=Eg
theorem Vh(F:Fun K "refuse_order" "refuse_order" Jw a fd)(e:mg "all" = none)(c:mg "len" = none)(b:FnC P w K mg base 1 "all_ties" ["web"] 1 Bs):
  Bq P w K mg base CX0 2 a fd ["web","order"] (sp0 K 2 Cp):=
 Cv (O:=[]) F Mz (by decide) λp A i s H E q o j =>
  have n:=Mz.nd
  (sc (Gh 2 n (callC b (o.mono (by decide)) (ac (nv 0) an)))
  (s1 (if_ (Z0 (kl6 (tne j (PEd.sc (Hs c (ac (nv 1) an)) (Cr Br)) (PEd.sc (Hs c (ac (nv 2) an)) (Cr Br))) (kz4 (kz3 (tst (PEd.sc (km8 rfl e (ac (comp (T:=["tie"]) (caps:=[1]) (by rfl) rfl (Hr (nv 2)) (λm _ l f h g k=>(tn 0 (show List.Nodup (["tie","order"]:List Str) by decide +kernel))) (λm _ l f h g k=>ti0) (λm _ l f h g k=>(u2 (PEd.sc (in_ j (nv 0) (nv 1)) (Em wd8)))) (Cm (by decide))) an)) (Cr Ro))))))) (s1 jv8) sn)))
abbrev Qs:Stmt:=top 11
def js4:Ev->R Fl:=(sq (asg 1 (bA (zv (bA a0 De) a0) M5))
 (sq (Tg (itS (cl (zv (gv 0) a0) Bs)) (gN 2) (asg 1 (b2 (gv 1) (Ax (itS (gv 1)) 1 [2] (gN 0) yes (b2 (gv 0) (bA (zv (gv 1) a0) De) Bd)) Bd)))
 (Bx (bA (zv (gv 1) a0) sortedZ))))
def Jm:List D->R D:=Cy 3 js4
theorem U0:Am ["web","sets","tie"] ["web"] (Ad Qs):=Eg
theorem jl6(F:Fun K "all_sets" "all_sets" Qs a fd)(c:mg "sorted" = none)(b:FnC P w K mg base 1 "all_ties" ["web"] 1 Bs):
  Bq P w K mg base CX0 2 a fd ["web"] (sp0 K 1 Jm):=
 Cv (O:=[]) F U0 (by decide) λo A h s H E p n m =>
  have i:=U0.nd
  (sc (Gh 1 i (u1 (lst (ac (tup an) an))))
  (sc (for_ PassesOwn.never rfl (tn 2 i) (Hr (callC b (n.mono (by decide)) (ac (nv 0) an))) (s1 (Gh 1 i (Hi (nv 1) (comp (T:=["some"]) (caps:=[2]) (by rfl) rfl (Hr (nv 1)) (λl _ k e g f j=>(tn 0 (show List.Nodup (["some","tie"]:List Str) by decide +kernel))) (λl _ k e g f j=>ti0) (λl _ k e g f j=>(u3 (Hi (nv 0) (tup (ac (nv 1) an))))) (Cm (by decide)))))))
  (s1 (Dd (u3 (PEf.d (ky4 m c (ac (nv 1) an)) jo0))))))
abbrev Uc:Stmt:=top 17
def kg7:Ev->R Fl:=(sq (asg 1 (cl (zv (gv 0) (zv (cl (zv (gv 0) a0) Bs) a0)) By))
 (Bx (Ax (itS (cl (zv (gv 0) a0) Jm)) 1 [1,0] (gN 0) (tan (tb (b2 (bA (zv (gv 0) a0) Ci) (gv 1) eqD)) (tb (b2 (cl (zv (gv 2) (zv (gv 0) a0)) By) (gv 1) eqD))) (gv 0))))
def Fy:List D->R D:=Cy 2 kg7
theorem Xj:Am ["web","full"] ["web"] (Ad Uc):=Eg
theorem ju6(F:Fun K "forests" "forests" Uc a fd)(f:mg "len" = none)(c:FnC P w K mg base 2 "all_sets" ["web"] 1 Jm)(b:FnC P w K mg base 1 "all_ties" ["web"] 1 Bs)(e:FnC P w K mg base 4 "rank" ["web","some"] 2 By):
  Bq P w K mg base CX0 5 a fd ["web"] (sp0 K 1 Fy):=
 Cv (O:=[]) F Xj (by decide) λq A k s H E r j l =>
  have p:=Xj.nd
  (sc (Gh 1 p (callC e (j.mono (by decide)) (ac (nv 0) (ac (callC b (j.mono (by decide)) (ac (nv 0) an)) an))))
  (s1 (Dd (u3 (comp (T:=["some"]) (caps:=[1,0]) (by rfl) rfl (Hr (callC c (j.mono (by decide)) (ac (nv 0) an))) (λo _ n g i h m=>(tn 0 (show List.Nodup (["some","full","web"]:List Str) by decide +kernel))) (λo _ n g i h m=>(ti1 (Z0 (yn2 (teq l (u1 (PEd.sc (Hs f (ac (nv 0) an)) (Cr Br))) (nv 1)) (yg8 (teq l (callC e (j.mono (by decide)) (ac (nv 2) (ac (nv 0) an))) (nv 1))))))) (λo _ n g i h m=>(u3 (nv 0))) (Cm (by decide)))))))
abbrev Qv:Stmt:=top 35
def js7:Ev->R Fl:=(Bx (mkD (gv 1) [0] (Wn (gv 1) (gv 0))))
def Ff:List D->R D:=Cy 2 js7
theorem U5:Am ["order","some"] ["order","some"] (Ad Qv):=Eg
variable {q:Addr}
theorem jl9(F:Fun K "first_of" "first_of" Qv a fd)(n:jq3 mg base "first_of" q)(kb:K.In base)(e:mg "first_of" = some (.ref a))(b:mg "min" = none):
  Bq P w K mg base CX0 2 a fd ["order","some"] (spT K q J2 2 Ff):=
 Tf (O:=[]) F U5 (by decide) λk A c s H E v f h g u =>
  have r:=U5.nd
  (s1 (Dd (u2 (PEd.sc (wg3 (x:="tie") (caps:=[0]) (ws5 n kb e F f) (g.mono (by decide)) h b (nv 1) (λz p i l j _ y o m=>(u2 (PEd.sc (yc4 (nv 1) (nv 0)) kr7)))) we2))))
abbrev Qx:Stmt:=top 23
def js9:Ev->R Fl:=(Bx (bA (zv (Ax (itS (gv 0)) 1 [1] (gN 0) (tb (b2 (gv 0) (gv 1) neD)) (gv 0)) a0) Di))
def Fj:List D->R D:=Cy 2 js9
theorem U7:Am ["some","tie"] ["some","tie"] (Ad Qx):=Eg
theorem jm1(F:Fun K "left_out" "left_out" Qx a fd)(b:mg "tuple" = none):
  Bq P w K mg base CX0 1 a fd ["some","tie"] (sp0 K 2 Fj):=
 Cv (O:=[]) F U7 (by decide) λl A g s H E o n k =>
  have m:=U7.nd
  (s1 (Dd (u3 (Hx b (ac (comp (T:=["one"]) (caps:=[1]) (by rfl) rfl (Hr (nv 0)) (λj _ i c f e h=>(tn 0 (show List.Nodup (["one","tie"]:List Str) by decide +kernel))) (λj _ i c f e h=>(ti1 (tne k (nv 0) (nv 1)))) (λj _ i c f e h=>(u3 (nv 0))) (Cm (by decide))) an)))))
abbrev Ug:Stmt:=top 20
def kh0:Ev->R Fl:=(Bx (bA (zv (Ax (itS (cl (zv (gv 0) a0) Bs)) 1 [1] (gN 0) (tb (b2 (gv 0) (gv 1) Ye)) (gv 0)) a0) Di))
def G8:List D->R D:=Cy 2 kh0
theorem Xm:Am ["web","forest"] ["web","forest"] (Ad Ug):=Eg
theorem ju9(F:Fun K "outside" "outside" Ug a fd)(c:mg "tuple" = none)(b:FnC P w K mg base 1 "all_ties" ["web"] 1 Bs):
  Bq P w K mg base CX0 2 a fd ["web","forest"] (sp0 K 2 G8):=
 Cv (O:=[]) F Xm (by decide) λn A h s H E p m l =>
  have o:=Xm.nd
  (s1 (Dd (u3 (Hx c (ac (comp (T:=["tie"]) (caps:=[1]) (by rfl) rfl (Hr (callC b (m.mono (by decide)) (ac (nv 0) an))) (λk _ j e g f i=>(tn 0 (show List.Nodup (["tie","forest"]:List Str) by decide +kernel))) (λk _ j e g f i=>(ti1 (yg9 l (nv 0) (nv 1)))) (λk _ j e g f i=>(u3 (nv 0))) (Cm (by decide))) an)))))
abbrev Qu:Stmt:=top 22
def js6:Ev->R Fl:=(sq (asg 3 (cl (zv (gv 1) (zv (gv 2) a0)) Fj))
 (sq (asg 4 (bA (zv (b2 (cl (zv (gv 0) (zv (gv 1) a0)) G8) (bA (zv (gv 2) a0) De) Bd) a0) Dl))
 (Bx (bA (zv (Ax (itS (gv 4)) 1 [0,3,1] (gN 0) (tb (b2 (cl (zv (gv 1) (zv (b2 (gv 2) (bA (zv (gv 0) a0) De) Bd) a0)) By) (bA (zv (gv 3) a0) Ci) eqD)) (gv 0)) a0) Di))))
def Jo:List D->R D:=Cy 5 js6
theorem U4:Am ["web","forest","tie","less","others"] ["web","forest","tie"] (Ad Qu):=Eg
theorem jl8(F:Fun K "cut_with" "cut_with" Qu a fd)(h:mg "len" = none)(e:mg "sorted" = none)(f:mg "tuple" = none)(b:FnC P w K mg base 1 "left_out" ["some","tie"] 2 Fj)(c:FnC P w K mg base 2 "outside" ["web","forest"] 2 G8)(g:FnC P w K mg base 4 "rank" ["web","some"] 2 By):
  Bq P w K mg base CX0 5 a fd ["web","forest","tie"] (sp0 K 3 Jo):=
 Cv (O:=[]) F U4 (by decide) λv A l s H E x m u =>
  have n:=U4.nd
  (sc (Gh 3 n (callC b (m.mono (by decide)) (ac (nv 1) (ac (nv 2) an))))
  (sc (Gh 4 n (PEf.d (Sv e (ac (Hi (callC c (m.mono (by decide)) (ac (nv 0) (ac (nv 1) an))) (tup (ac (nv 2) an))) an)) Mu))
  (s1 (Dd (u3 (Hx f (ac (comp (T:=["one"]) (caps:=[0,3,1]) (by rfl) rfl (Hr (nv 4)) (λr _ p i k j o=>(tn 0 (show List.Nodup (["one","web","less","forest"]:List Str) by decide +kernel))) (λr _ p i k j o=>(ti1 (teq u (callC g (m.mono (by decide)) (ac (nv 1) (ac (Hi (nv 2) (tup (ac (nv 0) an))) an))) (u1 (PEd.sc (Hs h (ac (nv 3) an)) (Cr Br)))))) (λr _ p i k j o=>(u3 (nv 0))) (Cm (by decide))) an)))))))
abbrev N5:Stmt:=top 33
def jj1:Ev->R Fl:=(Bx (bA (zv (Ax (itS (gv 2)) 1 [1,0,2] (gN 0) (tb (b2 (gv 0) (cl (zv (gv 1) (zv (cl (zv (gv 2) (zv (gv 3) (zv (gv 0) a0))) Jo) a0)) Ff) eqD)) (gv 0)) a0) Di))
def Fi:List D->R D:=Cy 3 jj1
theorem Sh:Am ["web","order","forest"] ["web","order","forest"] (Ad N5):=Eg
theorem jc6(F:Fun K "kept_ties" "kept_ties" N5 a fd)(e:mg "tuple" = none)(c:FnC P w K mg base 5 "cut_with" ["web","forest","tie"] 3 Jo)(b:FnT P w K mg base q J2 2 "first_of" ["order","some"] 2 Ff):
  Bq P w K mg base CX0 6 a fd ["web","order","forest"] (spT K q J2 3 Fi):=
 Tf (O:=[]) F Sh (by decide) λu A i s H E x p r k o =>
  have v:=Sh.nd
  (s1 (Dd (u3 (Hx e (ac (ko4 (T:=["tie"]) (caps:=[1,0,2]) (by rfl) rfl (Hr (nv 2)) (λn _ m f h g l j=>(tn 0 (show List.Nodup (["tie","order","web","forest"]:List Str) by decide +kernel))) (λn _ m f h g l j=>(ti1 (teq o (nv 0) (Uq b (j _ _ r) (k.mono (by decide)) (ac (nv 1) (ac (callC c (k.mono (by decide)) (ac (nv 2) (ac (nv 3) (ac (nv 0) an)))) an)))))) (λn _ m f h g l j=>(u3 (nv 0))) (Cm (by decide))) an)))))
abbrev N6:Stmt:=top 21
def jj2:Ev->R Fl:=(sq (asg 3 (bA (zv (bA (zv (b2 (gv 1) (bA (zv (gv 2) a0) De) Bd) a0) Dl) a0) Di))
 (Bx (bA (zv (Ax (itS (gv 3)) 1 [0,3,1] (gN 0) (tb (b2 (cl (zv (gv 1) (zv (cl (zv (gv 2) (zv (gv 0) a0)) Fj) a0)) By) (bA (zv (gv 3) a0) Ci) eqD)) (gv 0)) a0) Di)))
def Hj:List D->R D:=Cy 4 jj2
theorem Sq:Am ["web","forest","tie","more"] ["web","forest","tie"] (Ad N6):=Eg
theorem jc7(F:Fun K "ring_with" "ring_with" N6 a fd)(g:mg "len" = none)(e:mg "sorted" = none)(b:mg "tuple" = none)(c:FnC P w K mg base 1 "left_out" ["some","tie"] 2 Fj)(f:FnC P w K mg base 4 "rank" ["web","some"] 2 By):
  Bq P w K mg base CX0 5 a fd ["web","forest","tie"] (sp0 K 3 Hj):=
 Cv (O:=[]) F Sq (by decide) λu A k s H E v l r =>
  have p:=Sq.nd
  (sc (Gh 3 p (Hx b (ac (PEf.d (Sv e (ac (Hi (nv 1) (tup (ac (nv 2) an))) an)) Mu) an)))
  (s1 (Dd (u3 (Hx b (ac (comp (T:=["one"]) (caps:=[0,3,1]) (by rfl) rfl (Hr (nv 3)) (λo _ n h j i m=>(tn 0 (show List.Nodup (["one","web","more","forest"]:List Str) by decide +kernel))) (λo _ n h j i m=>(ti1 (teq r (callC f (l.mono (by decide)) (ac (nv 1) (ac (callC c (l.mono (by decide)) (ac (nv 2) (ac (nv 0) an))) an))) (u1 (PEd.sc (Hs g (ac (nv 3) an)) (Cr Br)))))) (λo _ n h j i m=>(u3 (nv 0))) (Cm (by decide))) an))))))
abbrev Ny:Stmt:=top 34
def ji8:Ev->R Fl:=(Bx (bA (zv (Ax (itS (cl (zv (gv 0) (zv (gv 2) a0)) G8)) 1 [1,0,2] (gN 0) (tb (b2 (gv 0) (cl (zv (gv 1) (zv (cl (zv (gv 2) (zv (gv 3) (zv (gv 0) a0))) Hj) a0)) Ff) eqD)) (gv 0)) a0) Di))
def Fg:List D->R D:=Cy 3 ji8
theorem R9:Am ["web","order","forest"] ["web","order","forest"] (Ad Ny):=Eg
theorem jc4(F:Fun K "free_ties" "free_ties" Ny a fd)(f:mg "tuple" = none)(e:FnC P w K mg base 2 "outside" ["web","forest"] 2 G8)(b:FnC P w K mg base 5 "ring_with" ["web","forest","tie"] 3 Hj)(c:FnT P w K mg base q J2 2 "first_of" ["order","some"] 2 Ff):
  Bq P w K mg base CX0 6 a fd ["web","order","forest"] (spT K q J2 3 Fg):=
 Tf (O:=[]) F R9 (by decide) λv A j s H E y r u k p =>
  have x:=R9.nd
  (s1 (Dd (u3 (Hx f (ac (ko4 (T:=["tie"]) (caps:=[1,0,2]) (by rfl) rfl (Hr (callC e (k.mono (by decide)) (ac (nv 0) (ac (nv 2) an)))) (λo _ n g i h m l=>(tn 0 (show List.Nodup (["tie","order","web","forest"]:List Str) by decide +kernel))) (λo _ n g i h m l=>(ti1 (teq p (nv 0) (Uq c (l _ _ u) (k.mono (by decide)) (ac (nv 1) (ac (callC b (k.mono (by decide)) (ac (nv 2) (ac (nv 3) (ac (nv 0) an)))) an)))))) (λo _ n g i h m l=>(u3 (nv 0))) (Cm (by decide))) an)))))
abbrev Jx:Stmt:=top 31
def Wh:Ev->R Fl:=(sq (drp (cl (zv (gv 0) (zv (gv 1) a0)) Cp))
 (Bx (cl (zv (Ax (itS (cl (zv (gv 0) a0) Fy)) 1 [0,1] (gN 0) yes (bA (zv (bA (zv (cl (zv (gv 1) (zv (gv 2) (zv (gv 0) a0))) Fi) a0) Ci) (zv (bA (zv (cl (zv (gv 1) (zv (gv 2) (zv (gv 0) a0))) Fg) a0) Ci) (zv (kd (.int 1)) a0))) De)) a0) Eo)))
def Cq:List D->R D:=Cy 2 Wh
theorem M3:Am ["web","order"] ["web","order"] (Ad Jx):=Eg
theorem Vi(F:Fun K "sorted_table" "sorted_table" Jx a fd)(h:mg "len" = none)(g:FnC P w K mg base 5 "forests" ["web"] 1 Fy)(b:FnC P w K mg base 2 "refuse_order" ["web","order"] 2 Cp)(f:FnG P w K mg base 1 "gathered" ["tuples"] 1 Eo)(e:FnT P w K mg base q J2 6 "free_ties" ["web","order","forest"] 3 Fg)(c:FnT P w K mg base q J2 6 "kept_ties" ["web","order","forest"] 3 Fi):
  Bq P w K mg base CX0 7 a fd ["web","order"] (wk1 K q J2 2 Cq):=
 wd0 (O:=[]) F M3 (by decide) λx A n s H E B v o i z =>
  have y:=M3.nd
  (scG (ex_ (u3 (callC b (i.mono (by decide)) (ac (nv 0) (ac (nv 1) an)))))
  (rG (wz1 f (i.mono (by decide)) (ac (ko4 (T:=["forest"]) (caps:=[0,1]) (by rfl) rfl (Hr (callC g (i.mono (by decide)) (ac (nv 0) an))) (λu _ r j l k p m=>(tn 0 (show List.Nodup (["forest","web","order"]:List Str) by decide +kernel))) (λu _ r j l k p m=>ti0) (λu _ r j l k p m=>(u2 (tup (ac (PEd.sc (Hs h (ac (Uq c (m _ _ o) (i.mono (by decide)) (ac (nv 1) (ac (nv 2) (ac (nv 0) an)))) an)) (Cr Br)) (ac (PEd.sc (Hs h (ac (Uq e (m _ _ o) (i.mono (by decide)) (ac (nv 1) (ac (nv 2) (ac (nv 0) an)))) an)) (Cr Br)) (ac ki an)))))) (Cm (by decide))) an))) (hn:=kv3))
abbrev Mq:Stmt:=top 49
def jb1:Ev->R Fl:=(Bx (va (b1 (gv 0) (Wu "int")) (vn (b1 (gv 0) (Wu "bool")))))
def Fx:List D->R D:=Cy 1 jb1
theorem Pq:Am ["_law_number"] ["_law_number"] (Ad Mq):=Eg
theorem Yj(F:Fun K "_law_whole" "_law_whole" Mq a fd)(c:mg "bool" = none)(e:mg "int" = none)(b:mg "isinstance" = none):
  Bq P w K mg base CX0 1 a fd ["_law_number"] (sp0 K 1 Fx):=
 Cv (O:=[]) F Pq (by decide) λg A f s H E k j i =>
  have h:=Pq.nd
  (s1 (Dd (u2 (wk9 (isi "int" "int" (by decide) PyProof.Rows.boot_int b e (nv 0)) (v1 (yn4 (isi "bool" "bool" (by decide) PyProof.Rows.boot_bool b c (nv 0))))))))
abbrev Mp:Stmt:=top 50
def jb0:Ev->R Fl:=(Bx (va (b1 (gv 0) (Wu "tuple")) (bA (zv (Ax (itS (gv 0)) 1 [] (gN 0) yes (cl (zv (gv 0) a0) Fx)) a0) Q8)))
def Fw:List D->R D:=Cy 1 jb0
theorem Pn:Am ["_law_found"] ["_law_found"] (Ad Mp):=Eg
theorem Yi(F:Fun K "_law_tuple" "_law_tuple" Mp a fd)(f:mg "all" = none)(b:mg "isinstance" = none)(e:mg "tuple" = none)(c:FnC P w K mg base 1 "_law_whole" ["_law_number"] 1 Fx):
  Bq P w K mg base CX0 2 a fd ["_law_found"] (sp0 K 1 Fw):=
 Cv (O:=[]) F Pn (by decide) λo A j s H E u n r =>
  have p:=Pn.nd
  (s1 (Dd (u2 (wk9 (isi "tuple" "tuple" (by decide) PyProof.Rows.boot_tuple b e (nv 0)) (v1 (PEd.sc (km8 rfl f (ac (comp (T:=["_law_number"]) (caps:=[]) (by rfl) rfl (Hr (nv 0)) (λm _ l g i h k=>(tn 0 (show List.Nodup (["_law_number"]:List Str) by decide +kernel))) (λm _ l g i h k=>ti0) (λm _ l g i h k=>(u3 (callC c (n.mono (by decide)) (ac (nv 0) an)))) (Cm (by decide))) an)) (Cr Ro)))))))
abbrev Mm:Stmt:=top 51
def ja9:Ev->R Fl:=(sq (ifS (nt (tt (b1 (gv 0) (Wu "list")))) (Bx (kd (.bl false))) nop)
 (Bx (bA (zv (Ax (itS (gv 0)) 1 [] (gN 0) yes (va (cl (zv (gv 0) a0) Fw) (b2 (bA (zv (gv 0) a0) Ci) (kd (.int 3)) eqD))) a0) Q8)))
def Ja:List D->R D:=Cy 1 ja9
theorem Pk:Am ["_law_found"] ["_law_found"] (Ad Mm):=Eg
theorem Yh(F:Fun K "_law_table" "_law_table" Mm a fd)(g:mg "all" = none)(b:mg "isinstance" = none)(f:mg "len" = none)(e:mg "list" = none)(c:FnC P w K mg base 2 "_law_tuple" ["_law_found"] 1 Fw):
  Bq P w K mg base CX0 3 a fd ["_law_found"] (sp0 K 1 Ja):=
 Cv (O:=[]) F Pk (by decide) λr A k s H E v p o =>
  have u:=Pk.nd
  (sc (if_ (kz3 (tst (isi "list" "list" (by decide) PyProof.Rows.boot_list b e (nv 0)))) (s1 (Dd (u2 kb))) sn)
  (s1 (Dd (u2 (PEd.sc (km8 rfl g (ac (comp (T:=["_law_row_here"]) (caps:=[]) (by rfl) rfl (Hr (nv 0)) (λn _ m h j i l=>(tn 0 (show List.Nodup (["_law_row_here"]:List Str) by decide +kernel))) (λn _ m h j i l=>ti0) (λn _ m h j i l=>(u3 (wk9 (callC c (p.mono (by decide)) (ac (nv 0) an)) (v1 (u1 (eq_ o (PEd.sc (Hs f (ac (nv 0) an)) (Cr Br)) ki)))))) (Cm (by decide))) an)) (Cr Ro))))))
abbrev Nz:Stmt:=top 19
def jj0:Ev->R Fl:=(sq (asg 2 (cl (zv (gv 0) a0) Bs))
 (sq (ifS (tb (b2 (bA (zv (Ax (itS (gv 2)) 1 [1] (gN 0) (tb (b2 (gv 0) (gv 1) inD)) (gv 0)) a0) Di) (gv 1) neD)) (Bx (kd (.bl false))) nop)
 (Bx (va (b2 (bA (zv (gv 1) a0) Ci) (cl (zv (gv 0) (zv (gv 2) a0)) By) eqD) (b2 (cl (zv (gv 0) (zv (gv 1) a0)) By) (bA (zv (gv 1) a0) Ci) eqD)))))
def J8:List D->R D:=Cy 3 jj0
theorem Sd:Am ["web","some","every"] ["web","some"] (Ad Nz):=Eg
theorem jc5(F:Fun K "is_forest" "is_forest" Nz a fd)(f:mg "len" = none)(e:mg "tuple" = none)(b:FnC P w K mg base 1 "all_ties" ["web"] 1 Bs)(c:FnC P w K mg base 4 "rank" ["web","some"] 2 By):
  Bq P w K mg base CX0 5 a fd ["web","some"] (sp0 K 2 J8):=
 Cv (O:=[]) F Sd (by decide) λr A k s H E u l j =>
  have p:=Sd.nd
  (sc (Gh 2 p (callC b (l.mono (by decide)) (ac (nv 0) an)))
  (sc (if_ (tne j (Hx e (ac (comp (T:=["tie"]) (caps:=[1]) (by rfl) rfl (Hr (nv 2)) (λo _ n g i h m=>(tn 0 (show List.Nodup (["tie","some"]:List Str) by decide +kernel))) (λo _ n g i h m=>(ti1 (tin j (nv 0) (nv 1)))) (λo _ n g i h m=>(u3 (nv 0))) (Cm (by decide))) an)) (nv 1)) (s1 (Dd (u2 kb))) sn)
  (s1 (Dd (u2 (wk9 (PEd.sc (eq_ j (u1 (PEd.sc (Hs f (ac (nv 1) an)) (Cr Br))) (callC c (l.mono (by decide)) (ac (nv 0) (ac (nv 2) an)))) (Em Rp)) (v1 (PEd.sc (eq_ j (callC c (l.mono (by decide)) (ac (nv 0) (ac (nv 1) an))) (u1 (PEd.sc (Hs f (ac (nv 1) an)) (Cr Br)))) (Em Rp)))))))))
abbrev Hw:Stmt:=top 18
def Ho:Ev->R Fl:=(ifS (nt (tt (cl (zv (gv 0) (zv (gv 1) a0)) J8))) never nop)
def Dp:List D->R D:=Cy 2 Ho
theorem K9:Am ["web","some"] ["web","some"] (Ad Hw):=Eg
theorem T7(F:Fun K "refuse_forest" "refuse_forest" Hw a fd)(b:FnC P w K mg base 5 "is_forest" ["web","some"] 2 J8):
  Bq P w K mg base CX0 6 a fd ["web","some"] (sp0 K 2 Dp):=
 Cv (O:=[]) F K9 (by decide) λf A c s H E i e h =>
  have g:=K9.nd
  (s1 (if_ (kz3 (tst (callC b (e.mono (by decide)) (ac (nv 0) (ac (nv 1) an))))) (s1 jv8) sn))
abbrev jw3:Stmt:=top 29
def wr2:Ev->R Fl:=(sq (drp (cl (zv (gv 0) (zv (gv 2) a0)) Dp))
 (sq (drp (cl (zv (gv 0) (zv (gv 1) a0)) Cp))
 (Bx (cl (zv (gv 0) (zv (gv 1) (zv (gv 2) a0))) Fi))))
def V5:List D->R D:=Cy 3 wr2
theorem kd3:Am ["web","order","forest"] ["web","order","forest"] (Ad jw3):=Eg
theorem wh1(F:Fun K "kept" "kept" jw3 a fd)(b:FnC P w K mg base 6 "refuse_forest" ["web","some"] 2 Dp)(c:FnC P w K mg base 2 "refuse_order" ["web","order"] 2 Cp)(e:FnT P w K mg base q J2 6 "kept_ties" ["web","order","forest"] 3 Fi):
  Bq P w K mg base CX0 7 a fd ["web","order","forest"] (spT K q J2 3 V5):=
 Tf (O:=[]) F kd3 (by decide) λj A f s H E m h i g l =>
  have k:=kd3.nd
  (sc (ex_ (u3 (callC b (g.mono (by decide)) (ac (nv 0) (ac (nv 2) an)))))
  (sc (ex_ (u3 (callC c (g.mono (by decide)) (ac (nv 0) (ac (nv 1) an)))))
  (s1 (Dd (u3 (Uq e i (g.mono (by decide)) (ac (nv 0) (ac (nv 1) (ac (nv 2) an)))))))))
abbrev jw2:Stmt:=top 30
def wr1:Ev->R Fl:=(sq (drp (cl (zv (gv 0) (zv (gv 2) a0)) Dp))
 (sq (drp (cl (zv (gv 0) (zv (gv 1) a0)) Cp))
 (Bx (cl (zv (gv 0) (zv (gv 1) (zv (gv 2) a0))) Fg))))
def V4:List D->R D:=Cy 3 wr1
theorem kd0:Am ["web","order","forest"] ["web","order","forest"] (Ad jw2):=Eg
theorem wh0(F:Fun K "free" "free" jw2 a fd)(b:FnC P w K mg base 6 "refuse_forest" ["web","some"] 2 Dp)(c:FnC P w K mg base 2 "refuse_order" ["web","order"] 2 Cp)(e:FnT P w K mg base q J2 6 "free_ties" ["web","order","forest"] 3 Fg):
  Bq P w K mg base CX0 7 a fd ["web","order","forest"] (spT K q J2 3 V4):=
 Tf (O:=[]) F kd0 (by decide) λj A f s H E m h i g l =>
  have k:=kd0.nd
  (sc (ex_ (u3 (callC b (g.mono (by decide)) (ac (nv 0) (ac (nv 2) an)))))
  (sc (ex_ (u3 (callC c (g.mono (by decide)) (ac (nv 0) (ac (nv 1) an)))))
  (s1 (Dd (u3 (Uq e i (g.mono (by decide)) (ac (nv 0) (ac (nv 1) (ac (nv 2) an)))))))))
abbrev R7:Stmt:=top 53
def yb9:Ev->R Fl:=(sq (asg 1 (cl (zv (gv 0) (zv (kd (.int 1)) (zv (kd (.int 5)) (zv (kd (.int 6)) a0)))) Jl))
 (sq (asg 2 (cl (zv (gv 0) (zv (kd (.int 3)) (zv (bA (zv (b2 (gv 1) (kd (.int 1)) ixD) a0) Ci) a0))) En))
 (sq (asg 3 (cl (zv (gv 0) (zv (kd (.int 4)) (zv (bA (zv (b2 (gv 1) (kd (.int 1)) ixD) a0) Ci) a0))) En))
 (sq (asg 4 (cl (zv (gv 1) a0) P0))
 (sq (asg 5 (bA (zv (gv 2) a0) Rw))
 (sq (asg 6 (isL (flt (cl (zv (gv 1) (zv (gv 5) a0)) Cq))))
 (sq (ifS (tor (nt (tt (cl (zv (gv 6) a0) Ja))) (tor (tb (b2 (gv 6) (gv 4) neD)) (tb (b2 (gv 5) (gv 2) neD)))) (Bx (kd (.bl false))) nop)
 (sq (wo8 6 λ_=>[])
 (sq (ifS (tor (tb (b2 (flt (cl (zv (gv 1) (zv (bA (zv (gv 3) a0) Rw) a0)) Cq)) (gv 4) neD)) (tb (b2 (flt (cl (zv (gv 1) (zv (gv 5) a0)) Cq)) (gv 4) neD))) (Bx (kd (.bl false))) nop)
 (sq (asg 7 (kd (Kl [] [])))
 (sq (Tg (itS (cl (zv (gv 1) a0) Fy)) (gN 8) (sq (asg 9 (bA (zv (bA (zv (cl (zv (gv 1) (zv (gv 2) (zv (gv 8) a0))) V5) a0) Ci) (zv (bA (zv (cl (zv (gv 1) (zv (gv 2) (zv (gv 8) a0))) V4) a0) Ci) a0)) De))
 (V9 7 (gv 9) (b2 (jh3 7 (gv 9) (kd (.int 0))) (kd (.int 1)) Bd))))
 (Bx (b2 (bA (zv (Ax (itK (gv 7)) 1 [7] (gN 0) yes (bA (zv (b2 (gv 0) (kd (.int 0)) ixD) (zv (b2 (gv 0) (kd (.int 1)) ixD) (zv (b2 (gv 1) (gv 0) kf8) a0))) De)) a0) Dl) (gv 4) eqD)))))))))))))
def d_law:List D->R D:=Cy 10 yb9
theorem ky1:Am ["_law_script","_law_web_here","_law_one","_law_other","_law_due","_law_handed","_law_found","_law_spots","_law_forest","_law_spot"] ["_law_script"] (Ad R7):=Eg
theorem wt6(F:Fun K "law" "law" R7 a fd)(f:mg "len" = none)(k:mg "list" = none)(m:mg "sorted" = none)(c:FnC P w K mg base 3 "_law_order" ["_law_script","_law_at","_law_many"] 3 En)(e:FnC P w K mg base 3 "_law_table" ["_law_found"] 1 Ja)(i:FnC P w K mg base 3 "_law_web" ["_law_script","_law_at","_law_points","_law_ties"] 4 Jl)(j:FnC P w K mg base 5 "forests" ["web"] 1 Fy)(g:FnC P w K mg base 18 "table_of" ["web"] 1 P0)(r:FnT P w K mg base q J2 7 "free" ["web","order","forest"] 3 V4)(p:FnT P w K mg base q J2 7 "kept" ["web","order","forest"] 3 V5)(b:wn0 P w K mg base q J2 7 "sorted_table" ["web","order"] 2 Cq):
  Bq P w K mg base CX0 19 a fd ["_law_script"] (spT K q J2 1 d_law):=
 Tf (O:=[6,7]) F ky1 (by decide) λL A B s H E M J v n u =>
  have o:=ky1.nd
  (sc (Gh 1 o (callC i (n.mono (by decide)) (ac (nv 0) (ac (u1 ki) (ac (u1 ki) (ac (u1 ki) an))))))
  (sc (Gh 2 o (callC c (n.mono (by decide)) (ac (nv 0) (ac (u1 ki) (ac (u1 (PEd.sc (Hs f (ac (ix (nv 1) (u1 ki)) an)) (Cr Br))) an)))))
  (sc (Gh 3 o (callC c (n.mono (by decide)) (ac (nv 0) (ac (u1 ki) (ac (u1 (PEd.sc (Hs f (ac (ix (nv 1) (u1 ki)) an)) (Cr Br))) an)))))
  (sc (Gh 4 o (callC g (n.mono (by decide)) (ac (nv 1) an)))
  (sc (Gh 5 o (PEf.d (wm1 k (ac (nv 2) an)) jk2))
  (sc (jn5 6 o (PEf.up (l:=.fr) (l':=.no) (PEd.isL (PEg.fr (jr0 b v (n.mono (by decide)) (ac (nv 1) (ac (nv 5) an)))))) (hl:=we7))
  (sc (if_ (Z0 (kl6 (kz3 (tst (callC e (n.mono (by decide)) (ac (av 6) an)))) (kl6 (tne u (av 6) (u3 (nv 4))) (kz4 (tne u (nv 5) (nv 2)))))) (s1 (Dd (u2 kb))) sn)
  (sc (wo7 6)
  (sc (if_ (Z0 (kl6 (tne u (u1 (PEg.fr (jr0 b v (n.mono (by decide)) (ac (nv 1) (ac (PEf.d (wm1 k (ac (nv 3) an)) jk2) an))))) (nv 4)) (kz4 (tne u (u1 (PEg.fr (jr0 b v (n.mono (by decide)) (ac (nv 1) (ac (nv 5) an))))) (nv 4))))) (s1 (Dd (u2 kb))) sn)
  (sc (wm4 7 o)
  (sc (for_ PassesOwn.never rfl (tn 8 o) (Hr (callC j (n.mono (by decide)) (ac (nv 1) an))) (sc (Gh 9 o (u1 (tup (ac (PEd.sc (Hs f (ac (Uq p v (n.mono (by decide)) (ac (nv 1) (ac (nv 2) (ac (nv 8) an)))) an)) (Cr Br)) (ac (PEd.sc (Hs f (ac (Uq r v (n.mono (by decide)) (ac (nv 1) (ac (nv 2) (ac (nv 8) an)))) an)) (Cr Br)) an)))))
  (s1 (wp4 u 7 (Hi (yc1 u 7 (nv 9) (u1 ki)) (u1 ki)) (nv 9) (λ_ h=>h)))))
  (s1 (Dd (u2 (PEd.sc (eq_ u (PEf.d (Sv m (ac (comp (T:=["_law_spot"]) (caps:=[7]) (by rfl) rfl (yc5 (av 7)) (λI _ G x z y C=>(tn 0 (show List.Nodup (["_law_spot","_law_spots"]:List Str) by decide +kernel))) (λI _ G x z y C=>ti0) (λI _ G x z y C=>(u3 (tup (ac (ix (nv 0) (u1 ki)) (ac (ix (nv 0) (u1 ki)) (ac (dix u (nv 1) (nv 0)) an)))))) (Cm (by decide))) an)) Mu) (u3 (nv 4))) (Em Rp))))))))))))))))
theorem all_mk{l:W.OpenLaw}{h:Heap}{fa:Addr}(X:K.In h)(G:h.Ns PySem.mainGlobals mg)(fh:mg "law" = some (.ref fa))
  (br:FI K "_law_cell" Nx)
  (cu:FI K "_law_row" Qp)
  (cq:FI K "_law_web" Qq)
  (aq:FI K "_law_order" Ml)
  (T:FI K "put_together" Jv)
  (z:FI K "least_of_each" Hu)
  (dd:FI K "members" Ue)
  (dy:FI K "parts" je1)
  (ej:FI K "rank" jw4)
  (A:FI K "each_left_out" Ht)
  (de:FI K "is_ring" Ud)
  (cm:FI K "all_ties" Qt)
  (dq:FI K "is_cut" Xi)
  (cg:FI K "gathered" Qw)
  (ea:FI K "added" jd9)
  (ai:FI K "multiplied" Mr)
  (ah:FI K "refuse_tie" Ms)
  (da:FI K "without" Uh)
  (ag:FI K "rising_tie" Mt)
  (y:FI K "number_as_one" Hv)
  (dr:FI K "as_one" Xh)
  (dz:FI K "drawn" je0)
  (bx:FI K "table_of" Qy)
  (Q:FI K "refuse_order" Jw)
  (cn:FI K "all_sets" Qs)
  (df:FI K "forests" Uc)
  (cj:FI K "first_of" Qv)
  (cb:FI K "left_out" Qx)
  (dc:FI K "outside" Ug)
  (ck:FI K "cut_with" Qu)
  (bo:FI K "kept_ties" N5)
  (bj:FI K "ring_with" N6)
  (bq:FI K "free_ties" Ny)
  (O:FI K "sorted_table" Jx)
  (aj:FI K "_law_whole" Mq)
  (ak:FI K "_law_tuple" Mp)
  (ao:FI K "_law_table" Mm)
  (bp:FI K "is_forest" Nz)
  (x:FI K "refuse_forest" Hw)
  (ek:FI K "kept" jw3)
  (el:FI K "free" jw2)
  {cz:Addr}{eh dn:Option Addr}{eg:Array (Option Value)}{ei dj dk di bh dm:Value}(ff:W.nsIn K PySem.mainGlobals "law" = some (some (.ref cz)))(fb:K.lookup cz=some ⟨ei,eh,.func (W.fnOf "law" "law" (Gf R7) (Dq R7) (Ad R7) .none dj dk di dn bh dm),eg⟩)(fe:W.codeIn K bh "law" = true)(fc:W.keepIn K (.ref cz)=true)(ew:W.nsIn K PySem.mainGlobals "len" = some none)(dx:W.nsIn K PySem.mainGlobals "range" = some none)(eu:W.nsIn K PySem.mainGlobals "max" = some none)(et:W.nsIn K PySem.mainGlobals "min" = some none)(dw:W.nsIn K PySem.mainGlobals "tuple" = some none)(ef:W.nsIn K PySem.mainGlobals "list" = some none)(bg:W.nsIn K PySem.mainGlobals "enumerate" = some none)(es:W.nsIn K PySem.mainGlobals "set" = some none)(dp:W.nsIn K PySem.mainGlobals "sorted" = some none)(ez:W.nsIn K PySem.mainGlobals "all" = some none)(y_bool:W.nsIn K PySem.mainGlobals "bool" = some none)(ey:W.nsIn K PySem.mainGlobals "int" = some none)(af:W.nsIn K PySem.mainGlobals "isinstance" = some none):
  ∃fd:FuncData,(∀(s:Shared)(v:Value),BindsTo s fd ⟨[v],[]⟩ [("_law_script",v)])/\∀(q:Addr)(base:Heap),K.In base->base.Ns PySem.mainGlobals mg->jq3 mg base "first_of" q->Bq l.prog w K mg base CX0 19 fa fd ["_law_script"] (spT K q J2 1 d_law):=by
 have e:=fh.symm.trans (W.mg_of X G ff);cases e;have g:=W.mg_none_of X G ew;have n:=W.mg_none_of X G dx;have dv:=W.mg_none_of X G eu;have bb:=W.mg_none_of X G et;have f:=W.mg_none_of X G dw;have bc:=W.mg_none_of X G ef;have bf:=W.mg_none_of X G bg;have ep:=W.mg_none_of X G es;have k:=W.mg_none_of X G dp;have Z:=W.mg_none_of X G ez;have ee:=W.mg_none_of X G y_bool;have er:=W.mg_none_of X G ey;have m:=W.mg_none_of X G af;have fg:=kq7 (st:=R7) fb fe fc;refine⟨W.fnOf "law" "law" (Gf R7) (Dq R7) (Ad R7) .none dj dk di dn bh dm,λs v=>.of_eq rfl,λq base kb _ LF=>?_⟩;have bw:=Dc l.prog w base X G br (λ_ _ F=>jc3 F g) (λ_ _ _ _ _ _=>ll2 λ_ _=>rfl);have L:=Dc l.prog w base X G cu (λ_ _ F=>jl4 F g n bw) (λ_ _ _ _ _ _=>ll3 λ_ _ _=>rfl);have cy:=Dc l.prog w base X G cq (λ_ _ F=>jl5 F dv bb n f L) (λ_ _ _ _ _ _=>ll4 λ_ _ _ _=>rfl);have ba:=Dc l.prog w base X G aq (λ_ _ F=>Yg F n L) (λ_ _ _ _ _ _=>ll3 λ_ _ _=>rfl);have Y:=Dc l.prog w base X G T (λ_ _ F=>Vg F bb) (λ_ _ _ _ _ _=>ll3 λ_ _ _=>rfl);have C:=Dc l.prog w base X G z (λ_ _ F=>T5 F bc n Y) (λ_ _ _ _ _ _=>ll2 λ_ _=>rfl);have dg:=Dc l.prog w base X G dd (λ_ _ F=>ju8 F bf f) (λ_ _ _ _ _ _=>ll2 λ_ _=>rfl);have eb:=Dc l.prog w base X G dy (λ_ _ F=>kv6 F ep k C dg) (λ_ _ _ _ _ _=>ll2 λ_ _=>rfl);have p:=Dc l.prog w base X G ej (λ_ _ F=>wh2 F g eb) (λ_ _ _ _ _ _=>ll2 λ_ _=>rfl);have E:=Dc l.prog w base X G A (λ_ _ F=>T4 F g n) (λ_ _ _ _ _ _=>ll1 λ_=>rfl);have dh:=Dc l.prog w base X G de (λ_ _ F=>ju7 F Z g E p) (λ_ _ _ _ _ _=>ll2 λ_ _=>rfl);have i:=Dc l.prog w base X G cm (λ_ _ F=>jl7 F g n f) (λ_ _ _ _ _ _=>ll1 λ_=>rfl);have dt:=Dc l.prog w base X G dq (λ_ _ F=>kk1 F Z g f i p) (λ_ _ _ _ _ _=>ll2 λ_ _=>rfl);have I:=wq6 l.prog w base X G cg (λ_ _ F=>jm0 F k) (λ_ _ _ _ _ _=>ll1 λ_=>rfl);have M:=yb6 I;have ed:=Dc l.prog w base X G ea (λ_ _ F=>kv4 F M) (λ_ _ _ _ _ _=>ll2 λ_ _=>rfl);have aw:=Dc l.prog w base X G ai (λ_ _ F=>Yk F M) (λ_ _ _ _ _ _=>ll2 λ_ _=>rfl);have au:=Dc l.prog w base X G ah (λ_ _ F=>Yl F g) (λ_ _ _ _ _ _=>ll2 λ_ _=>rfl);have aa:=Dc l.prog w base X G da (λ_ _ F=>jv0 F au) (λ_ _ _ _ _ _=>ll2 λ_ _=>rfl);have ar:=Dc l.prog w base X G ag (λ_ _ F=>Ym F dv bb) (λ_ _ _ _ _ _=>ll2 λ_ _=>rfl);have B:=Dc l.prog w base X G y (λ_ _ F=>T6 F) (λ_ _ _ _ _ _=>ll3 λ_ _ _=>rfl);have du:=Dc l.prog w base X G dr (λ_ _ F=>kk0 F f B ar) (λ_ _ _ _ _ _=>ll3 λ_ _ _=>rfl);have ec:=Dc l.prog w base X G dz (λ_ _ F=>kv5 F du aa) (λ_ _ _ _ _ _=>ll2 λ_ _=>rfl);have cv:=wq7 l.prog w base X G bx (λ_ _ F a b c=>Rz F a b c g ed ec dt dh aw aa 12) (λ_ _ _ _ _ _=>ll1 λ_=>rfl);have j:=Dc l.prog w base X G Q (λ_ _ F=>Vh F Z g i) (λ_ _ _ _ _ _=>ll2 λ_ _=>rfl);have cx:=Dc l.prog w base X G cn (λ_ _ F=>jl6 F k i) (λ_ _ _ _ _ _=>ll1 λ_=>rfl);have ae:=Dc l.prog w base X G df (λ_ _ F=>ju6 F g cx i p) (λ_ _ _ _ _ _=>ll1 λ_=>rfl);have J:=Wf (Pr:=l.prog) (w:=w) (base:=base) (P:=q) (tb:=J2) X G cj (λ_ _ hm F=>jl9 F LF kb hm bb) (λ_ _ _ _ _ _=>ll2 λ_ _=>rfl);have H:=Dc l.prog w base X G cb (λ_ _ F=>jm1 F f) (λ_ _ _ _ _ _=>ll2 λ_ _=>rfl);have ab:=Dc l.prog w base X G dc (λ_ _ F=>ju9 F f i) (λ_ _ _ _ _ _=>ll2 λ_ _=>rfl);have cw:=Dc l.prog w base X G ck (λ_ _ F=>jl8 F g k f H ab p) (λ_ _ _ _ _ _=>ll3 λ_ _ _=>rfl);have r:=Wf (Pr:=l.prog) (w:=w) (base:=base) (P:=q) (tb:=J2) X G bo (λ_ _ hm F=>jc6 F f cw J) (λ_ _ _ _ _ _=>ll3 λ_ _ _=>rfl);have bt:=Dc l.prog w base X G bj (λ_ _ F=>jc7 F g k f H p) (λ_ _ _ _ _ _=>ll3 λ_ _ _=>rfl);have u:=Wf (Pr:=l.prog) (w:=w) (base:=base) (P:=q) (tb:=J2) X G bq (λ_ _ hm F=>jc4 F f ab bt J) (λ_ _ _ _ _ _=>ll3 λ_ _ _=>rfl);have U:=wc7 (Pr:=l.prog) (w:=w) (base:=base) (P:=q) (tb:=J2) X G O (λ_ _ hm F=>Vi F g ae j I u r) (λ_ _ _ _ _ _=>ll2 λ_ _=>rfl);have ax:=Dc l.prog w base X G aj (λ_ _ F=>Yj F ee er m) (λ_ _ _ _ _ _=>ll1 λ_=>rfl);have ay:=Dc l.prog w base X G ak (λ_ _ F=>Yi F Z m f ax) (λ_ _ _ _ _ _=>ll1 λ_=>rfl);have az:=Dc l.prog w base X G ao (λ_ _ F=>Yh F Z m g bc ay) (λ_ _ _ _ _ _=>ll1 λ_=>rfl);have bu:=Dc l.prog w base X G bp (λ_ _ F=>jc5 F g f i p) (λ_ _ _ _ _ _=>ll2 λ_ _=>rfl);have o:=Dc l.prog w base X G x (λ_ _ F=>T7 F bu) (λ_ _ _ _ _ _=>ll2 λ_ _=>rfl);have en:=Wf (Pr:=l.prog) (w:=w) (base:=base) (P:=q) (tb:=J2) X G ek (λ_ _ hm F=>wh1 F o j r) (λ_ _ _ _ _ _=>ll3 λ_ _ _=>rfl);have eo:=Wf (Pr:=l.prog) (w:=w) (base:=base) (P:=q) (tb:=J2) X G el (λ_ _ hm F=>wh0 F o j u) (λ_ _ _ _ _ _=>ll3 λ_ _ _=>rfl);exact wt6 fg g bc k ba az cy ae cv eo en U
open PD L2 Gr
def Dm(e:Nat×Nat):D:=.tup [.int (e.1:Int),.int (e.2:Int)]
def Ak(n:Nat)(ts:Ah):D:=.tup [.int (n:Int),.tup (ts.map Dm)]
def Aa(s:List Nat):D:=.tup (Ac s)
theorem wv5(l:List Nat)(x y:Nat)(hl:l.length<=1000):Fo [.lst (Ac l),.int (x:Int),.int (y:Int)]=.ok (.lst (Ac (Hb l x y))):=by
 refine Bb (Ba (Dg (ds:=Ac l) (xs:=Ac (Hb l x y)) (by simp[Af]) ?_ (by simp[Av,Hb];lia)));have e:Ac (Hb l x y)=(Ac l).map λd=>match d with | .int z=>if z=(x:Int)\/z=(y:Int) then .int (min (x:Int) (y:Int)) else .int z |d=>d:=by
  simp only[Ac,Hb,jBe];apply jBy;intro z _;simp only[Function.comp];by_cases h:z=x\/z=y
  ·rw[if_pos h,if_pos (by lia)];congr 1;lia
  ·rw[if_neg h,if_neg (by lia)]
 rw[e];apply PD.comp_map;intro d c;obtain⟨z,_,rfl⟩:=Ku.mp c;refine⟨_,rfl,?_⟩;have b:inD (.int (z:Int)) (.tup [.int (x:Int),.int (y:Int)])=some (.bl (decide (z=x\/z=y))):=ya4 (n:=0) (ys:=[.int (x:Int),.int (y:Int)]) rfl (by lia) T9 (λd c=>by
  rcases jAe.mp c with rfl |c
  ·exact T9
  ·rw[jAh.mp c];exact T9) (by
  simp only[jAe,jDs,or_false,D.int.injEq,decide_eq_true_eq];lia)
 by_cases h:z=x\/z=y
 ·have f:(z:Int)=x\/(z:Int)=y:=by lia
  simp[Af,Ed,Gb,b,h,f]
 ·have f:¬ ((z:Int)=x\/(z:Int)=y):=by lia
  simp[Af,Ed,Gb,b,h,f]
def pick(ts:Ah)(s:List Nat):Ah:=s.map λk=>ts.getD k (0,0)
variable {n:Nat}{ts:Ah}{s:List Nat}
theorem wi2(h:∀e∈ts,e.1<=e.2/\e.2<n)(c:∀k∈s,k<ts.length):InW n (pick ts s):=λe g=>by
 obtain⟨k,f,rfl⟩:=jAm.mp g;have b:=c k f;have:ts.getD k (0,0)∈ts:=by rw[jAi,jAa b];exact jBi b
 have:=h _ this;lia
def ki9:Ev->R Fl:=(PD.sq (PD.asg 4 (PD.b2 (PD.b2 (PD.gv 0) (PD.kd (.int 1)) PD.ixD) (PD.gv 3) PD.ixD))
 (PD.asg 2 (PD.cl (zv (PD.gv 2) (zv (PD.b2 (PD.gv 2) (PD.b2 (PD.gv 4) (PD.kd (.int 0)) PD.ixD) PD.ixD) (zv (PD.b2 (PD.gv 2) (PD.b2 (PD.gv 4) (PD.kd (.int 1)) PD.ixD) PD.ixD) PD.a0))) Fo)))
theorem range_list(h:n<=16777216):list_rangeD [.int (n:Int)]=some (.lst (Ac (List.range n))):=by
 unfold list_rangeD;have e:Yn [.int (n:Int)]=some (0,(n:Int)):=by
  have b:-(2 ^ 62)<=(n:Int)/\(n:Int)<2 ^ 62/\(n:Int)<=16777216:=by lia
  dsimp only[Yn];rw[if_pos b]
 rw[e];simp[Ua,Ac]
theorem kt8(hn:n<=1000)(h:∀e∈ts,e.1<=e.2/\e.2<n)(C:∀k∈s,k<ts.length):Ge [Ak n ts,Aa s]=.ok (.lst (Ac (Dy n (pick ts s)))):=by
 have⟨r,H,E⟩:=Hl (g:=gN 3) (b:=ki9) (λi o=>∃f c,o=[some (Ak n ts),some (Aa s),some (.lst (Ac (Dy n (pick ts (s.take i))))),f,c]) (Ac s) 0
  [some (Ak n ts),some (Aa s),some (.lst (Ac (List.range n))),none,none] ⟨none,none,rfl⟩ (λi d o m G=>by
   obtain⟨f,c,rfl⟩:=G;have l:i<s.length:=by have:=(jAl.mp m).1;rwa [Av]at this
   rw[Hc,jAa l]at m;have I:d=.int (s[i]:Int):=(Option.some.inj m).symm;subst I;have j:s[i]<ts.length:=C _ (jBi l);have O:=h ts[s[i]] (jBi j);rw[jCw];generalize p:Dy n (pick ts (s.take i))=L;have F:L.length=n:=by rw[<-p];exact Qk _ _
   have B:ixD (.tup (ts.map Dm)) (.int (s[i]:Int))=some (Dm ts[s[i]]):=jz6 (by simp[j]);have A:ixD (.lst (Ac L)) (.int ((ts[s[i]]).1:Int))=some (.int ((L.getD (ts[s[i]]).1 0:Nat):Int)):=Y4 (by rw[Hc,jAa (by lia)];simp[show(ts[s[i]]).1<L.length by lia]);have z:ixD (.lst (Ac L)) (.int ((ts[s[i]]).2:Int))=some (.int ((L.getD (ts[s[i]]).2 0:Nat):Int)):=Y4 (by rw[Hc,jAa (by lia)];simp[show(ts[s[i]]).2<L.length by lia]);have y:=wv5 L (L.getD (ts[s[i]]).1 0) (L.getD (ts[s[i]]).2 0) (by lia);have x:Dy n (pick ts (s.take (i+1)))=Hb L (L.getD (ts[s[i]]).1 0) (L.getD (ts[s[i]]).2 0):=by
    have M:s.take (i+1)=s.take i++[s[i]]:=by rw[List.take_succ_eq_append_getElem l]
    have J:ts.getD s[i] (0,0)=ts[s[i]]:=by rw[jAi,jAa j];rfl
    rw[M];unfold pick;rw[jBc,List.map_singleton,Uu,J];show Hb _ ((Dy n (pick ts (s.take i))).getD _ 0) ((Dy n (pick ts (s.take i))).getD _ 0)=_;rw[show(s.take i).map (λk=>ts.getD k (0,0))=pick ts (s.take i) from rfl,p]
   generalize L.getD (ts[s[i]]).1 0=u at *
   generalize L.getD (ts[s[i]]).2 0=v at *
   refine⟨_,_,rfl,.inl (Az (Bo (d:=Dm ts[s[i]]) (by simp[Ak,B])) (Bo (d:=.lst (Ac (Hb L u v))) (by simp[Dm,A,z,y]))),some (.int (s[i]:Int)),some (Dm ts[s[i]]),?_⟩;rw[x];rfl)
 obtain⟨f,c,rfl⟩:=E;refine Bb (Az (Bo (d:=.lst (Ac (List.range n))) (by simp[Af,Ak,range_list (show n<=16777216 by lia)])) (Az (Ni (ds:=Ac s) (by simp[Af,Aa]) H) (Ba ?_)));simp[Av]
theorem ju0(l:List Nat)(m:Nat)(hl:l.length<=1000):Om [.lst (Ac l),.int (m:Int)]=.ok (.tup (Ac ((List.range l.length).filter λi=>l.getD i 0=m))):=by
 have e:Ax (ks2 (gv 0)) 2 [1] (gT [0,1]) (tb (b2 (gv 1) (gv 2) eqD)) (gv 0) (Af 2 [.lst (Ac l),.int (m:Int)])=.ok (.lst (Ac ((List.range l.length).filter λi=>l.getD i 0=m))):=by
  refine Dg (wq3 (ds:=Ac l) (by simp[Af])) (xs:=Ac ((List.range l.length).filter λi=>l.getD i 0=m)) ?_ (by rw[Av];have:=jBp (λi=>decide (l.getD i 0=m)) (List.range l.length);rw[jBb]at this;lia);rw[Ur (p:=λd=>match d with | .tup [_,.int z]=>decide (z=(m:Int)) |_=>false) (h:=λd=>match d with | .tup [x,_]=>x |d=>d)]
  ·rw[Y6,List.filter_map,jBe];congr 1;unfold Ac;have:((λd=>match d with |D.tup [_,.int z]=>decide (z=(m:Int)) |_=>false)∘λ(i:Nat)=>D.tup [.int (i:Int),.int ((l.getD i 0:Nat):Int)])=λi=>decide (l.getD i 0=m):=by funext i;simp only[Function.comp];rw[decide_eq_decide];lia
   rw[this];rfl
  ·intro d b;rw[Y6]at b;obtain⟨i,_,rfl⟩:=jAm.mp b;exact⟨_,rfl,by simp[Af,Ed],λ_=>by simp[Af,Ed]⟩
 exact Bb (Ba (by simp[e]))
theorem kx7(n:Nat)(p:Nat->Bool):((List.range n).filter p).Pairwise (·<·):=List.Pairwise.filter _ jCp
def T8(n:Nat)(es:Ah):List D:=(Ce n es).map λm=>.tup (Ac (cls n es m))
theorem Ry(n:Nat)(es:Ah):(Ce n es).length<=n:=by have:=jBp (λi=>decide (lab n es i=i)) (List.range n);simpa[Ce] using this
theorem kw1(hn:n<=60)(h:∀e∈ts,e.1<=e.2/\e.2<n)(g:∀k∈s,k<ts.length):Vk [Ak n ts,Aa s]=.ok (.lst (T8 n (pick ts s))):=by
 have l:=wi2 h g;have b:=Qk n (pick ts s);have v:Dv [.lst (Ac (Dy n (pick ts s)))]=some (.lst (Ac (Ce n (pick ts s)))):=je5 (by lia) (kx7 _ _) λk=>by
  constructor
  ·intro c;have⟨i,o,e⟩:=jBz.mp c;have:lab n (pick ts s) i=k:=by unfold lab;rw[jAi,jAa o,e];rfl
   rw[<-this];exact Lr l (by lia)
  ·intro c;have⟨y,r⟩:=Gd.mp c;have j:k<(Dy n (pick ts s)).length:=by lia
   have:(Dy n (pick ts s))[k]=k:=by have f:=r;unfold lab at f;rw[jAi,jAa j]at f;exact f
   rw[<-this];exact jBi j
 refine Bb (Az (Bo (d:=.lst (Ac (Dy n (pick ts s)))) (by simp[Af,kt8 (show n<=1000 by lia) h g])) (Ba (Dg (ds:=Ac (Ce n (pick ts s))) (xs:=T8 n (pick ts s)) (by simp[Af,v]) ?_ (by unfold T8;rw[jAd];have:=Ry n (pick ts s);lia))));have u:T8 n (pick ts s)=(Ac (Ce n (pick ts s))).map λd=>match d with | .int z=>.tup (Ac (cls n (pick ts s) z.toNat)) |d=>d:=by unfold T8 Ac;rw[jBe];rfl
 rw[u];apply PD.comp_map;intro d p;obtain⟨m,x,rfl⟩:=Ku.mp p;refine⟨_,rfl,?_⟩;have:=ju0 (Dy n (pick ts s)) m (by lia);rw[b]at this;simp[Af,Ed,this];rfl
theorem O1(hn:n<=60)(h:∀e∈ts,e.1<=e.2/\e.2<n)(b:∀k∈s,k<ts.length):By [Ak n ts,Aa s]=.ok (.int ((n:Int) - ((Ce n (pick ts s)).length:Int))):=by have e:=kw1 hn h b;refine Bb (Ba ?_);simp only[Af];simp[Ak]at e ⊢;simp[e,T8]
theorem Es{b:Type}{enc:b->D}{out:b->D}{f:Ev->R D}{ρ:Ev}:∀(l:List b),(∀a∈l,f (ρ.set 0 (some (enc a)))=.ok (out a))->Ga (gN 0) yes f ρ (l.map enc)=.ok (l.map out)
 | [],_=>rfl
 |a::l,c=>by have e:=c a jAf;rw[jAk,Ga,jh9];simp[yes,e,Es l λx g=>c x (jAb _ g)]
theorem Ol{b:Type}{enc:b->D}{out:b->D}{t:Ev->R Bool}{f:Ev->R D}{ρ:Ev}{p:b->Bool}:∀(l:List b),(∀a∈l,t (ρ.set 0 (some (enc a)))=.ok (p a)/\f (ρ.set 0 (some (enc a)))=.ok (out a))->Ga (gN 0) t f ρ (l.map enc)=.ok ((l.filter p).map out)
 | [],_=>rfl
 |a::l,c=>by
  have⟨j,i⟩:=c a jAf;have e:=Ol (t:=t) (f:=f) (ρ:=ρ) (p:=p) (enc:=enc) (out:=out) l λx h=>c x (jAb _ h);rw[jAk,Ga,jh9];simp only[R.ok_bind,j];cases g:p a with
  |true=>simp[i,e,g]
  |false=>simp[e,g]
theorem kn1{b:Type}(l:List b)(p:b->Bool):(l.map λa=>D.bl (p a))=(l.map p).map .bl:=by rw[jBe];rfl
variable {i:Nat}
theorem wp1(hi:i<s.length):slA (Aa s) none (some (i:Int))=some (Aa (s.take i)):=by have b:=Av s;show(if HT.sIx (Ac s).length 0 none=0/\HT.sIx (Ac s).length (Ac s).length (some (i:Int))=(Ac s).length then none else some (D.tup (cutD (Ac s) none (some (i:Int)))))=_;rw[HT.Kd,HT.K5,if_neg (by rw[b];lia)];unfold cutD Aa Ac;rw[HT.Kd,HT.K5,jFe];simp
theorem wp0(hi:i<s.length):slA (Aa s) (some ((i:Int)+1)) none=some (Aa (s.drop (i+1))):=by
 have b:=Av s;show(if HT.sIx (Ac s).length 0 (some ((i:Int)+1))=0/\HT.sIx (Ac s).length (Ac s).length none=(Ac s).length then none else some (D.tup (cutD (Ac s) (some ((i:Int)+1)) none)))=_;have e:HT.sIx (Ac s).length 0 (some ((i:Int)+1))=i+1:=by rw[show((i:Int)+1)=((i+1:Nat):Int) by lia,HT.Kd,b];lia
 rw[e,if_neg (by lia)];unfold cutD;rw[e,HT.K5];unfold Aa Ac;rw[jFd];congr 2;apply jDc;rw[jBr];exact jAg _
def leftOut(s:List Nat):List (List Nat):=(List.range s.length).map λi=>s.take i++s.drop (i+1)
theorem wf9(h:s.length<=60):Et [Aa s]=.ok (.lst ((leftOut s).map Aa)):=by
 refine Bb (Ba ?_);refine Dg (ds:=Ac (List.range s.length)) ?_ ?_ (by simp[leftOut];lia)
 ·have e:=Wd (show s.length<2 ^ 62 by lia);have l:Ci [Aa s]=some (.int (s.length:Int)):=by show some (D.int _)=_;rw[Av]
  simp[Af,l,e]
 ·have e:(leftOut s).map Aa=(List.range s.length).map λi=>Aa (s.take i++s.drop (i+1)):=by unfold leftOut;rw[jBe];rfl
  rw[e];refine Es (List.range s.length) λi b=>?_;have b:=jAt.mp b;have c:Bd (Aa (s.take i)) (Aa (s.drop (i+1)))=some (Aa (s.take i++s.drop (i+1))):=(Qc (by simp[Av];lia)).trans (by simp[Aa,Ac]);simp[Ed,Af,wp1 b,wp0 b,c]
theorem R3(ts:Ah)(s r:List Nat):pick ts (s++r)=pick ts s++pick ts r:=by unfold pick;rw[jBc]
theorem W8(ts:Ah)(s:List Nat):(pick ts s).length=s.length:=by unfold pick;rw[jAd]
theorem wj3(hn:n<=60)(h:∀e∈ts,e.1<=e.2/\e.2<n)(u:∀k∈s,k<ts.length)(hl:s.length<=60):∃b,Gi [Ak n ts,Aa s]=.ok (.bl b)/\(b=true↔wy2 n (pick ts s)):=by
 have B:=O1 hn h u;have l:Ci [Aa s]=some (.int (s.length:Int)):=by show some (D.int _)=_;rw[Av]
 have J:=Ry n (pick ts s);have pl:=W8 ts s;by_cases o:s.length=0
 ·refine⟨false,Bb (Ob ((Vd ?_).trans (Ba (by simp)))),?_⟩
  ·simp[Af,l,o]
  ·rw[jEy]at o;subst o;exact⟨(λz=>nomatch z),λz=>absurd rfl z.1⟩
 ·by_cases A:n<(Ce n (pick ts s)).length+s.length
  ·refine⟨(leftOut s).all λr=>decide (((n:Int) - ((Ce n (pick ts r)).length:Int))=(r.length:Int)),Bb (Az ((Lq ?_).trans rfl) (Ba ?_)),?_⟩
   ·have v:s≠[]:=λz=>o (by rw[z];rfl);simp[Af,l,B,v];lia
   ·have F:∀r∈leftOut s,∀k∈r,k<ts.length:=λr g k m=>by
     obtain⟨i,p,rfl⟩:=jAm.mp g;rcases jAq.mp m with m |m
     ·exact u k (jDk m)
     ·exact u k (jDl m)
    have G:Ax (itS (cl (zv (gv 1) a0) Et)) 1 [0] (gN 0) yes (b2 (cl (zv (gv 1) (zv (gv 0) a0)) By) (bA (zv (gv 0) a0) Ci) eqD) [some (Ak n ts),some (Aa s)]=.ok (.lst (((leftOut s).map λr=>decide (((n:Int) - ((Ce n (pick ts r)).length:Int))=(r.length:Int))).map .bl)):=by
     refine Dg (ds:=(leftOut s).map Aa) (by simp[wf9 hl]) ?_ (by simp[leftOut];lia);rw[<-kn1];refine Es (leftOut s) λr g=>?_;have f:=O1 hn h (F r g);have c:Ci [Aa r]=some (.int (r.length:Int)):=by show some (D.int _)=_;rw[Av]
     simp[Ed,f,c]
    have H:=Vu ((leftOut s).map λr=>decide (((n:Int) - ((Ce n (pick ts r)).length:Int))=(r.length:Int)));rw[show Af 2 [Ak n ts,Aa s]=[some (Ak n ts),some (Aa s)] from rfl,Qd,Lj,G];simp only[R.ok_bind,wc2,H,R.of_some];simp[jGi,Function.comp]
   ·rw[jAw];constructor
    ·intro z;refine⟨λe=>o (by rw[<-pl,e];rfl),by rw[pl];exact A,λc e x y=>?_⟩;have j:c.length<s.length:=by rw[<-pl,y];simp
     have z:=z (s.take c.length++s.drop (c.length+1)) (jAm.mpr ⟨c.length,jAt.mpr j,rfl⟩);have f:pick ts (s.take c.length++s.drop (c.length+1))=c++x:=by
      rw[R3];have E:pick ts (s.take c.length)=(pick ts s).take c.length:=by unfold pick;rw[jFe]
      have C:pick ts (s.drop (c.length+1))=(pick ts s).drop (c.length+1):=by unfold pick;rw[jFd]
      rw[E,C,y];simp
     rw[f]at z;have I:(s.take c.length++s.drop (c.length+1)).length=(c++x).length:=by rw[<-f,W8]
     rw[I]at z;have:=of_decide_eq_true z;lia
    ·rintro⟨_,_,z⟩ r g;obtain⟨i,p,rfl⟩:=jAm.mp g;have p:=jAt.mp p;have f:pick ts s=pick ts (s.take i)++ts.getD s[i] (0,0)::pick ts (s.drop (i+1)):=by
      have:s=s.take i++s[i]::s.drop (i+1):=by rw[<-jBw p,jBm]
      rw[show pick ts s=pick ts (s.take i++s[i]::s.drop (i+1)) from congrArg (pick ts) this,R3];rfl
     have:=z _ _ _ f;rw[<-R3,W8]at this;apply decide_eq_true;lia
  ·refine⟨false,Bb (Ob ((Vd ?_).trans (Ba (by simp)))),?_⟩
   ·simp[Af,l,B];lia
   ·refine⟨(λz=>nomatch z),λz=>?_⟩;have:=z.2.1;rw[pl]at this;exact absurd this A
def restOf(m:Nat)(s:List Nat):List Nat:=(List.range m).filter λk=>!decide (k∈s)
def wm9(n:Nat)(ts:Ah)(s:List Nat):Prop:=s≠[]/\(Ce n (pick ts (List.range ts.length))).length<(Ce n (pick ts (restOf ts.length s))).length/\∀k∈s,(Ce n (pick ts (restOf ts.length s++[k]))).length=(Ce n (pick ts (List.range ts.length))).length
variable {m:Nat}
theorem kl7(h:m<=60):G5 [.int (m:Int)]=some (Aa (List.range m)):=by
 unfold G5;have e:Yn [.int (m:Int)]=some (0,(m:Int)):=by
  have b:-(2 ^ 62)<=(m:Int)/\(m:Int)<2 ^ 62/\(m:Int)<=16777216:=by lia
  dsimp only[Yn];rw[if_pos b]
 rw[e];simp[Ua,Ac,Aa]
theorem Xf(m:Nat)(s:List Nat):(restOf m s).length<=m:=by have:=jBp (λk=>!decide (k∈s)) (List.range m);rw[jBb]at this;exact this
variable {k:Nat}
theorem kc5(h:k∈restOf m s):k<m:=by unfold restOf at h;exact jAt.mp (jAj.mp h).1
theorem Kf(n:Nat)(ts:Ah):ixD (Ak n ts) (.int 1)=some (.tup (ts.map Dm)):=ja4
theorem all_eq(n:Nat)(ts:Ah)(e:ts.length<=50):Bs [Ak n ts]=.ok (Aa (List.range ts.length)):=by
 have c:=kl7 (m:=ts.length) (by lia);have b:=Kf n ts;generalize Ak n ts=W at *
 exact Bb (Ba (by simp[Af,b,c]))
theorem wo9(hn:n<=60)(o:ts.length<=50)(h:∀e∈ts,e.1<=e.2/\e.2<n)(G:∀k∈s,k<ts.length)(hl:s.length<=60):∃b,Ko [Ak n ts,Aa s]=.ok (.bl b)/\(b=true↔wm9 n ts s):=by
 have L:=O1 (s:=List.range ts.length) hn h λk c=>jAt.mp c;have y:=O1 (s:=restOf ts.length s) hn h λk c=>kc5 c;have l:Ci [Aa s]=some (.int (s.length:Int)):=by show some (D.int _)=_;rw[Av]
 have O:=all_eq n ts o;have Q:=Xf ts.length s;have F:∀k∈s,By [Ak n ts,Aa (restOf ts.length s++[k])]=.ok (.int ((n:Int) - ((Ce n (pick ts (restOf ts.length s++[k]))).length:Int))):=λk c=>O1 hn h λj f=>by
  rcases jAq.mp f with f |f
  ·exact kc5 f
  ·rw[jAh.mp f];exact G k c
 have X:=Ry n (pick ts (List.range ts.length));have U:=Ry n (pick ts (restOf ts.length s));have T:∀k,(Ce n (pick ts (restOf ts.length s++[k]))).length<=n:=λk=>Ry n _;generalize Y:Ak n ts=W at *
 generalize x:(Ce n (pick ts (List.range ts.length))).length=A at *
 generalize v:(Ce n (pick ts (restOf ts.length s))).length=B at *
 have M:∀u,Ax (itS (gv 2)) 1 [1] (gN 0) (tb (b2 (gv 0) (gv 1) Ye)) (gv 0) [some W,some (Aa s),some (Aa (List.range ts.length)),u,none]=.ok (.lst (Ac (restOf ts.length s))):=λu=>by refine Dg (ds:=Ac (List.range ts.length)) (by simp[Aa]) ?_ (by rw[Av];lia);refine Ol (List.range ts.length) λk c=>?_;have E:Ye (.int (k:Int)) (Aa s)=some (.bl (!decide (k∈s))):=jl0 rfl (by simp);exact⟨by simp[Ed,E],by simp[Ed]⟩
 have pre:∀{r:R Fl},(PD.sq (PD.ifS (PD.tor (PD.tb (PD.b2 (PD.bA (zv (PD.gv 1) PD.a0) PD.Ci) (PD.kd (.int 0)) PD.eqD)) (PD.tb (PD.b2 (PD.cl (zv (PD.gv 0) (zv (PD.gv 4) PD.a0)) By) (PD.gv 3) PD.geD))) (PD.Bx (PD.kd (.bl false))) PD.nop)
  (PD.Bx (PD.bA (zv (PD.Ax (PD.itS (PD.gv 1)) 1 [0,4,3] (PD.gN 0) PD.yes (PD.b2 (PD.cl (zv (PD.gv 1) (zv (PD.b2 (PD.gv 2) (PD.bA (zv (PD.gv 0) PD.a0) PD.De) PD.Bd) PD.a0)) By) (PD.gv 3) PD.eqD)) PD.a0) PD.Q8))) [some W,some (Aa s),some (Aa (List.range ts.length)),some (.int ((n:Int) - (A:Int))),some (Aa (restOf ts.length s))]=r->ji9 (Af 5 [W,Aa s])=r:=λH=>by
  refine Az (ρ1:=[some W,some (Aa s),some (Aa (List.range ts.length)),none,none]) (Bo (d:=Aa (List.range ts.length)) (by simp[Af,O])) ?_;refine Az (ρ1:=[some W,some (Aa s),some (Aa (List.range ts.length)),some (.int ((n:Int) - (A:Int))),none]) (Bo (d:=.int ((n:Int) - (A:Int))) (by simp[L])) ?_;refine Az (ρ1:=[some W,some (Aa s),some (Aa (List.range ts.length)),some (.int ((n:Int) - (A:Int))),some (Aa (restOf ts.length s))]) (Bo (d:=Aa (restOf ts.length s)) (by rw[Qd,Lj,M];simp[Aa])) H
 by_cases g:s=[]
 ·refine⟨false,Bb (pre (Ob ((Vd ?_).trans (Ba (by simp))))),⟨(λz=>nomatch z),λz=>absurd g z.1⟩⟩;have C:Ci [Aa s]=some (.int 0):=by rw[g];rfl
  simp[C]
 ·by_cases I:A<B
  ·refine⟨s.all λk=>decide (((n:Int) - ((Ce n (pick ts (restOf ts.length s++[k]))).length:Int))=(n:Int) - (A:Int)),Bb (pre (Az ((Lq ?_).trans rfl) (Ba ?_))),?_⟩
   ·simp[l,y,g];lia
   ·have J:Ax (itS (gv 1)) 1 [0,4,3] (gN 0) yes (b2 (cl (zv (gv 1) (zv (b2 (gv 2) (bA (zv (gv 0) a0) De) Bd) a0)) By) (gv 3) eqD) [some W,some (Aa s),some (Aa (List.range ts.length)),some (.int ((n:Int) - (A:Int))),some (Aa (restOf ts.length s))]=.ok (.lst ((s.map λk=>decide (((n:Int) - ((Ce n (pick ts (restOf ts.length s++[k]))).length:Int))=(n:Int) - (A:Int))).map .bl)):=by refine Dg (ds:=Ac s) (by simp[Aa]) ?_ (by rw[jAd,jAd];lia);rw[<-kn1];refine Es s λk c=>?_;have p:Bd (Aa (restOf ts.length s)) (.tup [.int (k:Int)])=some (Aa (restOf ts.length s++[k])):=(Qc (by rw[Av];simp;lia)).trans (by simp[Aa,Ac]);simp only[Ed];simp[Gb,p,F k c]
    have p:=Vu (s.map λk=>decide (((n:Int) - ((Ce n (pick ts (restOf ts.length s++[k]))).length:Int))=(n:Int) - (A:Int)));rw[Qd,Lj,J];simp only[R.ok_bind,wc2,p,R.of_some];simp[jGi,Function.comp]
   ·unfold wm9;rw[jAw,x,v];constructor
    ·intro z;refine⟨g,I,λk c=>?_⟩;have:=of_decide_eq_true (z k c);lia
    ·rintro⟨_,_,z⟩ k c;have:=z k c;apply decide_eq_true;lia
  ·refine⟨false,Bb (pre (Ob ((Vd ?_).trans (Ba (by simp))))),⟨(λz=>nomatch z),λz=>?_⟩⟩
   ·simp[l,y];lia
   ·have:=z.2.1;rw[x,v]at this;lia
theorem cell_eq(ns:List Int)(k:Nat):J7 [.lst (ns.map .int),.int (k:Int)]=.ok (.int (ns.getD k 0)):=by
 refine Bb ?_;by_cases b:k<ns.length
 ·have c:ixD (.lst (ns.map .int)) (.int (k:Int))=some (.int (ns.getD k 0)):=Y4 (i:=k) (by simp[b]);refine Ob ((Vd (by simp[Af,b])).trans (Ba (d:=.int (ns.getD k 0)) ?_));simp[Af,c]
 ·have e:ns.getD k 0=0:=by rw[jAi,jCs (by lia)];rfl
  rw[e];exact Az ((Lq (by simp[Af];lia)).trans rfl) (Ba (by simp))
def Fits(vs p:List Int):Prop:=vs.length=p.length/\∀i,i<p.length->0<=vs.getD i 0/\vs.getD i 0<p.getD i 0
variable {vs p:List Int}{v z:Int}
theorem Fits.snoc(h:Fits vs p)(g:0<=v)(f:v<z):Fits (vs++[v]) (p++[z]):=by
 refine⟨by simp[h.1],λi c=>?_⟩;rw[jAs,jGl]at c;simp only[jAi,jFi,h.1];by_cases b:i<p.length
 ·have:=h.2 i b;simp only[jAi]at this;simpa[b] using this
 ·have e:i=p.length:=by lia
  subst e;simp[g,f]
def wv9:Ev->R Fl:=ifS (tt (gv 4)) (sq (X4 5 (b2 (gv 3) (b2 (gv 2) (gv 6) ixD) O6)) (asg 3 (b2 (gv 3) (b2 (gv 2) (gv 6) ixD) Pa)))
 (sq (asg 7 (b2 (b2 (gv 3) (b2 (kd (.int 1013)) (gv 6) Fd) Bd) (b2 (kd (.int 7)) (gv 1) Fd) Bd))
 (sq (asg 7 (b2 (b2 (b2 (gv 7) (gv 7) Fd) (b2 (kd (.int 30011)) (gv 7) Fd) Bd) (kd (.int 999983)) O6))
 (X4 5 (b2 (b2 (b2 (b2 (b2 (gv 7) (gv 7) Fd) (b2 (kd (.int 7919)) (gv 7) Fd) Bd) (kd (.int 999979)) O6) (kd (.int 5)) Pa) (b2 (gv 2) (gv 6) ixD) O6))))
variable {o0 o1 o7:Option D}{c:Int}
theorem kk7(f:p[i]? = some z)(b:0<z)(g:z<4611686018427387904)(hl:vs.length<1000):
  wv9 [o0,o1,some (.lst (p.map .int)),some (.int c),some (.bl true),some (.lst (vs.map .int)),some (.int (i:Int)),o7] =
   .ok (.nx [o0,o1,some (.lst (p.map .int)),some (.int (c / z)),some (.bl true),some (.lst ((vs++[c % z]).map .int)),some (.int (i:Int)),o7]):=by
 have e:ixD (.lst (p.map .int)) (.int (i:Int))=some (.int z):=Y4 (i:=i) (by simp[f]);have j:O6 (.int c) (.int z)=some (.int (c % z)):=jz8 b;have h:Pa (.int c) (.int z)=some (.int (c / z)):=kp7 b g;refine(Vd (by simp)).trans (Az (kp5 (ds:=vs.map .int) (x:=.int (c % z)) rfl (by simp[e,j]) (by simp;lia)) ?_);refine(Bo (d:=.int (c / z)) (by simp[e,h])).trans ?_;simp
theorem kk8{at_:Nat}(I:p[i]? = some z)(r:0<z)(hl:vs.length<1000)(Q:0<=c)(J:c<1000000000000000000)(hi:i<1000)(T:at_<=100):
  ∃(v:Int)(o:Option D),0<=v/\v<z/\wv9 [o0,some (.int (at_:Int)),some (.lst (p.map .int)),some (.int c),some (.bl false),some (.lst (vs.map .int)),some (.int (i:Int)),o7] =
   .ok (.nx [o0,some (.int (at_:Int)),some (.lst (p.map .int)),some (.int c),some (.bl false),some (.lst ((vs++[v]).map .int)),some (.int (i:Int)),o]):=by
 have O:ixD (.lst (p.map .int)) (.int (i:Int))=some (.int z):=Y4 (i:=i) (by simp[I]);have H:Fd (.int 1013) (.int (i:Int))=some (.int (1013 * (i:Int))):=Ln (by decide) (by decide);have G:Fd (.int 7) (.int (at_:Int))=some (.int (7 * (at_:Int))):=Ln (by decide) (by decide);obtain⟨x,M⟩:∃x:Int,x=c+1013 * (i:Int)+7 * (at_:Int):=⟨_,rfl⟩;have U:0<=x/\x<2000000000000000000:=by lia
 have F:Fd (.int x) (.int x)=some (.int (x * x)):=Ln (by lia) (by lia);have E:Fd (.int 30011) (.int x)=some (.int (30011 * x)):=Ln (by decide) (by decide);have l:O6 (.int (x * x+30011 * x)) (.int 999983)=some (.int ((x * x+30011 * x) % 999983)):=jz8 (by decide);have b1:=jGk (x * x+30011 * x) (b:=999983) (by decide);have j:=jFp (x * x+30011 * x) (b:=999983) (by decide);obtain⟨y,L⟩:∃y:Int,y=(x * x+30011 * x) % 999983:=⟨_,rfl⟩;rw[<-L]at l b1 j;have C:Fd (.int y) (.int y)=some (.int (y * y)):=Ln (by lia) (by lia);have B:Fd (.int 7919) (.int y)=some (.int (7919 * y)):=Ln (by decide) (by decide);have A:O6 (.int (y * y+7919 * y)) (.int 999979)=some (.int ((y * y+7919 * y) % 999979)):=jz8 (by decide);have u:Pa (.int ((y * y+7919 * y) % 999979)) (.int 5)=some (.int ((y * y+7919 * y) % 999979 / 5)):=kp7 (by decide) (by decide);have e:O6 (.int ((y * y+7919 * y) % 999979 / 5)) (.int z)=some (.int ((y * y+7919 * y) % 999979 / 5 % z)):=jz8 r;obtain⟨v,h⟩:∃v:Int,v=(y * y+7919 * y) % 999979 / 5 % z:=⟨_,rfl⟩;have g:0<=v:=by rw[h];exact jGk _ (by lia)
 have f:v<z:=by rw[h];exact jFp _ r
 rw[<-h]at e;refine⟨v,some (.int y),g,f,?_⟩;refine(Lq (by simp)).trans (Az (ρ1:=[o0,some (.int (at_:Int)),some (.lst (p.map .int)),some (.int c),some (.bl false),some (.lst (vs.map .int)),some (.int (i:Int)),some (.int x)]) (Bo (d:=.int x) (by simp[H,G,M])) ?_);refine Az (ρ1:=[o0,some (.int (at_:Int)),some (.lst (p.map .int)),some (.int c),some (.bl false),some (.lst (vs.map .int)),some (.int (i:Int)),some (.int y)]) (Bo (d:=.int y) (by simp[F,E,l])) ?_;refine(kp5 (ds:=vs.map .int) (x:=.int v) rfl (by simp[O,C,B,A,u,e]) (by simp;lia)).trans ?_;simp
theorem jw1(ns:List Int)(at_:Nat)(Y:at_<=100)(p:List Int)(U:∀z∈p,0<z/\z<4611686018427387904)(hl:p.length<1000):
  ∃vs,Fits vs p/\Fe [.lst (ns.map .int),.int (at_:Int),.lst (p.map .int)]=.ok (.lst (vs.map .int)):=by
 have L:jv5 (.int 10) (.int 18)=some (.int 1000000000000000000):=yb3 (by decide);have O:=cell_eq ns at_;generalize ns.getD at_ 0=c at O;obtain⟨f,E,H⟩:∃f:Bool,(f=false->0<=c/\c<1000000000000000000)/\vo (b2 (gv 3) (kd (.int 0)) ltD) (b2 (gv 3) (b2 (kd (.int 10)) (kd (.int 18)) jv5) geD) [some (.lst (ns.map .int)),some (.int (at_:Int)),some (.lst (p.map .int)),some (.int c),none,none,none,none]=.ok (.bl f):=by
  by_cases h:c<0
  ·exact⟨true,by simp,by simp[h]⟩
  ·by_cases x:1000000000000000000<=c
   ·exact⟨true,by simp,by simp[h,x,L]⟩
   ·exact⟨false,λ_=>by lia,by simp[h,x,L]⟩
 have⟨Q,y,B⟩:=Hl (g:=gN 6) (b:=wv9) (I:=λk J=>∃(vs:List Int)(c':Int)(o6 o7:Option D),Fits vs (p.take k)/\(f=false->c'=c) /\
   J=[some (.lst (ns.map .int)),some (.int (at_:Int)),some (.lst (p.map .int)),some (.int c'),some (.bl f),some (.lst (vs.map .int)),o6,o7])
  (Ac (List.range p.length)) 0 [some (.lst (ns.map .int)),some (.int (at_:Int)),some (.lst (p.map .int)),some (.int c),some (.bl f),some (.lst []),none,none]
  ⟨[],c,none,none,⟨by simp,λi X=>by simp at X⟩,λ_=>rfl,rfl⟩ (λi d J u B=>by
   rw[Hc]at u;cases y:(List.range p.length)[i]? with
   |none=>rw[y]at u;cases u
   |some k =>
    rw[y]at u;cases u;have⟨G,x⟩:=jAl.mp y;simp at x G;subst x;rw[jCw]at B ⊢;obtain⟨vs,c',o6,o7,l,F,rfl⟩:=B;have j:p[i]? = some p[i]:=jAa G;have A:=U p[i] (jBi G);have r:vs.length<1000:=by rw[l.1,jBd];lia
    have M:p.take (i+1)=p.take i++[p[i]]:=by rw[jGb,j];rfl
    cases f with
    |true=>refine⟨_,_,jh9,.inl (kk7 j A.1 A.2 r),vs++[c' % p[i]],c' / p[i],_,_,?_,by simp,rfl⟩;rw[M];exact l.snoc (jGk _ (by lia)) (jFp _ A.1)
    |false =>
     rw[F rfl];have⟨b1,b2⟩:=E rfl;have⟨v,o,T,v1,e⟩:=kk8 (o0:=some (.lst (ns.map .int))) (o7:=o7) (at_:=at_) (vs:=vs) j A.1 r b1 b2 (by lia) Y;refine⟨_,_,jh9,.inl e,vs++[v],c,_,_,?_,λ_=>rfl,rfl⟩;rw[M];exact l.snoc T v1)
 obtain⟨vs,c',o6,o7,l,-,rfl⟩:=B;have C:0+(Ac (List.range p.length)).length=p.length:=by rw[Av,jBb,jCw]
 rw[C,jFf]at l;refine⟨vs,l,Bb ?_⟩;refine Az (Bo (d:=.int c) (by simp[Af,O])) (Az (Bo (d:=.bl f) (by simpa[Af] using H)) (Az (Bo (d:=.lst []) (by simp[O9])) (Az (Ni (ds:=Ac (List.range p.length)) ?_ y) (Ba (by simp)))));simp[Af,Wd (n:=p.length) (by lia)]
def trD(r:Tr):D:=.tup [.int r.1,.int r.2.1,.int r.2.2]
def k2D(k:Int×Int):D:=.tup [.int k.1,.int k.2]
def kD(l:List Kv):D:=Kl (l.map λp=>k2D p.1) (l.map λp=>.int p.2)
theorem kt2(i j:Int):Ec [.int i,.int j]=some [.inl i,.inl j]:=rfl
theorem jh6(k:Int×Int):Rg (k2D k)=some [.inl k.1,.inl k.2]:=rfl
theorem key_ne{k:Int×Int}{i j:Int}(h:¬ k=(i,j)):¬ Rg (k2D k)=some [.inl i,.inl j]:=λz=>by rw[jh6]at z;have z:=Option.some.inj z;injection z with e b;injection b with b f;injection e with e;injection b with b;exact h (Prod.ext e b)
theorem Qa(i j:Int):∀l:List Kv,(Gj (l.map λp=>k2D p.1) (l.map λp=>D.int p.2) [.inl i,.inl j]).getD (.int 0)=.int (look l (i,j))
 | []=>rfl
 |p::r=>by
  rw[jAk,jAk,Gj,look];by_cases h:p.1=(i,j)
  ·rw[if_pos (by rw[jh6,h]),if_pos h];rfl
  ·rw[if_neg (key_ne h),if_neg h];exact Qa i j r
theorem Td(i j v:Int):∀l:List Kv,dput (l.map λp=>k2D p.1) (l.map λp=>D.int p.2) [.inl i,.inl j] (.int v)=((put l (i,j) v).map (λp=>k2D p.1),(put l (i,j) v).map λp=>D.int p.2)
 | []=>rfl
 |p::r=>by
  rw[jAk,jAk,dput,put];by_cases h:p.1=(i,j)
  ·rw[if_pos (by rw[jh6,h]),if_pos h];rfl
  ·rw[if_neg (key_ne h),if_neg h,Td i j v r];rfl
def gaB:Ev->R Fl:=PD.V8 1 (zv (PD.gv 2) (zv (PD.gv 3) PD.a0)) (PD.b2 (PD.jh2 1 (zv (PD.gv 2) (zv (PD.gv 3) PD.a0)) (PD.kd (.int 0))) (PD.gv 4) PD.Bd)
variable {r:Tr}
theorem wd5{l:List Kv}(hl:l.length<1000):gaB [o0,some (kD l),some (.int r.1),some (.int r.2.1),some (.int r.2.2)]=.ok (.nx [o0,some (kD (step l r)),some (.int r.1),some (.int r.2.1),some (.int r.2.2)]):=by
 have h:gv 1 [o0,some (kD l),some (.int r.1),some (.int r.2.1),some (.int r.2.2)]=.ok (kD l):=by simp
 have e:=wc3 (i:=1) (ρ:=[o0,some (kD l),some (.int r.1),some (.int r.2.1),some (.int r.2.2)]) (fks:=zv (PD.gv 2) (zv (PD.gv 3) PD.a0)) (f0:=PD.kd (.int 0)) h (l:=[.int r.1,.int r.2.1]) (by simp) (by simp) (z:=.int 0) (by simp) (kt2 _ _);rw[Qa]at e;refine(wc5 (v:=.int (look l (r.1,r.2.1)+r.2.2)) ?_ h (l:=[.int r.1,.int r.2.1]) (by simp) (by simp) (by rw[jAd];lia) (kt2 _ _)).trans ?_
 ·rw[Wb,e];simp
 ·rw[Td];rfl
theorem jd2{k:Int×Int}{v:Int}:∀l:List Kv,(put l k v).length<=l.length+1
 | []=>by simp[put]
 |p::r=>by
  unfold put;split
  ·simp
  ·have:=jd2 (k:=k) (v:=v) r;simp;lia
theorem jx7:∀(b:List Tr)(l:List Kv),(acc l b).length<=l.length+b.length
 | [],l=>by simp[acc]
 |r::b,l=>by have f:=jx7 b (step l r);have e:(step l r).length<=l.length+1:=jd2 l;show(acc (step l r) b).length<=_;rw[jAy];lia
theorem yh1{g A:Type}{f:g->A}:∀{l m:List A},l.Perm m->∀X:List g,m=X.map f->∃T:List g,T.Perm X/\l=T.map f:=by
 intro l m h;induction h with
 |nil=>intro X e;cases X with
  |nil=>exact⟨[],.refl _,rfl⟩
  |cons a X=>cases e
 | @cons a l m _ B=>intro X e;cases X with
  |nil=>cases e
  |cons x X=>cases e;obtain⟨T,u,rfl⟩:=B X rfl;exact⟨x::T,u.cons x,rfl⟩
 |swap a b l=>intro X e;match X,e with
  |x::y::X,e=>cases e;exact⟨y::x::X,.swap x y X,rfl⟩
  | [],e=>cases e
  | [_],e=>cases e
 |trans _ _ o j=>intro X e;obtain⟨T,u,rfl⟩:=j X e;obtain⟨U,C,rfl⟩:=o T rfl;exact⟨U,C.trans u,rfl⟩
def jq4(T:List Tr):Prop:=(T.map trD).Pairwise λa b=>Gy a b=true
def PN(T X:List Tr):Prop:=T.Perm X/\jq4 T
variable {T:List Tr}
theorem jo2(h:(T.map trD).length<2):jq4 T:=by
 unfold jq4
 match T,h with
 | [],_=>exact .nil
 | [a],_=>exact List.pairwise_singleton ..
 |a::b::T,h=>exact absurd h (by simp)
variable {X:List Tr}
theorem jn9(g:X.length<64):∃T:List Tr,PN T X/\Dl [.lst (X.map trD)]=some (.lst (T.map trD)):=by
 have h:Du (X.map trD)=true:=by unfold Du;rw[jCb];refine .inr (jAw.mpr λd j=>?_);obtain⟨r,o,rfl⟩:=jAm.mp j;rfl
 have f:Dl [.lst (X.map trD)]=some (.lst (if(X.map trD).length<2 then X.map trD else srt (X.map trD))):=by unfold Dl;dsimp only;show(if(X.map trD).length<64/\((X.map trD).length<2\/Du (X.map trD)=true) then _ else _)=_;rw[if_pos ⟨by rw[jAd];exact g,.inr h⟩]
 by_cases b:(X.map trD).length<2
 ·exact⟨X,⟨.refl _,jo2 b⟩,by rw[f,if_pos b]⟩
 ·have⟨T,l,e⟩:=yh1 (El (X.map trD)) X rfl;exact⟨T,⟨l,by unfold jq4;rw[<-e];exact Fv _⟩,by rw[f,if_neg b,e]⟩
theorem Nk(e:List Tr)(hl:e.length<1000)(J:(acc [] e).length<64):∃T:List Tr,PN T (kept e)/\Eo [.lst (e.map trD)]=.ok (.lst (T.map trD)):=by
 have⟨G,F,y⟩:=Hl (g:=gT [2,3,4]) (b:=gaB) (I:=λk C=>∃x u o,C=[some (.lst (e.map trD)),some (kD (acc [] (e.take k))),x,u,o])
  (e.map trD) 0 [some (.lst (e.map trD)),some (kD []),none,none,none] ⟨none,none,none,rfl⟩ (λi d C j y=>by
   rw[jBa]at j;cases B:e[i]? with
   |none=>rw[B]at j;cases j
   |some r =>
    rw[B]at j;cases j;rw[jCw]at y ⊢;obtain⟨x,u,o,rfl⟩:=y;have f:(acc [] (e.take i)).length<1000:=by have E:=jx7 (e.take i) [];rw[jBd]at E;simp at E;lia
    have M:acc [] (e.take (i+1))=step (acc [] (e.take i)) r:=by unfold acc;rw[jGb,B,jHi];rfl
    exact⟨_,_,rfl,.inl (wd5 f),by rw[M];exact⟨_,_,_,rfl⟩⟩)
 obtain⟨x,u,o,rfl⟩:=y;rw[jAd,jCw,jFf]at F;have A:(kept e).length<64:=by unfold kept;rw[jAd];exact jDj (jBp _ _) J
 have⟨T,L,O⟩:=jn9 A;refine⟨T,L,Bb (Az (Bo (d:=kD []) (by simp[kD])) (Az (Ni (ds:=e.map trD) (by simp[Af]) F) (Ba ?_)))⟩;have U:∀(l:List Kv),Ga (gT [0,1]) (tb (b2 (gv 1) (kd (.int 0)) neD)) (bA (zv (b2 (gv 0) (kd (.int 0)) ixD) (zv (b2 (gv 0) (kd (.int 1)) ixD) (zv (gv 1) a0))) De) [none,none] (((l.map λp=>k2D p.1).zip (l.map λp=>D.int p.2)).map λq=>.tup [q.1,q.2])=.ok (((l.filter λp=>decide (p.2≠0)).map rowOf).map trD):=by
  intro l;induction l with
  |nil=>rfl
  |cons p l H =>
   rw[jAk,jAk,jDi,jAk,Ga,H];by_cases h:p.2=0
   ·simp[h]
   ·simp[h,k2D,trD,rowOf,Gb]
 have Q:Ax (itI 1) 2 [] (gT [0,1]) (tb (b2 (gv 1) (kd (.int 0)) neD)) (bA (zv (b2 (gv 0) (kd (.int 0)) ixD) (zv (b2 (gv 0) (kd (.int 1)) ixD) (zv (gv 1) a0))) De) [some (.lst (e.map trD)),some (kD (acc [] e)),x,u,o]=.ok (.lst ((kept e).map trD)):=by refine Dg (ya8 (ks:=(acc [] e).map λ(p:Kv)=>k2D p.1) (fs:=(acc [] e).map λ(p:Kv)=>D.int p.2) (by simp[kD])) (U (acc [] e)) ?_;rw[jAd];lia
 rw[Qd,Lj,Q];simp[O]
theorem km7{S:List Tr}(j:S.length<400)(h:T.length<400)(b:(acc [] (S++T)).length<64):∃U:List Tr,PN U (kept (S++T))/\Rc [.lst (S.map trD),.lst (T.map trD)]=.ok (.lst (U.map trD)):=by
 have⟨U,f,e⟩:=Nk (S++T) (by rw[jAs];lia) b;refine⟨U,f,Bb (Ba ?_)⟩;have g:Bd (.lst (S.map trD)) (.lst (T.map trD))=some (.lst ((S++T).map trD)):=(kp4 (by rw[jAd,jAd];lia)).trans (by rw[jBc]);generalize (S++T).map trD=X at *
 simp[Af,g,e]
variable {ρ:Ev}{ds xs:List D}
theorem wq5{f:Ev->R D}(h:ρ[i]? = some (some (.lst ds)))(e:f ρ=.ok (.lst xs))(b:ds.length+xs.length<=16777216):kg3 i f ρ=.ok (.nx (ρ.set i (some (.lst (ds++xs))))):=by unfold kg3;rw[h];simp[e,b]
theorem jw9{S:List Tr}(h:S[i]? = some r):times (S.take (i+1)) T=times (S.take i) T++T.map λs=>(r.1+s.1,r.2.1+s.2.1,r.2.2 * s.2.2):=by unfold times;rw[jGb,h,List.flatMap_append];simp
theorem Z2(S T:List Tr):(times S T).length=S.length * T.length:=by
 unfold times;induction S with
 |nil=>simp
 |cons a l b=>rw[jHj,jAs,b,jAd,jAy,Nat.succ_mul,Nat.add_comm]
def Sml(T:List Tr):Prop:=∀r∈T,-18446744073709551616<r.2.2/\r.2.2<18446744073709551616
def muB:Ev->R Fl:=PD.kg3 2 (PD.Ax (PD.itS (PD.gv 1)) 3 [3,4,5] (PD.gT [0,1,2]) PD.yes (PD.bA (zv (PD.b2 (PD.gv 3) (PD.gv 0) PD.Bd) (zv (PD.b2 (PD.gv 4) (PD.gv 1) PD.Bd) (zv (PD.b2 (PD.gv 5) (PD.gv 2) PD.Fd) PD.a0))) PD.De))
theorem Pg{S:List Tr}(H:Sml S)(hl:S.length * T.length<1000)(O:T.length<1000)(E:(acc [] (times S T)).length<64):∃U:List Tr,PN U (kept (times S T))/\Df [.lst (S.map trD),.lst (T.map trD)]=.ok (.lst (U.map trD)):=by
 have⟨U,F,e⟩:=Nk (times S T) (by rw[Z2];exact hl) E;have⟨B,A,h⟩:=Hl (g:=gT [3,4,5]) (b:=muB) (I:=λk ρ=>k<=S.length->∃x u o,ρ=[some (.lst (S.map trD)),some (.lst (T.map trD)),some (.lst ((times (S.take k) T).map trD)),x,u,o])
  (S.map trD) 0 [some (.lst (S.map trD)),some (.lst (T.map trD)),some (.lst []),none,none,none] (λ_=>⟨none,none,none,by simp[times]⟩) (λi d ρ f h=>by
   rw[jBa]at f;cases j:S[i]? with
   |none=>rw[j]at f;cases f
   |some r =>
    rw[j]at f;cases f;rw[jCw]at h ⊢;have M:i<S.length:=(jAl.mp j).1;obtain⟨x,u,o,rfl⟩:=h (by lia);have L:=H r (jBv j);have J:∀(l:List Tr),Ga (gT [0,1,2]) yes (bA (zv (b2 (gv 3) (gv 0) Bd) (zv (b2 (gv 4) (gv 1) Bd) (zv (b2 (gv 5) (gv 2) Fd) a0))) De) [none,none,none,some (.int r.1),some (.int r.2.1),some (.int r.2.2)] (l.map trD)=.ok ((l.map λs=>((r.1+s.1,r.2.1+s.2.1,r.2.2 * s.2.2):Tr)).map trD):=by
     intro l;induction l with
     |nil=>rfl
     |cons s l C=>have G:Fd (.int r.2.2) (.int s.2.2)=some (.int (r.2.2 * s.2.2)):=Ln (by lia) (by lia);rw[jAk,Ga];simp[trD,yes,G,Gb,C]
    have y:(times (S.take i) T).length<=1000:=by rw[Z2,jBd];have:min i S.length * T.length<=S.length * T.length:=Nat.mul_le_mul_right _ (jFa _ _);lia
    refine⟨[some (.lst (S.map trD)),some (.lst (T.map trD)),some (.lst ((times (S.take i) T).map trD)),some (.int r.1),some (.int r.2.1),some (.int r.2.2)],_,rfl,.inl (wq5 (ds:=(times (S.take i) T).map trD) (xs:=(T.map λs=>((r.1+s.1,r.2.1+s.2.1,r.2.2 * s.2.2):Tr)).map trD) rfl ?_ ?_),λ_=>?_⟩
    ·exact Dg (ds:=T.map trD) (by simp) (J T) (by rw[jAd,jAd];lia)
    ·rw[jAd,jAd,jAd];lia
    ·rw[jw9 j,jBc];exact⟨_,_,_,rfl⟩)
 rw[jAd,jCw]at h;obtain⟨x,u,o,rfl⟩:=h (jAg _);rw[jFf]at A;generalize (times S T).map trD=X at *
 exact⟨U,F,Bb (Az (Bo (d:=.lst []) (by simp[O9])) (Az (Ni (ds:=S.map trD) (by simp[Af]) A) (Ba (by simp[e]))))⟩
theorem wx6(hi:i<xs.length):slA (.tup xs) none (some (i:Int))=some (.tup (xs.take i)):=by show(if HT.sIx xs.length 0 none=0/\HT.sIx xs.length xs.length (some (i:Int))=xs.length then none else some (D.tup (cutD xs none (some (i:Int)))))=_;rw[HT.Kd,HT.K5,if_neg (by lia)];unfold cutD;rw[HT.Kd,HT.K5,jCv (by lia)];simp
theorem wx5(hi:i<xs.length):slA (.tup xs) (some ((i:Int)+1)) none=some (.tup (xs.drop (i+1))):=by
 show(if HT.sIx xs.length 0 (some ((i:Int)+1))=0/\HT.sIx xs.length xs.length none=xs.length then none else some (D.tup (cutD xs (some ((i:Int)+1)) none)))=_;have e:HT.sIx xs.length 0 (some ((i:Int)+1))=i+1:=by rw[show((i:Int)+1)=((i+1:Nat):Int) by lia,HT.Kd];lia
 rw[e,if_neg (by lia)];unfold cutD;rw[e,HT.K5];congr 2;apply jDc;rw[jBr];exact jAg _
theorem refuse_eq{t:Nat}(f:t<ts.length):Jc [Ak n ts,.int (t:Int)]=.ok .non:=by
 have b:=Kf n ts;have g:(ts.map Dm).length=ts.length:=jAd ..;generalize Ak n ts=W at *
 have c:ch (kd (.int 0)) (gv 1) (bA (zv (b2 (gv 0) (kd (.int 1)) ixD) a0) Ci) leD ltD (Af 2 [W,.int (t:Int)])=.ok (.bl true):=by unfold ch;simp[Af,b,f]
 have e:Lp (Af 2 [W,.int (t:Int)])=.ok (.nx (Af 2 [W,.int (t:Int)])):=(Lq (by rw[yb2,kg2,c];simp)).trans rfl;show Cy 2 Lp _=_;rw[ja3,e,jr8]
def del(ts:Ah)(t:Nat):Ah:=ts.take t++ts.drop (t+1)
theorem Xy{t:Nat}(e:t<ts.length)(hl:ts.length<=1000):Ew [Ak n ts,.int (t:Int)]=.ok (Ak n (del ts t)):=by
 have g:ixD (Ak n ts) (.int 0)=some (.int (n:Int)):=Wc;have f:=Kf n ts;have o:=refuse_eq (n:=n) e;have b:t<(ts.map Dm).length:=by rw[jAd];exact e
 have j:=wx6 b;have h:=wx5 b;have u:Bd (.tup ((ts.map Dm).take t)) (.tup ((ts.map Dm).drop (t+1)))=some (.tup ((del ts t).map Dm)):=(Qc (by rw[jBd,jBr,jAd];lia)).trans (by rw[del,jBc,jFe,jFd]);have l:De [.int (n:Int),.tup ((del ts t).map Dm)]=some (Ak n (del ts t)):=Gb (by simp);generalize Ak n ts=W at *
 generalize Ak n (del ts t)=x at *
 refine Bb (Az (ρ1:=[some W,some (.int (t:Int)),none]) (by simp[Af,o]) (Az (ρ1:=[some W,some (.int (t:Int)),some (.tup (ts.map Dm))]) (Bo (d:=.tup (ts.map Dm)) (by simp[f])) (Ba ?_)));simp only[Qd,Lj,wc2,Wb,yi4,yj0,yj1,yb0,gv0,yc2,yk0,R.ok_bind,g,R.of_some,ya6,j,wp7,h,u,l]
theorem jf5(p a b:Nat):Cw [.int (p:Int),.int (a:Int),.int (b:Int)]=.ok (.int (cp a b p:Nat)):=by
 unfold cp;by_cases h:p=b
 ·subst h;rw[if_pos rfl];exact Bb (Ob ((Vd (by simp[Af])).trans (Ba (by simp[Af]))))
 ·rw[if_neg h];by_cases e:b<p
  ·rw[if_pos e];refine Bb (Az ((Lq (by simp[Af];lia)).trans rfl) (Ob ((Vd (by simp[Af];lia)).trans (Ba ?_))));simp[Af];lia
  ·rw[if_neg e];exact Bb (Az ((Lq (by simp[Af];lia)).trans rfl) (Az ((Lq (by simp[Af];lia)).trans rfl) (Ba (by simp[Af]))))
theorem kk6(x y:Nat):Gv [.int (x:Int),.int (y:Int)]=.ok (Dm (min x y,max x y)):=by
 refine Bb (Ba ?_);have e:min (x:Int) (y:Int)=((min x y:Nat):Int):=by lia
 have b:max (x:Int) (y:Int)=((max x y:Nat):Int):=by lia
 simp[Af,Gb,Dm,e,b]
variable {b:Nat}
theorem ke5{a:Nat}(hn:1<=n)(hl:ts.length<=1000):Rf [Ak n ts,.int (a:Int),.int (b:Int)]=.ok (Ak (n - 1) (ts.map (ct a b))):=by
 have g:ixD (Ak n ts) (.int 0)=some (.int (n:Int)):=Wc;have f:=Kf n ts;have l:De [.int ((n:Int) - 1),.tup ((ts.map (ct a b)).map Dm)]=some (Ak (n - 1) (ts.map (ct a b))):=(Gb (by simp)).trans (by rw[Ak,show((n - 1:Nat):Int)=(n:Int) - 1 by lia]);have C:((ts.map (ct a b)).map Dm).length<=1000:=by rw[jAd,jAd];exact hl
 generalize Ak n ts=W at *
 generalize Ak (n - 1) (ts.map (ct a b))=E at *
 have o:Ax (itS (b2 (gv 0) (kd (.int 1)) ixD)) 1 [1,2] (gN 0) yes (cl (zv (cl (zv (b2 (gv 0) (kd (.int 0)) ixD) (zv (gv 1) (zv (gv 2) a0))) Cw) (zv (cl (zv (b2 (gv 0) (kd (.int 1)) ixD) (zv (gv 1) (zv (gv 2) a0))) Cw) a0)) Gv) [some W,some (.int (a:Int)),some (.int (b:Int)),none]=.ok (.lst ((ts.map (ct a b)).map Dm)):=by
  refine Dg (ds:=ts.map Dm) (by simp[f]) ?_ (by lia);rw[jBe];refine Es ts λe B=>?_;have j:ixD (Dm e) (.int 0)=some (.int (e.1:Int)):=Wc;have h:ixD (Dm e) (.int 1)=some (.int (e.2:Int)):=ja4;have A:=jf5 e.1 a b;have y:=jf5 e.2 a b;have x:=kk6 (cp a b e.1) (cp a b e.2);have u:(Dm∘ct a b) e=Dm (min (cp a b e.1) (cp a b e.2),max (cp a b e.1) (cp a b e.2)):=rfl;rw[u];generalize Dm e=TE at *
  generalize Dm (min (cp a b e.1) (cp a b e.2),max (cp a b e.1) (cp a b e.2))=F at *
  simp only[Ed];simp[j,h,A,y,x]
 generalize (ts.map (ct a b)).map Dm=X at *
 refine Bb (Az (ρ1:=[some W,some (.int (a:Int)),some (.int (b:Int)),some (.lst X)]) (Bo (d:=.lst X) (by simpa[Af] using o)) (Ba ?_));simp[g,l]
variable {e:Nat×Nat}
theorem kp0{t:Nat}(hn:1<=n)(o:ts[t]? = some e)(hl:ts.length<=1000):Jb [Ak n ts,.int (t:Int)]=.ok (if e.1=e.2 then Ak n (del ts t) else Ak (n - 1) ((del ts t).map (ct e.1 e.2))):=by
 have x:t<ts.length:=(jAl.mp o).1;have u:=Kf n ts;have B:=Xy (n:=n) x hl;have A:ixD (.tup (ts.map Dm)) (.int (t:Int))=some (Dm e):=jz6 (by rw[jBa,o];rfl);have j:(del ts t).length<=1000:=by unfold del;rw[jAs,jBd,jBr];lia
 have y:=ke5 (n:=n) (ts:=del ts t) (a:=e.1) (b:=e.2) hn j;have g:ixD (Dm e) (.int 0)=some (.int (e.1:Int)):=Wc;have f:ixD (Dm e) (.int 1)=some (.int (e.2:Int)):=ja4;generalize Ak n ts=W at *
 generalize Ak n (del ts t)=l at *
 generalize Ak (n - 1) ((del ts t).map (ct e.1 e.2))=C at *
 generalize Dm e=TE at *
 refine Bb (Az (ρ1:=[some W,some (.int (t:Int)),some l,none]) (Bo (d:=l) (by simp[Af,B])) (Az (ρ1:=[some W,some (.int (t:Int)),some l,some TE]) (Bo (d:=TE) (by simp[u,A])) ?_));by_cases h:e.1=e.2
 ·rw[if_pos h];exact Ob ((Vd (by simp[g,f,h])).trans (Ba (by simp)))
 ·rw[if_neg h];exact Az ((Lq (by simp[g,f];lia)).trans rfl) (Ba (by simp[g,f,y]))
theorem jz3{t:Nat}(l:ts[t]? = some e)(f:Nat×Nat):f∈ts↔f∈e::del ts t:=by
 obtain⟨j,rfl⟩:=jAl.mp l;have h:ts=ts.take t++ts[t]::ts.drop (t+1):=by rw[<-jBw j,jBm]
 constructor
 ·intro g;rw[h]at g;unfold del;rcases jAq.mp g with z |z
  ·exact jAb _ (jBk _ z)
  ·rcases jAe.mp z with z |z
   ·exact z ▸ jAf
   ·exact jAb _ (jAn _ z)
 ·intro g;rcases jAe.mp g with z |z
  ·exact z ▸ jBi j
  ·unfold del at z;rcases jAq.mp z with z |z
   ·exact jDk z
   ·exact jDl z
theorem jm3{t:Nat}(f:ts[t]? = some e):pick ts [t]=[e]:=by unfold pick;rw[jAk,jEf,jAi,f];rfl
theorem kw8(ts:Ah):pick ts (List.range ts.length)=ts:=by
 unfold pick;apply jDf
 ·simp
 ·intro i g f;simp[f]
theorem jk7{t:Nat}{f:Nat×Nat}:f∈pick ts (restOf ts.length [t])↔f∈del ts t:=by
 unfold pick restOf del;rw[jAm,jAq];constructor
 ·rintro⟨k,g,rfl⟩;rw[jAj,jAt]at g;have j:k≠t:=by simpa using g.2
  rw[jAi,jAa g.1,jBs];by_cases l:k<t
  ·exact .inl (jGc.mpr ⟨k,by lia,rfl⟩)
  ·refine .inr (jGd.mpr ⟨k - (t+1),by lia,?_⟩);congr 1;lia
 ·intro h;rcases h with h |h
  ·obtain⟨k,g,rfl⟩:=jGc.mp h;refine⟨k,jAj.mpr ⟨jAt.mpr (by lia),by simp;lia⟩,?_⟩;rw[jAi,jAa (by lia),jBs]
  ·obtain⟨k,g,rfl⟩:=jGd.mp h;refine⟨t+1+k,jAj.mpr ⟨jAt.mpr (by lia),by simp;lia⟩,?_⟩;rw[jAi,jAa (by lia),jBs]
theorem je7(h:∀e∈ts,e.1<=e.2/\e.2<n):InW n ts:=λe f=>by have:=h e f;lia
theorem kx9{t:Nat}(hn:n<=60)(h:∀e∈ts,e.1<=e.2/\e.2<n)(o:ts[t]? = some e):Gi [Ak n ts,Aa [t]]=.ok (.bl (decide (e.1=e.2))):=by
 have⟨B,E⟩:=jAl.mp o;have⟨b,I,H⟩:=wj3 (n:=n) (ts:=ts) (s:=[t]) hn h (by simpa using B) (by simp);suffices F:b=decide (e.1=e.2) by rw[I,F]
 rw[jDm,H,decide_eq_true_iff,jm3 o];have u:InW n [e]:=λf C=>by rw[jAh.mp C];exact je7 h e (jBv o)
 obtain⟨a,y⟩:=e;constructor
 ·intro r;by_cases g:a=y
  ·exact g
  ·have:=M8 (es:=[]) u (λc=>g (V2.mp c));rw[M7]at this;have G:=r.2.1;unfold cc at this;simp at G;lia
 ·intro g;have g:a=y:=g;subst g;have:=Rb (es:=[]) u (Bc.refl _);rw[M7]at this;refine⟨by simp,by unfold cc at this;rw[this];simp,λj f A l=>?_⟩;have:j=[]/\A=[]:=by
   cases j with
   |nil=>simp at l;exact⟨rfl,l.2⟩
   |cons x j=>simp at l
  rw[this.1,this.2];have:=M7 n;unfold cc at this;simp[this]
theorem wb7{t:Nat}(hn:n<=60)(o:ts.length<=50)(h:∀e∈ts,e.1<=e.2/\e.2<n)(j:ts[t]? = some e):∃b,Ko [Ak n ts,Aa [t]]=.ok (.bl b)/\(b=true↔¬ Bc (del ts t) e.1 e.2):=by
 have⟨B,F⟩:=jAl.mp j;have⟨b,H,G⟩:=wo9 (n:=n) (ts:=ts) (s:=[t]) hn o h (by simpa using B) (by simp);refine⟨b,H,G.trans ?_⟩;have l:=je7 h;have u:InW n (del ts t):=λf E=>l f ((jz3 j f).mpr (jAb _ E));have g:InW n (e::del ts t):=Cd.mpr ⟨l e (jBv j),u⟩;have A:(Ce n (pick ts (List.range ts.length))).length=cc n (e::del ts t):=by rw[kw8];exact J6 l (jz3 j)
 have y:(Ce n (pick ts (restOf ts.length [t]))).length=cc n (del ts t):=(J6 u λf=>jk7.symm).symm;have x:(Ce n (pick ts (restOf ts.length [t]++[t]))).length=cc n (e::del ts t):=(J6 g λf=>by
  rw[R3,jm3 j,jAq,jk7,jAe,jAh,or_comm]).symm
 unfold wm9;rw[A,y];obtain⟨a,I⟩:=e;constructor
 ·intro r c;have:=Rb g c;have:=r.2.1;lia
 ·intro c;have:=M8 g c;exact⟨by simp,by lia,λk C=>by rw[jAh.mp C,x]⟩
theorem Hh.sml(g:m<=9)(h:Hh m T):∀r∈T,0<=r.2.2/\r.2.2<=512:=λr f=>by
 have l:=h.each r f;have j:(2:Int) ^ m<=512:=by
  have:m=0\/m=1\/m=2\/m=3\/m=4\/m=5\/m=6\/m=7\/m=8\/m=9:=by lia
  rcases this with rfl |rfl |rfl |rfl |rfl |rfl |rfl |rfl |rfl |rfl<;>decide
 have:=h.tim r f;lia
theorem tr1(i j t:Int):D.tup [.int i,.int j,.int t]=trD (i,j,t):=rfl
structure km3(T:List Tr):Prop where
 red:Red T
 srt:jq4 T
theorem PN.nice(h:PN T (kept X)):km3 T:=⟨(ks7 X).perm h.1,h.2⟩
theorem kv0:km3 [(0,0,1)]:=⟨⟨by simp,by simp⟩,jo2 (by simp)⟩
theorem Mv:∀(m:Nat){n:Nat}{ts:Ah},ts.length<m->ts.length<=9->1<=n->n<=60->(∀e∈ts,e.1<=e.2/\e.2<n) ->
  ∃T,km3 T/\Hh ts.length T/\(∀x y,(T.map (val x y)).sum=SS n ts (x - 1) (y - 1))/\Ea m [Ak n ts]=.ok (.lst (T.map trD))
 |0,n,ts,h,_,_,_,_=>by lia
 |m+1,n,[],_,_,_,_,_=>by
  have⟨h1,h2⟩:=ky8 n;refine⟨[(0,0,1)],kv0,h1,h2,?_⟩;have G:=Kf n [];generalize Ak n []=W at *
  refine Bb (Ob ((Vd (by simp[Af,G])).trans (Ba ?_)));simp[Gb,O9,trD]
 |m+1,n,e::ts,M,h9,C,Y,h=>by
  have E:ts.length<m:=by simpa using M
  have F:ts.length+1<=9:=by simpa using h9
  have J:∀f∈ts,f.1<=f.2/\f.2<n:=λf hf=>h f (jAb _ hf);have Q:InW n (e::ts):=je7 h;have he:(e::ts)[0]? = some e:=rfl;have ed:del (e::ts) 0=ts:=by simp[del]
  have G:=Kf n (e::ts);have e1:=Xy (n:=n) (ts:=e::ts) (t:=0) (by simp) (by simp;lia);have e2:=kp0 (n:=n) (ts:=e::ts) (t:=0) C he (by simp;lia);have O:=kx9 (n:=n) (ts:=e::ts) (t:=0) Y h he;have⟨b,e4,e5⟩:=wb7 (n:=n) (ts:=e::ts) (t:=0) Y (by simp;lia) h he;rw[ed]at e1 e2 e5;have L:Aa [0]=.tup [.int 0]:=rfl;rw[L]at O e4;have f1:Ew [Ak n (e::ts),.int 0]=.ok (Ak n ts):=e1;have f2:Jb [Ak n (e::ts),.int 0]=.ok (if e.1=e.2 then Ak n ts else Ak (n - 1) (ts.map (ct e.1 e.2))):=e2;clear e1 e2;have l0:Ci [.tup ((e::ts).map Dm)]=some (.int ((ts.length:Int)+1)):=by show some (D.int _)=_;rw[jAd,jAy];rfl
  have I:De [.int 0]=some (.tup [.int 0]):=Gb (by simp);have pre:∀{r:R Fl}{W:D},ixD W (.int 1)=some (.tup ((e::ts).map Dm))->(sq (ifS (tt (cl (zv (gv 0) (zv (bA (zv (kd (.int 0)) a0) De) a0)) Gi)) (Bx (cl (zv (cl (zv (cl (zv (gv 0) (zv (kd (.int 0)) a0)) Ew) a0) (Ea m)) (zv (bA (zv (bA (zv (kd (.int 0)) (zv (kd (.int 1)) (zv (kd (.int 1)) a0))) De) a0) M5) a0)) Df)) nop)
    (sq (ifS (tt (cl (zv (gv 0) (zv (bA (zv (kd (.int 0)) a0) De) a0)) Ko)) (Bx (cl (zv (cl (zv (cl (zv (gv 0) (zv (kd (.int 0)) a0)) Jb) a0) (Ea m)) (zv (bA (zv (bA (zv (kd (.int 1)) (zv (kd (.int 0)) (zv (kd (.int 1)) a0))) De) a0) M5) a0)) Df)) nop)
    (Bx (cl (zv (cl (zv (cl (zv (gv 0) (zv (kd (.int 0)) a0)) Ew) a0) (Ea m)) (zv (cl (zv (cl (zv (gv 0) (zv (kd (.int 0)) a0)) Jb) a0) (Ea m)) a0)) Rc)))) [some W]=r->Wi (Ea m) [some W]=r:=λ{r W} hW o=>by
   refine Az ((Lq ?_).trans rfl) o;rw[kg2,Wb,Qd,Lj,Wb];simp only[gv0,yb0,R.ok_bind,hW,R.of_some,wc2,l0,jz5,kp9];have hz:¬ ((ts.length:Int)+1=0):=by lia
   simp[hz]
  obtain⟨a,j⟩:=e;have ae:a<=j:=(h (a,j) jAf).1;have ab:j<n:=(h (a,j) jAf).2;by_cases l:a=j
  ·subst l;have⟨T,_,B,t2,t3⟩:=Mv m E (by lia) C Y J;have sm:=Hh.sml (by lia) B;have⟨U,u1,u2⟩:=Pg (S:=T) (T:=[(0,1,1)]) (λr o=>by have:=sm r o;lia) (by have:=B.few;simp;lia) (by simp) (jDj (Q7 λr o=>by
    rw[O5]at o;obtain⟨s,L,rfl⟩:=jAm.mp o;have:=B.pos s L;dsimp only;lia) (by decide))
   have⟨v1,H⟩:=kl4 B F t2 Q u1.1;refine⟨U,u1.nice,v1,H,Bb (pre G ?_)⟩;have u2:Df [.lst (T.map trD),.lst [trD (0,1,1)]]=.ok (.lst (U.map trD)):=u2;have f3:Gi [Ak n ((a,a)::ts),.tup [.int 0]]=.ok (.bl true):=by rw[O];simp
   clear O f2;generalize Ak n ((a,a)::ts)=W at *
   generalize Ak n ts=W' at *
   generalize T.map trD=TD at *
   refine Ob ((Vd (by simp[I,f3])).trans (Ba ?_));simp[f1,t3,Gb,O9,tr1,u2]
  ·have u:a<j:=by lia
   have f3:Gi [Ak n ((a,j)::ts),.tup [.int 0]]=.ok (.bl false):=by rw[O];simp[l]
   have f4:Jb [Ak n ((a,j)::ts),.int 0]=.ok (Ak (n - 1) (ts.map (ct a j))):=by rw[f2,if_neg l]
   clear O f2;have aa:∀f∈ts.map (ct a j),f.1<=f.2/\f.2<n - 1:=λf hf=>by obtain⟨g,hg,rfl⟩:=jAm.mp hf;have:=wl6 u ab (Cd.mp Q).2 (ct a j g) (jAm.mpr ⟨g,hg,rfl⟩);refine⟨?_,this.2⟩;unfold ct;dsimp only;lia
   have⟨V,_,A,x2,x3⟩:=Mv m (n:=n - 1) (ts:=ts.map (ct a j)) (by rw[jAd];exact E) (by rw[jAd];lia) (by lia) (by lia) aa;rw[jAd]at A;by_cases Z:Bc ts a j
   ·have hb:b=false:=by
     cases b with
     |false=>rfl
     |true=>exact absurd Z (e5.mp rfl)
    subst hb;have⟨T,_,B,t2,t3⟩:=Mv m E (by lia) C Y J;have⟨U,u1,u2⟩:=km7 (S:=T) (T:=V) (by have:=B.few;lia) (by have:=A.few;lia) (jDj (Q7 λr o=>by
     rcases jAq.mp o with z |z
     ·have:=B.pos r z;lia
     ·have:=A.pos r z;lia) (by decide))
    have⟨v1,H⟩:=kl3 u B A F t2 x2 Q Z u1.1;refine⟨U,u1.nice,v1,H,Bb (pre G ?_)⟩;generalize Ak n ((a,j)::ts)=W at *
    generalize Ak n ts=W' at *
    generalize Ak (n - 1) (ts.map (ct a j))=W2 at *
    generalize T.map trD=TD at *
    generalize V.map trD=VD at *
    refine Az ((Lq (by simp[I,f3])).trans rfl) (Az ((Lq (by simp[I,e4])).trans rfl) (Ba ?_));simp[f1,f4,t3,x3,u2]
   ·have hb:b=true:=e5.mpr Z;subst hb;have sm:=Hh.sml (by lia) A;have⟨U,u1,u2⟩:=Pg (S:=V) (T:=[(1,0,1)]) (λr o=>by have:=sm r o;lia) (by have:=A.few;simp;lia) (by simp) (jDj (Q7 λr o=>by
     rw[O5]at o;obtain⟨s,L,rfl⟩:=jAm.mp o;have:=A.pos s L;dsimp only;lia) (by decide))
    have⟨v1,H⟩:=ky7 u A F x2 Q Z u1.1;refine⟨U,u1.nice,v1,H,Bb (pre G ?_)⟩;have u2:Df [.lst (V.map trD),.lst [trD (1,0,1)]]=.ok (.lst (U.map trD)):=u2;generalize Ak n ((a,j)::ts)=W at *
    generalize Ak (n - 1) (ts.map (ct a j))=W2 at *
    generalize V.map trD=VD at *
    refine Az ((Lq (by simp[I,f3])).trans rfl) (Ob ((Vd (by simp[I,e4])).trans (Ba ?_)));simp[f4,x3,Gb,O9,tr1,u2]
theorem yk5(x y:Int):Zg [.lst [.int x,.int y]]=some (.int (min x y)):=by
 have e:jk4 [x,y]=min x y:=by
  show [x,y].getD (if decide (y<x)=true then 1 else 0) 0=_;by_cases h:y<x
  ·rw[if_pos (decide_eq_true h)];show y=_;lia
  ·rw[if_neg (by simp[h])];show x=_;lia
 show(Ay [.int x,.int y]).map (λf=>D.int (jk4 f))=_;rw[show Ay [D.int x,.int y]=some [x,y] from rfl,jHu,e]
theorem top2(x y:Int):Ze [.lst [.int x,.int y]]=some (.int (max x y)):=by
 have e:jp6 [x,y]=max x y:=by
  show [x,y].getD (if decide (y>x)=true then 1 else 0) 0=_;by_cases h:y>x
  ·rw[if_pos (decide_eq_true h)];show y=_;lia
  ·rw[if_neg (by simpa using h)];show x=_;lia
 show(Ay [.int x,.int y]).map (λf=>D.int (jp6 f))=_;rw[show Ay [D.int x,.int y]=some [x,y] from rfl,jHu,e]
theorem wq8(m:Nat)(u v:Int)(j:0<=u)(g:u<m)(h:0<=v)(f:v<m):∃e:Nat×Nat,e.1<=e.2/\e.2<m/\D.tup [.int (min u v),.int (max u v)]=Dm e:=by refine⟨((min u v).toNat,(max u v).toNat),by simp;lia,by simp;lia,?_⟩;simp only[Dm];rw[jEc (by lia),jEc (by lia)]
theorem wx9(h:2 * i+2<=vs.length):slA (.lst (vs.map .int)) (some ((2 * i:Nat):Int)) (some ((2 * i+2:Nat):Int))=some (.lst [.int (vs.getD (2 * i) 0),.int (vs.getD (2 * i+1) 0)]):=by
 show some (D.lst (cutD (vs.map .int) (some ((2 * i:Nat):Int)) (some ((2 * i+2:Nat):Int))))=_;unfold cutD;rw[HT.Kd,HT.Kd,jAd,jCv (by lia),jCv (by lia),show 2 * i+2 - 2 * i=2 by lia];have g:2 * i<(vs.map D.int).length:=by rw[jAd];lia
 have f:2 * i+1<(vs.map D.int).length:=by rw[jAd];lia
 rw[jBw g,jBw f];simp[jAi,show 2 * i<vs.length by lia,show 2 * i+1<vs.length by lia]
def weB:Ev->R Fl:=(X4 7 (bA (zv (bA (zv (bS (gv 6) (p1 (b2 (kd (.int 2)) (gv 8) Fd)) (p1 (b2 (b2 (kd (.int 2)) (gv 8) Fd) (kd (.int 2)) Bd)) slA) a0) Zg) (zv (bA (zv (bS (gv 6) (p1 (b2 (kd (.int 2)) (gv 8) Fd)) (p1 (b2 (b2 (kd (.int 2)) (gv 8) Fd) (kd (.int 2)) Bd)) slA) a0) Ze) a0)) De))
theorem wl0{o2 o3 o4 o5:Option D}(h:2 * i+2<=vs.length)(l:∀j,j<vs.length->0<=vs.getD j 0/\vs.getD j 0<m)(hl:ts.length<100):∃e:Nat×Nat,e.1<=e.2/\e.2<m /\
  weB [o0,o1,o2,o3,o4,o5,some (.lst (vs.map .int)),some (.lst (ts.map Dm)),some (.int (i:Int))]=.ok (.nx [o0,o1,o2,o3,o4,o5,some (.lst (vs.map .int)),some (.lst ((ts++[e]).map Dm)),some (.int (i:Int))]):=by
 have b1:=l (2 * i) (by lia);have f:=l (2 * i+1) (by lia);have⟨e,F,E,C⟩:=wq8 m (vs.getD (2 * i) 0) (vs.getD (2 * i+1) 0) b1.1 b1.2 f.1 f.2;have g:=wx9 h;have A:=yk5 (vs.getD (2 * i) 0) (vs.getD (2 * i+1) 0);have y:=top2 (vs.getD (2 * i) 0) (vs.getD (2 * i+1) 0);generalize vs.getD (2 * i) 0=u at *
 generalize vs.getD (2 * i+1) 0=v at *
 have o:Fd (.int 2) (.int (i:Int))=some (.int (2 * (i:Int))):=Ln (by decide) (by decide);rw[show((2 * i+2:Nat):Int)=2 * (i:Int)+2 by lia,show((2 * i:Nat):Int)=2 * (i:Int) by lia]at g;refine⟨e,F,E,?_⟩;have B:(ts.map Dm).length<16777216:=by rw[jAd];lia
 rw[jBc];generalize ts.map Dm=TS at *
 generalize vs.map D.int=G at *
 refine(kp5 (ds:=TS) (x:=Dm e) rfl ?_ B).trans rfl;simp[o,g,A,y,Gb,C]
theorem wy0(ns:List Int)(at_ p q:Nat)(ha:at_<=50)(hp:1<=p)(aa:p<=20)(hq:q<=20):∃n ts,(1<=n/\n<=p/\ts.length<=q/\∀e∈ts,e.1<=e.2/\e.2<n)/\Jl [.lst (ns.map .int),.int (at_:Int),.int (p:Int),.int (q:Int)]=.ok (Ak n ts):=by
 have⟨vs,Z,o⟩:=jw1 ns at_ (by lia) [(p:Int),(q:Int)+1] (by intro z G;simp at G;lia) (by simp);obtain⟨a,b,rfl,ae,ab⟩:∃a b,vs=[a,b]/\(0<=a/\a<p)/\(0<=b/\b<(q:Int)+1):=by
  match vs,Z with
  | [a,b],h=>exact⟨a,b,rfl,by simpa using h.2 0 (by simp),by simpa using h.2 1 (by simp)⟩
  | [],h=>exact absurd h.1 (by simp)
  | [_],h=>exact absurd h.1 (by simp)
  |_::_::_::_,h=>exact absurd h.1 (by simp)
 simp only[jAk,jEf]at o;obtain⟨A,rfl⟩:∃A:Nat,a=(A:Int):=⟨a.toNat,by lia⟩;obtain⟨B,rfl⟩:∃B:Nat,b=(B:Int):=⟨b.toNat,by lia⟩;have⟨vs,u,C⟩:=jw1 ns (at_+1) (by lia) (List.replicate (2 * B) ((A:Int)+1)) (by intro z G;rw[List.mem_replicate]at G;lia) (by rw[jDv];lia);have L:vs.length=2 * B:=by rw[u.1,jDv]
 have H:∀j,j<vs.length->0<=vs.getD j 0/\vs.getD j 0<((A+1:Nat):Int):=λj hj=>by have:=u.2 j (by rw[jDv];lia);rw[jAi (l:=List.replicate _ _),jEe,if_pos (by lia)]at this;simp only[jBs]at this;lia
 have Y:Fd (.int 2) (.int (B:Int))=some (.int (2 * (B:Int))):=Ln (by decide) (by decide);have U:jw0 (.lst [.int ((A:Int)+1)]) (.int (2 * (B:Int)))=some (.lst ((List.replicate (2 * B) ((A:Int)+1)).map .int)):=by
  have hc:-(2 ^ 63)<=2 * (B:Int)/\2 * (B:Int)<2 ^ 63/\[D.int ((A:Int)+1)].length * (2 * (B:Int)).toNat<=16777216:=by refine⟨by lia,by lia,?_⟩;simp;lia
  simp only[jw0];rw[if_pos hc,show(2 * (B:Int)).toNat=2 * B by lia];simp
 rw[show((at_+1:Nat):Int)=(at_:Int)+1 by lia]at C;generalize ns.map D.int=E at *
 generalize (List.replicate (2 * B) ((A:Int)+1)).map D.int=RP at *
 have⟨Q,el,y⟩:=Hl (g:=gN 8) (b:=weB) (I:=λj ρ=>j<=B->∃(ts:Ah)(F:Option D),ts.length=j/\(∀e∈ts,e.1<=e.2/\e.2<A+1)/\ρ=[some (.lst E),some (.int (at_:Int)),some (.int (p:Int)),some (.int (q:Int)),some (.int (A:Int)),some (.int (B:Int)),some (.lst (vs.map .int)),some (.lst (ts.map Dm)),F])
  (Ac (List.range B)) 0 [some (.lst E),some (.int (at_:Int)),some (.int (p:Int)),some (.int (q:Int)),some (.int (A:Int)),some (.int (B:Int)),some (.lst (vs.map .int)),some (.lst []),none] (λ_=>⟨[],none,rfl,by simp,rfl⟩) (λi d ρ x y=>by
   rw[Hc]at x;cases o:(List.range B)[i]? with
   |none=>rw[o]at x;cases x
   |some k =>
    rw[o]at x;cases x;have⟨h1,O⟩:=jAl.mp o;simp at O h1;subst O;rw[jCw]at y ⊢;obtain⟨ts,F,M,J,rfl⟩:=y (by lia);have⟨e,e1,e2,e3⟩:=wl0 (o0:=some (.lst E)) (o1:=some (.int (at_:Int))) (o2:=some (.int (p:Int))) (o3:=some (.int (q:Int))) (o4:=some (.int (A:Int))) (o5:=some (.int (B:Int))) (vs:=vs) (ts:=ts) (i:=i) (m:=A+1) (by lia) H (by lia);refine⟨_,_,jh9,.inl e3,λ_=>⟨ts++[e],_,by simp[M],λf hf=>?_,rfl⟩⟩;rcases jAq.mp hf with z |z
    ·exact J f z
    ·rw[jAh.mp z];exact⟨e1,e2⟩)
 rw[Av,jBb,jCw]at y;obtain⟨ts,F,M,J,rfl⟩:=y (jAg _);refine⟨A+1,ts,⟨by lia,by lia,by lia,J⟩,?_⟩;have et:De [.int ((A:Int)+1),.tup (ts.map Dm)]=some (Ak (A+1) ts):=(Gb (by simp)).trans (by rw[Ak,show((A+1:Nat):Int)=(A:Int)+1 by lia]);generalize Ak (A+1) ts=W at *
 generalize ts.map Dm=TS at *
 generalize vs.map D.int=VD at *
 refine Bb (Az (ρ1:=[some (.lst E),some (.int (at_:Int)),some (.int (p:Int)),some (.int (q:Int)),some (.int (A:Int)),some (.int (B:Int)),none,none,none]) (by simp[Af,O9,o]) (Az (Bo (d:=.lst VD) (by simp[O9,Y,U,C])) (Az (Bo (d:=.lst []) (by simp[O9])) (Az (Ni (ds:=Ac (List.range B)) (by simp[Wd (n:=B) (by lia)]) el) (Ba ?_)))));simp[et]
theorem kz6(T:List Tr):Du (T.map trD)=true:=by unfold Du;rw[jCb];refine .inr (jAw.mpr λd f=>?_);obtain⟨r,g,rfl⟩:=jAm.mp f;rfl
variable {U:List Tr}
theorem jo4(p:T.Perm U)(o:jq4 T)(l:jq4 U):T.map trD=U.map trD:=
 eq_of_sorted (le:=λa b=>Gy a b=true) (p.map trD) o l λa j b h g f=>by unfold Gy at g f;simp only[jCk]at g f;exact Vm (kz6 T) j h (Fp _ _ f g)
theorem Xw(f:k<=9)(j:km3 T)(tT:Hh k T)(g:km3 U)(l:Hh k U)(h:∀x y,(T.map (val x y)).sum=(U.map (val x y)).sum):T.map trD=U.map trD:=
 jo4 ((tT.tab f j.red).perm (l.tab f g.red) h) j.srt g.srt
theorem wa1(x:Int):Fx [.int x]=.ok (.bl true):=by refine Bb (Ba ?_);simp[Af,Yc]
theorem kz7(r:Tr):Fw [trD r]=.ok (.bl true):=by
 refine Bb (Ba ?_);have c:Ax (itS (gv 0)) 1 [] (gN 0) yes (cl (zv (gv 0) a0) Fx) (Af 1 [trD r])=.ok (.lst ([true,true,true].map .bl)):=by refine Dg (ds:=[.int r.1,.int r.2.1,.int r.2.2]) (by simp[Af,trD]) ?_ (by simp);rw[show [D.int r.1,.int r.2.1,.int r.2.2]=[r.1,r.2.1,r.2.2].map D.int from rfl,show [true,true,true].map D.bl=[r.1,r.2.1,r.2.2].map λ_=>D.bl true from rfl];refine Es [r.1,r.2.1,r.2.2] λx g=>?_;simp[Ed,wa1]
 have a:=Vu [true,true,true];have f:Wu "tuple" (trD r)=some (.bl true):=wq2.trans rfl;rw[yj6,yi3];generalize [true,true,true].map D.bl=X at *
 have c:Ax (itS (gv 0)) 1 [] (gN 0) yes (cl (zv (gv 0) a0) Fx) [some (trD r)]=.ok (.lst X):=c;have a:Q8 [.lst X]=some (.bl true):=a;simp[Af,f,c,a]
theorem kz1(T:List Tr)(hl:T.length<=1000):Ja [.lst (T.map trD)]=.ok (.bl true):=by
 have g:Wu "list" (.lst (T.map trD))=some (.bl true):=wq1.trans rfl;have a:Q8 [.lst ((T.map λ_=>true).map .bl)]=some (.bl true):=by rw[Vu];congr 2;rw[jAw];intro b h;obtain⟨r,_,rfl⟩:=jAm.mp h;rfl
 have c:Ax (itS (gv 0)) 1 [] (gN 0) yes (va (cl (zv (gv 0) a0) Fw) (b2 (bA (zv (gv 0) a0) Ci) (kd (.int 3)) eqD)) [some (.lst (T.map trD))]=.ok (.lst ((T.map λ_=>true).map .bl)):=by
  refine Dg (ds:=T.map trD) (by simp) ?_ (by simp only[jAd];lia);rw[jBe];refine Es T λr j=>?_;have t:=kz7 r;have l:Ci [trD r]=some (.int 3):=rfl;show _=R.ok (D.bl true);generalize trD r=f at *
  simp[Ed,t,l]
 generalize T.map trD=f at *
 generalize (T.map λ_=>true).map D.bl=X at *
 refine Bb (Az ((Lq (by simp[Af,g])).trans rfl) (Ba ?_));have c:Ax (itS (gv 0)) 1 [] (gN 0) yes (va (cl (zv (gv 0) a0) Fw) (b2 (bA (zv (gv 0) a0) Ci) (kd (.int 3)) eqD)) (Af 1 [.lst f])=.ok (.lst X):=c;simp[c,a]
theorem kx0(T:List Tr):(D.lst (T.map trD)).pl 2=true:=by show Ft 1 _=true;rw[Jf];intro d f;obtain⟨r,_,rfl⟩:=jAm.mp f;rfl
theorem Zt(hn:n<=60)(h:∀e∈ts,e.1<=e.2/\e.2<n)(f:Kn ts s):By [Ak n ts,Aa s]=.ok (.int ((n:Int) - (cN n ts s:Nat))):=O1 hn h f
variable {it:Ev->R (List D)}{caps:List Nat}
theorem Jt{p:Nat->Bool}{t:Ev->R Bool}{B:Ev}(hi:it ρ=.ok (Ac s))(h:Ed 1 caps ρ=none::B)(g:∀x∈s,t (some (.int (x:Int))::B)=.ok (p x))(hl:s.length<=100000):Ax it 1 caps (gN 0) t (gv 0) ρ=.ok (.lst (Ac (s.filter p))):=by refine Dg (ds:=Ac s) hi ?_ (by rw[Av];exact jBt (jBp _ _) (by lia));rw[h];unfold Ac;exact Ol s λx f=>⟨g x f,by simp⟩
theorem wt2(x k:Nat):neD (.int (x:Int)) (.int (k:Int))=some (.bl (decide (x≠k))):=by
 rw[wl8];refine congrArg (λz=>some (D.bl z)) ?_;by_cases h:x=k
 ·subst h;simp
 ·have:¬ (x:Int)=(k:Int):=by lia
  simp[h,this]
theorem kb0(hl:s.length<=1000):Fj [Aa s,.int (k:Int)]=.ok (Aa (wo s k)):=by
 have c:Ax (itS (gv 0)) 1 [1] (gN 0) (tb (b2 (gv 0) (gv 1) neD)) (gv 0) [some (Aa s),some (.int (k:Int))]=.ok (.lst (Ac (wo s k))):=
  Jt (B:=[some (.int (k:Int))]) (by simp[Aa]) rfl (λx _=>by simp only[kg2,Wb,gv0,yc2,R.ok_bind,wt2,R.of_some,kp9]) (by lia)
 refine Bb (Ba ?_);show bA _ _ [some (Aa s),some (.int (k:Int))]=_;rw[Qd,Lj,c];simp[Aa]
theorem we5{s:List Nat}{x:Nat}:inD (.int (x:Int)) (Aa s)=some (.bl (decide (x∈s))):=ka5 (l:=s) rfl decide_eq_true_iff
theorem kv1{s:List Nat}{x:Nat}:Ye (.int (x:Int)) (Aa s)=some (.bl (!decide (x∈s))):=jl0 (l:=s) rfl decide_eq_true_iff
variable {F:List Nat}
theorem kv9(hl:ts.length<=50):G8 [Ak n ts,Aa F]=.ok (Aa (restOf ts.length F)):=by
 have h:=all_eq n ts hl;have g:=@kv1 F;have c:Ax (itS (cl (zv (gv 0) a0) Bs)) 1 [1] (gN 0) (tb (b2 (gv 0) (gv 1) Ye)) (gv 0) [some (Ak n ts),some (Aa F)]=.ok (.lst (Ac (restOf ts.length F))):=by
  refine Jt (s:=List.range ts.length) (B:=[some (Aa F)]) ?_ rfl (λx _=>?_) (by rw[jBb];lia)
  ·have f:La (Aa (List.range ts.length))=some (Ac (List.range ts.length)):=rfl;generalize Aa (List.range ts.length)=j at *
   generalize Ak n ts=W at *
   simp[h,f]
  ·have:=g (x:=x);generalize Aa F=l at *
   simp[this]
 refine Bb (Ba ?_);show bA _ _ [some (Ak n ts),some (Aa F)]=_;rw[Qd,Lj,c];simp[Aa]
theorem jn8(h:s.Pairwise (·<·))(f:∀k∈s,k<m):(List.range m).filter (λk=>decide (k∈s))=s:=by refine eq_of_sorted (le:=λa b=>a<b) ((jBl (jDh.filter _) (h.imp λ{a b} z=>jAv z)).mpr λk=>?_) (List.Pairwise.filter _ jCp) h λa _ b _ j g=>absurd j (Nat.lt_asymm g);rw[jAj,jAt,decide_eq_true_iff];exact⟨λz=>z.2,λz=>⟨f k z,z⟩⟩
structure For(n:Nat)(ts:Ah)(F:List Nat):Prop where
 up:F.Pairwise (·<·)
 fo:Q6 n ts F
theorem wi3(s:List Nat):(Aa s).pl 1=true:=by show Ft 0 _=true;exact Jf.mpr (Vp _)
theorem Zj(ts:Ah):Bk ts (List.range ts.length)=ts:=by
 unfold Bk;apply jDf
 ·simp
 ·intro i g f;simp[f]
theorem Zq(hn:n<=50)(hl:ts.length<=50)(h:∀e∈ts,e.1<=e.2/\e.2<n)(g:For n ts F):Dp [Ak n ts,Aa F]=.ok .non:=by
 have I:=all_eq n ts hl;have j:=Zt (n:=n) (ts:=ts) (s:=List.range ts.length) (by lia) h λk G=>jAt.mp G;have l:=Zt (n:=n) (ts:=ts) (s:=F) (by lia) h g.fo.kn;have H:cN n ts (List.range ts.length)=cc n ts:=by unfold cN;rw[Zj]
 have fr:=g.fo.fr;have J:=g.fo.sp;unfold Fr at fr;rw[H]at j;have C:Ci [Aa F]=some (.int (F.length:Nat)):=by show some (D.int _)=_;rw[Av]
 have E:=@we5 F;have u:=jn8 (m:=ts.length) g.up g.fo.kn;have ne:=Te (n:=1) (by lia) (wi3 F);have e:J8 [Ak n ts,Aa F]=.ok (.bl true):=by
  have c:Ax (itS (gv 2)) 1 [1] (gN 0) (tb (b2 (gv 0) (gv 1) inD)) (gv 0) [some (Ak n ts),some (Aa F),some (Aa (List.range ts.length))]=.ok (.lst (Ac F)):=by
   have:=Jt (s:=List.range ts.length) (p:=λk=>decide (k∈F)) (it:=itS (gv 2)) (caps:=[1]) (t:=tb (b2 (gv 0) (gv 1) inD)) (ρ:=[some (Ak n ts),some (Aa F),some (Aa (List.range ts.length))]) (B:=[some (Aa F)]) (by simp[Aa]) rfl (λx _=>by
    have:=E (x:=x);generalize Aa F=f at *
    simp[this]) (by rw[jBb];lia)
   rw[u]at this;exact this
  have tF:Di [.lst (Ac F)]=some (Aa F):=Kq;have A:((F.length:Nat):Int)=(n:Int) - (cc n ts:Nat):=by lia
  have y:(n:Int) - (cN n ts F:Nat)=((F.length:Nat):Int):=by lia
  rw[<-A]at j;rw[y]at l;generalize Ac F=L at *
  generalize Ak n ts=W at *
  generalize Aa (List.range ts.length)=o at *
  generalize Aa F=f at *
  refine Bb (Az (Bo (d:=o) (by simp[Af,I])) (Az ((Lq ?_).trans rfl) (Ba ?_)))
  ·show tb (b2 (bA (zv (Ax (itS (gv 2)) 1 [1] (gN 0) (tb (b2 (gv 0) (gv 1) inD)) (gv 0)) a0) Di) (gv 1) neD) [some W,some f,some o]=_;rw[kg2,Wb,Qd,Lj,c];simp[tF,ne]
  ·simp[Af,C,j,l]
 generalize Ak n ts=W at *
 generalize Aa F=f at *
 show Cy 2 Ho [W,f]=_;rw[ja3,show Ho (Af 2 [W,f])=.ok (.nx (Af 2 [W,f])) from(Lq (by simp[Af,e])).trans rfl,jr8]
theorem Ly:k∈restOf m F↔k<m/\k∉F:=by unfold restOf;rw[jAj,jAt];simp
def mo(m:Nat)(F:List Nat)(t:Nat):List Nat:=(List.range m).filter λk=>decide (k∈F) ||decide (k=t)
theorem Qm{t:Nat}:k∈mo m F t↔k<m/\(k∈F\/k=t):=by unfold mo;rw[jAj,jAt,jCb,decide_eq_true_iff,decide_eq_true_iff]
def Hn(n:Nat)(ts:Ah)(F:List Nat)(t:Nat):List Nat:=(mo ts.length F t).filter λo=>decide (cN n ts (wo (mo ts.length F t) o)+F.length=n)
theorem jz2{c l:Nat}:decide ((n:Int) - (c:Nat)=((l:Nat):Int))=decide (c+l=n):=by rw[decide_eq_decide];lia
theorem ku7(m:Nat)(F:List Nat)(t:Nat):(mo m F t).length<=m:=by have:=jBp (λk=>decide (k∈F) ||decide (k=t)) (List.range m);rw[jBb]at this;exact this
theorem jt8(h:Kn ts s)(hn:s.Nodup):s.length<=ts.length:=by have:=Kz hn (m:=List.range ts.length) λk f=>jAt.mpr (h k f);rwa [jBb]at this
theorem jd5{t:Nat}(hn:n<=50)(hl:ts.length<=50)(h:∀e∈ts,e.1<=e.2/\e.2<n)(f:For n ts F)(E:t<ts.length)(g:t∉F):Hj [Ak n ts,Aa F,.int (t:Int)]=.ok (Aa (Hn n ts F t)):=by
 have J:=jt8 f.fo.kn f.fo.nd;have O:Bd (Aa F) (.tup [.int (t:Int)])=some (Aa (F++[t])):=(Qc (by rw[Av];simp;lia)).trans (by unfold Aa Ac;rw[jBc];rfl);have A:Dl [Aa (F++[t])]=some (.lst (Ac (mo ts.length F t))):=U8 (l:=F++[t]) (by simp;lia) (jDz.mpr ⟨f.fo.nd,by simp,λa I b H e=>g (by rw[jAh.mp H]at e;exact e ▸ I)⟩) (List.Pairwise.filter _ jCp) (λk=>by
  show k∈F++[t]↔k∈mo ts.length F t;rw[Qm,jAq,jAh];constructor
  ·rintro(z |rfl)
   ·exact⟨f.fo.kn k z,.inl z⟩
   ·exact⟨E,.inr rfl⟩
  ·exact λz=>z.2) rfl
 have C:Ci [Aa F]=some (.int (F.length:Nat)):=by show some (D.int _)=_;rw[Av]
 have c:Ax (itS (gv 3)) 1 [0,3,1] (gN 0) (tb (b2 (cl (zv (gv 1) (zv (cl (zv (gv 2) (zv (gv 0) a0)) Fj) a0)) By) (bA (zv (gv 3) a0) Ci) eqD)) (gv 0) [some (Ak n ts),some (Aa F),some (.int (t:Int)),some (Aa (mo ts.length F t))]=.ok (.lst (Ac (Hn n ts F t))):=by
  refine Jt (s:=mo ts.length F t) (B:=[some (Ak n ts),some (Aa (mo ts.length F t)),some (Aa F)]) (by simp[Aa]) rfl (λx _=>?_) (by have:=ku7 ts.length F t;lia);have M:=kb0 (s:=mo ts.length F t) (k:=x) (by have:=ku7 ts.length F t;lia);have L:=Zt (n:=n) (ts:=ts) (s:=wo (mo ts.length F t) x) (by lia) h λk G=>(Qm.mp (Dz.mp G).1).1;generalize Aa (wo (mo ts.length F t) x)=Y at *
  generalize Aa (mo ts.length F t)=j at *
  generalize Aa F=o at *
  generalize Ak n ts=W at *
  rw[<-jz2];simp[M,L,C]
 generalize Ak n ts=W at *
 have y:Di [.lst (Ac (mo ts.length F t))]=some (Aa (mo ts.length F t)):=Kq;have u:Di [.lst (Ac (Hn n ts F t))]=some (Aa (Hn n ts F t)):=Kq;generalize Ac (mo ts.length F t)=NM at *
 generalize Ac (Hn n ts F t)=NR at *
 generalize Aa (mo ts.length F t)=j at *
 generalize Aa (Hn n ts F t)=Z at *
 generalize Aa (F++[t])=Q at *
 generalize Aa F=o at *
 refine Bb (Az (Bo (d:=j) (by simp[Af,Gb,O,A,y])) (Ba ?_));show bA (zv (Ax (itS (gv 3)) 1 [0,3,1] (gN 0) (tb (b2 (cl (zv (gv 1) (zv (cl (zv (gv 2) (zv (gv 0) a0)) Fj) a0)) By) (bA (zv (gv 3) a0) Ci) eqD)) (gv 0)) a0) Di [some W,some o,some (.int (t:Int)),some j]=_;rw[Qd,Lj,c];simp[u]
theorem Xg{t:Nat}(y:InW n ts)(j:Q6 n ts F)(A:t<ts.length)(h:t∉F)(k:Nat):k∈Hn n ts F t↔k=t\/(k∈F/\Swp n ts F k t):=by
 unfold Hn;rw[jAj,Qm,decide_eq_true_iff];have u:Kn ts (wo (mo ts.length F t) k):=λx E=>(Qm.mp (Dz.mp E).1).1;have B:k∈F->cN n ts (wo (mo ts.length F t) k)=cN n ts (t::wo F k):=λg=>J5 y u λx=>by
  rw[Dz,Qm,jAe,Dz];constructor
  ·rintro⟨⟨G,o |o⟩,C⟩
   ·exact .inr ⟨o,C⟩
   ·exact .inl o
  ·rintro(z |z)
   ·exact⟨⟨z ▸ A,.inr z⟩,λe=>h (by rw[<-z,e];exact g)⟩
   ·exact⟨⟨j.kn x z.1,.inl z.1⟩,z.2⟩
 unfold Swp;constructor
 ·rintro⟨⟨l,g⟩,H⟩;rcases g with g |g
  ·have:=B g;exact .inr ⟨g,by lia⟩
  ·exact .inl g
 ·rintro(rfl | ⟨l,g⟩)
  ·refine⟨⟨A,.inr rfl⟩,?_⟩;have f:=j.fr;unfold Fr at f;have:cN n ts (wo (mo ts.length F k) k)=cN n ts F:=J5 y u λx=>by
    rw[Dz,Qm];constructor
    ·rintro⟨⟨_,z |z⟩,w⟩
     ·exact z
     ·exact absurd z w
    ·exact λz=>⟨⟨j.kn x z,.inl z⟩,λe=>h (e ▸ z)⟩
   lia
  ·have:=B l;exact⟨⟨j.kn k l,.inl l⟩,by lia⟩
theorem kc6{t:Nat}:Kn ts (Hn n ts F t):=λk f=>(Qm.mp (jAj.mp f).1).1
open Classical in
def Kh(ts:Ah)(F:List Nat)(t:Nat):List Nat:=(List.range ts.length).filter λo=>decide (¬ Bc (Bk ts (wo F t)) (eN ts o).1 (eN ts o).2)
def ot(m:Nat)(F:List Nat)(t:Nat):List Nat:=(List.range m).filter λk=>!decide (k∈F) ||decide (k=t)
theorem ku1{t:Nat}:k∈ot m F t↔k<m/\(k∉F\/k=t):=by unfold ot;rw[jAj,jAt,jCb,decide_eq_true_iff,jCk,decide_eq_false_iff_not]
variable {f:Nat}
theorem wk4{o:Nat}(g:InW n ts)(l:Kn ts F)(h:o<ts.length):cN n ts (wo F f++[o])=cN n ts (o::wo F f):=J5 g (λk j=>by
 rcases jAq.mp j with z |z
 ·exact l k (Dz.mp z).1
 ·rw[jAh.mp z];exact h) λk=>by rw[jAq,jAh,jAe,or_comm]
open Classical in
theorem ko9{t:Nat}(u:InW n ts)(x:Q6 n ts F)(l:t∈F):(ot ts.length F t).filter (λo=>decide (cN n ts (wo F t++[o])+F.length=n))=Kh ts F t:=by
 unfold ot Kh;rw[List.filter_filter];refine jEn λo g=>?_;have g:=jAt.mp g;have c:=wb6 u x (f:=t) (o:=o) l g;have e:=wk4 (f:=t) u x.kn g;rw[jDm,jBg,jCb,decide_eq_true_iff,decide_eq_true_iff,decide_eq_true_iff,<-c,jCk,decide_eq_false_iff_not,e];unfold Swp;rw[Dz];constructor
 ·rintro⟨j,h⟩;exact⟨λw=>h.elim (λz=>z w.1) w.2,j⟩
 ·rintro⟨j,h⟩;refine⟨h,?_⟩;by_cases w:o∈F
  ·exact .inr (jBf λq=>j ⟨w,q⟩)
  ·exact .inl w
theorem jh0{t:Nat}(hn:n<=50)(hl:ts.length<=50)(h:∀e∈ts,e.1<=e.2/\e.2<n)(j:For n ts F)(g:t∈F):Jo [Ak n ts,Aa F,.int (t:Int)]=.ok (Aa (Kh ts F t)):=by
 have L:InW n ts:=λe Q=>by have:=h e Q;lia
 have aa:=jt8 j.fo.kn j.fo.nd;have M:=j.fo.kn t g;have e1:=kb0 (s:=F) (k:=t) (by lia);have e2:=kv9 (n:=n) (F:=F) hl;have rl:=Xf ts.length F;have ad:Bd (Aa (restOf ts.length F)) (.tup [.int (t:Int)])=some (Aa (restOf ts.length F++[t])):=(Qc (by rw[Av];simp;lia)).trans (by unfold Aa Ac;rw[jBc];rfl);have G:Dl [Aa (restOf ts.length F++[t])]=some (.lst (Ac (ot ts.length F t))):=U8 (l:=restOf ts.length F++[t]) (by simp;lia) (jDz.mpr ⟨jDh.filter _,by simp,λa Z b Y e=>by
   rw[jAh.mp Y]at e;exact(Ly.mp Z).2 (e ▸ g)⟩) (List.Pairwise.filter _ jCp) (λk=>by
  show k∈restOf ts.length F++[t]↔k∈ot ts.length F t;rw[ku1,jAq,jAh,Ly];constructor
  ·rintro(z |rfl)
   ·exact⟨z.1,.inl z.2⟩
   ·exact⟨M,.inr rfl⟩
  ·rintro⟨C,o |o⟩
   ·exact .inl ⟨C,o⟩
   ·exact .inr o) rfl
 have I:Ci [Aa F]=some (.int (F.length:Nat)):=by show some (D.int _)=_;rw[Av]
 have ol:(ot ts.length F t).length<=ts.length:=by have:=jBp (λk=>!decide (k∈F) ||decide (k=t)) (List.range ts.length);rw[jBb]at this;exact this
 have c:Ax (itS (gv 4)) 1 [0,3,1] (gN 0) (tb (b2 (cl (zv (gv 1) (zv (b2 (gv 2) (bA (zv (gv 0) a0) De) Bd) a0)) By) (bA (zv (gv 3) a0) Ci) eqD)) (gv 0) [some (Ak n ts),some (Aa F),some (.int (t:Int)),some (Aa (wo F t)),some (.lst (Ac (ot ts.length F t)))]=.ok (.lst (Ac (Kh ts F t))):=by
  rw[<-ko9 L j.fo g];refine Jt (s:=ot ts.length F t) (B:=[some (Ak n ts),some (Aa (wo F t)),some (Aa F)]) (by simp) rfl (λx J=>?_) (by lia);have wl:=je8 j.fo.nd g;have a2:Bd (Aa (wo F t)) (.tup [.int (x:Int)])=some (Aa (wo F t++[x])):=(Qc (by rw[Av];simp;lia)).trans (by unfold Aa Ac;rw[jBc];rfl);have H:=Zt (n:=n) (ts:=ts) (s:=wo F t++[x]) (by lia) h λk O=>by
   rcases jAq.mp O with z |z
   ·exact j.fo.kn k (Dz.mp z).1
   ·rw[jAh.mp z];exact(ku1.mp J).1
  generalize Aa (wo F t++[x])=SX at *
  generalize Aa (wo F t)=u at *
  generalize Aa F=A at *
  generalize Ak n ts=W at *
  rw[<-jz2];simp[Gb,a2,H,I]
 have E:Di [.lst (Ac (Kh ts F t))]=some (Aa (Kh ts F t)):=Kq;generalize Ac (Kh ts F t)=NC at *
 generalize Aa (Kh ts F t)=SC at *
 generalize Ac (ot ts.length F t)=y at *
 generalize Aa (restOf ts.length F++[t])=ab at *
 generalize Aa (restOf ts.length F)=SR at *
 generalize Aa (wo F t)=u at *
 generalize Aa F=A at *
 generalize Ak n ts=W at *
 refine Bb (Az (Bo (d:=u) (by simp[Af,e1])) (Az (Bo (d:=.lst y) (by simp[Af,e2,Gb,ad,G])) (Ba ?_)));show bA (zv (Ax (itS (gv 4)) 1 [0,3,1] (gN 0) (tb (b2 (cl (zv (gv 1) (zv (b2 (gv 2) (bA (zv (gv 0) a0) De) Bd) a0)) By) (bA (zv (gv 3) a0) Ci) eqD)) (gv 0)) a0) Di [some W,some A,some (.int (t:Int)),some u,some (.lst y)]=_;rw[Qd,Lj,c];simp[E]
def Bh(m:Nat):List (List Nat):=(List.range (2 ^ m)).map (bits m)
theorem Jy(m:Nat):Bh (m+1)=Bh m++(Bh m).map (·++[m]):=by unfold Bh;rw[show 2 ^ (m+1)=2 ^ m+2 ^ m by rw[jHc];lia,jIa,jBc,jBe,jBe];rw[jBy λk g=>jy4 (jAt.mp g)];refine congrArg _ (jBy λk g=>jy3 (jAt.mp g))
theorem Jg(m:Nat):(Bh m).length=2 ^ m:=by unfold Bh;rw[jAd,jBb]
theorem Jh(h:s∈Bh m):s.length<=m/\∀k∈s,k<m:=by unfold Bh at h;obtain⟨k,_,rfl⟩:=jAm.mp h;unfold bits;refine⟨?_,λk g=>jAt.mp (jAj.mp g).1⟩;have:=jBp (λt=>decide (k / 2 ^ t % 2=1)) (List.range m);rw[jBb]at this;exact this
theorem Jz:Bh 0=[[]]:=by decide
theorem jw5(m:Nat):∃r,Bh m=[]::r:=by
 induction m with
 |zero=>exact⟨[],Jz⟩
 |succ m g =>
  obtain⟨r,e⟩:=g
  refine⟨r++(Bh m).map (·++[m]),?_⟩
  rw[Jy]
  conv=>lhs;arg 1;rw[e]
  rfl
theorem W6{j o:Type}{f:j->o}:∀{l:List o}{m:List j},l.Perm (m.map f)->∃g:List j,g.Perm m/\l=g.map f
 | [],m,h=>by have:=List.map_eq_nil_iff.mp (List.nil_perm.mp h);subst this;exact⟨[],.nil,rfl⟩
 |b::l,m,h=>by obtain⟨a,x,rfl⟩:=jAm.mp (h.mem_iff.mp jAf);obtain⟨s,t,rfl⟩:=List.append_of_mem x;have y:(f a::l).Perm (f a::(s++t).map f):=h.trans (by rw[jBc,jBc,jAk];exact jGg);have⟨g,u,e⟩:=W6 (List.Perm.cons_inv y);exact⟨a::g,(u.cons a).trans jGg.symm,by rw[e];rfl⟩
theorem Ub(s:List Nat):Hq (Aa s)=true:=by show(Ay (Ac s)).isSome=true;rw[Qh];rfl
theorem yl9(h:m<=6):sortedZ [.lst ((Bh m).map Aa)]=some (.lst (srt ((Bh m).map Aa))):=by
 have j:((Bh m).map Aa).length<=100000:=by rw[jAd,Jg];exact jBt (jEa (by lia) h) (by decide)
 have l:((Bh m).map Aa).length<2\/X3 ((Bh m).map Aa)=true:=by right;have⟨r,e⟩:=jw5 m;rw[e];show(r.map Aa).all Hq=true;rw[jAw];intro d o;obtain⟨s,_,rfl⟩:=jAm.mp o;exact Ub s
 generalize (Bh m).map Aa=L at *
 show(if _ then _ else _)=_;rw[if_pos ⟨j,l⟩];by_cases g:L.length<2
 ·rw[if_pos g,Ul g]
 ·rw[if_neg g]
theorem kt7{a b:List Nat}(h:Gy (Aa a) (Aa b)=true)(g:Gy (Aa b) (Aa a)=true):Aa a=Aa b:=by unfold Gy at h g;rw[jCk]at h g;exact jm9 (Ub a) (Ub b) (Fp _ _ g h)
theorem kl1(m:Nat):∃g:List (List Nat),g.Perm (Bh m)/\srt ((Bh m).map Aa)=g.map Aa/\∀p:List Nat->Bool,(g.filter p).map Aa=srt (((Bh m).filter p).map Aa):=by have⟨g,j,e⟩:=W6 (f:=Aa) (El ((Bh m).map Aa));refine⟨g,j,e,λp=>?_⟩;have h:=Fv ((Bh m).map Aa);rw[e,jEk]at h;refine eq_of_sorted (le:=λa b=>Gy a b=true) (((j.filter p).map Aa).trans (El _).symm) (jEk.mpr (h.filter p)) (Fv _) λa o b l A u=>?_;obtain⟨x,_,rfl⟩:=jAm.mp o;obtain⟨y,_,rfl⟩:=jAm.mp l;exact kt7 A u
def asB:Ev->R Fl:=asg 1 (b2 (gv 1) (Ax (itS (gv 1)) 1 [2] (gN 0) yes (b2 (gv 0) (bA (zv (gv 1) a0) De) Bd)) Bd)
theorem wa8(hi:i<=6):asB [o0,some (.lst ((Bh i).map Aa)),some (.int (i:Int))]=.ok (.nx [o0,some (.lst ((Bh (i+1)).map Aa)),some (.int (i:Int))]):=by
 have l:2 ^ i<=64:=jEa (n:=2) (by decide) hi;have c:Ax (itS (gv 1)) 1 [2] (gN 0) yes (b2 (gv 0) (bA (zv (gv 1) a0) De) Bd) [o0,some (.lst ((Bh i).map Aa)),some (.int (i:Int))]=.ok (.lst ((Bh i).map λs=>Aa (s++[i]))):=by
  refine Dg (ds:=(Bh i).map Aa) (by generalize (Bh i).map Aa=L;simp) ?_ (by rw[jAd,Jg];lia);refine Es (Bh i) λs g=>?_;have j:=(Jh g).1;have h:Bd (Aa s) (.tup [.int (i:Int)])=some (Aa (s++[i])):=(Qc (by rw[Av];simp;lia)).trans (by unfold Aa Ac;rw[jBc];rfl);generalize Aa (s++[i])=o at *
  generalize Aa s=u at *
  simp[Ed,Gb,h]
 have e:Bd (.lst ((Bh i).map Aa)) (.lst ((Bh i).map λs=>Aa (s++[i])))=some (.lst ((Bh (i+1)).map Aa)):=(kp4 (by rw[jAd,jAd,Jg];lia)).trans (by rw[Jy,jBc,jBe];rfl);generalize (Bh i).map Aa=y at *
 generalize (Bh (i+1)).map Aa=x at *
 generalize ((Bh i).map λs=>Aa (s++[i]))=L2 at *
 refine Bo ?_;rw[Wb,c];simp[e]
theorem wj7(hl:ts.length<=6):Jm [Ak n ts]=.ok (.lst (srt ((Bh ts.length).map Aa))):=by
 have G:=all_eq n ts (by lia);have sz:=yl9 hl;have⟨A,E,l⟩:=Hl (g:=gN 2) (b:=asB) (I:=λj ρ=>j<=ts.length->∃u,ρ=[some (Ak n ts),some (.lst ((Bh j).map Aa)),u])
  (Ac (List.range ts.length)) 0 [some (Ak n ts),some (.lst [Aa []]),none] (λ_=>⟨none,by rw[Jz];rfl⟩) (λi d ρ h l=>by
   rw[Hc]at h;cases x:(List.range ts.length)[i]? with
   |none=>rw[x]at h;cases h
   |some k =>
    rw[x]at h;cases h;have⟨C,y⟩:=jAl.mp x;simp at y C;subst y;rw[jCw]at l ⊢;obtain⟨u,rfl⟩:=l (by lia);exact⟨_,_,jh9,.inl (wa8 (by lia)),λ_=>⟨_,rfl⟩⟩)
 rw[Av,jBb,jCw]at l;obtain⟨u,rfl⟩:=l (jAg _);have B:D.tup []=Aa []:=rfl;have o:La (Aa (List.range ts.length))=some (Ac (List.range ts.length)):=rfl;generalize Ac (List.range ts.length)=H at *
 generalize Aa (List.range ts.length)=J at *
 generalize (Bh ts.length).map Aa=L at *
 generalize srt L=M at *
 generalize Ak n ts=W at *
 refine Bb (Az (Bo (d:=.lst [Aa []]) (by simp[Gb,O9,B])) (Az (Ni (ds:=H) (by simp[Af,G,o]) E) (Ba (by simp[sz]))))
def isF(n:Nat)(ts:Ah)(s:List Nat):Bool:=decide (((s.length:Nat):Int)=(n:Int) - (cc n ts:Nat)) && decide ((n:Int) - (cc n (Bk ts s):Nat)=(n:Int) - (cc n ts:Nat))
theorem Nm(s:List Nat):Ci [Aa s]=some (.int (s.length:Nat)):=by show some (D.int _)=_;rw[Av]
theorem wf4{L:List (List Nat)}{d:List D->R D}(hi:it ρ=.ok (L.map Aa))(o:Ed 1 caps ρ=[none,some (.int ((n:Int) - (cc n ts:Nat))),some (Ak n ts)])(l:∀s∈L,d [Ak n ts,Aa s]=.ok (.int ((n:Int) - (cc n (Bk ts s):Nat))))(hl:L.length<=100000):
  Ax it 1 caps (gN 0) (tan (tb (b2 (bA (zv (gv 0) a0) Ci) (gv 1) eqD)) (tb (b2 (cl (zv (gv 2) (zv (gv 0) a0)) d) (gv 1) eqD))) (gv 0) ρ=.ok (.lst ((L.filter (isF n ts)).map Aa)):=by
 refine Dg hi ?_ (by rw[jAd];exact jBt (jBp _ _) (by lia));rw[o];refine Ol L λs j=>⟨?_,by simp⟩;have h:=l s j;have g:=Nm s;unfold isF;generalize Aa s=y at *
 generalize Ak n ts=W at *
 generalize (n:Int) - (cc n ts:Nat)=w at *
 generalize (n:Int) - (cc n (Bk ts s):Nat)=v at *
 generalize x:((s.length:Nat):Int)=u at *
 by_cases z:u=w
 ·simp[h,g,jz5,z]
 ·simp[h,g,jz5,z]
theorem js0(hn:n<=50)(hl:ts.length<=6)(h:∀e∈ts,e.1<=e.2/\e.2<n):Fy [Ak n ts]=.ok (.lst (srt (((Bh ts.length).filter (isF n ts)).map Aa))):=by
 have A:=all_eq n ts (by lia);have j:=Zt (n:=n) (ts:=ts) (s:=List.range ts.length) (by lia) h λk y=>jAt.mp y;unfold cN at j;rw[Zj]at j;have o:=wj7 (n:=n) hl;have⟨l,u,e,k⟩:=kl1 ts.length;rw[e]at o;have g:l.length<=100000:=by rw[u.length_eq,Jg];exact jBt (jEa (by lia) hl) (by decide)
 have c:=wf4 (n:=n) (ts:=ts) (L:=l) (it:=itS (cl (zv (gv 0) a0) Jm)) (caps:=[1,0]) (ρ:=[some (Ak n ts),some (.int ((n:Int) - (cc n ts:Nat)))]) (d:=By) (by
  generalize l.map Aa=C at *
  generalize Ak n ts=W at *
  simp[o]) rfl (λs x=>Zt (by lia) h (Jh (u.mem_iff.mp x)).2) g
 rw[k]at c;generalize srt (((Bh ts.length).filter (isF n ts)).map Aa)=SS at *
 generalize Aa (List.range ts.length)=B at *
 generalize Ak n ts=W at *
 refine Bb (Az (Bo (d:=.int ((n:Int) - (cc n ts:Nat))) (by simp[Af,A,j])) (Ba c))
variable {j:Nat}
theorem ya5{l g:Ev->R D}{d:D}(h:ρ[i]? = some (some (.lst ds)))(x:l ρ=.ok (.int (Int.ofNat j)))(u:g ρ=.ok d)(y:j<=ds.length)(o:ds.length<16777216):kh6 i l g ρ=.ok (.nx (ρ.set i (some (.lst (ds.take j++d::ds.drop j))))):=by unfold kh6;rw[h];dsimp only;rw[x,R.ok_bind,u,R.ok_bind];show(if j<=ds.length/\ds.length<16777216 then _ else _)=_;rw[if_pos ⟨y,o⟩]
variable {l:List Nat}
theorem kj7:(Ac l).take j++.int (k:Int)::(Ac l).drop j=Ac (l.take j++k::l.drop j):=by unfold Ac;rw[jBc,jAk,jFe,jFd]
theorem kw6(h:Ca k l):Ca (k+1) (l.take j++k::l.drop j):=by
 have g:(l.take j++k::l.drop j).Perm (k::l):=by have:=jGg (a:=k) (l₁:=l.take j) (l₂:=l.drop j);rw[jBm]at this;exact this
 refine⟨by rw[g.length_eq,jAy,h.len],g.nodup_iff.mpr (jBj.mpr ⟨λz=>by have:=h.lt k z;lia,h.nd⟩),λx o=>?_⟩;rcases jAe.mp (g.mem_iff.mp o) with z |z
 ·lia
 ·have:=h.lt x z;lia
def orB:Ev->R Fl:=kh6 3 (b2 (gv 4) (gv 5) ixD) (gv 5)
theorem order_eq(ns:List Int)(at_ m:Nat)(ha:at_<=50)(hm:m<=50):∃h,Ca m h/\En [.lst (ns.map .int),.int (at_:Int),.int (m:Int)]=.ok (.lst (Ac h)):=by
 obtain⟨vs,E,er⟩:=jw1 ns at_ (by lia) ((List.range m).map λ(k:Nat)=>(k:Int)+1) (λz C=>by
  obtain⟨k,G,rfl⟩:=jAm.mp C;have:=jAt.mp G;lia) (by rw[jAd,jBb];lia)
 have vl:vs.length=m:=by have:=E.1;rw[jAd,jBb]at this;exact this
 have Y:∀i,i<m->0<=vs.getD i 0/\vs.getD i 0<(i:Int)+1:=λi J=>by have:=E.2 i (by rw[jAd,jBb];exact J);rw[show((List.range m).map λ(k:Nat)=>(k:Int)+1).getD i 0=(i:Int)+1 by rw[jAi,jBa,List.getElem?_range J];rfl]at this;exact this
 have c:Ax (itR Ph (zv (gv 2) a0)) 1 [] (gN 0) yes (b2 (gv 0) (kd (.int 1)) Bd) [some (.lst (ns.map .int)),some (.int (at_:Int)),some (.int (m:Int)),some (.lst []),none,none]=.ok (.lst (((List.range m).map λ(k:Nat)=>(k:Int)+1).map .int)):=by refine Dg (ds:=Ac (List.range m)) (by generalize ns.map D.int=B at *;simp[Wd (n:=m) (by lia)]) ?_ (by simp;lia);unfold Ac;rw[jBe];refine Es (List.range m) λk G=>?_;simp[Ed]
 have⟨Q,el,u⟩:=Hl (g:=gN 5) (b:=orB) (I:=λj ρ=>j<=m->∃(h:List Nat)(y:Option D),Ca j h/\ρ=[some (.lst (ns.map .int)),some (.int (at_:Int)),some (.int (m:Int)),some (.lst (Ac h)),some (.lst (vs.map .int)),y])
  (Ac (List.range m)) 0 [some (.lst (ns.map .int)),some (.int (at_:Int)),some (.int (m:Int)),some (.lst []),some (.lst (vs.map .int)),none] (λ_=>⟨[],none,⟨rfl,jEo,by simp⟩,rfl⟩) (λi d ρ o u=>by
   rw[Hc]at o;cases A:(List.range m)[i]? with
   |none=>rw[A]at o;cases o
   |some j =>
    rw[A]at o;cases o;have⟨M,L⟩:=jAl.mp A;simp at L M;subst L;rw[jCw]at u ⊢;obtain⟨h,y,x,rfl⟩:=u (by lia);have hb:=Y i M;obtain⟨j,H⟩:∃j:Nat,(j:Int)=vs.getD i 0:=⟨(vs.getD i 0).toNat,by lia⟩;have ix:ixD (.lst (vs.map .int)) (.int (i:Int))=some (.int (Int.ofNat j)):=Y4 (i:=i) (by
     rw[jBa,jAa (by lia)];rw[jAi,jAa (by lia),jBs]at H;rw[<-H];rfl)
    have hl:=x.len;have es:orB [some (.lst (ns.map .int)),some (.int (at_:Int)),some (.int (m:Int)),some (.lst (Ac h)),some (.lst (vs.map .int)),some (.int (i:Int))]=.ok (.nx [some (.lst (ns.map .int)),some (.int (at_:Int)),some (.int (m:Int)),some (.lst (Ac (h.take j++i::h.drop j))),some (.lst (vs.map .int)),some (.int (i:Int))]):=by
     have Z:=kj7 (l:=h) (j:=j) (k:=i);have C:=Av h;generalize Ac (h.take j++i::h.drop j)=N2 at *
     generalize Ac h=NS at *
     generalize vs.map D.int=O at *
     generalize ns.map D.int=B at *
     exact(ya5 (ds:=NS) (j:=j) (d:=.int (i:Int)) rfl (by simp[ix]) (by simp) (by lia) (by lia)).trans (by rw[Z];rfl)
    exact⟨_,_,jh9,.inl es,λ_=>⟨_,_,kw6 x,rfl⟩⟩)
 rw[Av,jBb,jCw]at u;obtain⟨h,y,x,rfl⟩:=u (jAg _);refine⟨h,x,?_⟩;generalize ((List.range m).map λ(k:Nat)=>(k:Int)+1).map D.int=ZS at *
 generalize vs.map D.int=O at *
 generalize ns.map D.int=B at *
 refine Bb (Az (Bo (d:=.lst []) (by simp[O9])) (Az (Bo (d:=.lst O) ?_) (Az (Ni (ds:=Ac (List.range m)) (by simp[Af,Wd (n:=m) (by lia)]) el) (Ba (by simp)))));show cl (zv (gv 0) (zv (gv 1) (zv (Ax (itR Ph (zv (gv 2) a0)) 1 [] (gN 0) yes (b2 (gv 0) (kd (.int 1)) Bd)) a0))) Fe [some (.lst B),some (.int (at_:Int)),some (.int (m:Int)),some (.lst []),none,none]=_;rw[ya3,Lj,Lj,Lj,c];simp[er]
def Jd(o C:List Nat):Nat:=(o.find? λk=>decide (k∈C)).getD 0
variable {o C:List Nat}
theorem Y7(B:Ca m o)(H:∀k∈C,k<m)(u:C≠[]):Jd o C∈C/\Jd o C∈o/\∀c∈C,o.idxOf (Jd o C)<=o.idxOf c:=by
 have⟨A,g⟩:=List.exists_mem_of_ne_nil C u;cases e:o.find? λk=>decide (k∈C) with
 |none=>have:=List.find?_eq_none.mp e A (B.all A (H A g));exact absurd (decide_eq_true g) this
 |some x =>
  have M:Jd o C=x:=by unfold Jd;rw[e];rfl
  rw[M];obtain⟨h,as,bs,rfl,G⟩:=List.find?_eq_some_iff_append.mp e;have h:=of_decide_eq_true h;have J:x∉as:=λz=>by have:=G x z;simp[h]at this
  have ix:(as++x::bs).idxOf x=as.length:=by rw[List.idxOf_append,if_neg J];simp
  refine⟨h,by simp,λc E=>?_⟩;rw[ix];refine jHk λz=>?_;have L:c∈as++x::bs:=B.all c (H c E);have y:(as++x::bs).idxOf c<(as++x::bs).length:=jCh L;have I:=jDt y;rw[List.getElem_append_left z]at I;have O:c∈as:=by rw[<-I];exact jBi _
  have:=G c O;simp[E]at this
theorem jj4{k:Nat}:∀(o:List Nat),(o.map λ(x:Nat)=>(x:Int)).idxOf (k:Int)=o.idxOf k
 | []=>rfl
 |x::o=>by
  rw[jAk,jHv,jHv,jj4 o];have g:(((x:Int) == (k:Int)):Bool)=(x == k):=by rw[jDm,beq_iff_eq,beq_iff_eq];lia
  rw[g]
theorem keys_eq{o:List Nat}{B:Ev}(g:∀n:Int,B.set 0 (some (.int n))=[some (.int n),some (.lst (Ac o))]):∀(C:List Nat),(∀k∈C,k∈o)->Ka (Wn (gv 1) (gv 0)) B (C.map λ(k:Nat)=>(k:Int))=.ok (C.map λk=>((o.idxOf k:Nat):Int))
 | [],_=>rfl
 |k::C,h=>by
  have y:=h k jAf;have A:Wn (gv 1) (gv 0) [some (.int (k:Int)),some (.lst (Ac o))]=.ok (.int ((o.idxOf k:Nat):Int)):=by have e:=wq0 (f1:=gv 1) (f2:=gv 0) (ρ:=[some (.int (k:Int)),some (.lst (Ac o))]) (ns:=o.map λ(x:Nat)=>(x:Int)) (k:=(k:Int)) (by simp[Ac,jBe]) (by simp) (jAm.mpr ⟨k,y,rfl⟩);rw[e,jj4]
  show(Wn (gv 1) (gv 0) (B.set 0 (some (.int (k:Int))))).bind _=_;rw[g,A,R.ok_bind];show(Ka (Wn (gv 1) (gv 0)) B (C.map λ(k:Nat)=>(k:Int))).bind _=_;rw[keys_eq g C λx u=>h x (jAb _ u)];rfl
theorem ji3(E:Ca m o)(G:∀k∈C,k<m)(u:C≠[]):Ff [.lst (Ac o),Aa C]=.ok (.int (Jd o C:Nat)):=by
 have⟨J,f2,I⟩:=Y7 E G u;have A:=keys_eq (o:=o) (B:=[none,some (.lst (Ac o))]) (λn=>rfl) C λk Q=>E.all k (G k Q);have hi:C.idxOf (Jd o C)<C.length:=jCh J;have kl:(C.map λk=>((o.idxOf k:Nat):Int)).length=C.length:=jAd ..;have at_:∀j (H:j<C.length),(C.map λk=>((o.idxOf k:Nat):Int))[j]'(by rw[kl];exact H)=((o.idxOf C[j]:Nat):Int):=λj H=>by rw[jGe]
 have M:(λk=>(C.map λk=>((o.idxOf k:Nat):Int)).all λj=>decide (k<=j)) ((o.idxOf (Jd o C):Nat):Int)=true:=by show(C.map λk=>((o.idxOf k:Nat):Int)).all (λj=>decide (((o.idxOf (Jd o C):Nat):Int)<=j))=true;rw[jAw];intro z L;obtain⟨c,x,rfl⟩:=jAm.mp L;have:=I c x;exact decide_eq_true (by lia)
 have h:((o.idxOf (Jd o C):Nat):Int)∈C.map λk=>((o.idxOf k:Nat):Int):=jAm.mpr ⟨_,J,rfl⟩;have g:mnI (C.map λk=>((o.idxOf k:Nat):Int))<C.length:=by rw[<-kl];exact List.findIdx_lt_length_of_exists ⟨_,h,M⟩
 have em:C[mnI (C.map λk=>((o.idxOf k:Nat):Int))]=Jd o C:=by
  have q:=List.findIdx_getElem (w:=by rw[kl];exact g) (p:=λk=>(C.map λk=>((o.idxOf k:Nat):Int)).all λj=>decide (k<=j)) (xs:=C.map λk=>((o.idxOf k:Nat):Int));have q:=of_decide_eq_true (jAw.mp q _ h);have e:(C.map λk=>((o.idxOf k:Nat):Int))[mnI (C.map λk=>((o.idxOf k:Nat):Int))]'(by rw[kl];exact g)<=((o.idxOf (Jd o C):Nat):Int):=q;rw[at_ _ g]at e;have x:=jBi g;have:=I _ x;have ei:o.idxOf C[mnI (C.map λk=>((o.idxOf k:Nat):Int))]=o.idxOf (Jd o C):=by lia
  have O:=E.all _ (G _ x);have g1:=jDt (jCh O);have Z:=jDt (jCh f2);rw[<-g1,<-Z];congr 1
 have Y:Ed 1 [0] [some (.lst (Ac o)),some (Aa C)]=[none,some (.lst (Ac o))]:=rfl;refine Bb (Ba ?_);show mkD (gv 1) [0] (Wn (gv 1) (gv 0)) [some (.lst (Ac o)),some (Aa C)]=_;unfold mkD;show(match Ay (Ac C) with |some y=>if y=[] then R.bad else((Ka (Wn (gv 1) (gv 0)) (Ed 1 [0] [some (.lst (Ac o)),some (Aa C)]) y).bind λA=>.ok (D.int (y.getD (mnI A) 0))).nox |none=>.bad)=_;rw[Qh];show(if _ then _ else _)=_;rw[if_neg (by simpa using u),Y,A];show R.ok (D.int _)=_;rw[jAi,jBa,jAa g,em];rfl
theorem W5(hl:ts.length<=50)(A:Ca ts.length o):Cp [Ak n ts,.lst (Ac o)]=.ok .non:=by
 have I:=all_eq n ts hl;have c:Ax (itS (gv 2)) 1 [1] (gN 0) yes (b2 (gv 0) (gv 1) inD) [some (Ak n ts),some (.lst (Ac o)),some (Aa (List.range ts.length))]=.ok (.lst (((List.range ts.length).map λ_=>true).map .bl)):=by
  refine Dg (ds:=Ac (List.range ts.length)) (by generalize Ak n ts=W at *;generalize Ac o=g at *;simp[Aa]) ?_ (by simp;lia);unfold Ac;rw[jBe];refine Es (List.range ts.length) λx G=>?_;have h:inD (.int (x:Int)) (.lst (Ac o))=some (.bl true):=ka5 (l:=o) rfl (by simp;exact A.all x (jAt.mp G));have h:inD (.int (x:Int)) (.lst (List.map (λ(k:Nat)=>D.int (k:Int)) o))=some (.bl true):=h;generalize List.map (λ(k:Nat)=>D.int (k:Int)) o=g at *
  simp[Ed,h]
 have u:Q8 [.lst (((List.range ts.length).map λ_=>true).map .bl)]=some (.bl true):=by rw[Vu];refine congrArg (λz=>some (D.bl z)) ?_;rw[jAw];intro b H;obtain⟨r,_,rfl⟩:=jAm.mp H;rfl
 have E:Ci [.lst (Ac o)]=some (.int (ts.length:Nat)):=by show some (D.int _)=_;rw[Av,A.len]
 have B:Ci [Aa (List.range ts.length)]=some (.int (ts.length:Nat)):=by show some (D.int _)=_;rw[Av,jBb]
 generalize ((List.range ts.length).map λ_=>true).map D.bl=J at *
 generalize Aa (List.range ts.length)=y at *
 generalize Ac o=g at *
 generalize Ak n ts=W at *
 show Cy 3 Jp [W,.lst g]=_;rw[ja3,show Jp (Af 3 [W,.lst g])=.ok (.nx [some W,some (.lst g),some y]) from Az (Bo (d:=y) (by simp[Af,I])) ((Lq ?_).trans rfl),jr8];show tor _ (nt (tt (bA (zv (Ax (itS (gv 2)) 1 [1] (gN 0) yes (b2 (gv 0) (gv 1) inD)) a0) Q8))) [some W,some (.lst g),some y]=_;rw[wl9,yb2,yj5,Qd,Lj,c];simp[E,B,u,wl8]
def Bm(ts:Ah)(o F:List Nat):List Nat:=F.filter λt=>decide (t=Jd o (Kh ts F t))
def Bl(n:Nat)(ts:Ah)(o F:List Nat):List Nat:=(restOf ts.length F).filter λt=>decide (t=Jd o (Hn n ts F t))
theorem kq0(x k:Nat):eqD (.int (x:Int)) (.int (k:Int))=some (.bl (decide (x=k))):=by
 rw[jz5];refine congrArg (λz=>some (D.bl z)) ?_;by_cases h:x=k
 ·subst h;simp
 ·have:¬ (x:Int)=(k:Int):=by lia
  simp[h,this]
open Classical in
theorem jg9{t:Nat}(u:InW n ts)(g:For n ts F)(h:t∈F):t∈Kh ts F t:=by unfold Kh;rw[jAj,jAt,decide_eq_true_iff];exact⟨g.fo.kn t h,(ji6 u g.fo.kn g.fo.nd h g.fo.fr).2⟩
open Classical in
theorem ko8{t:Nat}:∀k∈Kh ts F t,k<ts.length:=λk g=>by unfold Kh at g;exact jAt.mp (jAj.mp g).1
theorem inw(h:∀e∈ts,e.1<=e.2/\e.2<n):InW n ts:=λe g=>by have:=h e g;lia
theorem Zr{t:Nat}(h:InW n ts)(x:For n ts F)(u:t<ts.length)(g:t∉F):t∈Hn n ts F t:=(Xg h x.fo u g t).mpr (.inl rfl)
theorem Rv(hn:n<=50)(hl:ts.length<=50)(h:∀e∈ts,e.1<=e.2/\e.2<n)(g:For n ts F)(H:Ca ts.length o):Fi [Ak n ts,.lst (Ac o),Aa F]=.ok (Aa (Bm ts o F)):=by
 have I:=jt8 g.fo.kn g.fo.nd;have c:Ax (itS (gv 2)) 1 [1,0,2] (gN 0) (tb (b2 (gv 0) (cl (zv (gv 1) (zv (cl (zv (gv 2) (zv (gv 3) (zv (gv 0) a0))) Jo) a0)) Ff) eqD)) (gv 0) [some (Ak n ts),some (.lst (Ac o)),some (Aa F)]=.ok (.lst (Ac (Bm ts o F))):=by
  refine Jt (s:=F) (p:=λt=>decide (t=Jd o (Kh ts F t))) (B:=[some (.lst (Ac o)),some (Ak n ts),some (Aa F)]) (by generalize Ak n ts=W at *;generalize Ac o=u at *;simp[Aa]) rfl (λx A=>?_) (by lia);have M:=jh0 hn hl h g A;have L:=ji3 H (C:=Kh ts F x) ko8 (jFq (jg9 (inw h) g A));have J:=kq0 x (Jd o (Kh ts F x));generalize decide (x=Jd o (Kh ts F x))=q at *
  generalize Jd o (Kh ts F x)=y at *
  generalize Aa (Kh ts F x)=Q at *
  generalize Aa F=E at *
  generalize Ac o=u at *
  generalize Ak n ts=W at *
  simp[M,L,J]
 have G:Di [.lst (Ac (Bm ts o F))]=some (Aa (Bm ts o F)):=Kq;generalize Ac (Bm ts o F)=Y at *
 generalize Aa (Bm ts o F)=O at *
 generalize Aa F=E at *
 generalize Ac o=u at *
 generalize Ak n ts=W at *
 refine Bb (Ba ?_);show bA _ _ [some W,some (.lst u),some E]=_;rw[Qd,Lj,c];simp[G]
theorem Ri(hn:n<=50)(hl:ts.length<=50)(h:∀e∈ts,e.1<=e.2/\e.2<n)(H:For n ts F)(M:Ca ts.length o):Fg [Ak n ts,.lst (Ac o),Aa F]=.ok (Aa (Bl n ts o F)):=by
 have Z:=Xf ts.length F;have J:=kv9 (n:=n) (F:=F) hl;have c:Ax (itS (cl (zv (gv 0) (zv (gv 2) a0)) G8)) 1 [1,0,2] (gN 0) (tb (b2 (gv 0) (cl (zv (gv 1) (zv (cl (zv (gv 2) (zv (gv 3) (zv (gv 0) a0))) Hj) a0)) Ff) eqD)) (gv 0) [some (Ak n ts),some (.lst (Ac o)),some (Aa F)]=.ok (.lst (Ac (Bl n ts o F))):=by
  refine Jt (s:=restOf ts.length F) (p:=λt=>decide (t=Jd o (Hn n ts F t))) (B:=[some (.lst (Ac o)),some (Ak n ts),some (Aa F)]) ?_ rfl (λx L=>?_) (by lia)
  ·have A:La (Aa (restOf ts.length F))=some (Ac (restOf ts.length F)):=rfl;generalize Aa (restOf ts.length F)=SR at *
   generalize Aa F=E at *
   generalize Ac o=G at *
   generalize Ak n ts=W at *
   simp[J,A]
  ·have⟨u,g⟩:=Ly.mp L;have Y:=jd5 hn hl h H u g;have Q:=ji3 M (C:=Hn n ts F x) kc6 (jFq (Zr (inw h) H u g));have O:=kq0 x (Jd o (Hn n ts F x));generalize decide (x=Jd o (Hn n ts F x))=q at *
   generalize Jd o (Hn n ts F x)=y at *
   generalize Aa (Hn n ts F x)=SC at *
   generalize Aa F=E at *
   generalize Ac o=G at *
   generalize Ak n ts=W at *
   simp[Y,Q,O]
 have I:Di [.lst (Ac (Bl n ts o F))]=some (Aa (Bl n ts o F)):=Kq;generalize Ac (Bl n ts o F)=NK at *
 generalize Aa (Bl n ts o F)=SK at *
 generalize Aa F=E at *
 generalize Ac o=G at *
 generalize Ak n ts=W at *
 refine Bb (Ba ?_);show bA _ _ [some W,some (.lst G),some E]=_;rw[Qd,Lj,c];simp[I]
theorem wf5(hn:n<=50)(hl:ts.length<=50)(h:∀e∈ts,e.1<=e.2/\e.2<n)(u:For n ts F)(g:Ca ts.length o):V5 [Ak n ts,.lst (Ac o),Aa F]=.ok (Aa (Bm ts o F)):=by
 have E:=Zq hn hl h u;have B:=W5 (n:=n) hl g;have A:=Rv hn hl h u g;generalize Aa (Bm ts o F)=G at *
 generalize Aa F=x at *
 generalize Ac o=y at *
 generalize Ak n ts=W at *
 refine Bb (Az (ρ1:=[some W,some (.lst y),some x]) (by simp[Af,E]) (Az (ρ1:=[some W,some (.lst y),some x]) (by simp[B]) (Ba (by simp[A]))))
theorem free_eq(hn:n<=50)(hl:ts.length<=50)(h:∀e∈ts,e.1<=e.2/\e.2<n)(u:For n ts F)(g:Ca ts.length o):V4 [Ak n ts,.lst (Ac o),Aa F]=.ok (Aa (Bl n ts o F)):=by
 have E:=Zq hn hl h u;have B:=W5 (n:=n) hl g;have A:=Ri hn hl h u g;generalize Aa (Bl n ts o F)=G at *
 generalize Aa F=x at *
 generalize Ac o=y at *
 generalize Ak n ts=W at *
 refine Bb (Az (ρ1:=[some W,some (.lst y),some x]) (by simp[Af,E]) (Az (ρ1:=[some W,some (.lst y),some x]) (by simp[B]) (Ba (by simp[A]))))
theorem wd6(g:Ca m o){a:Nat}(u:a<m)(h:b<m)(e:o.idxOf a=o.idxOf b):a=b:=by have y:=jDt (jCh (g.all a u));have x:=jDt (jCh (g.all b h));rw[<-y,<-x];congr 1
theorem ka1{t:Nat}(x:Ca m o)(u:∀k∈C,k<m)(g:t∈C):t=Jd o C↔∀c∈C,c≠t->o.idxOf t<o.idxOf c:=by
 have⟨E,_,A⟩:=Y7 x u (jFq g);constructor
 ·intro e c y B;have:=A c y;rw[<-e]at this;have:o.idxOf t≠o.idxOf c:=λz=>B (wd6 x (u c y) (u t g) z.symm);lia
 ·intro h;refine jBf λz=>?_;have a1:=h _ E λe=>z e.symm;have G:=A t g;lia
open Classical in
theorem jk6{t:Nat}:t∈Kh ts F f↔t<ts.length/\¬ Bc (Bk ts (wo F f)) (eN ts t).1 (eN ts t).2:=by unfold Kh;rw[jAj,jAt,decide_eq_true_iff]
theorem Ru(y:InW n ts)(H:Ca ts.length o)(B:For n ts F)(f:Nat):f∈Bm ts o F↔f∈F/\∀t,t<ts.length->t∉F->Swp n ts F f t->o.idxOf f<o.idxOf t:=by
 unfold Bm;rw[jAj,decide_eq_true_iff];refine and_congr_right λx=>?_;rw[ka1 H ko8 (jg9 y B x)];constructor
 ·intro h t E A G;exact h t (jk6.mpr ⟨E,(Sw y B.fo x E).mp G⟩) λe=>A (e ▸ x)
 ·intro h c J I;have⟨g,u⟩:=jk6.mp J;refine h c g (λz=>u (jr7 g (Dz.mpr ⟨z,I⟩))) ((Sw y B.fo x g).mpr u)
theorem Rh(u:InW n ts)(G:Ca ts.length o)(A:For n ts F)(t:Nat):t∈Bl n ts o F↔(t<ts.length/\t∉F)/\∀f∈F,Swp n ts F f t->o.idxOf t<o.idxOf f:=by
 unfold Bl;rw[jAj,decide_eq_true_iff,Ly];refine and_congr_right λg=>?_;rw[ka1 G kc6 (Zr u A g.1 g.2)];constructor
 ·intro h f B E;exact h f ((Xg u A.fo g.1 g.2 f).mpr (.inr ⟨B,E⟩)) λe=>g.2 (e ▸ B)
 ·intro h c I H;have⟨y,x⟩:=((Xg u A.fo g.1 g.2 c).mp I).resolve_left H;exact h c y x
def jd6(o A:List Nat):List Nat:=(o.filter λk=>decide (k∈A)).reverse++o.filter λk=>!decide (k∈A)
variable {A:List Nat}
theorem Kw:k∈jd6 o A↔k∈o:=by unfold jd6;rw[jAq,jDg,jAj,jAj];by_cases h:k∈A<;>simp[h]
theorem jd7(h:o.Nodup):(jd6 o A).Nodup:=by unfold jd6;rw[jDz];refine⟨jEm.mpr ((h.filter _).imp λ{a b} z=>Ne.symm z),h.filter _,λa u b g e=>?_⟩;rw[jDg,jAj]at u;rw[jAj]at g;subst e;have y:=u.2;have x:=g.2;simp at y x;exact x y
theorem kr6(h:o.Nodup):o.Pairwise λa b=>o.idxOf a<o.idxOf b:=by rw[jCx];intro i j x u g;rw[h.idxOf_getElem _ x,h.idxOf_getElem _ u];exact g
theorem jd8(h:o.Nodup):(jd6 o A).Pairwise (bef A o.idxOf):=by
 unfold jd6;rw[jBo];refine⟨?_,?_,λa x b u=>?_⟩
 ·rw[jEm];refine((kr6 h).filter λk=>decide (k∈A)).imp_of_mem λ{a b} x u B=>?_;have y:=(jAj.mp x).2;have g:=(jAj.mp u).2;exact .inl ⟨of_decide_eq_true g,.inr B⟩
 ·refine((kr6 h).filter λk=>!decide (k∈A)).imp_of_mem λ{a b} x u B=>?_;have y:=(jAj.mp x).2;have g:=(jAj.mp u).2;simp at y g;exact .inr ⟨y,g,B⟩
 ·rw[jDg,jAj]at x;rw[jAj]at u;have y:=x.2;have g:=u.2;simp at y g;exact .inl ⟨y,.inl g⟩
def Eb(ts:Ah)(o A:List Nat):List Nat:=(List.range ts.length).filter λk=>decide (k∈(jd6 o A).foldl (stp ts) [])
theorem Zf(u:InW n ts)(g:Ca ts.length o)(k:Nat):k∈Eb ts o A↔k∈(jd6 o A).foldl (stp ts) []:=by unfold Eb;rw[jAj,jAt,decide_eq_true_iff];exact⟨λz=>z.2,λz=>⟨(jj3 u (λk h=>g.lt k (Kw.mp h)) (jd7 g.nd) (jd8 g.nd) λk h=>Kw.mpr (g.all k h)).1.kn k z,z⟩⟩
variable {G:List Nat}
theorem kg6(B:InW n ts)(h:Q6 n ts F)(x:G.Nodup)(e:∀k,k∈G↔k∈F):Q6 n ts G/\∀f t,t<ts.length->(Swp n ts G f t↔Swp n ts F f t):=by
 have u:Kn ts G:=λk g=>h.kn k ((e k).mp g);have c:=J5 (n:=n) B u e;have y:G.length=F.length:=((jBl x h.nd).mpr e).length_eq;refine⟨⟨u,x,by unfold Fr;rw[c,y];exact h.fr,c.trans h.sp⟩,λf t E=>?_⟩;unfold Swp;rw[y,J5 (n:=n) B (s:=t::wo G f) (r:=t::wo F f) (λk g=>?_) λk=>?_]
 ·rcases jAe.mp g with rfl |g
  ·exact E
  ·exact u k (Dz.mp g).1
 ·rw[jAe,jAe,Dz,Dz,e]
theorem Rm(h:InW n ts)(g:Ca ts.length o):For n ts (Eb ts o A)/\∀t,t<ts.length->t∉Eb ts o A->∀f∈Eb ts o A,Swp n ts (Eb ts o A) f t->bef A o.idxOf f t:=by have⟨J,I⟩:=jj3 (n:=n) h (bef:=bef A o.idxOf) (λk x=>g.lt k (Kw.mp x)) (jd7 g.nd) (jd8 g.nd) λk x=>Kw.mpr (g.all k x);have B:(Eb ts o A).Nodup:=jDh.filter _;have e:=Zf (A:=A) h g;have⟨M,L⟩:=kg6 h J B e;exact⟨⟨List.Pairwise.filter _ jCp,M⟩,λt y u f H E=>I t y (λz=>u ((e t).mpr z)) f ((e f).mp H) ((L f t y).mp E)⟩
theorem up_eq(h:F.Pairwise (·<·))(g:G.Pairwise (·<·))(e:∀k,k∈F↔k∈G):F=G:=
 eq_of_sorted (le:=λa b=>a<b) ((jBl (h.imp λ{a b} z=>jAv z) (g.imp λ{a b} z=>jAv z)).mpr e) h g λa _ b _ z w=>absurd z (Nat.lt_asymm w)
theorem kh3(x:InW n ts)(g:Ca ts.length o)(u:For n ts F)(ok:∀t,t<ts.length->t∉F->∀f∈F,Swp n ts F f t->bef A o.idxOf f t):F=Eb ts o A:=by refine up_eq u.up (List.Pairwise.filter _ jCp) λk=>?_;rw[Zf x g];exact(Wl x kn0 u.fo ok (jd6 o A) [] (λk h=>by cases h) (λk h=>g.lt k (Kw.mp h)) (jd7 g.nd) (λk _ z=>by cases z) (jd8 g.nd) (λk h=>.inr (Kw.mpr (g.all k (u.fo.kn k h)))) k).symm
def wc8(F K E A:List Nat):Bool:=(F.all λf=>decide (f∈A) ||decide (f∈K)) && A.all λt=>decide (t∈F) ||decide (t∈E)
theorem kq2(u:InW n ts)(y:Ca ts.length o)(B:For n ts F)(H:∀k∈A,k<ts.length):wc8 F (Bm ts o F) (Bl n ts o F) A=true↔F=Eb ts o A:=by
 have key:wc8 F (Bm ts o F) (Bl n ts o F) A=true↔∀t,t<ts.length->t∉F->∀f∈F,Swp n ts F f t->bef A o.idxOf f t:=by
  rw[<-kq3 u B.fo];unfold wc8;rw[jBg,jAw,jAw];refine and_congr ⟨λh f E=>?_,λh f E=>?_⟩ ⟨λh t I g=>?_,λh t g=>?_⟩
  ·have:=h f E;rw[jCb,decide_eq_true_iff,decide_eq_true_iff,Ru u y B]at this;exact this.imp id λz=>z.2
  ·rw[jCb,decide_eq_true_iff,decide_eq_true_iff,Ru u y B];exact(h f E).imp id λz=>⟨E,z⟩
  ·have:=h t g;rw[jCb,decide_eq_true_iff,decide_eq_true_iff,Rh u y B]at this;exact this.imp id λz=>z.2
  ·rw[jCb,decide_eq_true_iff,decide_eq_true_iff,Rh u y B];by_cases x:t∈F
   ·exact .inl x
   ·exact .inr ⟨⟨H t g,x⟩,(h t (H t g) g).resolve_left x⟩
 rw[key];constructor
 ·exact kh3 u y B
 ·intro e;rw[e];exact(Rm u y).2
theorem Xr(h:s∈Bh m):s.Pairwise (·<·):=by unfold Bh at h;obtain⟨k,_,rfl⟩:=jAm.mp h;exact List.Pairwise.filter _ jCp
theorem Ox:∀{m:Nat}{F:List Nat},F.Pairwise (·<·)->(∀k∈F,k<m)->F∈Bh m
 |0,F,_,h=>by
  rw[Jz];cases F with
  |nil=>simp
  |cons x F=>exact absurd (h x jAf) (by lia)
 |m+1,F,g,h=>by
  rw[Jy,jAq];by_cases y:m∈F
  ·right;refine jAm.mpr ⟨F.filter λk=>decide (k<m),Ox (g.filter _) (λk u=>of_decide_eq_true (jAj.mp u).2),?_⟩;refine up_eq ?_ g λk=>?_
   ·rw[jBo];exact⟨g.filter _,by simp,λa E b B=>by rw[jAh.mp B];exact of_decide_eq_true (jAj.mp E).2⟩
   ·rw[jAq,jAj,decide_eq_true_iff,jAh];constructor
    ·rintro(z |rfl)
     ·exact z.1
     ·exact y
    ·intro z;have:=h k z;by_cases e:k=m
     ·exact .inr e
     ·exact .inl ⟨z,by lia⟩
  ·left;exact Ox g λk u=>by have:=h k u;have:k≠m:=λe=>y (e ▸ u);lia
theorem Xq:∀m,(Bh m).Nodup
 |0=>by rw[Jz];simp
 |m+1=>by
  rw[Jy,jDz];refine⟨Xq m,?_,λa u b g e=>?_⟩
  ·rw[List.nodup_iff_pairwise_ne,jEk];exact(Xq m).imp λ{a b} h z=>h (List.append_cancel_right z)
  ·obtain⟨c,_,rfl⟩:=jAm.mp g;subst e;have:=(Jh u).2 m (by simp);exact jCf _ this
theorem ka8(g:F∈Bh ts.length):isF n ts F=true↔For n ts F:=by
 unfold isF;rw[jBg,decide_eq_true_iff,decide_eq_true_iff];have cl:=ko0 n ts;have y:=ko0 n (Bk ts F);constructor
 ·rintro⟨x,u⟩;have e:cN n ts F=cc n ts:=by unfold cN;lia
  exact⟨Xr g,⟨(Jh g).2,(Xr g).imp λ{a b} z=>jAv z,by unfold Fr;rw[e];lia,e⟩⟩
 ·intro h;have x:=h.fo.sp;have u:=h.fo.fr;unfold Fr at u;rw[x]at u;unfold cN at x;exact⟨by lia,by lia⟩
theorem ji5(hn:n<=50)(hl:ts.length<=6)(h:∀e∈ts,e.1<=e.2/\e.2<n):∃g:List (List Nat),Fy [Ak n ts]=.ok (.lst (g.map Aa))/\g.Nodup/\g.length<=100/\∀F,F∈g↔For n ts F:=by
 have e:=js0 (n:=n) hn hl h;have⟨g,u,x⟩:=W6 (f:=Aa) (El (((Bh ts.length).filter (isF n ts)).map Aa));rw[x]at e;refine⟨g,e,u.nodup_iff.mpr ((Xq _).filter _),?_,λF=>?_⟩
 ·rw[u.length_eq];refine jBt (jBp _ _) ?_;rw[Jg];exact jBt (jEa (by lia) hl) (by decide)
 ·rw[u.mem_iff,jAj];exact⟨λz=>(ka8 z.1).mp z.2,λz=>have m:=Ox z.up z.fo.kn; ⟨m,(ka8 m).mpr z⟩⟩
def prW(w:Nat->Bool->Int)(A:List Nat):Nat->Int
 |0=>1
 |m+1=>prW w A m * w m (decide (m∈A))
def prS(w:Nat->Bool->Int):Nat->Int
 |0=>1
 |m+1=>prS w m * (w m true+w m false)
theorem Zn{w:Nat->Bool->Int}{A B:List Nat}:∀m,(∀k,k<m->(k∈A↔k∈B))->prW w A m=prW w B m
 |0,_=>rfl
 |m+1,h=>by
  rw[prW,prW,Zn m λk g=>h k (by lia)];have:decide (m∈A)=decide (m∈B):=by rw[decide_eq_decide];exact h m (by lia)
  rw[this]
theorem jo9{h:Type}(f g:h->Int):∀l:List h,(l.map λa=>f a+g a).sum=(l.map f).sum+(l.map g).sum
 | []=>rfl
 |a::l=>by rw[jAk,jAk,jAk,jBq,jBq,jBq,jo9 f g l];lia
theorem jp0{g:Type}(k:Int)(f:g->Int)(l:List g):(l.map λx=>f x * k).sum=(l.map f).sum * k:=by rw[jDd,<-Lb k f l];refine Cg λa _=>jDd _ _
theorem kd9(w:Nat->Bool->Int):∀m,((Bh m).map λA=>prW w A m).sum=prS w m
 |0=>by rw[Jz];rfl
 |m+1=>by
  rw[Jy,jBc,jDp,jBe,prS,<-kd9 w m,jHm];have x:((Bh m).map λA=>prW w A (m+1)).sum=((Bh m).map λA=>prW w A m).sum * w m false:=by rw[<-jp0];refine Cg λA g=>?_;have:m∉A:=λz=>jCf _ ((Jh g).2 m z);rw[prW,decide_eq_false this]
  have u:((Bh m).map ((λA=>prW w A (m+1))∘λs=>s++[m])).sum=((Bh m).map λA=>prW w A m).sum * w m true:=by
   rw[<-jp0];refine Cg λA g=>?_;show prW w (A++[m]) (m+1)=_;rw[prW,decide_eq_true (by simp),Zn (A:=A++[m]) (B:=A) m λk h=>by
    have:k≠m:=jAv h;simp[this]]
  rw[x,u,Int.add_comm]
theorem Zz{h g:Type}(f:h->g->Int)(m:List g):∀l:List h,(l.map λa=>(m.map (f a)).sum).sum=(m.map λb=>(l.map λa=>f a b).sum).sum
 | []=>by
  show 0=(m.map λb=>(0:Int)).sum;induction m with
  |nil=>rfl
  |cons b m u=>rw[jAk,jBq,<-u];rfl
 |a::l=>by rw[jAk,jBq,Zz f m l,<-jo9];rfl
theorem jp3{u:Type}[DecidableEq u](h:u)(g:Int):∀{l:List u},l.Nodup->h∈l->(l.map λa=>if a=h then g else 0).sum=g
 |x::l,H,J=>by
  have E:=jBj.mp H;rw[jAk,jBq];have zero:∀{l:List u},h∉l->(l.map λa=>if a=h then g else 0).sum=0:=λ{l}=>by
   induction l with
   |nil=>intro _;rfl
   |cons y l I=>intro B;rw[jAk,jBq,if_neg (λe=>B (by rw[e];exact jAf)),I λz=>B (jAb _ z)];rfl
  by_cases e:x=h
  ·subst e;rw[if_pos rfl,zero E.1];lia
  ·rw[if_neg e,jp3 h g E.2 ((jAe.mp J).resolve_left λz=>e z.symm)];lia
def wtF(n:Nat)(ts:Ah)(o F:List Nat)(u v:Int)(k:Nat)(b:Bool):Int:=
 if k∈F then(if b then 1 else if k∈Bm ts o F then u else 0) else(if b then(if k∈Bl n ts o F then v else 0) else 1)
theorem kx1{n:Nat}{ts:Ah}{o F:List Nat}{u v:Int}(y:InW n ts)(B:Ca ts.length o)(E:For n ts F):∀m,m<=ts.length->prS (wtF n ts o F u v) m=(u+1) ^ ((List.range m).filter λk=>decide (k∈Bm ts o F)).length * (v+1) ^ ((List.range m).filter λk=>decide (k∈Bl n ts o F)).length
 |0,_=>by simp[prS]
 |m+1,I=>by
  rw[prS,kx1 y B E m (by lia),jEj,jDu,jDu,jAs,jAs,jFw,jFw];have H:wtF n ts o F u v m true+wtF n ts o F u v m false=(u+1) ^ ([m].filter λk=>decide (k∈Bm ts o F)).length * (v+1) ^ ([m].filter λk=>decide (k∈Bl n ts o F)).length:=by
   unfold wtF;by_cases g:m∈F
   ·have h:m∉Bl n ts o F:=λz=>((Rh y B E m).mp z).1.2 g;by_cases x:m∈Bm ts o F
    ·simp[g,x,h];lia
    ·simp[g,x,h]
   ·have x:m∉Bm ts o F:=λz=>g ((Ru y B E m).mp z).1;by_cases h:m∈Bl n ts o F
    ·simp[g,x,h];rw[jDq,jEp,jFh]
    ·simp[g,x,h]
  rw[H];generalize (u+1) ^ ((List.range m).filter λk=>decide (k∈Bm ts o F)).length=a;generalize (v+1) ^ ((List.range m).filter λk=>decide (k∈Bl n ts o F)).length=b;generalize (u+1) ^ ([m].filter λk=>decide (k∈Bm ts o F)).length=c;generalize (v+1) ^ ([m].filter λk=>decide (k∈Bl n ts o F)).length=d;rw[jCe,jCe,<-jCe b,jDd b c,jCe]
theorem ja5{K:List Nat}(g:K.Nodup)(h:∀k∈K,k<m):((List.range m).filter λk=>decide (k∈K)).length=K.length:=
 ((jBl (jDh.filter _) g).mpr λk=>by
  rw[jAj,jAt,decide_eq_true_iff];exact⟨λz=>z.2,λz=>⟨h k z,z⟩⟩).length_eq
variable {u:Int}
open Classical in
theorem wv1(hw:InW n ts)(ho:Ca ts.length o)(M:For n ts F)(O:∀k∈A,k<ts.length)(Z:A.Nodup):
  prW (wtF n ts o F u v) A ts.length=if F=Eb ts o A then u ^ (F.filter λk=>decide (k∉A)).length * v ^ (A.filter λk=>decide (k∉F)).length else 0:=by
 have step:∀m,m<=ts.length->prW (wtF n ts o F u v) A m=if(∀k,k<m->(k∈F->k∉A->k∈Bm ts o F)/\(k∉F->k∈A->k∈Bl n ts o F)) then u ^ ((List.range m).filter λk=>decide (k∈F/\k∉A)).length * v ^ ((List.range m).filter λk=>decide (k∈A/\k∉F)).length else 0:=by
  intro m;induction m with
  |zero=>intro _;rw[if_pos λk g=>absurd g (by lia)];simp[prW]
  |succ m ih =>
   intro hm;rw[prW,ih (by lia),jEj,jDu,jDu,jAs,jAs,jFw,jFw];have up:(∀k,k<m+1->(k∈F->k∉A->k∈Bm ts o F)/\(k∉F->k∈A->k∈Bl n ts o F))↔(∀k,k<m->(k∈F->k∉A->k∈Bm ts o F)/\(k∉F->k∈A->k∈Bl n ts o F))/\((m∈F->m∉A->m∈Bm ts o F)/\(m∉F->m∈A->m∈Bl n ts o F)):=by
    refine⟨λh=>⟨λk g=>h k (by lia),h m (by lia)⟩,λh k g=>?_⟩;by_cases e:k=m
    ·rw[e];exact h.2
    ·exact h.1 k (by lia)
   generalize u ^ ((List.range m).filter λk=>decide (k∈F/\k∉A)).length=a;generalize v ^ ((List.range m).filter λk=>decide (k∈A/\k∉F)).length=b;by_cases E:∀k,k<m->(k∈F->k∉A->k∈Bm ts o F)/\(k∉F->k∈A->k∈Bl n ts o F)
   ·rw[if_pos E];have B:¬ (m∈F/\m∉A)->([m].filter λk=>decide (k∈F/\k∉A)).length=0:=λz=>by rw[jCl (by simpa using z)];rfl
    have y:¬ (m∈A/\m∉F)->([m].filter λk=>decide (k∈A/\k∉F)).length=0:=λz=>by rw[jCl (by simpa using z)];rfl
    have L:(m∈F/\m∉A)->([m].filter λk=>decide (k∈F/\k∉A)).length=1:=λz=>by rw[jCm (by simpa using z)];rfl
    have J:(m∈A/\m∉F)->([m].filter λk=>decide (k∈A/\k∉F)).length=1:=λz=>by rw[jCm (by simpa using z)];rfl
    by_cases g:m∈F
    ·rw[y λz=>z.2 g,jEp,jCy];by_cases x:m∈A
     ·rw[if_pos (up.mpr ⟨E,λ_ z=>absurd x z,λz=>absurd g z⟩),B λz=>z.2 x,jEp,jCy,show wtF n ts o F u v m (decide (m∈A))=1 by simp[wtF,g,x],jCy]
     ·rw[L ⟨g,x⟩,jDq,jEp,jFh];by_cases I:m∈Bm ts o F
      ·rw[if_pos (up.mpr ⟨E,λ_ _=>I,λz=>absurd g z⟩),show wtF n ts o F u v m (decide (m∈A))=u by simp[wtF,g,x,I],jCe,jDd b u,<-jCe]
      ·rw[if_neg λz=>I ((up.mp z).2.1 g x),show wtF n ts o F u v m (decide (m∈A))=0 by simp[wtF,g,x,I],jHb]
    ·rw[B λz=>g z.1,jEp,jCy];by_cases x:m∈A
     ·rw[J ⟨x,g⟩,jDq,jEp,jFh];by_cases H:m∈Bl n ts o F
      ·rw[if_pos (up.mpr ⟨E,λz=>absurd z g,λ_ _=>H⟩),show wtF n ts o F u v m (decide (m∈A))=v by simp[wtF,g,x,H],jCe]
      ·rw[if_neg λz=>H ((up.mp z).2.2 g x),show wtF n ts o F u v m (decide (m∈A))=0 by simp[wtF,g,x,H],jHb]
     ·rw[if_pos (up.mpr ⟨E,λz=>absurd z g,λ_ z=>absurd z x⟩),y λz=>x z.1,jEp,jCy,show wtF n ts o F u v m (decide (m∈A))=1 by simp[wtF,g,x],jCy]
   ·rw[if_neg E,if_neg λz=>E (up.mp z).1,Int.zero_mul]
 rw[step ts.length (jAg _)];have cond:(∀k,k<ts.length->(k∈F->k∉A->k∈Bm ts o F)/\(k∉F->k∈A->k∈Bl n ts o F))↔F=Eb ts o A:=by
  rw[<-kq2 hw ho M O];unfold wc8;rw[jBg,jAw,jAw];constructor
  ·intro h;refine⟨λf Y=>?_,λt Q=>?_⟩
   ·by_cases z:f∈A
    ·simp[z]
    ·simp[(h f (M.fo.kn f Y)).1 Y z]
   ·by_cases z:t∈F
    ·simp[z]
    ·simp[(h t (O t Q)).2 z Q]
  ·rintro⟨I,H⟩ k g;refine⟨λz w=>?_,λz w=>?_⟩
   ·have:=I k z;simpa[w] using this
   ·have:=H k w;simpa[z] using this
 have l1:((List.range ts.length).filter λk=>decide (k∈F/\k∉A)).length=(F.filter λk=>decide (k∉A)).length:=((jBl (jDh.filter _) (M.fo.nd.filter _)).mpr λk=>by
  rw[jAj,jAj,jAt,decide_eq_true_iff,decide_eq_true_iff];exact⟨λz=>z.2,λz=>⟨M.fo.kn k z.1,z⟩⟩).length_eq
 have l2:((List.range ts.length).filter λk=>decide (k∈A/\k∉F)).length=(A.filter λk=>decide (k∉F)).length:=((jBl (jDh.filter _) (Z.filter _)).mpr λk=>by
  rw[jAj,jAj,jAt,decide_eq_true_iff,decide_eq_true_iff];exact⟨λz=>z.2,λz=>⟨O k z.1,z⟩⟩).length_eq
 rw[l1,l2];by_cases c:F=Eb ts o A
 ·rw[if_pos (cond.mpr c),if_pos c]
 ·rw[if_neg λz=>c (cond.mp z),if_neg c]
theorem Tw(p:Nat->Bool):(F.filter p).length+(F.filter λk=>!p k).length=F.length:=by
 induction F with
 |nil=>rfl
 |cons x F g =>
  cases h:p x with
  |true=>rw[jCm h,jCl (by simp[h])];simp;lia
  |false=>rw[jCl (by simp[h]),jCm (by simp[h])];simp;lia
open Classical in
theorem kh4(E:InW n ts)(ho:Ca ts.length o)(M:∀k∈A,k<ts.length):((Eb ts o A).filter λk=>decide (k∈A)).length+cN n ts A=n:=by
 have⟨B,ok⟩:=Rm (n:=n) (A:=A) E ho;generalize Eb ts o A=F at *
 have Q:Kn ts (F.filter λk=>decide (k∈A)):=λk I=>B.fo.kn k (jAj.mp I).1;have O:(F.filter λk=>decide (k∈A)).Nodup:=B.fo.nd.filter _;have fI:Fr n ts (F.filter λk=>decide (k∈A)):=kq6 E F.length (by lia) B.fo.kn B.fo.nd O (λk I=>(jAj.mp I).1) B.fo.fr;have e:cN n ts A=cN n ts (F.filter λk=>decide (k∈A)):=by
  unfold cN cc;refine Zh (Zd E Q) (Zd E M) (Fq λk I=>of_decide_eq_true (jAj.mp I).2) λa b L=>?_;have⟨t,y,e⟩:=jAm.mp L;have J:=M t y;have goal:Bc (Bk ts (F.filter λk=>decide (k∈A))) (eN ts t).1 (eN ts t).2:=by
   by_cases H:t∈F
   ·exact jr7 J (jAj.mpr ⟨H,decide_eq_true y⟩)
   ·have w:=way E B.fo J (F.filter λx=>decide (¬ Swp n ts F x t)) λf hf=>by have:=jAj.mp hf;exact⟨this.1,of_decide_eq_true this.2⟩
    refine w.mono (Fq λx Y=>?_);have⟨h,g⟩:=jAj.mp Y;have g:=of_decide_eq_true g;have Z:Swp n ts F x t:=jBf λz=>g (jAj.mpr ⟨h,decide_eq_true z⟩);rcases ok t J H x h Z with ⟨z,_⟩ | ⟨_,z,_⟩
    ·exact jAj.mpr ⟨h,decide_eq_true z⟩
    ·exact absurd y z
  unfold eN at goal;rw[e]at goal;exact goal
 rw[e];exact fI
theorem kl5(h:InW n ts)(x:Ca ts.length o)(I:∀k∈A,k<ts.length)(H:A.Nodup):
  term n ts u v (Bk ts A)=u ^ ((Eb ts o A).filter λk=>decide (k∉A)).length * v ^ (A.filter λk=>decide (k∉Eb ts o A)).length:=by
 have r:=kh4 (n:=n) h x I;have⟨g,_⟩:=Rm (n:=n) (A:=A) h x;have y:=g.fo.fr;have M:=g.fo.sp;unfold Fr at y;rw[M]at y;have E:=Tw (F:=Eb ts o A) λk=>decide (k∈A);have B:=Tw (F:=A) λk=>decide (k∈Eb ts o A);have Y:((Eb ts o A).filter λk=>decide (k∈A)).length=(A.filter λk=>decide (k∈Eb ts o A)).length:=((jBl (g.fo.nd.filter _) (H.filter _)).mpr λk=>by
  rw[jAj,jAj,decide_eq_true_iff,decide_eq_true_iff];exact And.comm).length_eq
 have L:(λk=>!decide (k∈A))=λk=>decide (k∉A):=by funext k;simp
 have J:(λk=>!decide (k∈Eb ts o A))=λk=>decide (k∉Eb ts o A):=by funext k;simp
 rw[L]at E;rw[J]at B;unfold cN at r;unfold term;have pl:(Bk ts A).length=A.length:=jAd ..;rw[pl];have Q:cc n (Bk ts A) - cc n ts=((Eb ts o A).filter λk=>decide (k∉A)).length:=by lia
 have O:A.length+cc n (Bk ts A) - n=(A.filter λk=>decide (k∉Eb ts o A)).length:=by lia
 rw[Q,O]
variable {g:List (List Nat)}
theorem wz4(x:InW n ts)(y:Ca ts.length o)(M:g.Nodup)(h:∀F,F∈g↔For n ts F):
  (g.map λF=>(u+1) ^ (Bm ts o F).length * (v+1) ^ (Bl n ts o F).length).sum=SS n ts u v:=by
 have Q:(g.map λF=>(u+1) ^ (Bm ts o F).length * (v+1) ^ (Bl n ts o F).length).sum=(g.map λF=>((Bh ts.length).map λA=>prW (wtF n ts o F u v) A ts.length).sum).sum:=by refine Cg λF H=>?_;have B:=(h F).mp H;rw[kd9,kx1 x y B ts.length (jAg _),ja5 (K:=Bm ts o F) (B.fo.nd.filter _) (λk E=>B.fo.kn k ((Ru x y B k).mp E).1),ja5 (K:=Bl n ts o F) ((jDh.filter _).filter _) (λk E=>((Rh x y B k).mp E).1.1)]
 rw[Q,Zz (λF A=>prW (wtF n ts o F u v) A ts.length)];have O:((Bh ts.length).map λA=>(g.map λF=>prW (wtF n ts o F u v) A ts.length).sum).sum=((Bh ts.length).map λA=>term n ts u v (Bk ts A)).sum:=by
  refine Cg λA L=>?_;have I:=(Jh L).2;have J:A.Nodup:=(Xr L).imp λ{a b} z=>jAv z;rw[kl5 x y I J,<-jp3 (Eb ts o A) (u ^ ((Eb ts o A).filter λk=>decide (k∉A)).length * v ^ (A.filter λk=>decide (k∉Eb ts o A)).length) M ((h _).mpr (Rm x y).1)];refine Cg λF H=>?_;rw[wv1 x y ((h F).mp H) I J];by_cases c:F=Eb ts o A
  ·rw[if_pos c,if_pos c,<-c]
  ·rw[if_neg c,if_neg c]
 rw[O];unfold SS;rw[<-masks ts.length ts rfl (term n ts u v)];unfold Bh;rw[jBe];rfl
def rwF(n:Nat)(ts:Ah)(o F:List Nat):Tr:=(((Bm ts o F).length:Int),((Bl n ts o F).length:Int),1)
theorem ws3(h:For n ts F):(Bm ts o F).length+(Bl n ts o F).length<=ts.length:=by have a1:(Bm ts o F).length<=F.length:=jBp _ _;have x:(Bl n ts o F).length<=(restOf ts.length F).length:=jBp _ _;have e:=Tw (F:=List.range ts.length) λk=>decide (k∈F);rw[ja5 h.fo.nd h.fo.kn,jBb]at e;unfold restOf at x;lia
theorem jn1(E:InW n ts)(H:Ca ts.length o)(B:g.Nodup)(h:∀F,F∈g↔For n ts F)(x y:Int):((g.map (rwF n ts o)).map (val x y)).sum=SS n ts (x - 1) (y - 1):=by rw[<-wz4 (u:=x - 1) (v:=y - 1) E H B h,jBe];refine Cg λF _=>?_;show val x y (rwF n ts o F)=_;unfold val rwF;show 1 * x ^ (((Bm ts o F).length:Int)).toNat * y ^ (((Bl n ts o F).length:Int)).toNat=_;rw[jFh,jCa,jCa,jGy,jGy]
theorem R6(h:∀F,F∈g↔For n ts F):∀r∈g.map (rwF n ts o),(0<=r.1/\0<=r.2.1/\r.1+r.2.1<=ts.length)/\0<r.2.2:=λr x=>by
 obtain⟨F,y,rfl⟩:=jAm.mp x;have:=ws3 (o:=o) ((h F).mp y);refine⟨⟨?_,?_,?_⟩,?_⟩
 ·show 0<=((Bm ts o F).length:Int);lia
 ·show 0<=((Bl n ts o F).length:Int);lia
 ·show((Bm ts o F).length:Int)+((Bl n ts o F).length:Int)<=_;lia
 ·show(0:Int)<1;decide
theorem kc9(hl:ts.length<=6)(B:g.length<=2 ^ ts.length)(h:∀F,F∈g↔For n ts F)(y:T.Perm (kept (g.map (rwF n ts o)))):Hh ts.length T:=by
 refine Hh.of_rows (by lia) y (λr x=>(R6 h r x).1) (λr x=>jFm (R6 h r x).2) ?_;have:((g.map (rwF n ts o)).map (·.2.2)).sum=(g.length:Int):=by
  rw[jBe];clear B h y;induction g with
  |nil=>rfl
  |cons F g E=>rw[jAk,jBq,E,jAy];show(1:Int)+_=_;lia
 rw[this]
 exact_mod_cast B
theorem Z7(hl:ts.length<=6)(h:∀F,F∈g↔For n ts F):(acc [] (g.map (rwF n ts o))).length<=55:=Q7 λr x=>by have:=(R6 h r x).1;lia
theorem Zx(hn:n<=50)(hl:ts.length<=6)(h:∀e∈ts,e.1<=e.2/\e.2<n)(B:Ca ts.length o)(Z:Fy [Ak n ts]=.ok (.lst (g.map Aa)))(fl:g.length<=100)(x:∀F,F∈g↔For n ts F):
  ∃T:List Tr,PN T (kept (g.map (rwF n ts o)))/\Cq [Ak n ts,.lst (Ac o)]=.ok (.lst (T.map trD)):=by
 have⟨T,M,Y⟩:=Nk (g.map (rwF n ts o)) (by rw[jAd];lia) (jDj (Z7 hl x) (by decide));refine⟨T,M,?_⟩;have e1:=W5 (n:=n) (by lia) B;have c:Ax (itS (cl (zv (gv 0) a0) Fy)) 1 [0,1] (gN 0) yes (bA (zv (bA (zv (cl (zv (gv 1) (zv (gv 2) (zv (gv 0) a0))) Fi) a0) Ci) (zv (bA (zv (cl (zv (gv 1) (zv (gv 2) (zv (gv 0) a0))) Fg) a0) Ci) (zv (kd (.int 1)) a0))) De) [some (Ak n ts),some (.lst (Ac o))]=.ok (.lst ((g.map (rwF n ts o)).map trD)):=by
  refine Dg (ds:=g.map Aa) (by generalize g.map Aa=FD at *;generalize Ak n ts=W at *;generalize Ac o=y at *;simp[Z]) ?_ (by rw[jAd,jAd];lia);rw[jBe];refine Es g λF O=>?_;have E:=(x F).mp O;have L:=Rv (n:=n) (by lia) (by lia) h E B;have J:=Ri (n:=n) (by lia) (by lia) h E B;have I:=Nm (Bm ts o F);have H:=Nm (Bl n ts o F);show bA _ De [some (Aa F),some (Ak n ts),some (.lst (Ac o))]=.ok (trD (rwF n ts o F));have Q:trD (rwF n ts o F)=.tup [.int ((Bm ts o F).length:Int),.int ((Bl n ts o F).length:Int),.int 1]:=rfl;rw[Q];generalize Aa (Bm ts o F)=SK at *
  generalize Aa (Bl n ts o F)=SE at *
  generalize Aa F=SF at *
  generalize Ak n ts=W at *
  generalize Ac o=y at *
  simp[L,J,I,H,Gb]
 generalize (g.map (rwF n ts o)).map trD=RD at *
 generalize T.map trD=TD at *
 generalize Ac o=y at *
 generalize Ak n ts=W at *
 refine Bb (Az (ρ1:=[some W,some (.lst y)]) (by simp[Af,e1]) (Ba ?_));show cl (zv (Ax _ _ _ _ _ _) a0) Eo [some W,some (.lst y)]=_;rw[ya3,Lj,c];simp[Y]
theorem wg1:∀{l:List Kv}{k:Int×Int},(∀p∈l,0<p.2)->0<=look l k:=λh=>W0 λp x=>jFm (h p x)
theorem kx5{k:Int×Int}{v:Int}(y:0<v):∀{l:List Kv},(∀p∈l,0<p.2)->∀p∈put l k v,0<p.2
 | [],_,p,x=>by rw[jAh.mp x];exact y
 |q::r,h,p,x=>by
  unfold put at x;split at x
  ·rcases jAe.mp x with z |z
   ·rw[z];exact y
   ·exact h p (jAb _ z)
  ·rcases jAe.mp x with z |z
   ·rw[z];exact h q jAf
   ·exact kx5 y (λq B=>h q (jAb _ B)) p z
theorem km6:∀(x:List Tr){l:List Kv},(∀r∈x,0<r.2.2)->(∀p∈l,0<p.2)->∀p∈acc l x,0<p.2
 | [],_,_,h=>h
 |r::x,l,y,h=>km6 x (l:=step l r) (λs B=>y s (jAb _ B)) (kx5 (by
   have H:=wg1 (k:=(r.1,r.2.1)) h;have E:=y r jAf;lia) h)
theorem ks5{x:List Tr}(h:∀r∈x,0<r.2.2):kept x=(acc [] x).map rowOf:=by unfold kept;rw[jEs.mpr λp y=>decide_eq_true ?_];have:=km6 x h (by simp) p y;lia
def spB:Ev->R Fl:=(sq (asg 9 (bA (zv (bA (zv (cl (zv (gv 1) (zv (gv 2) (zv (gv 8) a0))) V5) a0) Ci) (zv (bA (zv (cl (zv (gv 1) (zv (gv 2) (zv (gv 8) a0))) V4) a0) Ci) a0)) De))
 (V9 7 (gv 9) (b2 (jh3 7 (gv 9) (kd (.int 0))) (kd (.int 1)) Bd)))
theorem kd7{n:Nat}{ts:Ah}{o:List Nat}{o0 o3 o4 o5 o6:Option D}(hn:n<=50)(hl:ts.length<=6)(h:∀e∈ts,e.1<=e.2/\e.2<n)(I:Ca ts.length o):∀(g:List (List Nat))(l:List Kv)(B x:Option D),(∀F∈g,For n ts F)->l.length+g.length<1000 ->
  ∃H E,Kc (g.map Aa) (gN 8) spB [o0,some (Ak n ts),some (.lst (Ac o)),o3,o4,o5,o6,some (kD l),B,x]=.ok (.nx [o0,some (Ak n ts),some (.lst (Ac o)),o3,o4,o5,o6,some (kD (acc l (g.map (rwF n ts o)))),H,E])
 | [],l,B,x,_,_=>⟨B,x,rfl⟩
 |F::g,l,B,x,O,J=>by
  have M:=O F jAf;have k1:=wf5 (n:=n) (by lia) (by lia) h M I;have k2:=free_eq (n:=n) (by lia) (by lia) h M I;have l1:=Nm (Bm ts o F);have Z:=Nm (Bl n ts o F);have Y:spB [o0,some (Ak n ts),some (.lst (Ac o)),o3,o4,o5,o6,some (kD l),some (Aa F),x]=.ok (.nx [o0,some (Ak n ts),some (.lst (Ac o)),o3,o4,o5,o6,some (kD (step l (rwF n ts o F))),some (Aa F),some (k2D (((Bm ts o F).length:Int),((Bl n ts o F).length:Int)))]):=by
   have e:=Qa ((Bm ts o F).length:Int) ((Bl n ts o F).length:Int) l;have ep:=Td ((Bm ts o F).length:Int) ((Bl n ts o F).length:Int) (look l (((Bm ts o F).length:Int),((Bl n ts o F).length:Int))+1) l;have L:=jh6 (((Bm ts o F).length:Int),((Bl n ts o F).length:Int));have ek:D.tup [.int ((Bm ts o F).length:Int),.int ((Bl n ts o F).length:Int)]=k2D (((Bm ts o F).length:Int),((Bl n ts o F).length:Int)):=rfl;refine Az (Bo (d:=k2D (((Bm ts o F).length:Int),((Bl n ts o F).length:Int))) ?_) ?_
   ·generalize kD l=KL at *
    generalize Aa (Bm ts o F)=SK at *
    generalize Aa (Bl n ts o F)=SE at *
    generalize Aa F=SF at *
    generalize Ak n ts=W at *
    generalize Ac o=NO at *
    simp[k1,k2,l1,Z,Gb,ek]
   ·generalize k2D (((Bm ts o F).length:Int),((Bl n ts o F).length:Int))=Q at *
    refine(kp6 (ks:=l.map λp=>k2D p.1) (fs:=l.map λp=>D.int p.2) (kd:=Q) (v:=.int (look l (((Bm ts o F).length:Int),((Bl n ts o F).length:Int))+1)) ?_ (by simp[kD]) (by simp) (by rw[jAd];simp at J;lia) L).trans ?_
    ·rw[Wb,wc4 (ks:=l.map λp=>k2D p.1) (fs:=l.map λp=>D.int p.2) (y:=Q) (z:=.int 0) (by simp[kD]) (by simp) (by simp) L,e];simp
    ·rw[ep];rfl
  have pl:=jd2 (k:=(((Bm ts o F).length:Int),((Bl n ts o F).length:Int))) (v:=look l (((Bm ts o F).length:Int),((Bl n ts o F).length:Int))+1) l;obtain⟨H,E,e⟩:=kd7 (o0:=o0) (o3:=o3) (o4:=o4) (o5:=o5) (o6:=o6) hn hl h I g (step l (rwF n ts o F)) (some (Aa F)) (some (k2D (((Bm ts o F).length:Int),((Bl n ts o F).length:Int)))) (λG hG=>O G (jAb _ hG)) (by
   have:(step l (rwF n ts o F)).length<=l.length+1:=pl;simp at J;lia)
  refine⟨H,E,?_⟩;rw[jAk,Kc,jh9,R.ok_bind];show(spB [o0,some (Ak n ts),some (.lst (Ac o)),o3,o4,o5,o6,some (kD l),some (Aa F),x]).bind _=_;rw[Y];exact e
theorem ka0:∀{l:List Kv}{p:Kv},(l.map (·.1)).Nodup->p∈l->Gj (l.map λp=>k2D p.1) (l.map λp=>D.int p.2) [.inl p.1.1,.inl p.1.2]=some (.int p.2)
 |q::l,p,x,h=>by
  rw[jAk,jBj]at x;show Gj (k2D q.1::l.map _) (D.int q.2::l.map _) _=_;rw[Gj];rcases jAe.mp h with rfl |h
  ·rw[if_pos (jh6 _)]
  ·have:q.1≠p.1:=λe=>x.1 (by rw[e];exact jAm.mpr ⟨p,h,rfl⟩);rw[if_neg (key_ne (i:=p.1.1) (j:=p.1.2) this)];exact ka0 x.2 h
theorem we4(n:Nat)(ts:Ah):(Ak n ts).imm=true:=by unfold Ak;simp only[D.imm,Dw,Bool.true_and,Bool.and_true];refine Qg.mpr λd h=>?_;obtain⟨e,_,rfl⟩:=jAm.mp h;rfl
theorem we3(T:List Tr):Dw (T.map trD)=true:=Qg.mpr λd h=>by obtain⟨e,_,rfl⟩:=jAm.mp h;rfl
theorem law_true(ns:List Int)(hn:ns.length<=63):d_law [.lst (ns.map .int)]=.ok (.bl true):=by
 have⟨n,ts,⟨n1,n5,H,L⟩,ew⟩:=wy0 ns 1 5 6 (by lia) (by lia) (by lia) (by lia);have ew:Jl [.lst (ns.map .int),.int 1,.int 5,.int 6]=.ok (Ak n ts):=ew;have w1:=Kf n ts;have lw:Ci [.tup (ts.map Dm)]=some (.int (ts.length:Nat)):=by show some (D.int _)=_;rw[jAd]
 have⟨o,ho,eo⟩:=order_eq ns 3 ts.length (by lia) (by lia);have eo:En [.lst (ns.map .int),.int 3,.int (ts.length:Int)]=.ok (.lst (Ac o)):=eo;have⟨J,M,I⟩:=order_eq ns 4 ts.length (by lia) (by lia);have I:En [.lst (ns.map .int),.int 4,.int (ts.length:Int)]=.ok (.lst (Ac J)):=I;have hw:=inw L;have⟨g,ef,nd,fl,h⟩:=ji5 (n:=n) (by lia) (by lia) L;have Q:g.length<=2 ^ ts.length:=by have:=Kz nd (m:=Bh ts.length) λF hF=>Ox ((h F).mp hF).up ((h F).mp hF).fo.kn;rw[Jg]at this;exact this
 have⟨T,nT,tT,vT,eT⟩:=Mv 12 (n:=n) (ts:=ts) (by lia) (by lia) n1 (by lia) L;have eT:P0 [Ak n ts]=.ok (.lst (T.map trD)):=eT;have⟨U,O,eU⟩:=Zx (n:=n) (by lia) H L ho ef fl h;have⟨V,hV,eV⟩:=Zx (n:=n) (by lia) H L M ef fl h;have sU:U.map trD=T.map trD:=Xw (k:=ts.length) (by lia) O.nice (kc9 H Q h O.1) nT tT λx y=>by rw[K1 _ O.1,Ks,jn1 hw ho nd h,vT]
 have sV:V.map trD=T.map trD:=Xw (k:=ts.length) (by lia) hV.nice (kc9 H Q h hV.1) nT tT λx y=>by rw[K1 _ hV.1,Ks,jn1 hw M nd h,vT]
 have⟨Z,hZ,eZ⟩:=jn9 (X:=(acc [] (g.map (rwF n ts o))).map rowOf) (by rw[jAd];exact jDj (Z7 H h) (by decide));have sZ:Z.map trD=T.map trD:=by rw[<-sU];refine jo4 (hZ.1.trans ?_) hZ.2 O.2;rw[<-ks5 λr hr=>(R6 h r hr).2];exact O.1.symm
 rw[sU]at eU;rw[sV]at eV;rw[sZ]at eZ;have tl:T.length<=1000:=by have:=tT.few;lia
 have tb:=kz1 T tl;have ne:=Te (n:=2) (by decide) (kx0 T);have eq:=kg1 (n:=2) (by decide) (kx0 T);have no:=Te (n:=1) (x:=.lst (Ac o)) (by decide) (Jf.mpr (Vp o));have li:Rw [.lst (Ac o)]=some (.lst (Ac o)):=jz7;have aa:Rw [.lst (Ac J)]=some (.lst (Ac J)):=jz7;have iw:=we4 n ts;have io:(D.lst (Ac o)).imm=true\/True:=.inr trivial;have im:=we3 T;have⟨q8,q9,el⟩:=kd7 (n:=n) (ts:=ts) (o:=o) (o0:=some (.lst (ns.map .int))) (o3:=some (.lst (Ac J))) (o4:=some (.lst (T.map trD))) (o5:=some (.lst (Ac o))) (o6:=some (.lst [])) (by lia) H L ho g [] none none (λF hF=>(h F).mp hF) (by simp;lia);have an:=Oj (g.map (rwF n ts o)) (l:=[]) (by simp);have al:=Z7 (o:=o) H h;generalize acc [] (g.map (rwF n ts o))=l at *
 have c:Ax (itK (gv 7)) 1 [7] (gN 0) yes (bA (zv (b2 (gv 0) (kd (.int 0)) ixD) (zv (b2 (gv 0) (kd (.int 1)) ixD) (zv (b2 (gv 1) (gv 0) kf8) a0))) De) [some (.lst (ns.map .int)),some (Ak n ts),some (.lst (Ac o)),some (.lst (Ac J)),some (.lst (T.map trD)),some (.lst (Ac o)),some (.lst []),some (kD l),q8,q9]=.ok (.lst ((l.map rowOf).map trD)):=by
  refine Dg (ds:=l.map λp=>k2D p.1) (ya9 (fs:=l.map λp=>D.int p.2) (by simp[kD])) ?_ (by rw[jAd,jAd];lia);rw[jBe];refine Es l λp hp=>?_;have fk:=ka0 an hp;have i0:ixD (k2D p.1) (.int 0)=some (.int p.1.1):=Wc;have i1:ixD (k2D p.1) (.int 1)=some (.int p.1.2):=ja4;have dx:kf8 (kD l) (k2D p.1)=some (.int p.2):=(wp8 (kt2 p.1.1 p.1.2)).trans fk;show bA _ De [some (k2D p.1),some (kD l)]=.ok (trD (rowOf p));have et:trD (rowOf p)=.tup [.int p.1.1,.int p.1.2,.int p.2]:=rfl;rw[et];generalize k2D p.1=KP at *
  generalize kD l=KL at *
  simp[i0,i1,dx,Gb]
 have k0:kD []=Kl [] []:=rfl;generalize (l.map rowOf).map trD=RD at *
 generalize kD l=KL at *
 generalize T.map trD=E at *
 generalize g.map Aa=FD at *
 generalize ns.map D.int=SC at *
 have ab:(D.lst (Ac o)).imm=false:=rfl;generalize Ac o=B at *
 generalize Ac J=Y at *
 generalize Ak n ts=W at *
 refine Bb (Az (Bo (d:=W) (by simp[Af,ew])) (Az (Bo (d:=.lst B) (by simp[Af,w1,lw,eo])) (Az (Bo (d:=.lst Y) (by simp[Af,w1,lw,I])) (Az (Bo (d:=.lst E) (by simp[Af,eT])) (Az (Bo (d:=.lst B) (by simp[Af,li])) (Az (Bo (ya7 (ds:=E) (kp8 (by simp[Af,eU]) im) im)) (Az ((Lq (by simp[Af,tb,ne,no])).trans rfl) (Az (ρ1:=[some (.lst SC),some W,some (.lst B),some (.lst Y),some (.lst E),some (.lst B),some (.lst []),none,none,none]) rfl (Az ((Lq ?_).trans rfl) (Az (Bo (d:=kD []) (by rw[k0];simp)) (Az (Ni (ds:=FD) (by simp[ef]) el) (Ba ?_))))))))))))
 ·have f1:flt (cl (zv (gv 1) (zv (bA (zv (gv 3) a0) Rw) a0)) Cq) [some (.lst SC),some W,some (.lst B),some (.lst Y),some (.lst E),some (.lst B),some (.lst []),none,none,none]=.ok (.lst E):=kp8 (by simp[aa,eV]) im;have f2:flt (cl (zv (gv 1) (zv (gv 5) a0)) Cq) [some (.lst SC),some W,some (.lst B),some (.lst Y),some (.lst E),some (.lst B),some (.lst []),none,none,none]=.ok (.lst E):=kp8 (by simp[eU]) im;rw[wl9,kg2,kg2,Wb,Wb,f1,f2];simp[ne]
 show b2 (bA (zv (Ax (itK (gv 7)) 1 [7] (gN 0) yes (bA (zv (b2 (gv 0) (kd (.int 0)) ixD) (zv (b2 (gv 0) (kd (.int 1)) ixD) (zv (b2 (gv 1) (gv 0) kf8) a0))) De)) a0) Dl) (gv 4) eqD [some (.lst SC),some W,some (.lst B),some (.lst Y),some (.lst E),some (.lst B),some (.lst []),some KL,q8,q9]=_;rw[Wb,Qd,Lj,c];simp[eZ,eq]
end Law
noncomputable def PySem.W.Fast.tw1780475034202263082 : PySem.Program := PySem.Challenge.pw_tietable_k25_whole_every_order_one_table
theorem PySem.W.Fast.te1780475034202263082 : PySem.Challenge.pw_tietable_k25_whole_every_order_one_table = PySem.W.Fast.tw1780475034202263082 := rfl
theorem PySem.W.Fast.tw5342703883754281305 : True := trivial
theorem PySem.W.Fast.tw11707521742829458287 : True := trivial
theorem PySem.W.Fast.tw7830995537906596743 : True := trivial
theorem PySem.W.Fast.tw8975408834018365434 : True := trivial
theorem PySem.W.Fast.tw14830464200052598639 : True := trivial
theorem PySem.W.Fast.tw12560599815039122477 : True := trivial
theorem PySem.W.Fast.tw349937253354759692 : True := trivial
theorem PySem.W.Fast.tw10537534652210765890 : True := trivial
theorem PySem.W.Fast.tw8122939654202358245 : True := trivial
theorem PySem.W.Fast.tw703460820565386992 : True := trivial
theorem PySem.W.Fast.tw7040158763613698567 : True := trivial
theorem PySem.W.Fast.tw5805073703242836714 : True := trivial
open PySem PySem.W PyProof.Rows
set_option maxRecDepth 100000 in
set_option maxHeartbeats 0 in
theorem PySem.Challenge.cw_tietable_k25_whole_every_order_one_table_holds : PySem.Challenge.rw_tietable_k25_whole_every_order_one_table.Holds := by
 w_on;o_law;k_head;(case hw=>w_witness2)
 k_fill
 refine PD.law_walkT (l:=PySem.Challenge.rw_tietable_k25_whole_every_order_one_table) (k:=19) (x:="_law_script") (y:="first_of") (m:=Law.d_law) (ps:=#[PySem.rawInt ((106:Nat):Int),PySem.rawInt ((25:Nat):Int),.str (("first_of" : PySem.Str) ++ ".<locals>." ++ "<lambda>") 0]) Law.law_true rfl rfl ⟨rfl,by decide,by decide,rfl⟩ (by decide +kernel) (λw h Y=>PySem.W.km_in_of Y) ?F
 case F =>
  intro w c e h b G a
  refine' ⟨?nt,Law.all_mk b G a (PD.Bw ?_ ?_ ?_ ?_) (PD.Bw ?_ ?_ ?_ ?_) (PD.Bw ?_ ?_ ?_ ?_) (PD.Bw ?_ ?_ ?_ ?_) (PD.Bw ?_ ?_ ?_ ?_) (PD.Bw ?_ ?_ ?_ ?_) (PD.Bw ?_ ?_ ?_ ?_) (PD.Bw ?_ ?_ ?_ ?_) (PD.Bw ?_ ?_ ?_ ?_) (PD.Bw ?_ ?_ ?_ ?_) (PD.Bw ?_ ?_ ?_ ?_) (PD.Bw ?_ ?_ ?_ ?_) (PD.Bw ?_ ?_ ?_ ?_) (PD.Bw ?_ ?_ ?_ ?_) (PD.Bw ?_ ?_ ?_ ?_) (PD.Bw ?_ ?_ ?_ ?_) (PD.Bw ?_ ?_ ?_ ?_) (PD.Bw ?_ ?_ ?_ ?_) (PD.Bw ?_ ?_ ?_ ?_) (PD.Bw ?_ ?_ ?_ ?_) (PD.Bw ?_ ?_ ?_ ?_) (PD.Bw ?_ ?_ ?_ ?_) (PD.Bw ?_ ?_ ?_ ?_) (PD.Bw ?_ ?_ ?_ ?_) (PD.Bw ?_ ?_ ?_ ?_) (PD.Bw ?_ ?_ ?_ ?_) (PD.Bw ?_ ?_ ?_ ?_) (PD.Bw ?_ ?_ ?_ ?_) (PD.Bw ?_ ?_ ?_ ?_) (PD.Bw ?_ ?_ ?_ ?_) (PD.Bw ?_ ?_ ?_ ?_) (PD.Bw ?_ ?_ ?_ ?_) (PD.Bw ?_ ?_ ?_ ?_) (PD.Bw ?_ ?_ ?_ ?_) (PD.Bw ?_ ?_ ?_ ?_) (PD.Bw ?_ ?_ ?_ ?_) (PD.Bw ?_ ?_ ?_ ?_) (PD.Bw ?_ ?_ ?_ ?_) (PD.Bw ?_ ?_ ?_ ?_) (PD.Bw ?_ ?_ ?_ ?_) (PD.Bw ?_ ?_ ?_ ?_) ?_ ?_ ?_ ?_ ?_ ?_ ?_ ?_ ?_ ?_ ?_ ?_ ?_ ?_ ?_ ?_ ?_⟩
  (case nt=>kernel_rfl)
  any_goals k_is
