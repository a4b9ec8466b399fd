import PyProof.Rows.All
import Wide.All
import OpenK.AllK
import Wide.FinOn
import Lean
import PyProof.EqAt
import PyProof.EqKinds
import PyProof.TupleCall
import PySem.Challenge.RW_wishlots_k52_whole_book
open PySem renaming wpAny_bind->cr,wpAny_pure->cv,Value->cA,Shared->cD,Addr->cG,wpAny_ite_false->cP,Program->cT,World->dc,starEach->dh,Paired->dr,Around->dw,boot_len->dD,wpAny_holding->dG,wpAny_call_entry->dR,wpAny_setState_of->dU,wpAny_callSpecial?_slot->ef,wpAny_field->eF,wpAny_isInstance->eH,wpAny_truthy_bool->eJ,wpAny_setField_rec->eS,mem_of_lookup->eV,codeAny_builtin->eY,wpAny_newObj_type->e9,mainGlobals->fD,wpAny_Call_Name_kw->fI,wpAny_askSetting->fL,wpAny_of_eq->fO,wpAny_seqItems->fR,wpAny_specialOf->gg,wpAny_mono->gj,wpAny_typeNameOfWhole_itemiter->gl,wpAny_setField->gt,wpAny_passesOwn->gQ,call_meets->gZ,wpAny_typeOf->ij,wpAny_execs_nil->io,NameKind->ip,wpAny_attempt->iy,wpAny_pyIter_list->iC,wpAny_call->iJ,PyData->iO,wpAny_rule->iR,wpAny_fieldsOf->iS,wpAny_ite_true->iT,wpAny_newTuple->iU,codeAny_mono->iX,wpAny_newList->ja,wpAny_pyIter_slot->jw,wpAny_isOneOf_itemiter->jz,isSubtype_tuple_tuple->jE,plainId_quiet->jK,wpAny_runValue->kf,entryFor_alias->ki,isSubtype_stop->kj,wpAny_tupleItemsOf->kl,wpAny_letGo->kE,wpAny_dictEntries->kF,wpAny_comprehension_free->kK,wpAny_handled->kQ,wpAny_execs_cons->kW,noFill_tuple_add->kX,wpAny_Call_method0_late->kZ,sizeOk_excFields->lc,wpAny_pyIter_zip->ld,wpAny_forIn_list->lg,Within->lq,pushCells_keeps->lH,codeAny_of_tree->lL,wpAny_dictEpoch->lM,wpAny_isTrue_Compare1->lN,weight_type_call_type->lS,builtinLookup_eq_fast->lT,sizeLine_eq->lZ,codeAny_call_builtin->ma,wpAny_throw->md,wpAny_updateSeq_pair->me,evalArgs_none->ml,wpAny_standAt->mv,seq_tuple_add->mw,wpAny_onRaise->mE,wpAny_pyIter_tuple->mK,typeIs_str->mL,wpAny_pyHash_tuple->mW,wpAny_eqBool_tuple->mX,wpAny_assign_Name->m6,concat_meets->ng,seqIndex_neg->nh,slot_list_getitem->ni,list_append->nk,wpAny_loadPart_at->nv,wpAny_pyIter_enum->nE,wpAny_storeSet_of->nG,wpAny_Call_method->nM,wpAny_pyHash_str->nO,wpAny_eqBool_int->nP,wpAny_eqBool_str->nQ,check_set_init_1->n7,wpAny_Dict_empty->oa,seqIndex_of->ol,wpAny_alloc->om,call_tuple_list->ou,typeLookup_type->oz,wpAny_Name->oJ,wpAny_Expr_any->oK,call->oM,isSubtype_type->oX,evalPart_none->pM,call_list_seq->pN,signature?_of->pU,strKind->pX,sub_set_self->ql,call_meetsIn->qo
open PySem.W renaming Frag->cu,boot_drawn->eh,mg_none_of->fG,emptyDict->fN,fnOf->f9,findIn->gp,instObj->gw,hideAll_get->gA,kia_one->iq,kia_tup->ir,methodCall_KW->iz,keepIn->iI,callWith_K->jf,boot_heap->jp,plainGet->jH,plainGet_of->j3,piece_app->j7,lookIn->j8,methodObj->kz,hasDictIn->kA,mg_of->kH,excIn->kM,cellsFrom_some->lu,hideAll->lF,takerIn->lG,codeIn->l3,kitOne->l5,mroIn->mz,of_hideAll->mI,kitx_tuple->mP,isFn->m7,plainOver->m9,kitx_none->nq,kitx_bool->nr,kitx_list->nt,handedIn->nR,kitx_int->nU,kitx_str->nV,makesIn->oq,kitAny->oR,boot_toks->qa
open List renaming length_map->cx,getElem?_eq_getElem->cz,getD_eq_getElem?_getD->cC,getElem?_map->cH,mem_singleton->cK,getElem?_eq_some_iff->cL,mem_cons_self->cM,mem_cons_of_mem->cO,map_append->cS,length_take->cV,getElem_mem->cW,size_toArray->cX,take_add_one->cY,mem_cons->cZ,mem_of_getElem?->da,range->db,take_length->dj,length_append->dq,mem_map->dv,mem_append->dJ,map_cons->dN,length_cons->dQ,lookup_cons->dW,mem_range->dY,all_eq_true->dZ,mem_append_right->d5,length_filter_le->d6,mem_filter->d8,getElem?_range->d9,forIn_cons->eg,take_of_length_le->eK,mem_iff_getElem->eO,take_zero->eP,sum_cons->eR,length_replicate->eT,length_singleton->eU,getElem?_append_right->eZ,length_range->fb,pairwise_cons->fw,nodup_cons->fz,replicate->fA,map_congr_left->fF,append_nil->fV,perm_ext_iff_of_nodup->gc,filterMap_cons->gd,range_succ->gf,getElem?_eq_none->gi,filter_append->gm,forIn_nil->gr,mem_of_mem_take->gu,nodup_append->gv,mem_filterMap->gH,cons_lt_cons_iff->gN,getElem?_append_left->gO,lookup->gR,length_dropLast->gS,filter_congr->gV,getElem?_take_of_lt->gX,any_cons->gY,idxOf_lt_length_iff->g8,not_mem_nil->hU,nodup_nil->hX,eq_nil_of_length_eq_zero->ib,take_append_of_le_length->ic,map_map->ik,mem_iff_getElem?->iA,length_drop->iY,any_eq_true->i3,getElem?_zip_eq_some->i4,length_set->je,getElem_idxOf->jh,length->ji,length_eq_zero_iff->jk,pairwise_map->jt,getElem?_set->jx,getElem?_toArray->jD,all_cons->jJ,mem_append_left->jL,getElem?_set_ne->jM,dropLast_subset->jO,replicate_succ'->jR,of_mem_zip->jS,length_nil->jU,dropLast_concat_getLast->jW,countP_eq_length_filter->jZ,find?_cons->j2,mem_or_eq_of_mem_set->ku,range'->kD,length_erase_of_mem->kS,mem_reverse->k7,ext_getElem->k9,range'_succ->lb,getElem?_set_self->lr,pairwise_lt_range->ly,not_of_lt_findIdx->lD,take_append_drop->lP,findSome?_append->lR,getElem?_zipWith->lV,mem_erase_of_ne->mf,mem_of_mem_drop->mi,Pairwise->my,count_eq_zero->mQ,mem_replicate->mR,map_singleton->m4,reverse_cons->nj,foldl_append->nI,getElem?_inj->nL,perm_middle->nW,filter_cons->nY,cons_append->n8,nodup_range->n9,mem_flatMap->oh,cons_ne_nil->oj,nil_append->oy,mem_range'->oB,sum_append->oC,length_zip->oG,filterMap->oU,findIdx?->pQ,map_take->pR,map_drop->pS,Perm->p8,map_nil->qc,zipWith->qe,map_set->qr,all_map->qt,filter->qE
open PySem.Heap renaming get?_push_of_some->cF,get?_push_size->cN,lt_size->cQ,get?_update_self->eI,get?_update_other->fk,SameBut->fK,size_push->gq,get?_update_ne->i6,push->la,FlyingW->lw,SetOf->lE,size_update->nX,ExtBut->qF
open Nat renaming le_refl->cI,lt_of_lt_of_le->cU,ne_of_lt->df,le_trans->dg,lt_irrefl->dt,zero_le->du,lt_succ_of_lt->dz,le_of_lt->dB,lt_succ_self->dH,le_succ->ec,pow_le_pow_right->eB,lt_of_le_of_lt->eQ,lt_succ_iff_lt_or_eq->fP,not_lt_zero->gz,le_add_right->gG,lt_of_succ_lt->gW,ne_of_gt->ie,sub_self->il,le_succ_of_le->iD,lt_trichotomy->iE,le_of_not_lt->k6,le_mul_of_pos_right->k8,lt_trans->lB,add_assoc->mC,eq_zero_or_pos->mO,lt_of_le_of_ne->mY,le_of_eq->na,zero_add->nJ,log2_lt->on,pow_succ->qf,mul_one->qD
open PySem.Challenge renaming pw_wishlots_k52_whole_book->cJ,rw_wishlots_k52_whole_book->f8
open PySem.Value renaming ref->cR,type->dL,int->dX,bool->er,str->iw,bytes->qy,float->qz
open Bool renaming false_ne_true->de,and_eq_true->dn,false_eq_true->fX,eq_iff_iff->gx,not_true->g7,false_and->jq,or_eq_true_iff->j4,or_false->kJ,and_eq_true_iff->mj,not_eq_true'->nl,not_false->o0,and_false->o3,false_or->pT,true_and->pY
open PySem.PassesOwn renaming never->dA,leaving->rg
open Int renaming emod_lt_of_pos->dC,mul_ne_zero->dE,emod_nonneg->dO,zero_add->d3,mul_le_mul_of_nonneg_right->e7,le_of_lt->fq,gcd_pos_of_ne_zero_right->fB,le_refl->fE,mul_right_comm->fW,mul_lt_mul_of_pos_right->f6,toNat_natCast->gb,mul_comm->gn,add_zero->gD,mul_zero->gE,sign_eq_neg_one_of_neg->gI,eq_of_mul_eq_mul_right->gJ,lt_of_mul_lt_mul_right->gK,add_mul->gT,mul_pos->gU,ofNat->hV,mul_one->ia,sign_eq_one_of_pos->ig,fdiv_eq_ediv_of_nonneg->iM,mul_nonneg->iQ,natAbs_natCast->jg,mul_add->jl,zero_mul->ju,mul_le_mul->jv,sub_mul->jN,one_mul->jQ,natAbs_mul->kb,ediv_eq_of_eq_mul_left->kc,lt_or_gt_of_ne->kd,natAbs_dvd_natAbs->lO,mul_fdiv_cancel->mo,add_assoc->mB,sub_eq_add_neg->mV,natCast_nonneg->m3,gcd_comm->nu,le_trans->nF,mul_eq_zero->ow,not_lt->oO,mul_assoc->pP,sub_zero->qi,ofNat_le->qm,add_comm->qp,natAbs->rc
open PySem.F renaming plainAttrs_list->dI,slot_dict_itemiterator_next->fe,called_set->fu,slot_list_append->fT,type_list_append->fU,plainAttrs_str->gF,slot_tuple_iterator_next->gL,plain_extend_loop->i8,args_tuple_add_2->i9,slot_tuple_index->jd,entry_tuple_add->jj,slot_list_clear->jn,type_list_clear->jo,slot_tuple_add->jr,slot_tuple_hash->jy,args_dict_itemiterator_next_1->jC,slot_str_join->jF,type_str_join->jG,entry_dict_itemiterator_next->jI,slot_dict_itemiterator_iter->jP,args_tuple_iterator_next_1->jX,slot_tuple_eq->jY,entry_tuple_iterator_next->j5,args_tuple_index_2->km,args_str_split_2->ko,entry_tuple_index->kt,entry_str_split->kG,plainAttrs_dict->lh,slot_dict_items->lj,slot_str_split->lm,slot_list_count->ln,type_list_count->lp,slot_dict_items_iter->lC,entry_proto_collect->lQ,slot_dict_get->lW,args_list_append_2->l4,sub_list_frozenset->mc,slot_set_len->mh,entry_list_append->mm,entry_extend_loop->mr,entry_list_iadd->ny,entry_type_call->nH,typeCall_set_1->nZ,entry_set_init->n5,plain_set_new->ox,slot_set_iter->oA,slot_zip_next->oD,sub_list_set->oW
open Classical renaming byContradiction->dM
open PySem.Obj renaming mapSeq->d2,putSet->mS,data_mapFields->mU,mapFields->pV
open PySem.Builtin.SmallTypes renaming nextOf->d4,nextOrEnd->fC,ownedTupleIsFree->fS,ownedTupleHandOut->mq,stopIteration->nK,newRecord->oE,newClass->oI,iterAll->oY
open PyProof.Rows renaming callWith_type1->d7,callWith_builtin1->g9,listUpdate_at->ix,subscriptTail_builtinR->js,size_push'->lx,entry_list_sort->lJ,boot_zip->lU,slot_list_sort->l8,args_list_sort->l9,plain_sorted->nA,entry_sorted->nB,args_sorted1->nC,slot_str_getitem->nS,kind_sorted->oo,boot_enumerate->oH,list_sort_tree->oQ,mem_join->o4,sortedAll_old->pO,tupleItemsOf_->pW,isTrue_plain->qb,floordiv_int->qd,listItems_at->qg,sortedAll_at->qh,Call_->rd
open PySem.Str renaming empty->ea,length->fJ,ofString->fM,join->iW
open Array renaming length_toList->eo,getElem?_eq_getElem->fi,getElem?_toList->gh,getElem?_eq_none->gC,forIn_toList->im,getElem?_eq_some_iff->kq,append_assoc->mJ,toList->m5,ext'->oN
open PySem.NameKind renaming free->eA,cell->f7
open PySem.Heap.SameBut renaming update->eX,refl->rf
open PySem.Txt renaming join->fh,slice->j6,find->qI
open False renaming elim->fj
open PySem.Calls renaming spliced_cons->fH,callWith_builtin->gB,call_function_entry->gP,Name_function_global->iH,evalArgs_plain->iK,spliced_nil->kB,loadGlobal_global->kU
open PySem.SetTable renaming fresh->fQ,insertAt->iF,grown->kg,insertAt_perm->lz,below->oS
open PySem.Around renaming under_plainId->fY,under_plain->mT,under->nc
open PyProof.Rows.F renaming plain_set_update_loop->fZ,entry_set_update_loop->h8
open PySem.Builtin.List renaming listExtendWith->f5,listLengthHint->iG,listFitsIndex->j9,listSameRef->kR,listTouch->lA
open PySem.SeqAt renaming shaped->ga,EqAt->q5
open PySem.PyData renaming eqv->gy,str->gM,canLay0->iP,depth->iZ,eqvAll->jb,canLayAll0->kC,depthAll->lK
open PySem.IsL renaming update->hO
open PySem.Heap.IsTupleIter renaming typeIs->h9
open PySem.Code renaming quiet_builtin->ii
open PySem.Builtin.Dict_items renaming ownsTuple->iu,ownedTupleFields->jc,pairFromOwner->jA,ownedTupleIsFree->mF,newIterator->og,dictOf->pq
open PySem.StrLaws renaming glued_eq_join->iB,join_length_le->jB,join_split->mZ
open PySem.Data renaming seq->iL,fields->lY
open List.Perm renaming refl->iN,eq_of_pairwise->kN,append_left->qw,length_eq->qV,nodup_iff->qX,mem_iff->re
open Std.Legacy.Range renaming forIn_eq_forIn_range'->iV,size->lX
open PySem.Builtin.Tuple renaming tupleHashOf->i5,tupleItemsOf->oZ
open PySem.Builtin.Str renaming strKind->i7,occurrences->jm,partsBetween->kT
open ForInStep renaming yield->jT
open PySem.Builtin.Frozenset renaming updateFrom->jV,isAnySet->kh,sizeOf->kP,newClass->oV,slot0->p9
open PySem.Manifest renaming sig_set_iterator->kr
open Option renaming isSome_iff_exists->kI,getD_none->kY,bind_some->nT,map_some->oF
open PyProof renaming noPylong_of_log2->kL
open PySem.Shared renaming TypeIs->kO
open PySem.AutoSeq1 renaming list_insert_list_int_val_1->lI
open PySem.Builtin.Int renaming intBits->mn
open PySem.Paired renaming length->mt
open PySem.SeqAt.EqAt renaming int_str->mG,str_int->mH,none_bool->qA,bool_none->qB,bool_bool->qC,none_int->qJ,none_str->qK,bool_int->qL,bool_str->qM,int_none->qO,int_bool->qQ,str_none->qS,str_bool->qT,int_int->q8,str_str->q9,same->rk
open List.Pairwise renaming imp->nD,imp_of_mem->pZ
open Nat.Coprime renaming dvd_of_dvd_mul_left->nN
open Std.Legacy renaming Range->oi
open PySem.Walks renaming list->oP,toS->rj
open PySem.EqNone renaming eq_none_none->o5,eq_none_bool->o6,eq_bool_none->o7,ne_none_none->pb,ne_none_bool->pc,ne_bool_none->ph,eq_none_int->pz,eq_none_str->pA,eq_int_none->pB,eq_str_none->pD,ne_none_int->pF,ne_none_str->pG,ne_int_none->pH,ne_str_none->pJ
open PySem.EqMixed renaming eq_bool_str->o8,eq_str_bool->o9,ne_bool_str->pi,ne_str_bool->pj,eq_int_str->pC,eq_str_int->pE,ne_int_str->pI,ne_str_int->pK
open PySem.W.OpenLaw renaming wellSaid->pu
open PySem.Builtin.Range renaming rangeSize->p6
open PyProof.Rows.IsTup renaming new->p7
open PySem.setAddHashedIn renaming eq_def->qu
open PySem.Builtin.Dict renaming showsAll->qx,noArgs->qY
open PySem.Fin renaming done->qG
open PySem.Flow renaming ret->qH
open PySem.W.Looks renaming here->qZ
open PySem.Heap.IsSliceOf renaming new->q4
open PySem.W.WShape renaming has->rb
open PySem.DictEntry renaming refKey->rh
open PySem.W.WData renaming int->ri
open PySem.Heap.DictOf renaming new->rm
open PySem.pickOrder renaming go->rn
set_option Elab.async false
set_option maxRecDepth 100000 in
set_option maxHeartbeats 0 in
theorem Cj:pu f8=true:=by kernel_rfl
set_option Elab.async false
set_option linter.all false
set_option maxRecDepth 100000
namespace RG
end RG
namespace L2
open PySem PySem.Spec PyProof.Rows
abbrev Gc:=Sum Int Str
def Kr:Gc->cA->Bool
 | .inl k,v=>Value.isInt k v
 | .inr x,v=>Value.isStrOf x v
def Mo(w:dc):Gc->Int
 | .inl k=>hashInt k
 | .inr x=>hashStr w x
theorem sB:∀{k:Gc} {v:cA},Kr k v=true->(∃i t,k=Sum.inl i/\v=dX i t)\/(∃x t,k=Sum.inr x/\v=iw x t)
 | .inl i,v,h=>by
  obtain⟨t,e⟩:=Value.isInt_shape (k:=i) (v:=v) h
  exact .inl ⟨i,t,rfl,e⟩
 | .inr x,v,h=>by
  obtain⟨t,e⟩:=Value.isStrOf_shape (x:=x) (v:=v) h
  exact .inr ⟨x,t,rfl,e⟩
theorem DN(a b:Int):decide ((Sum.inl a:Gc)=Sum.inl b)=(a==b):=by
 by_cases e:a=b
 ·subst e;simp
 ·have h:¬(Sum.inl a:Gc)=Sum.inl b:=λq=>e (Sum.inl.inj q)
  rw[decide_eq_false h];exact(beq_eq_false_iff_ne.mpr e).symm
theorem DW(a b:Str):decide ((Sum.inr a:Gc)=Sum.inr b)=decide (a=b):=by
 by_cases e:a=b
 ·subst e;simp
 ·have h:¬(Sum.inr a:Gc)=Sum.inr b:=λq=>e (Sum.inr.inj q)
  rw[decide_eq_false h,decide_eq_false e]
theorem DY(a:Int)(b:Str):decide ((Sum.inl a:Gc)=Sum.inr b)=false:=decide_eq_false (λq=>nomatch q)
theorem DI(a:Str)(b:Int):decide ((Sum.inr a:Gc)=Sum.inl b)=false:=decide_eq_false (λq=>nomatch q)
def GE(prog:cT)(w:dc):PySem.KeyKind prog w Gc where
 is:=Kr
 hash:=Mo w
 inj:=λv a b ha hb=>by
  rcases sB ha with⟨i,t,rfl,rfl⟩|⟨x,t,rfl,rfl⟩
  ·rcases sB hb with⟨j,u,rfl,e⟩|⟨y,u,rfl,e⟩
   ·injection e with e1 _;rw[e1]
   ·exact nomatch e
  ·rcases sB hb with⟨j,u,rfl,e⟩|⟨y,u,rfl,e⟩
   ·exact nomatch e
   ·injection e with e1 _;rw[e1]
 byValue:=λk v h=>by
  rcases sB h with⟨i,t,rfl,rfl⟩|⟨x,t,rfl,rfl⟩ <;> rfl
 pyHash:=λhv h=>by
  rcases sB hv with⟨i,t,rfl,rfl⟩|⟨x,t,rfl,rfl⟩
  ·exact wpAny_pyHash_int h
  ·exact nO h
 eqBool:=λhu hv h=>by
  rcases sB hu with⟨i,t,rfl,rfl⟩|⟨x,t,rfl,rfl⟩
  ·rcases sB hv with⟨j,u,rfl,rfl⟩|⟨y,u,rfl,rfl⟩
   ·rw[DN]at h;exact nP h
   ·rw[DY]at h;exact mG i t y u _ _ _ _ h
  ·rcases sB hv with⟨j,u,rfl,rfl⟩|⟨y,u,rfl,rfl⟩
   ·rw[DI]at h;exact mH x t j u _ _ _ _ h
   ·rw[DW]at h;exact nQ h
 «strs»:=λk x t v h=>by
  rcases sB h with⟨i,u,rfl,e⟩|⟨y,u,rfl,e⟩
  ·exact nomatch e
  ·injection e with e1 _
   subst e1
   cases v <;> rfl
inductive V where
 | non|bl (b:Bool)|int (i:Int)|str (x:Str)|byt (b:Array UInt8)|flt (b:UInt64)|ref (a:cG)|ty (n:String)
 deriving DecidableEq
def RelV:V->cA->Prop
 | .non,u=>u=cA.none
 | .bl b,u=>u=er b
 | .int i,u=>∃t,u=dX i t
 | .str x,u=>∃t,u=iw x t
 | .byt b,u=>∃t,u=qy b t
 | .flt b,u=>∃t,u=qz b t
 | .ref a,u=>u=cR a
 | .ty n,u=>u=dL n
abbrev Vals:List V->List cA->Prop:=dr RelV
theorem Vals.length{xs:List V}{us:List cA}(r:Vals xs us):xs.length=us.length:=mt r
theorem Vals.get:∀{xs:List V} {us:List cA} {i:Nat} {x:V},Vals xs us->xs[i]?=some x->∃u,us[i]?=some u/\RelV x u
 | _,_,_,_,.nil,e=>by simp at e
 | _,_,0,_,.cons r _,e=>by simp at e;subst e;exact⟨_,rfl,r⟩
 | _,_,i+1,x,.cons _ t,e=>by
  obtain⟨u,h1,h2⟩:=Vals.get (i:=i) (x:=x) t (by simpa using e)
  exact⟨u,by simpa using h1,h2⟩
theorem Vals.set{x:V}{u:cA}(r:RelV x u):∀{xs:List V} {us:List cA} (i:Nat),Vals xs us->Vals (xs.set i x) (us.set i u)
 | _,_,_,.nil=> .nil
 | _,_,0,.cons _ t=> .cons r t
 | _,_,i+1,.cons q t=> .cons q (Vals.set r i t)
theorem Vals.append:∀{xs ys:List V} {us ws:List cA},Vals xs us->Vals ys ws->Vals (xs++ys) (us++ws)
 | _,_,_,_,.nil,s=>s
 | _,_,_,_,.cons r t,s=> .cons r (Vals.append t s)
theorem Vals.take:∀{xs:List V} {us:List cA} (n:Nat),Vals xs us->Vals (xs.take n) (us.take n)
 | _,_,0,_=> .nil
 | _,_,_+1,.nil=> .nil
 | _,_,n+1,.cons r t=> .cons r (Vals.take n t)
theorem Vals.drop:∀{xs:List V} {us:List cA} (n:Nat),Vals xs us->Vals (xs.drop n) (us.drop n)
 | _,_,0,r=>r
 | _,_,_+1,.nil=> .nil
 | _,_,n+1,.cons _ t=>Vals.drop n t
def RelO:Option V->Option cA->Prop
 | some v,some u=>RelV v u
 | none,none=>True
 | _,_=>False
def KV{κ:Type}:List (κ×V)->List (κ×cA)->Prop:=dr λ(p:κ×V) (q:κ×cA)=>p.1=q.1/\RelV p.2 q.2
def kV:Gc->V
 | .inl i=> .int i
 | .inr x=> .str x
inductive HO where
 | lst (xs:List V)
 | tup (xs:List V)
 | dK (kvs:List (Gc×V))|dT (kvs:List (List Gc×V))
 | set (S:Int->Bool) (n:Nat)
 | ins (C dx:cG) (fs:List (Str×V))
 | own (x:cG)
 | xd (fs:List (Str×V))
 | met (f x:cG)
 | rng (lo hi:Int)
 | frz (o:Obj) (u:HO)
 | tbl (ps:Array cA)
 | ext (φ:Heap->Prop)
abbrev Hp:=cG->Option HO
def upd(H:Hp)(a:cG)(o:HO):Hp:=λb=>if b=a then some o else H b
theorem rC{H:Hp}{a:cG}{o:HO}:upd H a o a=some o:=by unfold upd;rw[if_pos rfl]
theorem rH{H:Hp}{a b:cG}{o:HO}(h:b≠a):upd H a o b=H b:=by unfold upd;rw[if_neg h]
theorem sN{H:Hp}{a b:cG}{o u:HO}(h:H a=some o)(h':H b=some u)(d:o≠u):a≠b:=by
 intro e;subst e;rw[h]at h';exact d (Option.some.inj h')
theorem rF{H:Hp}{a b:cG}{o:HO}(h:H a=some o)(h':H b=none):a≠b:=by
 intro e;subst e;rw[h]at h';cases h'
section
variable(P:cT)(w:dc)
def ObjOk(H:Hp)(h:Heap)(a:cG):HO->Prop
 | .lst xs=>xs.length<=sizeLine/\∃(its:List cA) (n:Nat),Vals xs its/\h.get? a=some {cls:= .type "list",data:= .seq its.toArray n}
 | .tup xs=>xs.length<=sizeLine/\∃its:List cA,Vals xs its/\IsTup h a its.toArray
 | .dK kvs=>kvs.length<=sizeLine/\(a==sysModules)=false/\∃vs,KV kvs vs/\h.DictOf (GE P w) a vs
 | .dT kvs=>kvs.length<=sizeLine/\(a==sysModules)=false/\∃xs:List (List Gc×cG×cA),
   dr (λ(p:List Gc×V) (q:List Gc×cG×cA)=>p.1=q.1/\H q.2.1=some (.tup (p.1.map kV))/\RelV p.2 q.2.2) kvs xs/\
   ∃o es ep,h.get? a=some o/\o.ExactDict/\o.data = .dict es ep/\es.toList=xs.map (entryOfKey (tupleKind (GE P w)))/\(xs.map (·.1)).Nodup
 | .set S n=>h.SetOf (intKind P w) a S n
 | .ins C dx fs=>H dx=some (.own a)/\fs.length<=1000/\dx≠a/\h.get? a=some (gw C dx)/\
   ∃mA,h.Ns1 dx mA/\(∀f,RelO (fs.lookup f) (mA f))/\lq mA (fs.map (·.1))
 | .own _=>∃o,h.get? a=some o
 | .xd fs=>∃mA,h.Ns1 a mA/\∀f,RelO (fs.lookup f) (mA f)
 | .rng lo hi=>∃t u v,h.get? a=some {cls:= .type "range",data:= .fields #[.int lo t,.int hi u,.int 1 v]}
 | .frz o u=>h.get? a=some o/\ObjOk H h a u
 | .tbl ps=>h.get? a=some {cls:= .none,data:= .fields ps}
 | .met f x=>h.get? a=some (kz (.ref f) (.ref x))
 | .ext φ=>φ h/\(∃o,h.get? a=some o)/\∀h1 h2:Heap,φ h1->(∀o,h1.get? a=some o->h2.get? a=some o)->φ h2
def HOk(H:Hp)(h:Heap):Prop:=∀a o,H a=some o->ObjOk P w H h a o
end
section
variable{P:cT}{w:dc}{H H':Hp}{h h':Heap}{a:cG}{o:HO}
theorem ObjOk.lt(x:ObjOk P w H h a o):a<h.objs.size:=by
 cases o with
 | lst d=>obtain⟨_,_,_,_,e⟩:=x;exact cQ e
 | tup d=>obtain⟨_,_,_,p⟩:=x;exact p.lt
 | dK b=>obtain⟨_,_,_,_,o,_,_,e,_⟩:=x;exact cQ e
 | dT b=>obtain⟨_,_,_,_,o,_,_,e,_⟩:=x;exact cQ e
 | set S n=>obtain⟨o,_,_,_,e,_⟩:=x;exact cQ e
 | ins C q c=>obtain⟨_,_,_,e,_⟩:=x;exact cQ e
 | own y=>obtain⟨_,e⟩:=x;exact cQ e
 | xd c=>obtain⟨_,⟨_,_,_,e,_⟩,_⟩:=x;exact cQ e
 | rng j m=>obtain⟨_,_,_,e⟩:=x;exact cQ e
 | frz l u=>obtain⟨e,_⟩:=x;exact cQ e
 | tbl g=>exact cQ (show h.get? a=some _ from x)
 | met f y=>exact cQ (show h.get? a=some _ from x)
 | ext k=>obtain⟨_,⟨_,e⟩,_⟩:=x;exact cQ e
theorem Paired.mapP{α β:Type}{F G:α->β->Prop}:∀{l₁:List α} {l₂:List β},dr F l₁ l₂->(∀a b,F a b->G a b)->dr G l₁ l₂
 | _,_,.nil,_=> .nil
 | _,_,.cons r t,f=> .cons (f _ _ r) (Paired.mapP t f)
theorem ObjOk.stay(x:ObjOk P w H h a o)(k:∀b u,(b=a\/H b=some (.own a))->h.get? b=some u->h'.get? b=some u)
  (ho:∀b,H b=some (.own a)->H' b=some (.own a))(ht:∀b xs,H b=some (.tup xs)->H' b=some (.tup xs)):ObjOk P w H' h' a o:=by
 induction o with
 | lst xs=>obtain⟨z,m,n,r,e⟩:=x;exact⟨z,m,n,r,k _ _ (.inl rfl) e⟩
 | tup xs=>obtain⟨z,m,r,g,e,c⟩:=x;exact⟨z,m,r,g,k _ _ (.inl rfl) e,c⟩
 | dK D=>obtain⟨z,y,vs,r,g,l,j,e,c⟩:=x;exact⟨z,y,vs,r,g,l,j,k _ _ (.inl rfl) e,c⟩
 | dT D=>
  obtain⟨z,y,xs,r,g,l,j,e,c⟩:=x
  exact⟨z,y,xs,Paired.mapP r λp q z=>⟨z.1,ht _ _ z.2.1,z.2.2⟩,g,l,j,k _ _ (.inl rfl) e,c⟩
 | set S n=>obtain⟨g,l,j,t,e,c⟩:=x;exact⟨g,l,j,t,k _ _ (.inl rfl) e,c⟩
 | ins C M G=>
  obtain⟨d,z,I,e,s,⟨A,l,j,F,c⟩,r⟩:=x
  exact⟨ho _ d,z,I,k _ _ (.inl rfl) e,s,⟨A,l,j,k _ _ (.inr d) F,c⟩,r⟩
 | own y=>obtain⟨g,e⟩:=x;exact⟨g,k _ _ (.inl rfl) e⟩
 | xd G=>obtain⟨s,⟨A,l,j,e,c⟩,r⟩:=x;exact⟨s,⟨A,l,j,k _ _ (.inl rfl) e,c⟩,r⟩
 | rng J L=>obtain⟨t,u,v,e⟩:=x;exact⟨t,u,v,k _ _ (.inl rfl) e⟩
 | frz g u E=>obtain⟨e,q⟩:=x;exact⟨k _ _ (.inl rfl) e,E q⟩
 | tbl B=>
  have e:h.get? a=some {cls:= .none,data:= .fields B}:=x
  show h'.get? a=some {cls:= .none,data:= .fields B}
  exact k a _ (.inl rfl) e
 | met f y=>
  have e:h.get? a=some (kz (.ref f) (.ref y)):=x
  show h'.get? a=some (kz (.ref f) (.ref y))
  exact k a _ (.inl rfl) e
 | ext K=>obtain⟨p,⟨o,e⟩,st⟩:=x;exact⟨st _ _ p λo q=>k _ _ (.inl rfl) q,⟨o,k _ _ (.inl rfl) e⟩,st⟩
theorem HOk.lt(x:HOk P w H h)(e:H a=some o):a<h.objs.size:=(x a o e).lt
theorem HOk.fresh(x:HOk P w H h)(e:h.objs.size<=a):H a=none:=by
 cases q:H a with
 | none=>rfl
 | some u=>exact absurd (cU (x.lt q) e) (dt _)
theorem HOk.kept(x:HOk P w H h)(k:∀b u,h.get? b=some u->h'.get? b=some u):HOk P w H h':=λa o e=>
 (x a o e).stay (λb u _ q=>k b u q) (λ_ q=>q) λ_ _ q=>q
theorem HOk.laid(x:HOk P w H h)(k:∀b u,h.get? b=some u->h'.get? b=some u)(hp:h.objs.size<=a)(new:ObjOk P w (upd H a o) h' a o):HOk P w (upd H a o) h':=λb u e=>by
 have f:=x.fresh hp;by_cases d:b=a
 ·subst d;rw[rC]at e;cases e;exact new
 ·rw[rH d]at e;exact(x b u e).stay (λc v _ q=>k c v q) (λc q=>by rw[rH (rF q f)];exact q) λc g q=>by rw[rH (rF q f)];exact q
end
def Rd(H:Hp)(a:cG)(u:HO):Prop:=H a=some u\/∃o,H a=some (.frz o u)
theorem Rd.ok{P:cT}{w:dc}{H:Hp}{h:Heap}{a:cG}{u:HO}(r:Rd H a u)(x:HOk P w H h):ObjOk P w H h a u:=by
 rcases r with r|⟨o,r⟩
 ·exact x a u r
 ·obtain⟨_,q⟩:=x a _ r;exact q
def L0:Option HO->Prop
 | some (.lst _)=>True
 | some (.dK _)=>True
 | some (.dT _)=>True
 | some (.set _ _)=>True
 | some (.ins _ _ _)=>True
 | some (.ext _)=>True
 | _=>False
section
variable{P:cT}{w:dc}{H:Hp}{h h':Heap}{x e:cG}{o':HO}
theorem HOk.write(ok:HOk P w H h)(mu:L0 (H x))(he:e=x\/H e=some (.own x))(k:∀b u,b≠e->h.get? b=some u->h'.get? b=some u)(heo:∃u,h'.get? e=some u)
  (new:ObjOk P w (upd H x o') h' x o'):HOk P w (upd H x o') h':=λb u q=>by
 have d:∀c y,H c=some (.own y)->c≠x:=λc y r z=>by subst z;rw[r]at mu;exact mu
 have l:∀c g,H c=some (.tup g)->c≠x:=λc g r z=>by subst z;rw[r]at mu;exact mu
 by_cases j:b=x
 ·subst j;rw[rC]at q;cases q;exact new
 ·rw[rH j]at q
  by_cases a:b=e
  ·have m:H b=some (.own x):=by
    rcases he with z|z
    ·exact absurd (a.trans z) j
    ·rw[a];exact z
   rw[q]at m;cases m
   obtain⟨v,n⟩:=heo
   exact⟨v,by rw[a];exact n⟩
  ·refine(ok b u q).stay (λc v f r=>k c v ?_ r) (λc r=>by rw[rH (d c b r)];exact r) λc g r=>by rw[rH (l c g r)];exact r
   rcases f with rfl|f
   ·exact a
   ·rintro rfl
    rcases he with z|z
    ·exact d c b f z
    ·rw[f]at z;cases z;exact j rfl
end
structure Un(fs ex:List cG)(H H':Hp)(h h':Heap):Prop where
 keep:∀b o,h.get? b=some o->H b=none->b∉fs->b∉ex->h'.get? b=some o
 slot:∀b o,h.get? b=some o->H b=none->b∈fs->b∉ex->∃sl,h'.get? b=some {o with slots:=sl}
 free:∀b o,h.get? b=some o->H b=none->b∉ex->H' b=none
 there:∀b o,h.get? b=some o->b∉ex->∃o',h'.get? b=some o'
 tups:∀b xs,H b=some (.tup xs)->H' b=some (.tup xs)
 frzs:∀b o u,H b=some (.frz o u)->H' b=some (.frz o u)
 tbls:∀b ps,H b=some (.tbl ps)->∃more,H' b=some (.tbl (ps++more))
section
variable{fs fs' ex ex':List cG}{H H1 H2:Hp}{h h1 h2 h':Heap}{a x e:cG}{o:HO}
theorem Un.any(u:Un fs ex H H1 h h1){b:cG}{ob:Obj}(q:h.get? b=some ob)(n:H b=none)(hx:b∉ex):∃sl,h1.get? b=some {ob with slots:=sl}:=by
 by_cases a:b∈fs
 ·exact u.slot b ob q n a hx
 ·exact⟨ob.slots,u.keep b ob q n a hx⟩
theorem Un.kept(k:∀b u,h.get? b=some u->h'.get? b=some u):Un fs ex H H h h':=
 ⟨λb a q _ _ _=>k b a q,λb a q _ _ _=>⟨a.slots,k b a q⟩,λ_ _ _ n _=>n,λb a q _=>⟨a,k b a q⟩,λ_ _ q=>q,λ_ _ _ q=>q,λ_ c q=>⟨#[],by rw[q];simp⟩⟩
theorem Un.refl:Un fs ex H H h h:=Un.kept λ_ _ q=>q
theorem Un.laid(k:∀b u,h.get? b=some u->h'.get? b=some u)(hp:h.objs.size<=a)(hn:H a=none):Un fs ex H (upd H a o) h h' where
 keep:=λb u q _ _ _=>k b u q
 slot:=λb u q _ _ _=>⟨u.slots,k b u q⟩
 free:=λb u q n _=>by rw[rH (df (cU (cQ q) hp))];exact n
 there:=λb u q _=>⟨u,k b u q⟩
 tups:=λb c q=>by rw[rH (rF q hn)];exact q
 frzs:=λb u c q=>by rw[rH (rF q hn)];exact q
 tbls:=λb d q=>⟨#[],by rw[rH (rF q hn),q];simp⟩
theorem Un.write(mu:L0 (H x))(he:e=x\/H e=some (.own x))(k:∀b u,b≠e->h.get? b=some u->h'.get? b=some u)(heo:∃u,h'.get? e=some u):Un fs ex H (upd H x o) h h':=by
 have f:∀b,H b=none->b≠x:=λb n z=>by subst z;rw[n]at mu;exact mu
 have d:∀b,H b=none->b≠e:=λb n z=>by
  subst z;rcases he with r|r
  ·exact f b n r
  ·rw[n]at r;cases r
 have c:∀b u,H b=some u->¬L0 (some u)->b≠x:=λb u q g z=>by subst z;rw[q]at mu;exact g mu
 refine⟨λb u q n _ _=>k b u (d b n) q,λb u q n _ _=>⟨u.slots,k b u (d b n) q⟩,λb u q n _=>by rw[rH (f b n)];exact n,λb u q _=>?_,
  λb j q=>by rw[rH (c b _ q λz=>z)];exact q,λb u j q=>by rw[rH (c b _ q λz=>z)];exact q,λb l q=>⟨#[],by rw[rH (c b _ q λz=>z),q];simp⟩⟩
 by_cases a:b=e
 ·subst a;exact heo
 ·exact⟨u,k b u a q⟩
end
def trk(h:Heap)(H:Hp):List cG:=(db h.objs.size).filter λa=>(H a).isSome
def Hu(h:Heap)(H:Hp):Heap:=lF h (trk h H)
theorem Aw(h:Heap)(H:Hp):(Hu h H).objs.size=h.objs.size:=PySem.W.hideAll_size _ _
theorem BM{h:Heap}{H:Hp}{b:cG}{o:Obj}(e:h.get? b=some o)(n:H b=none):(Hu h H).get? b=some o:=
 gA _ e λa=>by
  have q:(H b).isSome=true:=(d8.mp a).2
  rw[n]at q;simp at q
theorem CU{h:Heap}{H:Hp}{b:cG}{o:Obj}(e:(Hu h H).get? b=some o):h.get? b=some o/\H b=none:=by
 have a:h.get? b=some o:=mI (trk h H) e;refine⟨a,?_⟩
 cases q:H b with
 | none=>rfl
 | some x=>
  have c:b∈trk h H:=d8.mpr ⟨dY.mpr (cQ a),by simp[q]⟩;have z:(Hu h H).get? b=none:=PySem.W.hideAll_none (trk h H) c;rw[z]at e;cases e
def J9(g h:Heap)(L:cG):List (cG×Obj):=(db h.objs.size).filterMap λa=>if a=L\/(g.get? a).isSome=true then none else(h.get? a).map λo=>(a,o)
def rest(g h:Heap)(L d:cG):List (cG×Obj):=(J9 g h L).filter λp=>decide (p.1≠d)
structure Mod(K:cu)(mg:Str->Option cA)(base:Heap):Prop where
 kin:K.In base
 glob:base.Ns fD mg
 blt:∃mb,base.Ns builtinsNs mb/\∀x:Str,x≠"__name__"->mb x=bootBuiltins x
 nolimit:base.NoLimit
structure Cx where
 prog:cT
 w:dc
 K:cu
 mg:Str->Option cA
 base:Heap
 A:dw
 N:List Str
 s₀:cD
 H₀:Hp
 env:Env
 outer:List Env
 stack:List Env
 ex:List cG
 fn:Str->Bool
 calm:Bool
 pn:List (cG×Obj)
 xe:cA->cD->Prop
def Fq(l:List Env):List cG:=l.filterMap (·.frame)
abbrev Cx.fs(X:Cx):List cG:=Fq X.outer
def L1(sc:Scope)(x:Str):Prop:=sc.names.lookup x=some .local\/sc.names.lookup x=some .cell\/sc.names.lookup x=some .free
def LZ(sc:Scope)(x:Str):Prop:=sc.names.lookup x=some .local\/sc.names.lookup x=some .cell
def Mw(env:Env)(h:Heap)(m:Str->Option cA)(x:Str)(u:cA):Prop:=
 (env.kindOf x=some .local/\m x=some u)\/((env.kindOf x=some .cell\/env.kindOf x=some .free)/\∃c,env.cells.lookup x=some c/\h.IsCell c (some u))
structure Cx.Ok(X:Cx):Prop where
 mod:Mod X.K X.mg X.base
 kind:X.env.scope.kind = .function
 glob:X.env.globals=fD
 blt:X.env.builtins=builtinsNs
 above:X.s₀.heap.objs.size<=X.env.locals
 inj:∀x y c,X.env.cells.lookup x=some c->X.env.cells.lookup y=some c->x=y
 has:∀x,(X.env.kindOf x=some .cell\/X.env.kindOf x=some .free)->∃c,X.env.cells.lookup x=some c
 cab:∀x c,X.fn x=true->X.env.cells.lookup x=some c->X.s₀.heap.objs.size<=c
 hd:X.calm=true->X.A.handled=none
 frames:X.A.frames=some X.stack
 stk:X.stack=X.outer\/(X.stack=X.env::X.outer/\X.env.frame=some X.env.locals)
 exf:∀b∈X.ex,b≠X.env.locals/\∀x c,X.env.cells.lookup x=some c->c≠b
 bs:∀b o,X.base.get? b=some o->X.s₀.heap.get? b=some o/\X.H₀ b=none
 bsz:X.base.objs.size<=X.s₀.heap.objs.size
 noex:∀b o,X.base.get? b=some o->b∉X.ex
 exfs:∀b∈X.ex,b∉X.fs
 funs:X.s₀.heap.FunFrames X.base X.outer
 frf:∀b∈X.fs,X.H₀ b=none
structure Inv(X:Cx)(pins:List (cG×Obj))(σ:List (Option V))(H:Hp)(s:cD):Prop where
 ok:X.Ok
 os:s.os=X.s₀.os
 bare:AllBare s.gens
 base:Un X.fs X.ex X.H₀ H X.s₀.heap s.heap
 loc:∃m,s.heap.Ns X.env.locals m/\∀(i:Nat) (x:Str) (v:V),X.N[i]?=some x->σ[i]?=some (some v)->L1 X.env.scope x->∃u,RelV v u/\Mw X.env s.heap m x u
 cell:∀x c,X.env.cells.lookup x=some c->∃v,s.heap.IsCell c v
 free:H X.env.locals=none
 freeC:∀x c,X.env.cells.lookup x=some c->H c=none
 pin:∀p∈X.pn++pins,s.heap.get? p.1=some p.2/\H p.1=none/\p.1≠X.env.locals/\p.1∉X.fs/\∀v,p.2.data≠ .cell v
 hok:HOk X.prog X.w H s.heap
 len:σ.length=X.N.length
section
variable{X:Cx}{pins:List (cG×Obj)}{σ:List (Option V)}{H H':Hp}{s:cD}{h':Heap}
theorem Cx.Ok.nofr(ok:X.Ok){b:cG}{o:Obj}(e:X.base.get? b=some o):b∉X.fs:=λa=>by
 have:=(ok.funs.mem a).1;rw[e]at this;cases this
theorem Inv.bs(I:Inv X pins σ H s):∀b o,X.base.get? b=some o->s.heap.get? b=some o/\H b=none:=λb o e=>
 ⟨I.base.keep b o (I.ok.bs b o e).1 (I.ok.bs b o e).2 (I.ok.nofr e) (I.ok.noex b o e),I.base.free b o (I.ok.bs b o e).1 (I.ok.bs b o e).2 (I.ok.noex b o e)⟩
theorem Inv.bk(I:Inv X pins σ H s):∀b o,X.base.get? b=some o->s.heap.get? b=some o:=λb o e=>(I.bs b o e).1
theorem Inv.mod(I:Inv X pins σ H s):Mod X.K X.mg X.base:=I.ok.mod
theorem Inv.kIn(I:Inv X pins σ H s):X.K.In s.heap:=I.ok.mod.kin.keeps I.bk
theorem Inv.fr(I:Inv X pins σ H s):∃m,Fr X.base X.env.locals s.heap m:=
 let⟨m,a,_⟩:=I.loc
 ⟨m,a,I.bk,dg I.ok.bsz I.ok.above⟩
theorem Inv.lt(I:Inv X pins σ H s):X.env.locals<s.heap.objs.size:=let⟨_,a,_⟩:=I.loc;a.lt
theorem Inv.sz(I:Inv X pins σ H s):X.s₀.heap.objs.size<=s.heap.objs.size:=dg I.ok.above (dB I.lt)
theorem Inv.nofs(I:Inv X pins σ H s){a:cG}(h:s.heap.objs.size<=a):a∉X.fs:=λc=>by
 obtain⟨_,o,b,_⟩:=I.ok.funs.mem c;exact absurd (cU (cQ b) (dg I.sz h)) (dt _)
theorem Inv.cne(I:Inv X pins σ H s):∀x c,X.env.cells.lookup x=some c->c≠X.env.locals:=λx c e z=>by
 obtain⟨v,o,d,a⟩:=I.cell x c e;obtain⟨m,⟨h,j,g,f,b,_⟩,_⟩:=I.loc;rw[z,f]at d;cases d;rw[b]at a;cases a
theorem Inv.funs(I:Inv X pins σ H s):s.heap.FunFrames X.base X.outer:=by
 have all:∀(l:List Env),(∀b∈Fq l,b∈X.fs)->X.s₀.heap.FunFrames X.base l->s.heap.FunFrames X.base l:=by
  intro l
  induction l with
  | nil=>intro _ _;trivial
  | cons p r n=>
   intro f m;obtain⟨hk,⟨L,o,a,g,k,j⟩,h⟩:=m;have c:L∈X.fs:=f L (by unfold Fq;rw[gd,a];exact cM);obtain⟨q,e⟩:=I.base.slot L o k (I.ok.frf L c) c λz=>I.ok.exfs L z c
   exact⟨hk,⟨L,_,a,g,e,j⟩,n (λb d=>f b (by unfold Fq;rw[gd,a];exact cO _ d)) h⟩
 exact all X.outer (λ_ d=>d) I.ok.funs
theorem Inv.stack(I:Inv X pins σ H s):s.heap.FunFrames X.base X.stack:=by
 rcases I.ok.stk with e|⟨e,b⟩
 ·rw[e];exact I.funs
 ·rw[e];obtain⟨m,a,_⟩:=I.loc;refine .cons (by rw[I.ok.kind];decide) b a ?_ I.funs;exact Heap.get?_none_of_le (dg I.ok.bsz I.ok.above)
theorem Inv.stkSub(I:Inv X pins σ H s):∀b∈Fq X.stack,b∈X.env.locals::X.fs:=λb a=>by
 rcases I.ok.stk with e|⟨e,c⟩
 ·rw[e]at a;exact cO _ a
 ·rw[e]at a;unfold Fq at a;rw[gd,c]at a;exact a
theorem Inv.stkFree(I:Inv X pins σ H s):∀b∈Fq X.stack,H b=none:=λb a=>by
 rcases cZ.mp (I.stkSub b a)with e|a
 ·rw[e];exact I.free
 ·obtain⟨_,o,c,_⟩:=I.ok.funs.mem a;exact I.base.free b o c (I.ok.frf b a) λz=>I.ok.exfs b z a
theorem Inv.step{g':Array GenState}{t':Nat}{d':Drawn}{ch:List cG}(I:Inv X pins σ H s)
  (hch:∀b∈ch,(b∈X.ex\/X.s₀.heap.objs.size<=b)/\b≠X.env.locals/\(∀x c,X.env.cells.lookup x=some c->c≠b)/\∀p∈X.pn++pins,p.1≠b)
  (keep:∀b o,b≠X.env.locals->b∉X.fs->b∉ch->s.heap.get? b=some o->H b=none->h'.get? b=some o)
  (slot:∀b o,b≠X.env.locals->b∈X.fs->b∉ch->s.heap.get? b=some o->H b=none->∃sl,h'.get? b=some {o with slots:=sl})(free:∀b o,b∉ch->s.heap.get? b=some o->H b=none->H' b=none)
  (there:∀b o,b∉ch->s.heap.get? b=some o->∃o',h'.get? b=some o')
  (tups:∀b xs,H b=some (.tup xs)->H' b=some (.tup xs))(frzs:∀b o u,H b=some (.frz o u)->H' b=some (.frz o u))(tbls:∀b ps,H b=some (.tbl ps)->∃more,H' b=some (.tbl (ps++more)))
  (ns:∀m,s.heap.Ns X.env.locals m->h'.Ns X.env.locals m)(hok:HOk X.prog X.w H' h')(hg:AllBare g'):
  Inv X pins σ H' {s with heap:=h',gens:=g',drawn:=d',toks:=t'}:=by
 have B:∀b o,X.s₀.heap.get? b=some o->b≠X.env.locals:=λb o e=>df (cU (cQ e) I.ok.above)
 have t:∀b o,X.s₀.heap.get? b=some o->b∉X.ex->b∉ch:=λb o e a h=>by
  rcases(hch b h).1 with z|z
  ·exact a z
  ·exact absurd (cU (cQ e) z) (dt _)
 have j:∀x c,X.env.cells.lookup x=some c->∀v,s.heap.IsCell c v->h'.IsCell c v:=λx c e v ⟨o,y,C⟩=>by
  have g:c∉ch:=λz=>(hch c z).2.2.1 x c e rfl
  by_cases D:c∈X.fs
  ·obtain⟨sl,q⟩:=slot c o (I.cne x c e) D g y (I.freeC x c e)
   exact⟨_,q,C⟩
  ·exact⟨o,keep c o (I.cne x c e) D g y (I.freeC x c e),C⟩
 refine⟨I.ok,I.os,hg,⟨λb o e n h a=>?_,λb o e n h a=>?_,λb o e n a=>?_,λb o e a=>?_,λb xs e=>tups b xs (I.base.tups b xs e),λb o xs e=>frzs b o xs (I.base.frzs b o xs e),λb ps e=>?_⟩,?_,λx c e=>?_,?_,λx c e=>?_,λp hp=>?_,hok,I.len⟩
 ·exact keep b o (B b o e) h (t b o e a) (I.base.keep b o e n h a) (I.base.free b o e n a)
 ·obtain⟨sl,f⟩:=I.base.slot b o e n h a
  obtain⟨E,A⟩:=slot b _ (B b o e) h (t b o e a) f (I.base.free b o e n a)
  exact⟨E,A⟩
 ·obtain⟨o',f⟩:=I.base.there b o e a
  exact free b o' (t b o e a) f (I.base.free b o e n a)
 ·obtain⟨o',f⟩:=I.base.there b o e a
  exact there b o' (t b o e a) f
 ·obtain⟨K,f⟩:=I.base.tbls b ps e
  obtain⟨L,A⟩:=tbls b _ f
  exact⟨K++L,by rw[A,mJ]⟩
 ·obtain⟨m,J,M⟩:=I.loc
  refine⟨m,ns m J,λi x v f A G=>?_⟩
  obtain⟨u,r,l⟩:=M i x v f A G
  refine⟨u,r,?_⟩
  rcases l with l|⟨k,c,e,z⟩
  ·exact .inl l
  ·exact .inr ⟨k,c,e,j x c e _ z⟩
 ·obtain⟨v,z⟩:=I.cell x c e
  exact⟨v,j x c e v z⟩
 ·obtain⟨m,⟨o,_,_,y,_⟩,_⟩:=I.loc
  exact free _ o (λz=>(hch _ z).2.1 rfl) y I.free
 ·obtain⟨v,o,y,C⟩:=I.cell x c e
  exact free c o (λz=>(hch c z).2.2.1 x c e rfl) y (I.freeC x c e)
 ·obtain⟨e,n,F,nf,d⟩:=I.pin p hp
  have g:p.1∉ch:=λz=>(hch p.1 z).2.2.2 p hp rfl
  exact⟨keep p.1 p.2 F nf g e n,free p.1 p.2 g e n,F,nf,d⟩
theorem Inv.un{t':Nat}(I:Inv X pins σ H s)(u:Un X.fs [] H H' s.heap h')(hok:HOk X.prog X.w H' h'):Inv X pins σ H' {s with heap:=h',toks:=t'}:=by
 obtain⟨m,⟨o,t,q,d,r⟩,_⟩:=id I.loc;obtain⟨v,j⟩:=u.any d I.free (by simp);exact I.step (g':=s.gens) (d':=s.drawn) (ch:=[]) (λ_ z=>nomatch z) (λb o _ c _ e n=>u.keep b o e n c (by simp)) (λb o _ c _ e n=>u.slot b o e n c (by simp)) (λb o _ e n=>u.free b o e n (by simp)) (λb o _ e=>u.there b o e (by simp)) u.tups u.frzs u.tbls (λl h=>by
  obtain⟨p,f,g,a,k⟩:=h;rw[d]at a;cases a;exact⟨_,f,g,j,k⟩) hok I.bare
theorem Inv.call{g':Array GenState}{t':Nat}{d':Drawn}{ch:List cG}(I:Inv X pins σ H s)(u:Un (Fq X.stack) ch H H' s.heap h')(hok:HOk X.prog X.w H' h')(hg:AllBare g')
  (hch:∀b∈ch,(b∈X.ex\/X.s₀.heap.objs.size<=b)/\b≠X.env.locals/\(∀x c,X.env.cells.lookup x=some c->c≠b)/\∀p∈X.pn++pins,p.1≠b):
  Inv X pins σ H' {s with heap:=h',gens:=g',drawn:=d',toks:=t'}:=by
 obtain⟨m,⟨o,A,y,g,r⟩,_⟩:=id I.loc
 obtain⟨B,f⟩:=u.any g I.free λz=>(hch _ z).2.1 rfl
 exact I.step (ch:=ch) hch (λb o f l a e n=>u.keep b o e n (λz=>(cZ.mp (I.stkSub b z)).elim f l) a) (λb o _ _ a e n=>u.any e n a) (λb o a e n=>u.free b o e n a) (λb o a e=>u.there b o e a) u.tups u.frzs u.tbls (λt k=>by
  obtain⟨v,h,j,d,q⟩:=k
  rw[g]at d;cases d
  exact⟨_,h,j,f,q⟩) hok hg
theorem Inv.turned{t':Nat}{it:cG}(I:Inv X pins σ H s)(k:∀b o,b≠it->s.heap.get? b=some o->h'.get? b=some o)(hn:H it=none)(hL:it≠X.env.locals)
  (h1:it∈X.ex\/X.s₀.heap.objs.size<=it)(h2:∀x c,X.env.cells.lookup x=some c->c≠it)(h3:∀p∈X.pn++pins,p.1≠it):Inv X pins σ H {s with heap:=h',toks:=t'}:=by
 have d:∀b u,H b=some u->b≠it:=λb u e z=>by rw[z,hn]at e;cases e
 refine I.step (g':=s.gens) (d':=s.drawn) (ch:=[it]) (λb l=>?_) (λb o _ _ a e _=>k b o (λz=>a (by simp[z])) e) (λb o _ _ a e _=>⟨o.slots,k b o (λz=>a (by simp[z])) e⟩) (λ_ _ _ _ n=>n)
  (λb o a e=>⟨o,k b o (λz=>a (by simp[z])) e⟩) (λ_ _ e=>e) (λ_ _ _ e=>e) (λb t e=>⟨#[],by rw[e];simp⟩) (λm g=>?_) (λb u e=>?_) I.bare
 ·have e:b=it:=by simpa using l
  subst e
  exact⟨h1,hL,h2,h3⟩
 ·obtain⟨o,j,f,h,r⟩:=g
  exact⟨o,j,f,k _ o (Ne.symm hL) h,r⟩
 ·refine(I.hok b u e).stay (λc v a q=>k c v ?_ q) (λ_ q=>q) λ_ _ q=>q
  rcases a with z|z
  ·rw[z];exact d b u e
  ·exact d c _ z
theorem Inv.tok(I:Inv X pins σ H s)(t:Nat):Inv X pins σ H {s with toks:=t}:=I.un (h':=s.heap) (t':=t) Un.refl I.hok
theorem Inv.kept{t':Nat}(I:Inv X pins σ H s)(k:∀b u,s.heap.get? b=some u->h'.get? b=some u):Inv X pins σ H {s with heap:=h',toks:=t'}:=I.un (Un.kept k) (I.hok.kept k)
theorem Inv.laid{a:cG}{o:HO}{t':Nat}(I:Inv X pins σ H s)(k:∀b u,s.heap.get? b=some u->h'.get? b=some u)(hp:s.heap.objs.size<=a)(new:ObjOk X.prog X.w (upd H a o) h' a o):
  Inv X pins σ (upd H a o) {s with heap:=h',toks:=t'}:=I.un (Un.laid k hp (I.hok.fresh hp)) (I.hok.laid k hp new)
theorem Inv.write{x e:cG}{o:HO}{t':Nat}(I:Inv X pins σ H s)(mu:L0 (H x))(he:e=x\/H e=some (.own x))(k:∀b u,b≠e->s.heap.get? b=some u->h'.get? b=some u)(heo:∃u,h'.get? e=some u)
  (new:ObjOk X.prog X.w (upd H x o) h' x o):Inv X pins σ (upd H x o) {s with heap:=h',toks:=t'}:=I.un (Un.write mu he k heo) (I.hok.write mu he k heo new)
theorem Inv.weak{σ':List (Option V)}(I:Inv X pins σ H s)(hl:σ'.length=σ.length)(w:∀(i:Nat) v,σ'[i]?=some (some v)->σ[i]?=some (some v)):Inv X pins σ' H s:=
 ⟨I.ok,I.os,I.bare,I.base,let⟨m,e,a⟩:=I.loc;⟨m,e,λi x v d b c=>a i x v d (w i v b) c⟩,I.cell,I.free,I.freeC,I.pin,I.hok,hl.trans I.len⟩
theorem Inv.pins_of{pins':List (cG×Obj)}(I:Inv X pins σ H s)(h:∀p∈pins',s.heap.get? p.1=some p.2/\H p.1=none/\p.1≠X.env.locals/\p.1∉X.fs/\∀v,p.2.data≠ .cell v):Inv X pins' σ H s:=
 ⟨I.ok,I.os,I.bare,I.base,I.loc,I.cell,I.free,I.freeC,λp hp=>(dJ.mp hp).elim (λz=>I.pin p (jL _ z)) (h p),I.hok,I.len⟩
theorem yP{N:List Str}(hN:N.Nodup){i j:Nat}{x:Str}(a:N[i]?=some x)(b:N[j]?=some x):i=j:=by
 obtain⟨h1,d⟩:=cL.mp a;obtain⟨h2,c⟩:=cL.mp b;exact(List.getElem_inj hN).mp (d.trans c.symm)
theorem xJ{M:Model}{A:dw}{E:cA->cD->Prop}{i:Nat}{x:Str}{v:V}{u:cA}{Q:Unit->cD->Prop}(I:Inv X pins σ H s)(hN:X.N.Nodup)(hi:X.N[i]?=some x)(hx:LZ X.env.scope x)(r:RelV v u)
  (h:∀s',Inv X pins (σ.set i (some v)) H s'->(∃a,fK a s.heap s'.heap/\(a=X.env.locals\/X.env.cells.lookup x=some a))->Q () s')(hf:X.fn x=true\/X.env.scope.names.lookup x=some .local:=by first|exact .inl rfl|exact .inr rfl|assumption):wpAny M A (storeName X.env x u) Q E s:=by
 obtain⟨m,Z,hl⟩:=id I.loc
 have aa:(X.env.scope.kind == .class||(X.env.scope.kind == .module&&X.env.locals != X.env.globals))=false:=by rw[I.ok.kind];rfl
 have L:i<σ.length:=by rw[I.len];exact(cL.mp hi).1
 have K:=I.cne
 have t:∀{a:cG} {G:Heap},(∃o,s.heap.get? a=some o/\H a=none)->fK a s.heap G->HOk X.prog X.w H G:=λ {a G} ha f b ob e=>by
  obtain⟨_,_,F⟩:=ha
  refine(I.hok b ob e).stay (λc O l q=>(f.2 c ?_).trans q) (λ_ q=>q) λ_ _ q=>q
  rintro rfl
  rcases l with rfl|l
  ·rw[F]at e;cases e
  ·rw[F]at l;cases l
 rcases hx with hk|hk
 ·refine wpAny_storeName_local hk Z (λG ac f=>?_) aa
  obtain⟨oL,_,_,ad,_⟩:=id Z
  refine h _ ⟨I.ok,I.os,I.bare,⟨λb o e n C hx=>?_,λb o e n C hx=>?_,I.base.free,λb o e hx=>?_,I.base.tups,I.base.frzs,I.base.tbls⟩,⟨_,ac,λj y v' g B Y=>?_⟩,λy c e=>?_,I.free,I.freeC,λp hp=>?_,t ⟨oL,ad,I.free⟩ f,by simpa using I.len⟩ ⟨_,f,.inl rfl⟩
  ·exact(f.2 b (df (cU (cQ e) I.ok.above))).trans (I.base.keep b o e n C hx)
  ·obtain⟨sl,g⟩:=I.base.slot b o e n C hx
   exact⟨sl,(f.2 b (df (cU (cQ e) I.ok.above))).trans g⟩
  ·obtain⟨W,g⟩:=I.base.there b o e hx
   exact⟨W,(f.2 b (df (cU (cQ e) I.ok.above))).trans g⟩
  ·by_cases D:j=i
   ·subst D
    rw[hi]at g;cases g
    rw[lr L]at B
    cases B
    exact⟨u,r,.inl ⟨hk,by simp⟩⟩
   ·rw[jM (Ne.symm D)]at B
    obtain⟨u',r',q⟩:=hl j y v' g B Y
    refine⟨u',r',?_⟩
    rcases q with⟨k,e⟩|⟨k,c,e,z⟩
    ·refine .inl ⟨k,?_⟩
     have:y≠x:=λe=>D (yP hN g (e▸hi))
     simp[this,e]
    ·exact .inr ⟨k,c,e,z.sameBut f (K y c e)⟩
  ·obtain⟨O,z⟩:=I.cell y c e
   exact⟨O,z.sameBut f (K y c e)⟩
  ·obtain⟨e,n,P,nf,d⟩:=I.pin p hp
   exact⟨(f.2 p.1 P).trans e,n,P,nf,d⟩
 ·have J:X.fn x=true:=by
   rcases hf with z|z
   ·exact z
   ·rw[z]at hk;cases hk
  obtain⟨c,l⟩:=I.ok.has x (.inl hk)
  obtain⟨O,z⟩:=I.cell x c l
  refine wpAny_storeName_cell I.ok.kind hk l z (λG T f=>?_)
  obtain⟨oc,S,ab⟩:=id z
  refine h {s with heap:=G} ⟨I.ok,I.os,I.bare,⟨λb o e n C hx=>?_,λb o e n C hx=>?_,I.base.free,λb o e hx=>?_,I.base.tups,I.base.frzs,I.base.tbls⟩,⟨m,Z.sameBut f (Ne.symm (K x c l)),λj y v' g B Y=>?_⟩,λy R e=>?_,I.free,I.freeC,λp hp=>?_,t ⟨oc,S,I.freeC x c l⟩ f,by simpa using I.len⟩ ⟨c,f,.inr l⟩
  ·exact(f.2 b (df (cU (cQ e) (I.ok.cab x c J l)))).trans (I.base.keep b o e n C hx)
  ·obtain⟨sl,g⟩:=I.base.slot b o e n C hx
   exact⟨sl,(f.2 b (df (cU (cQ e) (I.ok.cab x c J l)))).trans g⟩
  ·obtain⟨W,g⟩:=I.base.there b o e hx
   exact⟨W,(f.2 b (df (cU (cQ e) (I.ok.cab x c J l)))).trans g⟩
  ·by_cases D:j=i
   ·subst D
    rw[hi]at g;cases g
    rw[lr L]at B
    cases B
    exact⟨u,r,.inr ⟨.inl hk,c,l,T⟩⟩
   ·rw[jM (Ne.symm D)]at B
    obtain⟨u',r',q⟩:=hl j y v' g B Y
    refine⟨u',r',?_⟩
    rcases q with q|⟨k,R,e,z'⟩
    ·exact .inl q
    ·refine .inr ⟨k,R,e,z'.sameBut f ?_⟩
     rintro rfl
     exact D (yP hN g (I.ok.inj _ _ _ e l▸hi))
  ·by_cases U:R=c
   ·subst U;exact⟨_,T⟩
   ·obtain⟨w2,z2⟩:=I.cell y R e
    exact⟨w2,z2.sameBut f U⟩
  ·obtain⟨e,n,P,nf,d⟩:=I.pin p hp
   refine⟨(f.2 p.1 ?_).trans e,n,P,nf,d⟩
   intro q
   rw[q,S]at e
   have q':oc=p.2:=Option.some.inj e
   exact d O (by rw[<-q'];exact ab)
theorem y6{M:Model}{A:dw}{E:cA->cD->Prop}{i:Nat}{x:Str}{v:V}{u:cA}{Q:Unit->cD->Prop}(I:Inv X pins σ H s)(hN:X.N.Nodup)(hi:X.N[i]?=some x)(hx:LZ X.env.scope x)(r:RelV v u)
  (h:∀s',Inv X pins (σ.set i (some v)) H s'->Q () s')(hf:X.fn x=true\/X.env.scope.names.lookup x=some .local:=by first|exact .inl rfl|exact .inr rfl|assumption):wpAny M A (storeName X.env x u) Q E s:=
 xJ I hN hi hx r (λs' a _=>h s' a) hf
theorem Inv.call'{s':cD}{ch:List cG}(I:Inv X pins σ H s)(ho:s'.os=s.os)(u:Un (Fq X.stack) ch H H' s.heap s'.heap)(hok:HOk X.prog X.w H' s'.heap)(hg:AllBare s'.gens)
  (hch:∀b∈ch,(b∈X.ex\/X.s₀.heap.objs.size<=b)/\b≠X.env.locals/\(∀x c,X.env.cells.lookup x=some c->c≠b)/\∀p∈X.pn++pins,p.1≠b):Inv X pins σ H' s':=by
 obtain⟨d,g',d',t',a⟩:=s'
 have e:a=s.os:=ho
 subst e
 exact I.call (g':=g') (t':=t') (d':=d') u hok hg hch
end
abbrev XK:=cA->Option cG->Hp->Prop
abbrev St:=List (Option V)
abbrev VK:=V->Hp->Prop
abbrev TE:=St->Hp->VK->Prop
abbrev TT:=St->Hp->(Bool->Hp->Prop)->Prop
abbrev TA:=St->Hp->(List V->Hp->Prop)->Prop
structure GC where
 nx:St->Hp->Prop
 rt:VK
 bk:St->Hp->Prop:=λ_ _=>False
 ct:St->Hp->Prop:=λ_ _=>False
abbrev TS:=GC->St->Hp->Prop
def EP(X:Cx)(pins:List (cG×Obj))(σ:St)(Q:VK)(u:cA)(s':cD):Prop:=∃v H',Inv X pins σ H' s'/\RelV v u/\Q v H'
def TP(X:Cx)(pins:List (cG×Obj))(σ:St)(Q:Bool->Hp->Prop)(b:Bool)(s':cD):Prop:=∃H',Inv X pins σ H' s'/\Q b H'
def AP(X:Cx)(pins:List (cG×Obj))(σ:St)(Q:List V->Hp->Prop)(us:List cA)(s':cD):Prop:=∃vs H',Inv X pins σ H' s'/\Vals vs us/\Q vs H'
def SP(X:Cx)(pins:List (cG×Obj))(D:GC)(f:Flow)(s':cD):Prop:=
 match f with
 | .next=>∃σ' H',Inv X pins σ' H' s'/\D.nx σ' H'
 | .brk=>∃σ' H',Inv X pins σ' H' s'/\D.bk σ' H'
 | .cont=>∃σ' H',Inv X pins σ' H' s'/\D.ct σ' H'
 | .ret u=>∃v σ' H',Inv X pins σ' H' s'/\RelV v u/\D.rt v H'
def PE(X:Cx)(e:Expr)(t:TE):Prop:=
 ∀(pins:List (cG×Obj)) (s:cD) (σ:St) (H:Hp) (Q:VK),Inv X pins σ H s->t σ H Q->wpAny (model X.prog X.w) X.A (eval e X.env) (EP X pins σ Q) X.xe s
def PT(X:Cx)(e:Expr)(t:TT):Prop:=
 ∀(pins:List (cG×Obj)) (s:cD) (σ:St) (H:Hp) (Q:Bool->Hp->Prop),Inv X pins σ H s->t σ H Q->wpAny (model X.prog X.w) X.A (isTrue e X.env (eval e X.env)) (TP X pins σ Q) X.xe s
def PW(X:Cx)(e:Expr)(t:TT):Prop:=
 ∀(whole:Sem cA) (pins:List (cG×Obj)) (s:cD) (σ:St) (H:Hp) (Q:Bool->Hp->Prop),Inv X pins σ H s->t σ H Q->wpAny (model X.prog X.w) X.A (isTrue e X.env whole) (TP X pins σ Q) X.xe s
theorem PW.pt{X:Cx}{e:Expr}{t:TT}(h:PW X e t):PT X e t:=h _
def PA(X:Cx)(es:List Expr)(t:TA):Prop:=
 ∀(pos:Pos) (pins:List (cG×Obj)) (s:cD) (σ:St) (H:Hp) (Q:List V->Hp->Prop),Inv X pins σ H s->t σ H Q->wpAny (model X.prog X.w) X.A (spliced (backTo pos (dh es X.env))) (AP X pins σ Q) X.xe s
def PS(X:Cx)(st:Stmt)(t:TS):Prop:=
 ∀(pins:List (cG×Obj)) (s:cD) (σ:St) (H:Hp) (D:GC),Inv X pins σ H s->t D σ H->wpAny (model X.prog X.w) X.A (exec st X.env) (SP X pins D) X.xe s
def PSs(X:Cx)(st:List Stmt)(t:TS):Prop:=
 ∀(pins:List (cG×Obj)) (s:cD) (σ:St) (H:Hp) (D:GC),Inv X pins σ H s->t D σ H->wpAny (model X.prog X.w) X.A (execs st X.env) (SP X pins D) X.xe s
theorem En{α:Type}{t:Sem α}{Q Q':α->cD->Prop}{M:Model}{A:dw}{E:cA->cD->Prop}{s:cD}(h:wpAny M A t Q E s)(hQ:∀a s,Q a s->Q' a s):wpAny M A t Q' E s:=gj h hQ λ_ _ x=>x
section
variable{X:Cx}
theorem bin{a b:Expr}{ta tb:TE}(ha:PE X a ta)(hb:PE X b tb){pins:List (cG×Obj)}{s:cD}{σ:St}{H:Hp}{R:V->V->Hp->Prop}(I:Inv X pins σ H s)(h:ta σ H λx H1=>tb σ H1 λy H2=>R x y H2)
  {α:Type}{Q:α->cD->Prop}{f:cA->cA->Sem α}
  (hf:∀v u s2 x y H2,Inv X pins σ H2 s2->RelV x v->RelV y u->R x y H2->wpAny (model X.prog X.w) X.A (f v u) Q X.xe s2):
  wpAny (model X.prog X.w) X.A (eval a X.env) (λv s₁=>wpAny (model X.prog X.w) X.A (eval b X.env) (λu s₂=>wpAny (model X.prog X.w) X.A (f v u) Q X.xe s₂) X.xe s₁) X.xe s:=by
 refine En (ha pins s σ H _ I h) λv j ⟨x,H1,k,l,c⟩=>?_
 refine En (hb pins j σ H1 _ k c) λu s2 ⟨y,H2,e,d,g⟩=>?_
 exact hf v u s2 x y H2 e l d g
def Lg(i:Nat):TE:=λσ H Q=>∃v,σ[i]?=some (some v)/\Q v H
def tC(v:V):TE:=λ_ H Q=>Q v H
theorem Dz{i:Nat}{x:Str}{pos:Pos}(hN:X.N[i]?=some x)(hv:L1 X.env.scope x)(hd:(x==("__debug__":Str))=false:=by decide)(hcd:(x==("__classdict__":Str))=false:=by decide):PE X (.Name x pos) (Lg i):=by
 intro b s j H Q I h;obtain⟨v,e,h⟩:=h;obtain⟨m,f,k⟩:=I.loc;obtain⟨u,r,l⟩:=k i x v hN e hv;have fin:EP X b j Q u s:=⟨v,H,I,r,h⟩;rcases l with⟨hk,g⟩|⟨hk,c,d,a⟩
 ·exact oJ (wpAny_loadName_local I.ok.kind hk f g fin) hd
 ·rcases hk with hk|hk
  ·exact oJ (wpAny_loadName_cell I.ok.kind hk d a fin) hd
  ·exact oJ (wpAny_loadName_free I.ok.kind hk d a fin hcd) hd
theorem rE{i j pos}:PE X (.Constant (.int i) j pos) (tC (.int i)):=λ_ _ _ H _ I h=>wpAny_Constant_int ⟨.int i,H,I.tok _,⟨_,rfl⟩,h⟩
theorem uk{b j pos}:PE X (.Constant (.bool b) j pos) (tC (.bl b)):=λ_ _ _ H _ I h=>Constant_bool ⟨.bl b,H,I,rfl,h⟩
theorem v8{j pos}:PE X (.Constant .none j pos) (tC .non):=λ_ _ _ H _ I h=>Constant_none ⟨.non,H,I,rfl,h⟩
theorem sG{x j pos}:PE X (.Constant (.str x) j pos) (tC (.str x)):=λ_ _ _ H _ I h=>Calls.Constant_str ⟨.str x,H,I.tok _,⟨_,rfl⟩,h⟩
def Gl(X:Cx)(x:Str):Prop:=X.env.kindOf x=some .globalImplicit
theorem vB{E:cA->cD->Prop}{pins:List (cG×Obj)}{s:cD}{σ:St}{H:Hp}{x:Str}{u:cA}{pos:Pos}{Q:cA->cD->Prop}(I:Inv X pins σ H s)(hg:Gl X x)(hm:X.mg x=some u)(h:Q u s)
  (hd:(x==("__debug__":Str))=false:=by decide):wpAny (model X.prog X.w) X.A (eval (.Name x pos) X.env) Q E s:=
 iH I.ok.kind hg (kU (by rw[I.ok.glob];exact I.mod.glob.keeps I.bk) hm h) hd
theorem tP{E:cA->cD->Prop}{pins:List (cG×Obj)}{s:cD}{σ:St}{H:Hp}{x:Str}{u:cA}{pos:Pos}{Q:cA->cD->Prop}(I:Inv X pins σ H s)(hg:Gl X x)(hm:X.mg x=none)(hv:bootBuiltins x=some u)(h:Q u s)
  (hn:x≠"__name__":=by decide)(hd:(x==("__debug__":Str))=false:=by decide):wpAny (model X.prog X.w) X.A (eval (.Name x pos) X.env) Q E s:=by
 obtain⟨a,h1,h2⟩:=I.mod.blt
 exact iH I.ok.kind hg (Calls.loadGlobal_builtin (by rw[I.ok.glob];exact I.mod.glob.keeps I.bk) hm (by rw[I.ok.blt];exact h1.keeps I.bk) ((h2 x hn).trans hv) h) hd
theorem Dm{x:Str}{v:V}{u:cA}{pos:Pos}(hg:Gl X x)(hm:X.mg x=none)(hv:bootBuiltins x=some u)(r:RelV v u)(hn:x≠"__name__":=by decide)(hd:(x==("__debug__":Str))=false:=by decide):PE X (.Name x pos) (tC v):=
 λ_ _ _ H _ I h=>tP I hg hm hv ⟨v,H,I,r,h⟩ hn hd
variable{a b:Expr}{ta tb:TE}{pos:Pos}
def PC(X:Cx)(op:CmpOp)(a b:Expr)(t:TE):Prop:=
 ∀(pins:List (cG×Obj)) (s:cD) (σ:St) (H:Hp) (Q:VK),Inv X pins σ H s->t σ H Q->
  wpAny (model X.prog X.w) X.A (eval a X.env) (λv s₁=>wpAny (model X.prog X.w) X.A (eval b X.env) (λu s₂=>wpAny (model X.prog X.w) X.A (compareOp op v u) (EP X pins σ Q) X.xe s₂) X.xe s₁) X.xe s
def tB(t:TE):TT:=λσ H Q=>t σ H λx H1=>∃c,x = .bl c/\Q c H1
theorem pt_cmp{op:CmpOp}{t:TE}(h:PC X op a b t)(h1:behindInMarks op b=false:=by first|exact nobehind _ (by decide) (by decide)|rfl):PT X (.Compare a [op] [b] pos) (tB t):=by
 intro e s k H Q I f;refine lN (En (h e s k H _ I f) λv n h1=>En h1 λu o h2=>En h2 λc p ⟨x,m,j,g,l⟩=>?_) h1;obtain⟨d,rfl,q⟩:=l
 cases g;exact eJ ⟨m,j,q⟩
theorem sS{e:Expr}{t:TE}(h:PE X e t)(he:∀whole,isTrue e X.env whole=(do let v<-whole;standAt e.pos;holding [v] (truthy v)):=by intro _;rfl):PT X e (tB t):=by
 intro a s f H Q I b;refine qb (En (h a s f H _ I b) λv l ⟨x,k,g,j,c⟩=>?_) (he _);obtain⟨d,rfl,q⟩:=c
 cases j;exact eJ ⟨k,g,q⟩
variable{tA tB':TT}{rest:List Expr}
def Me(t u:TT):TT:=λσ H Q=>t σ H λc H1=>if c=true then u σ H1 Q else Q false H1
def MY(t u:TT):TT:=λσ H Q=>t σ H λc H1=>if c=true then Q true H1 else u σ H1 Q
def L5(t:TT):TT:=λσ H Q=>t σ H λc H1=>Q (!c) H1
theorem zW(ha:PT X a tA):PW X (.BoolOp .And [a] pos) tA:=by
 intro g b s d H Q I h;refine isTrue_and (En (ha b s d H Q I h) λc f e=>?_)
 cases c with
 | true=>exact isTrue_and_nil e
 | false=>exact e
theorem wk(ha:PT X a tA):PW X (.BoolOp .Or [a] pos) tA:=by
 intro g b s d H Q I h;refine isTrue_or (En (ha b s d H Q I h) λc f e=>?_)
 cases c with
 | false=>exact isTrue_or_nil e
 | true=>exact e
theorem Cv(ha:PT X a tA)(hb:PW X (.BoolOp .And (b::rest) pos) tB'):PW X (.BoolOp .And (a::b::rest) pos) (Me tA tB'):=by
 intro l d s f H Q I h;refine isTrue_and (En (ha d s f H _ I h) λc k ⟨j,g,e⟩=>?_)
 cases c with
 | true=>exact hb l d k f j Q g e
 | false=>exact⟨j,g,e⟩
theorem xA(ha:PT X a tA)(hb:PW X (.BoolOp .Or (b::rest) pos) tB'):PW X (.BoolOp .Or (a::b::rest) pos) (MY tA tB'):=by
 intro l d s f H Q I h;refine isTrue_or (En (ha d s f H _ I h) λc k ⟨j,g,e⟩=>?_)
 cases c with
 | true=>exact⟨j,g,e⟩
 | false=>exact hb l d k f j Q g e
theorem tI(ha:PT X a tA):PT X (.UnaryOp .Not a pos) (L5 tA):=by
 intro b s d H Q I h;exact isTrue_not (ha b s d H (λc e=>Q (!c) e) I h)
def Lx(ta tb:TE):TE:=λσ H Q=>ta σ H λx H1=>∃c,x = .bl c/\if c=true then tb σ H1 Q else Q (.bl false) H1
def Lo(ta:TE):TE:=λσ H Q=>ta σ H λx H1=>∃c,x = .bl c/\Q (.bl (!c)) H1
theorem vH{op}{t:TE}(h:PE X a t):PE X (.BoolOp op [a] pos) t:=λb s d H Q I c=>BoolOp_one (h b s d H Q I c)
theorem uw(ha:PE X a ta)(hb:PE X (.BoolOp .And (b::rest) pos) tb):PE X (.BoolOp .And (a::b::rest) pos) (Lx ta tb):=by
 intro d s f H Q I h;refine BoolOp_and (En (ha d s f H _ I h) λv k ⟨x,j,g,l,e⟩=>?_);obtain⟨c,rfl,e⟩:=e
 cases l;refine eJ ?_
 cases c with
 | true=>exact hb d k f j Q g e
 | false=>exact⟨.bl false,j,g,rfl,e⟩
theorem CC(ha:PE X a ta):PE X (.UnaryOp .Not a pos) (Lo ta):=by
 intro d s e H Q I h;refine UnaryOp_ (En (ha d s e H _ I h) λv k ⟨x,j,f,g,b⟩=>?_);obtain⟨c,rfl,b⟩:=b
 cases g;exact not_of (eJ ⟨.bl (!c),j,f,rfl,b⟩)
end
def SqL(K:cu)(H:Hp)(a:cG)(xs:List V):Prop:=
 Rd H a (.lst xs)\/
  ∃(o:Obj) (its:Array cA) (n:Nat),K.lookup a=some o/\o.cls = .type "list"/\o.dict=none/\o.data = .seq its n/\its.size<=sizeLine/\Vals xs its.toList
def SqT(K:cu)(H:Hp)(a:cG)(xs:List V):Prop:=
 Rd H a (.tup xs)\/
  ∃(o:Obj) (its:Array cA) (n:Nat),K.lookup a=some o/\o.cls = .type "tuple"/\o.data = .seq its n/\its.size<=sizeLine/\Vals xs its.toList
def Ml:cA->Option V
 | .none=>some .non
 | .bool b=>some (.bl b)
 | .int i _=>some (.int i)
 | .str x _=>some (.str x)
 | .bytes b _=>some (.byt b)
 | .float b _=>some (.flt b)
 | .ref a=>some (.ref a)
 | .type n=>some (.ty n)
 | _=>none
theorem RelV.abs{x:V}{u:cA}(r:RelV x u):Ml u=some x:=by
 cases x with
 | non=>cases r;rfl
 | bl _=>cases r;rfl
 | int _=>obtain⟨t,rfl⟩:=r;rfl
 | str _=>obtain⟨t,rfl⟩:=r;rfl
 | byt _=>obtain⟨t,rfl⟩:=r;rfl
 | flt _=>obtain⟨t,rfl⟩:=r;rfl
 | ref _=>cases r;rfl
 | ty _=>cases r;rfl
theorem RelV.inj{x y:V}{u:cA}(r:RelV x u)(q:RelV y u):x=y:=Option.some.inj (r.abs.symm.trans q.abs)
theorem Vals.inj:∀{xs ys:List V} {us:List cA},Vals xs us->Vals ys us->xs=ys
 | _,_,_,.nil,.nil=>rfl
 | _,_,_,.cons r t,.cons r' t'=>by rw[r.inj r',Vals.inj t t']
section
variable{X:Cx}{pins:List (cG×Obj)}{σ:St}{H:Hp}{s:cD}{a:cG}{xs ys:List V}
theorem SqL.of{K:cu}(h:H a=some (.lst xs)):SqL K H a xs:= .inl (.inl h)
theorem SqT.of{K:cu}(h:H a=some (.tup xs)):SqT K H a xs:= .inl (.inl h)
theorem Inv.list(I:Inv X pins σ H s)(h:SqL X.K H a xs):∃its:List cA,Vals xs its/\PlainL s.heap a its.toArray/\xs.length<=sizeLine:=by
 rcases h with h|⟨o,its,n,hk,b,c,d,f,r⟩
 ·obtain⟨z,its,n,r,e⟩:=h.ok I.hok;exact⟨its,r,⟨_,n,e,rfl,rfl,rfl⟩,z⟩
 ·refine⟨its.toList,r,⟨o,n,I.kIn a o hk,b,c,by simpa using d⟩,?_⟩;have e:=r.length;simp only[eo]at e;omega
theorem Inv.tuple(I:Inv X pins σ H s)(h:SqT X.K H a xs):∃its:List cA,Vals xs its/\IsTup s.heap a its.toArray/\xs.length<=sizeLine:=by
 rcases h with h|⟨o,its,n,hk,b,c,d,r⟩
 ·obtain⟨z,its,r,p⟩:=h.ok I.hok;exact⟨its,r,p,z⟩
 ·refine⟨its.toList,r,⟨o,I.kIn a o hk,b,n,by simpa using c⟩,?_⟩;have e:=r.length;simp only[eo]at e;omega
theorem Inv.list_inj(I:Inv X pins σ H s)(h:SqL X.K H a xs)(h':SqL X.K H a ys):xs=ys:=by
 obtain⟨g,r,⟨o,n,e,_,_,d⟩,_⟩:=I.list h;obtain⟨b,j,⟨k,l,c,_,_,f⟩,_⟩:=I.list h';rw[e]at c;cases c;rw[d]at f;injection f with d1 _
 have:g=b:=by simpa using congrArg m5 d1
 subst this;exact r.inj j
theorem Inv.tuple_inj(I:Inv X pins σ H s)(h:SqT X.K H a xs)(h':SqT X.K H a ys):xs=ys:=by
 obtain⟨g,r,⟨o,e,_,n,d⟩,_⟩:=I.tuple h;obtain⟨b,j,⟨k,c,_,l,f⟩,_⟩:=I.tuple h';rw[e]at c;cases c;rw[d]at f;injection f with d1 _
 have:g=b:=by simpa using congrArg m5 d1
 subst this;exact r.inj j
end
abbrev Cx.wish(X:Cx)(E:cA->cD->Prop):Cx:={X with xe:=E}
abbrev Cx.nox(X:Cx):Cx:=X.wish λ_ _=>False
theorem Cx.Ok.wish{X:Cx}(ok:X.Ok)(E:cA->cD->Prop):(X.wish E).Ok:=
 ⟨ok.mod,ok.kind,ok.glob,ok.blt,ok.above,ok.inj,ok.has,ok.cab,ok.hd,ok.frames,ok.stk,ok.exf,ok.bs,ok.bsz,ok.noex,ok.exfs,ok.funs,ok.frf⟩
theorem Cx.Ok.unwish{X:Cx}{E:cA->cD->Prop}(ok:(X.wish E).Ok):X.Ok:=
 ⟨ok.mod,ok.kind,ok.glob,ok.blt,ok.above,ok.inj,ok.has,ok.cab,ok.hd,ok.frames,ok.stk,ok.exf,ok.bs,ok.bsz,ok.noex,ok.exfs,ok.funs,ok.frf⟩
section
variable{X:Cx}{pins:List (cG×Obj)}{σ:St}{H:Hp}{s:cD}{E:cA->cD->Prop}
theorem Inv.wish(I:Inv X pins σ H s)(E:cA->cD->Prop):Inv (X.wish E) pins σ H s:=⟨I.ok.wish E,I.os,I.bare,I.base,I.loc,I.cell,I.free,I.freeC,I.pin,I.hok,I.len⟩
theorem Inv.unwish(I:Inv (X.wish E) pins σ H s):Inv X pins σ H s:=⟨I.ok.unwish,I.os,I.bare,I.base,I.loc,I.cell,I.free,I.freeC,I.pin,I.hok,I.len⟩
theorem SP.unwish{D:GC}{f:Flow}{s':cD}(h:SP (X.wish E) pins D f s'):SP X pins D f s':=by
 cases f with
 | next=>obtain⟨a,b,I,q⟩:=h;exact⟨a,b,I.unwish,q⟩
 | brk=>obtain⟨a,b,I,q⟩:=h;exact⟨a,b,I.unwish,q⟩
 | cont=>obtain⟨a,b,I,q⟩:=h;exact⟨a,b,I.unwish,q⟩
 | ret u=>obtain⟨v,a,b,I,r,q⟩:=h;exact⟨v,a,b,I.unwish,r,q⟩
theorem PSs.nox{st:List Stmt}{t:TS}(h:PSs X.nox st t):PSs X st t:=λa s c H D I b=>
 gj (h a s c H D (I.wish _) b) (λ_ _ q=>q.unwish) λ_ _ z=>fj z
end
section
variable{X:Cx}{st:Stmt}{rest:List Stmt}{t u:TS}{e:Expr}{te:TE}{pos:Pos}
def LJ:TS:=λD σ H=>D.nx σ H
def LB(t u:TS):TS:=λD σ H=>t {D with nx:=u D} σ H
theorem rX:PSs X [] LJ:=λ_ _ a H _ I h=>io ⟨a,H,I,h⟩
theorem rq(h1:PS X st t)(h2:PSs X rest u):PSs X (st::rest) (LB t u):=by
 intro a s d H D I h;refine kW (En (h1 a s d H {D with nx:=u D} I h) λf e q=>?_)
 cases f with
 | next=>
  obtain⟨b,c,g,q⟩:=q;exact h2 a e b c D g q
 | ret v=>exact q
 | brk=>exact q
 | cont=>exact q
theorem rD(h1:PS X st t):PSs X [st] t:=by
 intro a s b H D I h;refine kW (En (h1 a s b H D I h) λf c q=>?_)
 cases f with
 | next=>exact io q
 | ret v=>exact q
 | brk=>exact q
 | cont=>exact q
theorem Inv.quiet{pins:List (cG×Obj)}{σ:St}{H:Hp}{s:cD}(I:Inv X pins σ H s):interactive X.env=false:=by simp[interactive,I.ok.kind]
def Ko(te:TE):TS:=λD σ H=>te σ H λ_ H1=>D.nx σ H1
theorem sY(he:PE X e te)(hs:swapsWith e none pos.line X.env=pure false:=by rfl):PS X (.Expr e pos) (Ko te):=by
 intro a s b H D I h;exact oK (En (he a s b H _ I h) λv g ⟨x,f,d,j,c⟩=>⟨b,f,d,c⟩) I.quiet hs
def Mr(te:TE):TS:=λD σ H=>te σ H D.rt
theorem rM(he:PE X e te):PS X (.Return (some e) pos) (Mr te):=by
 intro a s b H D I h;exact wpAny_Return_some (En (he a s b H _ I h) λv j ⟨x,g,d,f,c⟩=>⟨x,b,g,d,f,c⟩)
def Ms(c:TT)(t u:TS):TS:=λD σ H=>c σ H λb H1=>if b=true then t D σ H1 else u D σ H1
theorem sA{c:Expr}{a b:List Stmt}{tc:TT}(hc:PT X c tc)(ha:PSs X a t)(hb:PSs X b u):PS X (.If c a b pos) (Ms tc t u):=by
 intro e s f H D I h;refine wpAny_If (En (hc e s f H _ I h) λd j ⟨l,k,g⟩=>?_)
 cases d with
 | true=>exact ha e j f l D k g
 | false=>exact hb e j f l D k g
def KH:TS:=λ_ _ _=>False
theorem Ac{sts:List Stmt}:PSs X sts KH:=λ_ _ _ _ _ _ h=>h.elim
end
abbrev TG:=V->St->Hp->(St->Hp->Prop)->Prop
abbrev JV:=List V->St->Hp->(St->Hp->Prop)->Prop
def PG(X:Cx)(target:Expr)(t:TG):Prop:=
 ∀(pins:List (cG×Obj)) (s:cD) (σ:St) (H:Hp) (v:V) (u:cA) (Q:St->Hp->Prop),Inv X pins σ H s->RelV v u->t v σ H Q->
  wpAny (model X.prog X.w) X.A (assign target X.env u) (λ_ s'=>∃σ' H',Inv X pins σ' H' s'/\Q σ' H') X.xe s
def K6(X:Cx)(ts:List Expr)(t:JV):Prop:=
 ∀(pins:List (cG×Obj)) (s:cD) (σ:St) (H:Hp) (vs:List V) (us:List cA) (Q:St->Hp->Prop),Inv X pins σ H s->Vals vs us->t vs σ H Q->
  wpAny (model X.prog X.w) X.A (assignInOrder ((assignEach ts X.env).map (·.2)) us) (λ_ s'=>∃σ' H',Inv X pins σ' H' s'/\Q σ' H') X.xe s
abbrev KY:=V->V->V->Hp->(Hp->Prop)->Prop
def J1(X:Cx)(t:KY):Prop:=
 ∀(pins:List (cG×Obj)) (s:cD) (σ:St) (H:Hp) (o i v:V) (ov iv u:cA) (Q:Hp->Prop),Inv X pins σ H s->RelV o ov->RelV i iv->RelV v u->t o i v H Q->
  wpAny (model X.prog X.w) X.A (setItem ov iv u) (λ_ s'=>∃H',Inv X pins σ H' s'/\Q H') X.xe s
section
variable{X:Cx}{pos:Pos}
def Il(i:Nat):TG:=λv σ H Q=>Q (σ.set i (some v)) H
theorem rK{i:Nat}{x:Str}(hN:X.N.Nodup)(hi:X.N[i]?=some x)(hx:LZ X.env.scope x)(hf:X.fn x=true\/X.env.scope.names.lookup x=some .local:=by first|exact .inl rfl|exact .inr rfl|assumption):PG X (.Name x pos) (Il i):=by
 intro a s c H v u Q I r h;exact m6 (y6 I hN hi hx r (λd b=>⟨_,H,b,h⟩) hf)
def LD:JV:=λvs σ H Q=>vs=[]/\Q σ H
def Kq(t:TG)(u:JV):JV:=λvs σ H Q=>∃v r,vs=v::r/\t v σ H λσ' H'=>u r σ' H' Q
theorem ut:K6 X [] LD:=by
 intro b s a H vs c Q I r h;obtain⟨e,h⟩:=h;subst e
 cases r;exact assignInOrder_nil ⟨a,H,I,h⟩
theorem sD{e:Expr}{es:List Expr}{t:TG}{u:JV}(h1:PG X e t)(h2:K6 X es u)
  (hs:(assignEach (e::es) X.env).map (·.2)=assign e X.env::(assignEach es X.env).map (·.2):=by rfl):K6 X (e::es) (Kq t u):=by
 intro a s j H vs m Q I r h
 obtain⟨v,n,c,h⟩:=h
 subst c
 cases r with
 | cons r d=>
  rw[hs]
  refine assignInOrder_cons (En (h1 a s j H _ _ _ I r h) λ_ f ⟨b,l,g,k⟩=>?_)
  exact h2 a f b l _ _ Q g d k
def Ku(K:cu)(n:Nat)(t:JV):TG:=λv σ H Q=>∃a xs,v = .ref a/\SqT K H a xs/\xs.length=n/\t xs σ H Q
theorem yO{es:List Expr}{k:Nat}{t:JV}{n:Nat}(hc:X.calm=true)(h:K6 X es t)
  (hn:(assignEach es X.env).length=n:=by rfl)(hst:(assignEach es X.env).findIdx? (·.1)=none:=by rfl):PG X (.Tuple es k pos) (Ku X.K n t):=by
 intro c s g H v u Q I r d
 obtain⟨a,x,j,w,y,d⟩:=d
 subst j
 cases r
 obtain⟨z,f,l,A⟩:=I.tuple w
 refine assign_Tuple_tuple (I.ok.hd hc) l (by simp[hn,<-y,f.length]) hst λm p=>?_
 have q:Inv X c g H {s with heap:=m}:=I.kept (t':=s.toks) λb o e=>p b o (df (cQ e)) e
 exact h c _ g H x _ Q q (by simpa using f) d
def Ma(to ti:TE)(t:KY):TG:=λv σ H Q=>to σ H λo H1=>ti σ H1 λi H2=>t o i v H2 λH3=>Q σ H3
theorem wh{o i:Expr}{to ti:TE}{t:KY}(ho:PE X o to)(hi:PE X i ti)(hs:J1 X t)
  (ha:∀v,assign (.Subscript o i pos) X.env v=(do
   let ov<-holding [v] (eval o X.env)
   let iv<-holding [v,ov] (eval i X.env)
   standAt pos
   holding [v,ov,iv] (setItem ov iv v)
   release [v,ov,iv] []):=by intro _;rfl):PG X (.Subscript o i pos) (Ma to ti t):=by
 intro a s b H v u Q I r h
 rw[ha]
 refine cr (dG (En (ho a s b H _ I h) λov j ⟨x,c,l,e,p⟩=>?_))
 refine cr (dG (En (hi a j b c _ l p) λiv k ⟨y,q,g,d,w⟩=>?_))
 refine cr (mv (cr (dG (En (hs a k b q x y v ov iv u _ g e d r w) λ_ z ⟨f,m,n⟩=>?_))))
 exact wpAny_release ⟨b,f,m,n⟩
def K3(te:TE)(g:TG):TS:=λD σ H=>te σ H λx H1=>g x σ H1 D.nx
theorem wo{tg e:Expr}{te:TE}{g:TG}(he:PE X e te)(hg:PG X tg g)(hs:swapsWithSole [tg] e pos.line X.env=pure false:=by rfl)(hw:swappedStores [tg] e X.env=pure none:=by rfl)
  (h1:(assignEach [tg] X.env).map (·.2)=[assign tg X.env]:=by rfl):PS X (.Assign [tg] e pos) (K3 te g):=by
 intro a s b H D I h
 refine wpAny_Assign_stores (En (he a s b H _ I h) λv d ⟨x,k,f,j,c⟩=>?_) hs hw
 rw[h1]
 exact En (hg a d b k x v _ f j c) λ_ l q=>q
theorem rG{i:Nat}{x:Str}{e:Expr}{te:TE}{pos':Pos}(hN:X.N.Nodup)(hi:X.N[i]?=some x)(hx:LZ X.env.scope x)(he:PE X e te)(hs:swapsWith e (some (.Name x pos')) pos.line X.env=pure false:=by rfl)(hf:X.fn x=true\/X.env.scope.names.lookup x=some .local:=by first|exact .inl rfl|exact .inr rfl|assumption):
  PS X (.Assign [.Name x pos'] e pos) (K3 te (Il i)):=by
 intro a s c H D I h
 refine wpAny_Assign_Name (En (he a s c H _ I h) λv k ⟨y,j,f,g,b⟩=>?_) hs
 exact y6 f hN hi hx g (λl d=>⟨_,j,d,b⟩) hf
end
section
variable{X:Cx}{pos:Pos}
def JX(c:TT)(tb:TS):TS:=λD σ H=>∃W:Nat->St->Hp->Prop,(∃m,W m σ H)/\∀m σ H,W m σ H->
 c σ H λb H1=>if b=true then ∃N:St->Hp->Prop,(∀σ' H',N σ' H'->∃m',m'<m/\W m' σ' H')/\tb {D with nx:=N,ct:=N,bk:=D.nx} σ H1 else D.nx σ H1
theorem uA{c:Expr}{body:List Stmt}{tc:TT}{tb:TS}(hp:PassesOwn (model X.prog X.w) X.A X.env X.xe)(hc:PT X c tc)(hb:PSs X body tb):PS X (.While c body [] pos) (JX tc tb):=by
 intro d s J H D I h;obtain⟨W,⟨z,G⟩,p⟩:=h;refine wpAny_While (codeAny_whileLoop (λn K=>∃σ' H',Inv X d σ' H' K/\W n σ' H') ?_ z ⟨J,H,I,G⟩);rintro n C ⟨e,y,F,B⟩;refine gQ hp (En (hc d C e y _ F (p n e y B)) λb E ⟨x,t,k⟩=>?_)
 cases b with
 | true=>
  obtain⟨N,u,k⟩:=k;rw[if_pos rfl];refine gQ hp (En (hb d E e x _ t k) λf L j=>?_)
  cases f with
  | next=>
   obtain⟨a,g,r,q⟩:=j;obtain⟨l,o,m⟩:=u a g q;exact⟨l,o,a,g,r,m⟩
  | cont=>
   obtain⟨a,g,r,q⟩:=j;obtain⟨l,o,m⟩:=u a g q;exact⟨l,o,a,g,r,m⟩
  | brk=>exact j
  | ret v=>exact j
 | false=>
  rw[if_neg de];exact io ⟨e,x,t,k⟩
end
structure It where
 go:Nat->Hp->Prop
 yld:Nat->Hp->V->Hp->Prop
 stop:Nat->Hp->Prop
def Gf(X:Cx)(pins:List (cG×Obj))(H:Hp)(b:cG):Prop:=
 H b=none/\b≠X.env.locals/\b∉X.fs/\(b∈X.ex\/X.s₀.heap.objs.size<=b)/\(∀x c,X.env.cells.lookup x=some c->c≠b)/\∀p∈X.pn++pins,p.1≠b
theorem Inv.fpOk{X:Cx}{pins:List (cG×Obj)}{σ:St}{H H':Hp}{s:cD}{b:cG}(I:Inv X pins σ H s)(hb:s.heap.objs.size<=b)(hn:H' b=none):Gf X pins H' b:=by
 refine⟨hn,ie (cU I.lt hb),I.nofs hb,.inr (dg I.sz hb),λx c e z=>?_,λp hp z=>?_⟩
 ·obtain⟨v,q⟩:=I.cell x c e;exact absurd (cU q.lt (by rw[z];exact hb)) (dt _)
 ·exact absurd (cU (cQ (I.pin p hp).1) (by rw[z];exact hb)) (dt _)
structure HX(P:cT)(w:dc)(K:cu)(tg:Expr)(J:It)(fp:List cG)(it:cG)(tn:Nat->Heap->Prop):Prop where
 mem:it∈fp
 obj:∀i h,tn i h->∀b∈fp,∃o,h.get? b=some o/\∀v,o.data≠ .cell v
 keep:∀i h h',tn i h->(∀b∈fp,∀o,h.get? b=some o->h'.get? b=some o)->tn i h'
 item:∀(X:Cx),X.prog=P->X.w=w->X.K=K->X.calm=true->∀(i:Nat) (pins:List (cG×Obj)) (s:cD) (σ:St) (H:Hp) (E:cA->cD->Prop),Inv X pins σ H s->(∀b∈fp,Gf X pins H b)->tn i s.heap->J.go i H->
  wpAny (model P w) X.A (pyNext (.ref it)) (λr s1=>∃u,r=some u/\
   wpAny (model P w) X.A (letOwnedTupleGo tg (.ref it) u) (λ_ s2=>∃x H',Inv X pins σ H' s2/\RelV x u/\J.yld i H x H'/\tn (i+1) s2.heap/\∀b∈fp,H' b=none) E s1) E s
 done:∀(X:Cx),X.prog=P->X.w=w->X.K=K->X.calm=true->∀(i:Nat) (pins:List (cG×Obj)) (s:cD) (σ:St) (H:Hp) (E:cA->cD->Prop),Inv X pins σ H s->(∀b∈fp,Gf X pins H b)->tn i s.heap->J.stop i H->
  wpAny (model P w) X.A (pyNext (.ref it)) (λr s1=>r=none/\Inv X pins σ H s1) E s
 self:∀(A:dw) (i:Nat) (s:cD) (Q:cA->cD->Prop) (E:cA->cD->Prop),tn i s.heap->Q (.ref it) s->wpAny (model P w) A (pyIter (.ref it)) Q E s
abbrev TI:=St->Hp->(It->Hp->Prop)->Prop
def L4(X:Cx)(pins:List (cG×Obj))(σ:St)(tg:Expr)(R:It->Hp->Prop)(itv:cA)(s2:cD):Prop:=
 ∃(it:cG) (fp:List cG) (tn:Nat->Heap->Prop) (J:It) (H':Hp),itv = .ref it/\Inv X pins σ H' s2/\HX X.prog X.w X.K tg J fp it tn/\tn 0 s2.heap/\(∀b∈fp,Gf X pins H' b)/\R J H'
def PI(X:Cx)(tg iter:Expr)(wi:TI):Prop:=
 ∀(pins:List (cG×Obj)) (s:cD) (σ:St) (H:Hp) (R:It->Hp->Prop),Inv X pins σ H s->wi σ H R->
  wpAny (model X.prog X.w) X.A (eval iter X.env) (λv s1=>wpAny (model X.prog X.w) X.A (pyIter v) (L4 X pins σ tg R) X.xe s1) X.xe s
theorem Ca{M:Model}{A:dw}{E:cA->cD->Prop}{s:cD}{tg:Expr}{it:cG}{u:cA}{o:Obj}{n:String}{vs:Array cA}{Q:Unit->cD->Prop}(ho:s.heap.get? it=some o)(hc:o.cls = .type n)(hd:o.data = .fields vs)
  (hn:["enumerate","zip","dict_itemiterator","dict_reverseitemiterator","odict_iterator","itertools.zip_longest","itertools.pairwise"].contains n=false)(hQ:Q () s):wpAny M A (letOwnedTupleGo tg (.ref it) u) Q E s:=by
 unfold letOwnedTupleGo
 cases tg <;> first
  | exact cv hQ
  | (cases u <;> first
    | exact cv hQ
    | (refine cr (wpAny_load ho ?_);rw[hc,hd];show wpAny M A (if(["enumerate","zip","dict_itemiterator","dict_reverseitemiterator","odict_iterator","itertools.zip_longest","itertools.pairwise"].contains n&&vs[0]?==some (rawInt _))=true then _ else _) Q E s;rw[if_neg (by intro h;rw[hn,jq]at h;cases h)];exact cv hQ))
def KL(K:cu)(a:cG):It:=
 ⟨λi H=>∃xs x,SqL K H a xs/\xs[i]?=some x,λi H x H'=>H'=H/\∀xs,SqL K H a xs->xs[i]?=some x,λi H=>∃xs,SqL K H a xs/\xs.length<=i⟩
def KU(K:cu)(a:cG):It:=
 ⟨λi H=>∃xs x,SqT K H a xs/\xs[i]?=some x,λi H x H'=>H'=H/\∀xs,SqT K H a xs->xs[i]?=some x,λi H=>∃xs,SqT K H a xs/\xs.length<=i⟩
def Ka(lo:Int)(n:Nat):It:=⟨λi _=>i<n,λi H x H'=>H'=H/\x = .int (lo+i),λi _=>n<=i⟩
theorem A8{P:cT}{w:dc}{K:cu}{tg:Expr}(a it:cG):HX P w K tg (KL K a) [it] it (λi h=>h.IsListIter it a i) where
 mem:=by simp
 obj:=λi h st b f=>by
  have e:b=it:=by simpa using f
  subst e
  obtain⟨o,e,c,d⟩:=st
  exact⟨o,e,λv z=>by rw[d]at z;cases z⟩
 keep:=λi h j st k=>st.at λo e=>k it (by simp) o e
 item:=by
  intro X J q y L i g s M H E I l st G
  subst J q y
  obtain⟨V,x,m,B⟩:=G
  obtain⟨N,t,p,S⟩:=I.list m
  obtain⟨u,Z,R⟩:=t.get B
  obtain⟨C,F,Q,D,r,A⟩:=l it (by simp)
  refine wpAny_pyNext_list_item st p.isList (x:=u) (by simpa using Z) λj n Y=>?_
  have T:Inv X g M H {s with heap:=j}:=I.turned (t':=s.toks) (λb o f e=>(Y.2 b f).trans e) C F D r A
  obtain⟨o,e,c,d⟩:=id n
  exact⟨u,rfl,Ca (s:={s with heap:=j}) e c d (by decide) ⟨x,H,T,R,⟨rfl,λys O=>by rw[I.list_inj O m];exact B⟩,n,λb f=>(l b f).1⟩⟩
 done:=by
  intro X J q y L i g s M H E I l st G
  subst J q y
  obtain⟨V,m,B⟩:=G
  obtain⟨N,t,p,S⟩:=I.list m
  obtain⟨C,F,Q,D,r,A⟩:=l it (by simp)
  have hl:=t.length
  exact wpAny_pyNext_list_end (I.ok.hd L) st p.isList (by simp;omega) λj U=>⟨rfl,I.turned (t':=s.toks) (λb o f e=>U b o f e) C F D r A⟩
 self:=λ_ _ _ _ _ st h=>wpAny_pyIter_listiter st h
theorem ze{P:cT}{w:dc}{K:cu}{tg:Expr}(a it:cG):HX P w K tg (KU K a) [it] it (λi h=>h.IsTupleIter it a i) where
 mem:=by simp
 obj:=λi h st b f=>by
  have e:b=it:=by simpa using f
  subst e
  obtain⟨o,e,c,d⟩:=st
  exact⟨o,e,λv z=>by rw[d]at z;cases z⟩
 keep:=λi h l st k=>st.at λo e=>k it (by simp) o e
 item:=by
  intro X L r A M i j s N H E I m st J
  subst L r A
  obtain⟨V,x,n,C⟩:=J
  obtain⟨g,y,p,S⟩:=I.tuple n
  obtain⟨u,Z,R⟩:=y.get C
  obtain⟨D,G,Q,F,t,B⟩:=m it (by simp)
  refine wpAny_pyNext_tuple_item st (show s.heap.IsTuple a g.toArray from p) (x:=u) (by simpa using Z) λl q Y=>?_
  have T:Inv X j N H {s with heap:=l}:=I.turned (t':=s.toks) (λb o f e=>(Y.2 b f).trans e) D G F t B
  obtain⟨o,e,c,d⟩:=id q
  exact⟨u,rfl,Ca (s:={s with heap:=l}) e c d (by decide) ⟨x,H,T,R,⟨rfl,λys O=>by rw[I.tuple_inj O n];exact C⟩,q,λb f=>(m b f).1⟩⟩
 done:=by
  intro X L r A M i j s N H E I m st J
  subst L r A
  obtain⟨V,n,C⟩:=J
  obtain⟨g,y,p,S⟩:=I.tuple n
  obtain⟨D,G,Q,F,t,B⟩:=m it (by simp)
  have hl:=y.length
  exact wpAny_pyNext_tuple_end (I.ok.hd M) st (show s.heap.IsTuple a g.toArray from p) (by simp;omega) λl U=>⟨rfl,I.turned (t':=s.toks) (λb o f e=>U b o f e) D G F t B⟩
 self:=λ_ _ _ _ _ st h=>wpAny_pyIter_tupleiter st h
theorem zL{P:cT}{w:dc}{K:cu}{tg:Expr}(it:cG)(lo:Int)(n:Nat):HX P w K tg (Ka lo n) [it] it (λi h=>IsRangeIter h it (lo+(i:Nat)*1) ((n:Int)-(i:Nat)) 1) where
 mem:=by simp
 obj:=λi h st b a=>by
  have e:b=it:=by simpa using a
  subst e
  exact⟨_,st,λv z=>by
   have F:lY _=Data.cell v:=z
   cases F⟩
 keep:=λi h d st k=>k it (by simp) _ st
 item:=by
  intro X A j m p i c s B H E I f st y
  subst A j m
  obtain⟨r,x,C,u,l,q⟩:=f it (by simp)
  have W:=Walks.range (prog:=X.prog) (w:=X.w) (I.ok.hd p) it lo 1 n
  refine W.item i s _ _ y st λv d tk L g J=>?_
  obtain⟨t,rfl⟩:=L
  have D:Inv X c B H {s with heap:=d,toks:=tk}:=I.turned (λb o a e=>J b o (by simpa using a) e) r x u l q
  refine⟨_,rfl,Ca (s:={s with heap:=d,toks:=tk}) (n:="range_iterator") g rfl rfl (by decide) ⟨.int (lo+i),H,D,⟨t,?_⟩,⟨rfl,rfl⟩,g,λb a=>(f b a).1⟩⟩
  rw[ia]
 done:=by
  intro X A j m p i c s B H E I f st y
  subst A j m
  obtain⟨r,x,C,u,l,q⟩:=f it (by simp)
  exact wpAny_pyNext_range_end (I.ok.hd p) st (by have:n<=i:=y;omega) λd G=>⟨rfl,I.turned (t':=s.toks) (λb o a e=>G b o a e) r x u l q⟩
 self:=λ_ _ _ _ _ st h=>wpAny_pyIter_rangeiter st h
section
variable{X:Cx}{tg:Expr}
def Kt(K:cu)(tl:TE):TI:=λσ H R=>tl σ H λx H1=>∃a,x = .ref a/\(∃xs,SqL K H1 a xs)/\R (KL K a) H1
def K8(K:cu)(tl:TE):TI:=λσ H R=>tl σ H λx H1=>∃a,x = .ref a/\(∃xs,SqT K H1 a xs)/\R (KU K a) H1
theorem sZ{l:Expr}{tl:TE}(hl:PE X l tl):PI X tg l (Kt X.K tl):=by
 intro f s k H R I h;refine En (hl f s k H _ I h) λv c ⟨x,r,d,g,m⟩=>?_
 obtain⟨a,e,⟨y,j⟩,q⟩:=m;subst e
 cases g;obtain⟨t,u,p,w⟩:=d.list j;refine iC p.isList ?_;refine⟨c.heap.objs.size,[c.heap.objs.size],_,_,r,rfl,d.kept (t':=c.toks) λb o e=>cF _ e,A8 a _,⟨_,cN _ rfl,rfl,rfl⟩,λb n=>?_,q⟩;have e:b=c.heap.objs.size:=by simpa using n
 subst e;exact d.fpOk (cI _) (d.hok.fresh (cI _))
theorem uy{l:Expr}{tl:TE}(hl:PE X l tl):PI X tg l (K8 X.K tl):=by
 intro f s m H R I h;refine En (hl f s m H _ I h) λv c ⟨x,t,d,j,n⟩=>?_
 obtain⟨a,e,⟨y,k⟩,q⟩:=n;subst e
 cases j;obtain⟨g,u,p,w⟩:=d.tuple k;refine mK (show c.heap.IsTuple a g.toArray from p) ?_;refine⟨c.heap.objs.size,[c.heap.objs.size],_,_,t,rfl,d.kept (t':=c.toks) λb o e=>cF _ e,ze a _,⟨_,cN _ rfl,rfl,rfl⟩,λb r=>?_,q⟩;have e:b=c.heap.objs.size:=by simpa using r
 subst e;exact d.fpOk (cI _) (d.hok.fresh (cI _))
theorem yB{pins:List (cG×Obj)}{σ:St}{H:Hp}{s:cD}{R:It->Hp->Prop}{E:cA->cD->Prop}{lo hi:Int}{t u v:Tok}{tk:Nat}(I:Inv X pins σ H s)(h1: -(2^62)<=lo)(h2:lo<2^62)(h3: -(2^62)<=hi)(h4:hi<2^62)
  (q:R (Ka lo (hi-lo).toNat) H):wpAny (model X.prog X.w) X.A (pyIter (.ref s.heap.objs.size)) (L4 X pins σ tg R) E {s with heap:=s.heap.push {cls:= .type "range",data:= .fields #[.int lo t,.int hi u,.int 1 v]},toks:=tk}:=by
 refine wpAny_pyIter_range (IsRange.new ..) (small_one h1 h2 h3 h4) ?_
 have a:Inv X pins σ H {s with heap:=s.heap.push {cls:= .type "range",data:= .fields #[.int lo t,.int hi u,.int 1 v]},toks:=tk}:=I.kept λb o e=>cF _ e
 refine⟨(s.heap.push {cls:= .type "range",data:= .fields #[.int lo t,.int hi u,.int 1 v]}).objs.size,[(s.heap.push {cls:= .type "range",data:= .fields #[.int lo t,.int hi u,.int 1 v]}).objs.size],_,_,H,rfl,
  a.kept (t':=tk) λb o e=>cF _ e,zL _ lo (hi-lo).toNat,?_,λb d=>?_,q⟩
 ·have f:lo+((0:Nat):Int)*1=lo:=by simp
  have c:(((hi-lo).toNat:Nat):Int)-((0:Nat):Int)=p6 lo hi 1:=by rw[rangeSize_one];split <;> omega
  show IsRangeIter _ _ (lo+((0:Nat):Int)*1) ((((hi-lo).toNat:Nat):Int)-((0:Nat):Int)) 1
  rw[f,c]
  exact cN _ rfl
 ·have e:b=(s.heap.push {cls:= .type "range",data:= .fields #[.int lo t,.int hi u,.int 1 v]}).objs.size:=by simpa using d
  subst e
  exact a.fpOk (cI _) (a.hok.fresh (cI _))
def LI(ta:TA):TI:=λσ H R=>ta σ H λvs H1=>∃j:Int,vs=[.int j]/\ -(2^62)<=j/\j<2^62/\R (Ka 0 j.toNat) H1
def LS(ta:TA):TI:=λσ H R=>ta σ H λvs H1=>∃i j:Int,vs=[.int i,.int j]/\(-(2^62)<=i/\i<2^62/\ -(2^62)<=j/\j<2^62)/\R (Ka i (j-i).toNat) H1
theorem rZ{a:Expr}{ta:TA}{p pos:Pos}(hg:Gl X "range")(hm:X.mg "range"=none)(ha:PA X [a] ta)(hs:dh [a] X.env=[(false,eval a X.env)]:=by rfl):PI X tg (.Call (.Name "range" p) [a] [] pos) (LI ta):=by
 intro c s k H R I h;refine rd (tP I hg hm boot_range (d7 (En (ha pos c s k H _ I h) λo n ⟨vs,m,g,d,b⟩=>?_) hs rfl));obtain⟨j,e,b,l,q⟩:=b;subst e
 cases d with
 | cons r f=>
  cases f;obtain⟨t,rfl⟩:=r;exact call_range_1 (yB g (by omega) (by omega) b l (by simpa using q))
theorem Bo{a b:Expr}{ta:TA}{p pos:Pos}(hg:Gl X "range")(hm:X.mg "range"=none)(ha:PA X [a,b] ta)(hs:dh [a,b] X.env=[(false,eval a X.env),(false,eval b X.env)]:=by rfl)(hs2:dh [b] X.env=[(false,eval b X.env)]:=by rfl):
  PI X tg (.Call (.Name "range" p) [a,b] [] pos) (LS ta):=by
 intro f s m H R I h
 refine rd (tP I hg hm boot_range (d7 (En (ha pos f s m H _ I h) λy w ⟨vs,v,l,g,d⟩=>?_) (by rw[hs,hs2]) (by rw[hs2];rfl)))
 obtain⟨i,j,e,⟨d,u,n,k⟩,q⟩:=d
 subst e
 cases g with
 | cons r c=>
  cases c with
  | cons o c=>
   cases c
   obtain⟨t,rfl⟩:=r
   obtain⟨x,rfl⟩:=o
   exact call_range_2 (yB l d u n k q)
def Mv(wi:TI)(g:TG)(tb:TS):TS:=λD σ H=>wi σ H λJ H1=>∃W:Nat->Nat->St->Hp->Prop,(∃m,W 0 m σ H1)/\∀i m σ H,W i m σ H->
 (J.stop i H/\D.nx σ H)\/(J.go i H/\∃N:St->Hp->Prop,(∀σ' H',N σ' H'->∃m',m'<m/\W (i+1) m' σ' H')/\∀x H',J.yld i H x H'->g x σ H' λσ2 H2=>tb {D with nx:=N,ct:=N,bk:=D.nx} σ2 H2)
def GU(fp:List cG)(h:Heap):List (cG×Obj):=fp.filterMap λb=>(h.get? b).map λo=>(b,o)
theorem uh{fp:List cG}{h:Heap}{b:cG}{o:Obj}(hb:b∈fp)(e:h.get? b=some o):(b,o)∈GU fp h:=gH.mpr ⟨b,hb,by rw[e];rfl⟩
theorem Am{fp:List cG}{h:Heap}{p:cG×Obj}(hp:p∈GU fp h):p.1∈fp/\h.get? p.1=some p.2:=by
 obtain⟨b,c,e⟩:=gH.mp hp
 cases q:h.get? b with
 | none=>rw[q]at e;cases e
 | some o=>
  rw[q]at e;have a:(b,o)=p:=Option.some.inj e;subst a;exact⟨c,q⟩
theorem Inv.pinned{pins:List (cG×Obj)}{σ:St}{H:Hp}{s:cD}{fp:List cG}(I:Inv X pins σ H s)(hf:∀b∈fp,Gf X pins H b)(ho:∀b∈fp,∃o,s.heap.get? b=some o/\∀v,o.data≠ .cell v):Inv X (pins++GU fp s.heap) σ H s:=
 I.pins_of λp hp=>(dJ.mp hp).elim (λz=>I.pin p (d5 _ z)) λz=>by
  obtain⟨c,e⟩:=Am z
  obtain⟨g,f,h,_⟩:=hf p.1 c
  obtain⟨o,a,d⟩:=ho p.1 c
  rw[e]at a;cases a
  exact⟨e,g,f,h,d⟩
theorem Inv.unpinned{pins pl:List (cG×Obj)}{σ:St}{H:Hp}{s:cD}(I:Inv X (pins++pl) σ H s):Inv X pins σ H s:=I.pins_of λp hp=>I.pin p (d5 _ (jL _ hp))
theorem sT{iter:Expr}{body:List Stmt}{wi:TI}{g:TG}{tb:TS}{pos:Pos}(hp:PassesOwn (model X.prog X.w) X.A X.env X.xe)(hc:X.calm=true)(hi:PI X tg iter wi)(hg:PG X tg g)(hb:PSs X body tb)
  (hs:∀x,foldedSetIterable iter X.env x=pure x:=by intro _;rfl):PS X (.For tg iter body [] pos) (Mv wi g tb):=by
 intro c s σ H D I h
 refine wpAny_For (En (hi c s σ H _ I h) λv s1 h1=>En h1 λac s2 h2=>?_) hs
 obtain⟨it,z,R,J,H2,e,I2,T,P,Z,W,⟨m0,w0⟩,G⟩:=h2
 subst e
 have q:∀{H':Hp},(∀b∈z,H' b=none)->∀b∈z,Gf X c H' b:=λhn b hb=>⟨hn b hb,(Z b hb).2⟩
 refine codeAny_forLoop_any (λn U=>∃i σ' H',Inv X c σ' H' U/\R i U.heap/\(∀b∈z,H' b=none)/\W i n σ' H') ?_ m0 ⟨0,σ,H2,I2,P,λb hb=>(Z b hb).1,w0⟩
 rintro n Y ⟨i,p,C,S,E,F,w3⟩
 rcases G i n p C w3 with⟨stop,qn⟩|⟨go,N,hN,K⟩
 ·refine gQ hp (En (T.done X rfl rfl rfl hc i c Y p C X.xe S (q F) E stop) λr s4 ⟨M,I4⟩=>?_)
  subst M
  exact io ⟨p,C,I4,qn⟩
 ·refine gQ hp (En (T.item X rfl rfl rfl hc i c Y p C X.xe S (q F) E go) λr s4 ⟨u,M,h4⟩=>?_)
  subst M
  refine gQ hp (En h4 λ_ V ⟨x,O,I5,r5,y5,B,ab⟩=>?_)
  have aa:=I5.pinned (q ab) (T.obj _ _ B)
  refine gQ hp (En (hg _ V p O x u _ aa r5 (K x O y5)) λ_ s6 ⟨Q,H6,I6,q6⟩=>?_)
  refine gQ hp (En (hb _ s6 Q H6 _ I6 q6) λf L l=>?_)
  have t:∀{a:St} {k:Hp},Inv X (c++GU z V.heap) a k L->N a k->∃m,m<n/\∃i σ' H',Inv X c σ' H' L/\R i L.heap/\(∀b∈z,H' b=none)/\W i m σ' H':=λ {a k} j y=>by
   obtain⟨m',hm,w7⟩:=hN a k y
   refine⟨m',hm,i+1,a,k,j.unpinned,T.keep _ _ _ B λb hb o e=>(j.pin (b,o) (d5 _ (d5 _ (uh hb e)))).1,λb hb=>?_,w7⟩
   obtain⟨o,e,d⟩:=T.obj _ _ B b hb
   exact(j.pin (b,o) (d5 _ (d5 _ (uh hb e)))).2.1
  cases f with
  | next=>obtain⟨a,k,j,y⟩:=l;exact t j y
  | cont=>obtain⟨a,k,j,y⟩:=l;exact t j y
  | brk=>obtain⟨a,k,j,l⟩:=l;exact⟨a,k,j.unpinned,l⟩
  | ret v=>obtain⟨x7,a,k,j,r7,l⟩:=l;exact⟨x7,a,k,j.unpinned,r7,l⟩
end
theorem u7{K:cu}{a:cG}{xs:List V}{g:TG}{tb:TS}{D:GC}{σ:St}{H:Hp}(Pv:Nat->St->Hp->Prop)(h0:Pv 0 σ H)(hl:∀i σ H,i<=xs.length->Pv i σ H->SqL K H a xs)
  (hs:∀i x σ H,xs[i]?=some x->Pv i σ H->g x σ H λσ2 H2=>tb {D with nx:=Pv (i+1),ct:=Pv (i+1),bk:=D.nx} σ2 H2)(hd:∀σ H,Pv xs.length σ H->D.nx σ H):
  ∃W:Nat->Nat->St->Hp->Prop,(∃m,W 0 m σ H)/\∀i m σ H,W i m σ H->
   ((KL K a).stop i H/\D.nx σ H)\/((KL K a).go i H/\∃N:St->Hp->Prop,(∀σ' H',N σ' H'->∃m',m'<m/\W (i+1) m' σ' H')/\∀x H',(KL K a).yld i H x H'->g x σ H' λσ2 H2=>tb {D with nx:=N,ct:=N,bk:=D.nx} σ2 H2):=by
 refine⟨λi m σ H=>m=xs.length-i/\i<=xs.length/\Pv i σ H,⟨xs.length,by simp,du _,h0⟩,?_⟩
 rintro i m σ H ⟨rfl,c,p⟩
 have q:=hl i σ H c p
 by_cases b:i<xs.length
 ·refine .inr ⟨⟨xs,xs[i],q,by simp[b]⟩,Pv (i+1),λσ' H' d=>⟨xs.length-(i+1),by omega,rfl,b,d⟩,λx H' y=>?_⟩
  obtain⟨e,y⟩:=y
  subst e
  exact hs i x σ _ (y xs q) p
 ·have e:i=xs.length:=by omega
  subst e
  exact .inl ⟨⟨xs,q,cI _⟩,hd σ H p⟩
theorem Dg{K:cu}{a:cG}{xs:List V}{g:TG}{tb:TS}{D:GC}{σ:St}{H:Hp}(Pv:Nat->St->Hp->Prop)(h0:Pv 0 σ H)(hl:∀i σ H,i<=xs.length->Pv i σ H->SqT K H a xs)
  (hs:∀i x σ H,xs[i]?=some x->Pv i σ H->g x σ H λσ2 H2=>tb {D with nx:=Pv (i+1),ct:=Pv (i+1),bk:=D.nx} σ2 H2)(hd:∀σ H,Pv xs.length σ H->D.nx σ H):
  ∃W:Nat->Nat->St->Hp->Prop,(∃m,W 0 m σ H)/\∀i m σ H,W i m σ H->
   ((KU K a).stop i H/\D.nx σ H)\/((KU K a).go i H/\∃N:St->Hp->Prop,(∀σ' H',N σ' H'->∃m',m'<m/\W (i+1) m' σ' H')/\∀x H',(KU K a).yld i H x H'->g x σ H' λσ2 H2=>tb {D with nx:=N,ct:=N,bk:=D.nx} σ2 H2):=by
 refine⟨λi m σ H=>m=xs.length-i/\i<=xs.length/\Pv i σ H,⟨xs.length,by simp,du _,h0⟩,?_⟩
 rintro i m σ H ⟨rfl,c,p⟩
 have q:=hl i σ H c p
 by_cases b:i<xs.length
 ·refine .inr ⟨⟨xs,xs[i],q,by simp[b]⟩,Pv (i+1),λσ' H' d=>⟨xs.length-(i+1),by omega,rfl,b,d⟩,λx H' y=>?_⟩
  obtain⟨e,y⟩:=y
  subst e
  exact hs i x σ _ (y xs q) p
 ·have e:i=xs.length:=by omega
  subst e
  exact .inl ⟨⟨xs,q,cI _⟩,hd σ H p⟩
theorem sj{lo:Int}{n:Nat}{g:TG}{tb:TS}{D:GC}{σ:St}{H:Hp}(Pv:Nat->St->Hp->Prop)(h0:Pv 0 σ H)
  (hs:∀i σ H,i<n->Pv i σ H->g (.int (lo+i)) σ H λσ2 H2=>tb {D with nx:=Pv (i+1),ct:=Pv (i+1),bk:=D.nx} σ2 H2)(hd:∀σ H,Pv n σ H->D.nx σ H):
  ∃W:Nat->Nat->St->Hp->Prop,(∃m,W 0 m σ H)/\∀i m σ H,W i m σ H->
   ((Ka lo n).stop i H/\D.nx σ H)\/((Ka lo n).go i H/\∃N:St->Hp->Prop,(∀σ' H',N σ' H'->∃m',m'<m/\W (i+1) m' σ' H')/\∀x H',(Ka lo n).yld i H x H'->g x σ H' λσ2 H2=>tb {D with nx:=N,ct:=N,bk:=D.nx} σ2 H2):=by
 refine⟨λi m σ H=>m=n-i/\i<=n/\Pv i σ H,⟨n,by simp,du _,h0⟩,?_⟩
 rintro i m σ H ⟨rfl,c,p⟩
 by_cases a:i<n
 ·refine .inr ⟨a,Pv (i+1),λσ' H' b=>⟨n-(i+1),by omega,rfl,a,b⟩,λx H' y=>?_⟩
  obtain⟨e,y⟩:=y
  subst e y
  exact hs i σ _ a p
 ·have e:i=n:=by omega
  subst e
  exact .inl ⟨cI _,hd σ H p⟩
abbrev R2:=V->V->Hp->VK->Prop
def Fv(X:Cx)(f:cA->cA->Sem cA)(r:R2):Prop:=
 ∀(pins:List (cG×Obj)) (s:cD) (σ:St) (H:Hp) (x y:V) (v u:cA) (Q:VK),Inv X pins σ H s->RelV x v->RelV y u->r x y H Q->
  wpAny (model X.prog X.w) X.A (f v u) (EP X pins σ Q) X.xe s
def L8(X:Cx)(f:cA->Sem cA)(r:V->Hp->VK->Prop):Prop:=
 ∀(pins:List (cG×Obj)) (s:cD) (σ:St) (H:Hp) (x:V) (v:cA) (Q:VK),Inv X pins σ H s->RelV x v->r x H Q->
  wpAny (model X.prog X.w) X.A (f v) (EP X pins σ Q) X.xe s
def EQ(X:Cx)(f:cA)(r:List V->Hp->VK->Prop):Prop:=
 ∀(pins:List (cG×Obj)) (s:cD) (σ:St) (H:Hp) (xs:List V) (us:List cA) (Q:VK),Inv X pins σ H s->Vals xs us->r xs H Q->
  wpAny (model X.prog X.w) X.A (call f us) (EP X pins σ Q) X.xe s
def L6(X:Cx)(r:V->Hp->(Bool->Hp->Prop)->Prop):Prop:=
 ∀(pins:List (cG×Obj)) (s:cD) (σ:St) (H:Hp) (x:V) (v:cA) (Q:Bool->Hp->Prop),Inv X pins σ H s->RelV x v->r x H Q->
  wpAny (model X.prog X.w) X.A (truthy v) (TP X pins σ Q) X.xe s
def LY(r:R2)(ta tb:TE):TE:=λσ H Q=>ta σ H λx H1=>tb σ H1 λy H2=>r x y H2 Q
def MP(r:V->Hp->VK->Prop)(ta:TE):TE:=λσ H Q=>ta σ H λx H1=>r x H1 Q
def rI(C:Int->Int->Prop)(g:Int->Int->V):R2:=λx y H Q=>∃i j,x = .int i/\y = .int j/\C i j/\Q (g i j) H
def KD(g:Int->Int->V):R2:=λx y H Q=>∃i j,x = .int i/\y = .int j/\Q (g i j) H
def rU(g:Int->V):V->Hp->VK->Prop:=λx H Q=>∃i,x = .int i/\Q (g i) H
section
variable{X:Cx}{a b c:Expr}{ta tb tc:TE}{pos:Pos}
theorem KA(ha:PE X a ta)(hb:PE X b tb){pins:List (cG×Obj)}{s:cD}{σ:St}{H:Hp}{R:V->V->Hp->Prop}(I:Inv X pins σ H s)
  (h:ta σ H λx H1=>tb σ H1 λy H2=>R x y H2){Q:cA->cD->Prop}{f:cA->cA->Sem cA}
  (hf:∀v u s2 x y H2,Inv X pins σ H2 s2->RelV x v->RelV y u->R x y H2->wpAny (model X.prog X.w) X.A (f v u) Q X.xe s2):
  wpAny (model X.prog X.w) X.A (eval a X.env) (λv s₁=>wpAny (model X.prog X.w) X.A (eval b X.env) (λu s₂=>wpAny (model X.prog X.w) X.A (f v u) Q X.xe s₂) X.xe s₁) X.xe s:=by
 refine En (ha pins s σ H _ I h) λv j ⟨x,H1,k,l,c⟩=>?_
 refine En (hb pins j σ H1 _ k c) λu s2 ⟨y,H2,e,d,g⟩=>?_
 exact hf v u s2 x y H2 e l d g
theorem rO{op:Operator}{r:R2}(ho:Fv X (binaryOp op) r)(ha:PE X a ta)(hb:PE X b tb):PE X (.BinOp a op b pos) (LY r ta tb):=by
 intro c s f H Q I h;exact wpAny_BinOp (KA ha hb I h λv u j x y e g k d q=>ho c j f e x y v u Q g k d q)
theorem D5{op:UnaryOp}{r:V->Hp->VK->Prop}(ho:L8 X (unaryOp op) r)(ha:PE X a ta):PE X (.UnaryOp op a pos) (MP r ta):=by
 intro b s c H Q I h;exact UnaryOp_ (En (ha b s c H _ I h) λv e ⟨x,j,f,g,d⟩=>ho b e c j x v Q f g d)
theorem LL{f:cA->cA->Sem cA}{C:Int->Int->Prop}{g:Int->Int->Int}
  (rule:∀(i j:Int) (t u:Tok) (s:cD) (Q:cA->cD->Prop) (E:cA->cD->Prop),C i j->Q (.int (g i j) s.toks) {s with toks:=s.toks+1}->wpAny (model X.prog X.w) X.A (f (.int i t) (.int j u)) Q E s):
  Fv X f (rI C λi j=> .int (g i j)):=by
 intro e s k H x y v u Q I c a h
 obtain⟨i,j,rfl,rfl,b,q⟩:=h
 obtain⟨t,rfl⟩:=c
 obtain⟨d,rfl⟩:=a
 exact rule i j t d s _ _ b ⟨.int (g i j),H,I.tok _,⟨_,rfl⟩,q⟩
theorem LR{f:cA->cA->Sem cA}{g:Int->Int->Int}
  (rule:∀(i j:Int) (t u:Tok) (s:cD) (Q:cA->cD->Prop) (E:cA->cD->Prop),Q (.int (g i j) s.toks) {s with toks:=s.toks+1}->wpAny (model X.prog X.w) X.A (f (.int i t) (.int j u)) Q E s):
  Fv X f (KD λi j=> .int (g i j)):=by
 intro d s e H x y v u Q I b a h
 obtain⟨i,j,rfl,rfl,q⟩:=h
 obtain⟨t,rfl⟩:=b
 obtain⟨c,rfl⟩:=a
 exact rule i j t c s _ _ ⟨.int (g i j),H,I.tok _,⟨_,rfl⟩,q⟩
theorem KT{f:cA->cA->Sem cA}{g:Int->Int->Bool}
  (rule:∀(i j:Int) (t u:Tok) (s:cD) (Q:cA->cD->Prop) (E:cA->cD->Prop),Q (.bool (g i j)) s->wpAny (model X.prog X.w) X.A (f (.int i t) (.int j u)) Q E s):
  Fv X f (KD λi j=> .bl (g i j)):=by
 intro d s e H x y v u Q I b a h
 obtain⟨i,j,rfl,rfl,q⟩:=h
 obtain⟨t,rfl⟩:=b
 obtain⟨c,rfl⟩:=a
 exact rule i j t c s _ _ ⟨.bl (g i j),H,I,rfl,q⟩
def K5(i j:Int):Prop:=0<=j/\j<=1000000/\i.natAbs<2^64
theorem sH:Fv X (binaryOp .Add) (KD λi j=> .int (i+j)):=LR λ_ _ _ _ _ _ _ q=>add_int q
theorem wu:Fv X (binaryOp .Sub) (KD λi j=> .int (i-j)):=LR λ_ _ _ _ _ _ _ q=>sub_int q
theorem sg:Fv X (binaryOp .Mod) (rI (λ_ j=>0<j) λi j=> .int (i%j)):=LL λi j _ _ _ _ _ a q=>by
 have h1:(0:Int)<j:=a;exact mod_int' (by omega) (by rw[Int.fmod_eq_emod_of_nonneg i (by omega)];exact q)
theorem Cq:Fv X (binaryOp .Pow) (rI K5 λi j=> .int (i^j.toNat)):=LL λ_ _ _ _ _ _ _ a q=>pow_int_small a.1 a.2.1 a.2.2 q
theorem MQ{f:cA->Sem cA}{g:Int->Int}
  (rule:∀(i:Int) (t:Tok) (s:cD) (Q:cA->cD->Prop) (E:cA->cD->Prop),Q (.int (g i) s.toks) {s with toks:=s.toks+1}->wpAny (model X.prog X.w) X.A (f (.int i t)) Q E s):
  L8 X f (rU λi=> .int (g i)):=by
 intro a s c H x v Q I b h
 obtain⟨i,rfl,q⟩:=h
 obtain⟨t,rfl⟩:=b
 exact rule i t s _ _ ⟨.int (g i),H,I.tok _,⟨_,rfl⟩,q⟩
theorem DX:L8 X (unaryOp .USub) (rU λi=> .int (-i)):=MQ λ_ _ _ _ _ q=>neg_int q
end
def Lf:V->V->Bool
 | .non,.non=>true | .non,.int _=>true | .int _,.non=>true | .non,.bl _=>true | .bl _,.non=>true | .non,.str _=>true | .str _,.non=>true
 | .int _,.int _=>true | .bl _,.bl _=>true | .str _,.str _=>true | .byt _,.byt _=>true
 | .int _,.str _=>true | .str _,.int _=>true | .bl _,.str _=>true | .str _,.bl _=>true
 | _,_=>false
def MS:R2:=λx y H Q=>Lf x y=true/\Q (.bl (decide (x=y))) H
def MW:R2:=λx y H Q=>Lf x y=true/\Q (.bl (!decide (x=y))) H
theorem A5{i j:Int}:decide (V.int i=V.int j)=(i==j):=by
 rw[gx];simp
theorem CD{i j:Bool}:decide (V.bl i=V.bl j)=(i==j):=by
 rw[gx];simp
theorem Ar{i j:Str}:decide (V.str i=V.str j)=(i==j):=by
 rw[gx];simp
theorem As{i j:Array UInt8}:decide (V.byt i=V.byt j)=(i.toList==j.toList):=by
 rw[gx]
 cases i
 cases j;simp
section
variable{X:Cx}{a b c:Expr}{ta tb tc:TE}{pos:Pos}
theorem sk{pins:List (cG×Obj)}{σ:St}{H:Hp}{s:cD}{Q:VK}{k k':Bool}(I:Inv X pins σ H s)(q:Q (.bl k) H)(e:k=k'):EP X pins σ Q (.bool k') s:=by
 subst e;exact⟨.bl k,H,I,rfl,q⟩
theorem tS:Fv X (compareOp .Eq) MS:=by
 intro e s f H x y v u Q I d a h;obtain⟨c,q⟩:=h
 cases x with
 | non=>
  cases d
  cases y with
  | non=>cases a;exact o5 (sk I q (by simp))
  | bl j=>cases a;exact o6 (sk I q (by simp))
  | int j=>obtain⟨b,rfl⟩:=a;exact pz (sk I q (by simp))
  | str j=>obtain⟨b,rfl⟩:=a;exact pA (sk I q (by simp))
  | _=>exact absurd (show false=true from c) de
 | bl i=>
  cases d
  cases y with
  | non=>cases a;exact o7 (sk I q (by simp))
  | bl j=>cases a;exact eq_bool (sk I q CD)
  | str j=>obtain⟨b,rfl⟩:=a;exact o8 (sk I q (by simp))
  | _=>exact absurd (show false=true from c) de
 | int i=>
  obtain⟨t,rfl⟩:=d
  cases y with
  | non=>cases a;exact pB (sk I q (by simp))
  | int j=>obtain⟨b,rfl⟩:=a;exact eq_int (sk I q A5)
  | str j=>obtain⟨b,rfl⟩:=a;exact pC (sk I q (by simp))
  | _=>exact absurd (show false=true from c) de
 | str i=>
  obtain⟨t,rfl⟩:=d
  cases y with
  | non=>cases a;exact pD (sk I q (by simp))
  | bl j=>cases a;exact o9 (sk I q (by simp))
  | int j=>obtain⟨b,rfl⟩:=a;exact pE (sk I q (by simp))
  | str j=>obtain⟨b,rfl⟩:=a;exact eq_str (sk I q Ar)
  | _=>exact absurd (show false=true from c) de
 | byt i=>
  obtain⟨t,rfl⟩:=d
  cases y with
  | byt j=>obtain⟨b,rfl⟩:=a;exact PySem.W.eq_bytes (sk I q As)
  | _=>exact absurd (show false=true from c) de
 | _=>cases y <;> exact absurd (show false=true from c) de
theorem zw:Fv X (compareOp .NotEq) MW:=by
 intro e s f H x y v u Q I d a h;obtain⟨c,q⟩:=h
 cases x with
 | non=>
  cases d
  cases y with
  | non=>cases a;exact pb (sk I q (by simp))
  | bl j=>cases a;exact pc (sk I q (by simp))
  | int j=>obtain⟨b,rfl⟩:=a;exact pF (sk I q (by simp))
  | str j=>obtain⟨b,rfl⟩:=a;exact pG (sk I q (by simp))
  | _=>exact absurd (show false=true from c) de
 | bl i=>
  cases d
  cases y with
  | non=>cases a;exact ph (sk I q (by simp))
  | bl j=>cases a;exact ne_bool (sk I q (congrArg not CD))
  | str j=>obtain⟨b,rfl⟩:=a;exact pi (sk I q (by simp))
  | _=>exact absurd (show false=true from c) de
 | int i=>
  obtain⟨t,rfl⟩:=d
  cases y with
  | non=>cases a;exact pH (sk I q (by simp))
  | int j=>obtain⟨b,rfl⟩:=a;exact ne_int (sk I q (congrArg not A5))
  | str j=>obtain⟨b,rfl⟩:=a;exact pI (sk I q (by simp))
  | _=>exact absurd (show false=true from c) de
 | str i=>
  obtain⟨t,rfl⟩:=d
  cases y with
  | non=>cases a;exact pJ (sk I q (by simp))
  | bl j=>cases a;exact pj (sk I q (by simp))
  | int j=>obtain⟨b,rfl⟩:=a;exact pK (sk I q (by simp))
  | str j=>obtain⟨b,rfl⟩:=a;exact ne_str (sk I q (congrArg not Ar))
  | _=>exact absurd (show false=true from c) de
 | byt i=>
  obtain⟨t,rfl⟩:=d
  cases y with
  | byt j=>obtain⟨b,rfl⟩:=a;exact PySem.W.ne_bytes (sk I q (congrArg not As))
  | _=>exact absurd (show false=true from c) de
 | _=>cases y <;> exact absurd (show false=true from c) de
theorem zM:Fv X (compareOp .Lt) (KD λi j=> .bl (decide (i<j))):=KT λ_ _ _ _ _ _ _ q=>lt_int q
theorem BK:Fv X (compareOp .LtE) (KD λi j=> .bl (decide (i<=j))):=KT λ_ _ _ _ _ _ _ q=>le_int q
theorem D7:Fv X (compareOp .Gt) (KD λi j=> .bl (decide (j<i))):=KT λ_ _ _ _ _ _ _ q=>gt_int q
theorem Ah:Fv X (compareOp .Is) (λx y H Q=>y = .non/\Q (.bl (decide (x = .non))) H):=by
 intro c s d H x y v u Q I a b h;obtain⟨rfl,q⟩:=h
 cases b;refine is_none_gen (sk I q ?_)
 cases x <;> first
  | (cases a;rfl)
  | (obtain⟨t,rfl⟩:=a;rfl)
theorem zQ:Fv X (compareOp .IsNot) (λx y H Q=>y = .non/\Q (.bl (!decide (x = .non))) H):=by
 intro c s d H x y v u Q I a b h;obtain⟨rfl,q⟩:=h
 cases b;refine isnot_none_gen (sk I q ?_)
 cases x <;> first
  | (cases a;rfl)
  | (obtain⟨t,rfl⟩:=a;rfl)
theorem Ej(b:Expr){op:CmpOp}(h:op≠ .In:=by decide)(h2:op≠ .NotIn:=by decide):behindInMarks op b=false:=by
 have a:(op==CmpOp.In)=false:=by cases op <;> first|rfl|exact absurd rfl h
 have c:(op==CmpOp.NotIn)=false:=by cases op <;> first|rfl|exact absurd rfl h2
 cases b <;> simp[behindInMarks,a,c]
theorem tK{op:CmpOp}{r:R2}(ho:Fv X (compareOp op) r)(ha:PE X a ta)(hb:PE X b tb)(hm:behindInMarks op b=false):PE X (.Compare a [op] [b] pos) (LY r ta tb):=by
 intro c s f H Q I h;exact wpAny_Compare1 (KA ha hb I h λv u j x y e g k d q=>ho c j f e x y v u Q g k d q) hm
def Kp(t:TE):TT:=λσ H Q=>t σ H λx H'=>∃k,x = .bl k/\Q k H'
theorem rR{op:CmpOp}{r:R2}(ho:Fv X (compareOp op) r)(ha:PE X a ta)(hb:PE X b tb)(hm:behindInMarks op b=false):PT X (.Compare a [op] [b] pos) (Kp (LY r ta tb)):=by
 intro d s f H Q I h;refine lN (En (ha d s f H _ I h) λv o ⟨x,g,q,l,A⟩=>En (hb d o f g _ q A) λu p ⟨y,B,n,j,C⟩=>
  En (ho d p f B x y v u _ n l j C) λc E ⟨z,m,t,D,k,e,w⟩=>?_) hm
 subst e
 cases D;exact eJ ⟨m,t,w⟩
def JQ(r r':R2)(ta tb tc:TE):TE:=λσ H Q=>ta σ H λx H1=>tb σ H1 λy H2=>r x y H2 λz H3=>∃k,z = .bl k/\
 (if k=true then tc σ H3 λw' H4=>r' y w' H4 Q else Q (.bl false) H3)
theorem y7{op op':CmpOp}{r r':R2}(ho:Fv X (compareOp op) r)(ho':Fv X (compareOp op') r')(ha:PE X a ta)(hb:PE X b tb)(hc:PE X c tc)
  (hm:lastMarks [op,op'] [b,c]=false:=by with_unfolding_all rfl):PE X (.Compare a [op,op'] [b,c] pos) (JQ r r' ta tb tc):=by
 intro f s g H Q I h
 refine Compare_chain (En (ha f s g H _ I h) λv B ⟨x,o,D,q,J⟩=>chain_link (En (hb f B g o _ D J) λu C ⟨y,K,w,j,N⟩=>
  En (ho f C g K x y v u _ w q j N) λd L ⟨z,l,m,O,k,e,n⟩=>?_)) hm
 subst e
 cases O
 refine eJ ?_
 cases k with
 | false=>exact ite_ff ⟨.bl false,l,m,rfl,n⟩
 | true=>exact ite_tt (chain_last (En (hc f L g l _ m n) λt p ⟨E,F,M,G,A⟩=>ho' f p g F y E u t Q M j G A))
theorem Cl{op op':CmpOp}{r r':R2}(ho:Fv X (compareOp op) r)(ho':Fv X (compareOp op') r')(ha:PE X a ta)(hb:PE X b tb)(hc:PE X c tc)
  (hm:lastMarks [op,op'] [b,c]=false:=by with_unfolding_all rfl):PT X (.Compare a [op,op'] [b,c] pos) (Kp (JQ r r' ta tb tc)):=by
 intro f s g H Q I h
 refine isTrue_chain (En (ha f s g H _ I h) λv G ⟨x,o,K,B,P⟩=>test_link (En (hb f G g o _ K P) λu J ⟨y,R,E,j,U⟩=>
  En (ho f J g R x y v u _ E B j U) λd S ⟨z,l,m,W,k,e,n⟩=>?_)) hm
 subst e
 cases W
 refine eJ ?_
 cases k with
 | false=>
  obtain⟨k',p,M⟩:=n
  cases p
  exact ite_ff ⟨l,m,M⟩
 | true=>
  refine ite_tt (test_last (En (hc f S g l _ m n) λD A ⟨L,N,T,O,F⟩=>En (ho' f A g N y L u D _ T j O F) λd' s5 ⟨Z,q,w,t,Y,C,V⟩=>?_))
  subst C
  cases t
  exact eJ ⟨q,w,V⟩
def K9(K:cu)(x:V)(H:Hp)(k:Bool):Prop:=
 match x with
 | .non=>k=false
 | .bl b=>k=b
 | .int i=>k=(i != 0)
 | .str y=>y.length<=sizeLine/\k=((y.length:Int) != 0)
 | .byt y=>y.size<=sizeLine/\k=((y.size:Int) != 0)
 | .ref p=>(∃xs,SqL K H p xs/\k = !xs.isEmpty)\/(∃xs,SqT K H p xs/\k = !xs.isEmpty)\/∃kvs,H p=some (.dK kvs)/\k = !kvs.isEmpty
 | _=>False
theorem zD{κ:Type}{kvs:List (κ×V)}{vs:List (κ×cA)}(r:KV kvs vs):(!vs.isEmpty) = !kvs.isEmpty:=by
 cases r <;> rfl
theorem wt{xs:List V}{its:List cA}(r:Vals xs its):(!its.toArray.isEmpty) = !xs.isEmpty:=by
 cases r <;> simp
theorem Fs:(sizeLine:Nat)<2^63:=by rw[lZ];decide
theorem DF:L6 X (λx H Q=>∃k,K9 X.K x H k/\Q k H):=by
 intro A s C H x v Q I f h;obtain⟨k,e,q⟩:=h;have D:=Fs;have B:sizeLine=16777216:=lZ
 cases x with
 | non=>
  cases f;have a:k=false:=e;subst a;exact truthy_none ⟨H,I,q⟩
 | bl b=>
  cases f;have a:k=b:=e;subst a;exact eJ ⟨H,I,q⟩
 | int i=>
  obtain⟨t,rfl⟩:=f;have a:k=(i != 0):=e;subst a;exact PySem.P.truthy_int ⟨H,I,q⟩
 | str y=>
  obtain⟨t,rfl⟩:=f;obtain⟨z,a⟩:y.length<=sizeLine/\k=((y.length:Int) != 0):=e;subst a;exact PySem.P.truthy_str (by omega) ⟨H,I.tok _,q⟩
 | byt y=>
  obtain⟨t,rfl⟩:=f;obtain⟨z,a⟩:y.size<=sizeLine/\k=((y.size:Int) != 0):=e;subst a;exact PySem.W.truthy_bytes (by omega) ⟨H,I.tok _,q⟩
 | ref p=>
  cases f;have a:(∃d,SqL X.K H p d/\k = !d.isEmpty)\/(∃d,SqT X.K H p d/\k = !d.isEmpty)\/∃c,H p=some (.dK c)/\k = !c.isEmpty:=e;rcases a with⟨d,j,a⟩|⟨d,j,a⟩|⟨c,j,a⟩
  ·subst a;obtain⟨o,r,l,n⟩:=I.list j;have g:=r.length;exact wpAny_truthy_list l.isList (by simp only[cX];omega) ⟨H,I.tok _,by rw[wt r];exact q⟩
  ·subst a;obtain⟨o,r,l,n⟩:=I.tuple j;have g:=r.length;exact truthy_tuple l (by simp only[cX];omega) ⟨H,I.tok _,by rw[wt r];exact q⟩
  ·subst a;obtain⟨n,u,vs,r,m⟩:c.length<=sizeLine/\(p==sysModules)=false/\∃vs,KV c vs/\s.heap.DictOf (GE X.prog X.w) p vs:=I.hok p _ j;have g:c.length=vs.length:=mt r;exact wpAny_truthy_dict u m (by omega) ⟨H,I.tok _,by rw[zD r];exact q⟩
 | _=>exact(show False from e).elim
theorem BH(ha:PE X a ta)(he:∀whole,isTrue a X.env whole=(do let v<-whole;standAt a.pos;holding [v] (truthy v))):
  PT X a (λσ H Q=>ta σ H λx H'=>∃k,K9 X.K x H' k/\Q k H'):=by
 intro b s σ H Q I h
 exact qb (En (ha b s σ H _ I h) λv d ⟨x,g,e,f,c⟩=>DF b d σ g x v Q e f c) (he _)
theorem ue:Fv X (binaryOp .Add) (λx y H Q=>∃i j,x = .str i/\y = .str j/\i.length+j.length<=sizeLine/\Q (.str (i++j)) H):=by
 intro e s f H x y v u Q I c a h;obtain⟨i,j,rfl,rfl,b,q⟩:=h;obtain⟨t,rfl⟩:=c;obtain⟨d,rfl⟩:=a;exact add_str (λd tk=>⟨.str (i++j),H,I.tok _,⟨_,rfl⟩,q⟩) b
theorem E5{x:V}{us:List cA}(r:Vals [x] us):∃u,us=[u]/\RelV x u:=by
 cases r with
 | cons a b=>cases b;exact⟨_,rfl,a⟩
theorem Jh{x y:V}{us:List cA}(r:Vals [x,y] us):∃u w',us=[u,w']/\RelV x u/\RelV y w':=by
 cases r with
 | cons c d=>
  cases d with
  | cons b a=>cases a;exact⟨_,_,rfl,c,b⟩
theorem wM:EQ X (.builtin "abs") (λxs H Q=>∃i,xs=[.int i]/\Q (.int (if i<0 then -i else i)) H):=by
 intro a s b H xs c Q I r h;obtain⟨i,rfl,q⟩:=h;obtain⟨u,rfl,t,rfl⟩:=E5 r;exact call_abs_int λu tk=>⟨.int (if i<0 then -i else i),H,I.tok _,⟨_,rfl⟩,q⟩
theorem xq:EQ X (.type "int") (λxs H Q=>(∃i,xs=[.int i]/\Q (.int i) H)\/∃k,xs=[.bl k]/\Q (.int (if k then 1 else 0)) H):=by
 intro a s c H xs d Q I r h;rcases h with⟨i,rfl,q⟩|⟨k,rfl,q⟩
 ·obtain⟨u,rfl,t,rfl⟩:=E5 r;exact call_int_int ⟨.int i,H,I,⟨_,rfl⟩,q⟩
 ·obtain⟨u,rfl,b⟩:=E5 r
  cases b;exact call_int_bool ⟨.int (if k then 1 else 0),H,I.tok _,⟨_,rfl⟩,q⟩
end
structure ObjM(h:Heap)(x dx C:cG)(mA:Str->Option cA):Prop where
 obj:h.get? x=some (gw C dx)
 ns:h.Ns1 dx mA
 ne:dx≠x
theorem Bd{h:Heap}{dx:cG}{mA:Str->Option cA}(n:h.Ns1 dx mA):∃od,h.get? dx=some od/\∀name,j8 name od=some (mA name):=by
 obtain⟨o,c,l,j,d,hk,_,g⟩:=n;refine⟨o,j,λname=>?_⟩;have e:=g name;unfold nsFind findBy at e;rw[<-Array.find?_toList]at e;unfold j8;rw[d];dsimp only;split
 ·rename_i y q
  rw[q]at e;exact congrArg some e
 ·rename_i q
  rw[q]at e;have a:c.toList.any (·.refKey)=false:=by
   rw[List.any_eq_false];intro y f;obtain⟨z,t,b⟩:=hk y (Array.mem_toList_iff.mp f);simp[rh,b]
  have k:¬c.toList.any (·.refKey)=true:=by rw[a];exact de
  rw[if_neg k];exact congrArg some e
theorem ObjM.look{h:Heap}{x dx C:cG}{mA:Str->Option cA}(I:ObjM h x dx C mA):∃od,PySem.W.InstAt h x (gw C dx) C (some od)/\∀name,j8 name od=some (mA name):=
 let⟨od,a,b⟩:=Bd I.ns
 ⟨od,⟨I.obj,rfl,rfl,a⟩,b⟩
section
variable{prog:cT}{w:dc}{A:dw}{E:cA->cD->Prop}{s:cD}{K:cu}{x dx C f:cG}{mA:Str->Option cA}{name:Str}{v:cA}
theorem CZ{expr:Bool}{Q:cA->cD->Prop}(X:K.In s.heap)(I:ObjM s.heap x dx C mA)(hg:jH K C name=true)(hh:kA K C=true)
  (ha:gp K (.ref C) name=some none)(hv:mA name=some v)(hv':nR v=true)(h:Q v {s with toks:=s.toks+1}):
  wpAny (model prog w) A (getAttr (.ref x) name expr) Q E s:=by
 obtain⟨b,J,a⟩:=I.look
 exact PySem.W.get_value X J (j3 hg).1 (PySem.W.findObj_own hh ha rfl (by rw[a,hv])) hv' h
theorem BV{pl:Sem Bool}{Q:cA×List cA->cD->Prop}(X:K.In s.heap)(I:ObjM s.heap x dx C mA)(hg:jH K C name=true)
  (hf:gp K (.ref C) name=some (some (.ref f)))(ht:m7 K (.ref f)=true)(hv:mA name=none)(h:Q (.ref f,[.ref x]) s):
  wpAny (model prog w) A (getMethod (.ref x) name pl) Q E s:=by
 obtain⟨b,J,a⟩:=I.look
 exact PySem.W.method_fn X J (j3 hg).1 (j3 hg).2 hf (beq_iff_eq.mp ht) (by show(j8 name b).map (·.isSome)=some false;rw[a,hv];rfl) h
theorem Df{ns:List Str}{Q:Unit->cD->Prop}(X:K.In s.heap)(I:ObjM s.heap x dx C mA)
  (hs:gp K (.ref C) "__setattr__"=some (some (.builtin "object.__setattr__")))(hp:m9 K C=true)(ht:lG K C name=some none)(hh:kA K C=true)
  (hw:lq mA ns)(hsz:ns.length<=sizeLine)
  (h:∀h',ObjM h' x dx C (λy=>if y=name then some v else mA y)->fK dx s.heap h'->Q () {s with heap:=h',toks:=s.toks+2}):
  wpAny (model prog w) A (setAttr (.ref x) name v) Q E s:=by
 obtain⟨o,J,t⟩:=I.look
 refine PySem.W.set_plain X J hs (PySem.W.osa_open (s:={s with toks:=s.toks+1}) (r:=none) X J hp ht λb=>?_)
 obtain⟨q,k,g⟩:=PySem.W.any_some hh
 have l:s.heap.get? x=some ⟨.ref C,some dx,.plain,#[]⟩:=I.obj
 refine cr (cv (cr (cr (wpAny_loadPart l (cr (qZ (s:={s with toks:=s.toks+1}) (PySem.W.looks_clsIn X k) ?_))))))
 rw[g]
 refine cv (a:=some dx) (cr (cv (cr ?_)))
 refine wpAny_nsSet1 (s:={s with toks:=s.toks+1}) I.ns λh' d c=>?_
 obtain⟨p,m,n,j,e,f⟩:=d.count (lq.cons name v hw)
 refine cr (wpAny_lookBehind j (by rw[e];exact pastItsLine_dict (dg f (by rw[dQ];omega))) ?_)
 exact cv (h _ ⟨(c.2 _ (Ne.symm I.ne)).trans I.obj,d,I.ne⟩ c)
theorem Ch{R:Result->cD->Prop}{vs:List cA}{kw:List (Str×cA)}(X:K.In s.heap)(hm:oq K C=true)
  (hi:gp K (.ref C) "__init__"=some (some (.ref f)))(hf:PySem.W.typeIn K (.ref f)=some (.type "function"))
  (h:codeAny (model prog w) (A.under (.builtin "type.__call__" ⟨.ref C::vs,kw⟩)) (.call (.ref f) ⟨.ref (s.heap.objs.size+1)::vs,kw⟩) (PySem.W.InitBack (s.heap.objs.size+1) R)
   {s with heap:=(s.heap.push fN).push (gw C s.heap.objs.size)}):
  codeAny (model prog w) A (.call (.ref C) ⟨vs,kw⟩) R s:=by
 obtain⟨c,g,d,t,b⟩:=s
 exact PySem.W.make_core (PySem.W.makes_of X hm) (PySem.W.looks_findIn X hi) (λa=>PySem.W.bind_fn X a hf) (.inl rfl) h
end
def EK(f:Str)(v:V):List (Str×V)->List (Str×V)
 | []=>[(f,v)]
 | (g,x)::r=>if g=f then(g,v)::r else(g,x)::EK f v r
theorem vp(f g:Str)(v:V):∀fs:List (Str×V),(EK f v fs).lookup g=if g=f then some v else fs.lookup g
 | []=>by
  show gR g [(f,v)]=_
  by_cases h:g=f
  ·have a:(g==f)=true:=beq_iff_eq.mpr h
   simp only[gR,a,if_pos h]
  ·have a:(g==f)=false:=beq_eq_false_iff_ne.mpr h
   simp only[gR,a,if_neg h]
 | (k,x)::r=>by
  have b:=vp f g v r
  rw[show EK f v ((k,x)::r)=(if k=f then(k,v)::r else(k,x)::EK f v r)from rfl]
  by_cases hk:k=f
  ·rw[if_pos hk]
   by_cases h:g=k
   ·have a:(g==k)=true:=beq_iff_eq.mpr h
    simp only[gR,a,if_pos (h.trans hk)]
   ·have a:(g==k)=false:=beq_eq_false_iff_ne.mpr h
    simp only[gR,a,if_neg (λe:g=f=>h (e.trans hk.symm))]
  ·rw[if_neg hk]
   by_cases h:g=k
   ·have a:(g==k)=true:=beq_iff_eq.mpr h
    simp only[gR,a,if_neg (λe:g=f=>hk (h.symm.trans e))]
   ·have a:(g==k)=false:=beq_eq_false_iff_ne.mpr h
    simp only[gR,a]
    exact b
theorem vA(f:Str)(v:V):∀fs:List (Str×V),f∈(EK f v fs).map (·.1)/\∀g,g∈fs.map (·.1)->g∈(EK f v fs).map (·.1)
 | []=>⟨by simp[EK],λg h=>by simp at h⟩
 | (k,x)::r=>by
  obtain⟨b,a⟩:=vA f v r
  rw[show EK f v ((k,x)::r)=(if k=f then(k,v)::r else(k,x)::EK f v r)from rfl]
  by_cases hk:k=f
  ·rw[if_pos hk]
   subst hk
   exact⟨by simp,λg h=>by simpa using h⟩
  ·rw[if_neg hk]
   refine⟨?_,λg h=>?_⟩
   ·rw[dN]
    exact cO _ b
   ·rw[dN]at h ⊢
    rcases cZ.mp h with e|e
    ·exact cZ.mpr (.inl e)
    ·exact cO _ (a g e)
theorem vL(f:Str)(v:V):∀fs:List (Str×V),(EK f v fs).length<=fs.length+1
 | []=>by simp[EK]
 | (k,x)::r=>by
  have a:=vL f v r
  rw[show EK f v ((k,x)::r)=(if k=f then(k,v)::r else(k,x)::EK f v r)from rfl]
  by_cases hk:k=f
  ·rw[if_pos hk,dQ,dQ];omega
  ·rw[if_neg hk,dQ,dQ];omega
theorem RelO.some_of{v:V}{o:Option cA}(r:RelO (some v) o):∃u,o=some u/\RelV v u:=by
 cases o with
 | none=>exact(show False from r).elim
 | some u=>exact⟨u,rfl,r⟩
theorem RelO.none_of{o:Option cA}(r:RelO none o):o=none:=by
 cases o with
 | none=>rfl
 | some u=>exact(show False from r).elim
theorem zU{v:V}{u:cA}(r:RelV v u):nR u=true:=by
 cases v with
 | non=>cases(show u=cA.none from r);rfl
 | bl b=>cases(show u=er b from r);rfl
 | int i=>obtain⟨t,e⟩:=(show ∃t,u=dX i t from r);cases e;rfl
 | str x=>obtain⟨t,e⟩:=(show ∃t,u=iw x t from r);cases e;rfl
 | byt b=>obtain⟨t,e⟩:=(show ∃t,u=qy b t from r);cases e;rfl
 | flt b=>obtain⟨t,e⟩:=(show ∃t,u=qz b t from r);cases e;rfl
 | ref a=>cases(show u=cR a from r);rfl
 | ty n=>cases(show u=dL n from r);rfl
section
variable{P:cT}{w:dc}{H H':Hp}{h h':Heap}{a C dx:cG}{fs fs':List (Str×V)}
theorem x3(hok:HOk P w H h)(e:H a=some (.ins C dx fs)):∃mA,ObjM h a dx C mA/\(∀f,RelO (fs.lookup f) (mA f))/\lq mA (fs.map (·.1))/\fs.length<=1000/\H dx=some (.own a):=by
 obtain⟨d,z,c,b,mA,n,r,q⟩:=(show ObjOk P w H h a (.ins C dx fs)from hok a _ e);exact⟨mA,⟨b,n,c⟩,r,q,z,d⟩
end
structure Cls(K:cu)(C:cG):Prop where
 pg:jH K C ea=true
 hd:kA K C=true
 po:m9 K C=true
 sa:gp K (.ref C) "__setattr__"=some (some (.builtin "object.__setattr__"))
theorem Cls.get{K:cu}{C:cG}(c:Cls K C)(f:Str):jH K C f=true:=c.pg
def NoAttr(K:cu)(C:cG)(f:Str):Prop:=gp K (.ref C) f=some none
theorem NoAttr.taker{K:cu}{C:cG}{f:Str}(n:NoAttr K C f):lG K C f=some none:=by
 unfold lG;rw[show gp K (.ref C) f=some none from n];rfl
structure Jw(K:cu)(C:cG)(m:Str)(f:cG):Prop where
 at_:gp K (.ref C) m=some (some (.ref f))
 fn:m7 K (.ref f)=true
 kp:iI K (.ref f)=true
section
variable{X:Cx}{pins:List (cG×Obj)}{σ:St}{H:Hp}{s:cD}{a C dx:cG}{fs:List (Str×V)}{f:Str}{v:V}{A:dw}{E:cA->cD->Prop}
theorem zF{b:Bool}{Q:cA->cD->Prop}(I:Inv X pins σ H s)(e:H a=some (.ins C dx fs))(c:Cls X.K C)(n:NoAttr X.K C f)(l:fs.lookup f=some v)
  (h:∀u s',Inv X pins σ H s'->RelV v u->Q u s'):wpAny (model X.prog X.w) A (getAttr (.ref a) f b) Q E s:=by
 obtain⟨g,O,r,_,_,_⟩:=x3 I.hok e
 obtain⟨u,j,d⟩:=RelO.some_of (v:=v) (o:=g f) (by rw[<-l];exact r f)
 exact CZ I.kIn O (c.get f) c.hd n j (zU d) (h u _ (I.tok _) d)
theorem uc{m:Str}{g:cG}{pl:Sem Bool}{Q:cA×List cA->cD->Prop}(I:Inv X pins σ H s)(e:H a=some (.ins C dx fs))(c:Cls X.K C)(k:Jw X.K C m g)(l:fs.lookup m=none)
  (h:Q (.ref g,[.ref a]) s):wpAny (model X.prog X.w) A (getMethod (.ref a) m pl) Q E s:=by
 obtain⟨b,O,r,_,_,_⟩:=x3 I.hok e
 have d:b m=none:=RelO.none_of (by rw[<-l];exact r m)
 exact BV I.kIn O (c.get m) k.at_ k.fn d h
theorem zB{y:V}{u:cA}{Q:Unit->cD->Prop}(I:Inv X pins σ H s)(e:H a=some (.ins C dx fs))(c:Cls X.K C)(n:NoAttr X.K C f)(hl:fs.length<1000)(ry:RelV y u)
  (h:∀s',Inv X pins σ (upd H a (.ins C dx (EK f y fs))) s'->Q () s'):wpAny (model X.prog X.w) A (setAttr (.ref a) f u) Q E s:=by
 obtain⟨k,O,r,j,_,l⟩:=x3 I.hok e
 have t:(fs.map (·.1)).length<=sizeLine:=by rw[cx,lZ];omega
 refine Df I.kIn O c.sa c.po n.taker c.hd j t λp d B=>h _ ?_
 have v:∃o,p.get? dx=some o:=let⟨o,_,_,m,_⟩:=d.ns;⟨o,m⟩
 refine I.write (x:=a) (e:=dx) (by rw[e];exact True.intro) (.inr l) (λb q F z=>(B.2 b F).trans z) v ?_
 refine⟨by rw[rH O.ne];exact l,?_,O.ne,d.obj,_,d.ns,λg=>?_,λg D=>?_⟩
 ·have:=vL f y fs;omega
 ·show RelO ((EK f y fs).lookup g) (if g=f then some u else k g)
  rw[vp]
  by_cases q:g=f
  ·rw[if_pos q,if_pos q];exact ry
  ·rw[if_neg q,if_neg q];exact r g
 ·by_cases q:g=f
  ·rw[q];exact(vA f y fs).1
  ·refine(vA f y fs).2 g (j g λz=>D ?_)
   show(if g=f then some u else k g)=none
   rw[if_neg q];exact z
theorem Inv.made(I:Inv X pins σ H s):Inv X pins σ (upd (upd H s.heap.objs.size (.own (s.heap.objs.size+1))) (s.heap.objs.size+1) (.ins C s.heap.objs.size []))
  {s with heap:=(s.heap.push fN).push (gw C s.heap.objs.size)}:=by
 have c:(s.heap.push fN).get? s.heap.objs.size=some fN:=cN s.heap rfl
 have f:((s.heap.push fN).push (gw C s.heap.objs.size)).get? (s.heap.objs.size+1)=some (gw C s.heap.objs.size):=by
  have:=cN (s.heap.push fN) (o:=gw C s.heap.objs.size) rfl
  rwa[gq]at this
 have j:(s.heap.push fN).Ns s.heap.objs.size (λ_=>none):=⟨fN,#[],_,c,rfl,(λe h=>absurd h (by simp)),λ_=>rfl⟩
 have k:=I.laid (a:=s.heap.objs.size) (o:= .own (s.heap.objs.size+1)) (h':=s.heap.push fN) (t':=s.toks) (λb u q=>cF _ q) (cI _) ⟨_,c⟩
 refine k.laid (a:=s.heap.objs.size+1) (o:= .ins C s.heap.objs.size []) (t':=s.toks) (λb u q=>cF _ q) (na (gq _ _)) ?_
 have d:s.heap.objs.size≠s.heap.objs.size+1:=df (dH _)
 refine⟨by rw[rH d,rC],du _,d,f,λ_=>none,(Heap.Ns1.of_empty j).at λo q=>cF _ q,λ_=>True.intro,λy g=>absurd rfl g⟩
theorem Db{prog:cT}{w:dc}{env:Env}{e:Expr}{f:Str}{pos:Pos}{s:cD}{Q:cA->cD->Prop}(hb:attributeBase e f env (eval e env)=eval e env)
  (h:wpAny (model prog w) A (eval e env) (λo s₁=>wpAny (model prog w) A (getAttr o f true) Q E s₁) E s):wpAny (model prog w) A (eval (.Attribute e f pos) env) Q E s:=
 Attribute_any_ h (by rw[arm_eval_Attribute,hb])
end
def LH(K:cu)(ta:TE)(f:Str):TE:=λσ H Q=>ta σ H λx H1=>∃a C dx fs v,x = .ref a/\H1 a=some (.ins C dx fs)/\Cls K C/\NoAttr K C f/\fs.lookup f=some v/\Q v H1
def Mj(K:cu)(ta tv:TE)(f:Str):TS:=λD σ H=>tv σ H λy H1=>ta σ H1 λx H2=>∃a C dx fs,x = .ref a/\H2 a=some (.ins C dx fs)/\Cls K C/\NoAttr K C f/\fs.length<1000/\
 D.nx σ (upd H2 a (.ins C dx (EK f y fs)))
section
variable{X:Cx}{o e value:Expr}{f:Str}{pos pos' tpos:Pos}{ta tv:TE}
theorem uG(he:PE X e ta)(hb:attributeBase e f X.env (eval e X.env)=eval e X.env):PE X (.Attribute e f pos) (LH X.K ta f):=by
 intro b s o H Q I h;refine Db hb (En (he b s o H _ I h) λu w ⟨x,p,k,j,a,C,A,z,v,r,m,c,n,l,q⟩=>?_);subst r;obtain rfl:u=cR a:=j;exact zF k m c n l λt y g d=>⟨v,p,g,d,q⟩
theorem AR(ha:PE X o ta)(hv:PE X value tv)(hs:swapsWith value (some (.Attribute o f pos')) pos.line X.env=pure false):PS X (.Assign [.Attribute o f pos'] value pos) (Mj X.K ta tv f):=by
 intro b s d H D I h;refine plainObj_wpAny_Assign_Attribute (En (hv b s d H _ I h) λu j ⟨y,w,k,e,q⟩=>En (ha b j d w _ k q) λr A ⟨x,E,g,m,a,C,G,B,z,p,c,n,l,v⟩=>?_) hs;subst z;obtain rfl:r=cR a:=m;exact zB g p c n l e λF t=>⟨d,_,t,v⟩
theorem methcall_of{pl:Sem Bool}{m:Str}{apos:Pos}{args:List Expr}{pins:List (cG×Obj)}{s:cD}{σ:St}{H:Hp}{Q:cA->cD->Prop}{te:TE}(he:PE X e te)(I:Inv X pins σ H s)
  (h:te σ H λx H1=>∃a C dx fs g,x = .ref a/\H1 a=some (.ins C dx fs)/\Cls X.K C/\Jw X.K C m g/\fs.lookup m=none/\
   ∀s1,Inv X pins σ H1 s1->wpAny (model X.prog X.w) X.A (callWith pos (.ref g) [.ref a] (backTo pos (dh args X.env)) (backToKw pos (keywordEach [] X.env))) Q X.xe s1)
  (ht:eval (.Call (.Attribute e m apos) args [] pos) X.env=(do
   let ov<-eval e X.env
   standAt apos.atName
   let(f,first)<-holding [ov] (getMethod ov m pl)
   callWith pos f first (backTo pos (dh args X.env)) (backToKw pos (keywordEach [] X.env)))):
  wpAny (model X.prog X.w) X.A (eval (.Call (.Attribute e m apos) args [] pos) X.env) Q X.xe s:=by
 refine iz (pl:=pl) (En (he pins s σ H _ I h) λu s1 ⟨x,H1,b,j,a,C,dx,fs,g,n,d,c,k,l,q⟩=>?_) ht
 subst n
 obtain rfl:u=cR a:=j
 exact uc b d c k l (q s1 b)
end
structure Room(k:Nat)(A:dw):Prop where
 hd:A.handled=none
 dp:A.depth+3*k+5<recursionLimit
 un:A.units+16*k+200<cLine
theorem Room.mono{j k:Nat}{A:dw}(r:Room k A)(h:j<=k):Room j A:=⟨r.hd,by have:=r.dp;omega,by have:=r.un;omega⟩
theorem Room.deeper{k:Nat}{A:dw}(r:Room (k+1) A)(env:Env):Room k (A.deeper env):=
 ⟨r.hd,by have:=r.dp;show A.depth+1+3*k+5<_;omega,by have:=r.un;show A.units+3+16*k+200<_;omega⟩
theorem zx{A:dw}{C:cG}{us:List cA}{kw:List (Str×cA)}:(A.under (.builtin "type.__call__" ⟨.ref C::us,kw⟩)).depth=A.depth+1:=by
 first|rfl|simp[nc,Code.weight,Code.isCreation,Code.isGuard,Code.isCaller,Code.frames,Code.isFrame,guardIds]
theorem zd{A:dw}{C:cG}{us:List cA}{kw:List (Str×cA)}:(A.under (.builtin "type.__call__" ⟨.ref C::us,kw⟩)).units=A.units+1:=by
 first|rfl|simp[nc,Code.cUnits,Code.frames,Code.isFrame]
theorem Room.make{k:Nat}{A:dw}(r:Room (k+1) A)(C:cG)(us:List cA)(kw:List (Str×cA)):Room k (A.under (.builtin "type.__call__" ⟨.ref C::us,kw⟩)):=
 ⟨r.hd,by have:=r.dp;rw[zx];omega,by have:=r.un;rw[zd];omega⟩
theorem Room.depth{k:Nat}{A:dw}(r:Room k A):A.depth<recursionLimit:=by have:=r.dp;omega
theorem Room.units{k:Nat}{A:dw}(r:Room k A):A.units+64<cLine:=by have:=r.un;omega
def Kz:TA:=λ_ H Q=>Q [] H
def Lc(ta:TE)(tr:TA):TA:=λσ H Q=>ta σ H λx H1=>tr σ H1 λxs H2=>Q (x::xs) H2
section
variable{X:Cx}{e:Expr}{es:List Expr}{te:TE}{t:TA}{pos:Pos}
theorem rr:PA X [] Kz:=λ_ _ _ _ H Q I h=>kB ⟨[],H,I,.nil,h⟩
theorem mM(ha:PE X e te)(hr:PA X es t)(hs:dh (e::es) X.env=(false,eval e X.env)::dh es X.env:=by rfl):PA X (e::es) (Lc te t):=by
 intro b a s c H Q I h;rw[hs];show wpAny _ _ (spliced ((false,eval e X.env)::backTo b (dh es X.env))) _ _ s;refine fH (En (ha a s c H _ I h) λu k ⟨x,d,l,g,n⟩=>?_);exact En (hr b a k c d _ l n) λr q ⟨m,o,j,f,p⟩=>⟨x::m,o,j,.cons g f,p⟩
def Mi(t:TA):TE:=λσ H Q=>t σ H λxs H1=>xs.length<=sizeLine/\∀p,H1 p=none->Q (.ref p) (upd H1 p (.tup xs))
def Mq(t:TA):TE:=λσ H Q=>t σ H λxs H1=>xs.length<=sizeLine/\∀p,H1 p=none->Q (.ref p) (upd H1 p (.lst xs))
theorem sI{x1}(h:PA X es t):PE X (.Tuple es x1 pos) (Mi t):=by
 intro c s k H Q I j;refine wpAny_Tuple_spliced (En (h pos c s k H _ I j) λm a ⟨l,f,d,r,z,q⟩=>⟨by rw[<-r.length];exact z,?_⟩);have g:f a.heap.objs.size=none:=d.hok.fresh (cI _);refine⟨.ref a.heap.objs.size,upd f a.heap.objs.size (.tup l),d.laid (t':=a.toks) (λb u e=>cF _ e) (cI _) ?_,rfl,q _ g⟩;exact⟨z,m,r,⟨_,cN _ rfl,rfl,_,rfl⟩⟩
theorem t6(h:PA X es t):PE X (.List es pos) (Mq t):=by
 intro c s k H Q I j;refine wpAny_List_spliced (En (h pos c s k H _ I j) λm a ⟨l,f,d,r,z,q⟩=>⟨by rw[<-r.length];exact z,?_⟩);have g:f a.heap.objs.size=none:=d.hok.fresh (cI _);refine⟨.ref a.heap.objs.size,upd f a.heap.objs.size (.lst l),d.laid (t':=a.toks) (λb u e=>cF _ e) (cI _) ?_,rfl,q _ g⟩;exact⟨z,m,0,r,cN _ rfl⟩
end
abbrev Sp:=List V->Hp->VK->XK->Prop
abbrev Ho:=List Env->Hp->cD->XK->cA->cD->Prop
structure Env0(P:cT)(w:dc)(K:cu)(mg:Str->Option cA)(base:Heap)(A:dw)(outer:List Env)(s:cD)(H:Hp):Prop where
 frames:A.frames=some outer
 mod:Mod K mg base
 bs:∀b o,base.get? b=some o->s.heap.get? b=some o/\H b=none
 bsz:base.objs.size<=s.heap.objs.size
 funs:s.heap.FunFrames base outer
 frf:∀b∈Fq outer,H b=none
 hok:HOk P w H s.heap
 bare:AllBare s.gens
def CE(outer:List Env)(P:cT)(w:dc)(H:Hp)(s:cD)(Q:VK)(u:cA)(s':cD):Prop:=
 ∃v H',s'.os=s.os/\AllBare s'.gens/\Un (Fq outer) [] H H' s.heap s'.heap/\HOk P w H' s'.heap/\RelV v u/\Q v H'
def CR(CX:Ho)(outer:List Env)(P:cT)(w:dc)(H:Hp)(s:cD)(Q:VK)(E:XK)(r:Result)(s':cD):Prop:=
 match r with
 | .ok (.ret u)=>CE outer P w H s Q u s'
 | .ok _=>False
 | .error e=>CX outer H s E e s'
structure FnOk(P:cT)(w:dc)(K:cu)(mg:Str->Option cA)(base:Heap)(CX:Ho)(k:Nat)(f:cG)(fd:FuncData)(ps:List Str)(sp:Sp):Prop where
 len:∀vs H Q E,sp vs H Q E->vs.length=ps.length
 run:∀(A:dw) (outer:List Env) (s:cD) (H:Hp) (args:Args) (us:List cA) (vs:List V) (Q:VK) (E:XK),Room k A->Env0 P w K mg base A outer s H->BindsTo s fd args (ps.zip us)->Vals vs us->sp vs H Q E->
  codeAny (model P w) A (.call (.ref f) args) (CR CX outer P w H s Q E) s
theorem FnOk.imp{P:cT}{w:dc}{K:cu}{mg:Str->Option cA}{base:Heap}{CX:Ho}{k:Nat}{f:cG}{fd:FuncData}{ps:List Str}{sp sp':Sp}(F:FnOk P w K mg base CX k f fd ps sp)
  (h:∀vs H Q E,sp' vs H Q E->sp vs H Q E):FnOk P w K mg base CX k f fd ps sp':=
 ⟨λvs H Q E q=>F.len vs H Q E (h _ _ _ _ q),λA a s H b g vs Q E c d e l j=>F.run A a s H b g vs Q E c d e l (h _ _ _ _ j)⟩
theorem Env0.make{P:cT}{w:dc}{K:cu}{mg:Str->Option cA}{base:Heap}{A:dw}{outer:List Env}{s:cD}{H:Hp}(e:Env0 P w K mg base A outer s H)(C:cG)(us:List cA)(kw:List (Str×cA)):
  Env0 P w K mg base (A.under (.builtin "type.__call__" ⟨.ref C::us,kw⟩)) outer s H:=⟨by first|exact e.frames|(simpa [nc,Code.envs,Code.isFrame,pushEnvs]using e.frames),e.mod,e.bs,e.bsz,e.funs,e.frf,e.hok,e.bare⟩
section
variable{X:Cx}{pins:List (cG×Obj)}{σ:St}{H:Hp}{s s':cD}
theorem Inv.env0(I:Inv X pins σ H s):Env0 X.prog X.w X.K X.mg X.base X.A X.stack s H:=
 ⟨I.ok.frames,I.ok.mod,I.bs,dg I.ok.bsz I.sz,I.stack,I.stkFree,I.hok,I.bare⟩
theorem Inv.after{Q:VK}{u:cA}(I:Inv X pins σ H s)(h:CE X.stack X.prog X.w H s Q u s'):EP X pins σ Q u s':=by
 obtain⟨v,j,f,a,l,c,r,q⟩:=h;obtain⟨k,g,d,t,e⟩:=s';obtain rfl:e=s.os:=f;exact⟨v,j,I.call (h':=k) (g':=g) (d':=d) (t':=t) (ch:=[]) l c a (λb z=>absurd z (by simp)),r,q⟩
end
def Ks(sp:Sp)(dvs:List V)(E:XK)(t:TA):TE:=λσ H Q=>t σ H λvs H1=>sp (vs++dvs) H1 Q E
def IB(C:cG)(m:Str)(sp:Sp)(dvs:List V)(E:XK)(ta:TE)(t:TA):TE:=λσ H Q=>ta σ H λx H1=>∃a dx fs,x = .ref a/\H1 a=some (.ins C dx fs)/\fs.lookup m=none/\
 t σ H1 λvs H2=>sp (x::(vs++dvs)) H2 Q E
def Kg(C:cG)(sp:Sp)(dvs:List V)(E:XK)(t:TA):TE:=λσ H Q=>t σ H λvs H1=>∀x dx,H1 x=none->H1 dx=none->dx≠x->
 sp (.ref x::(vs++dvs)) (upd (upd H1 dx (.own x)) x (.ins C dx [])) (λv H2=>v = .non/\Q (.ref x) H2) E
def Binds(K:cu)(fd:FuncData)(ps:List Str)(ds:List cA):Prop:=
 ∀(s:cD) (us:List cA),K.In s.heap->(us++ds).length=ps.length->BindsTo s fd ⟨us,[]⟩ (ps.zip (us++ds))
theorem Binds.all{K:cu}{fd:FuncData}{ps:List Str}(h:∀us:List cA,us.length=ps.length->bindArgs fd ⟨us,[]⟩=pure (ps.zip us)):Binds K fd ps []:=λs us _ a=>by
 rw[fV]at a ⊢;exact .of_eq (h us a)
def EH(CX:Ho)(X:Cx)(E:XK):Prop:=∀(pins:List (cG×Obj)) (σ:St) (H:Hp) (s:cD) (e:cA) (s':cD),Inv X pins σ H s->CX X.stack H s E e s'->X.xe e s'
section
variable{X:Cx}{CX:Ho}{k:Nat}{f C:cG}{fd:FuncData}{ps:List Str}{sp:Sp}{dvs:List V}{ds:List cA}{E:XK}{x m:Str}{p pos apos:Pos}{e o:Expr}{es:List Expr}{ta:TE}{t:TA}
theorem zN{pins:List (cG×Obj)}{σ:St}{H:Hp}{s:cD}{Q:VK}{us:List cA}{vs:List V}(F:FnOk X.prog X.w X.K X.mg X.base CX k f fd ps sp)(hr:Room k X.A)(hb:Binds X.K fd ps ds)(hd:Vals dvs ds)(hx:EH CX X E)
  (I:Inv X pins σ H s)(r:Vals vs us)(h:sp (vs++dvs) H Q E):wpAny (model X.prog X.w) X.A (call (.ref f) us) (EP X pins σ Q) X.xe s:=by
 have b:Vals (vs++dvs) (us++ds):=r.append hd
 have c:(us++ds).length=ps.length:=by rw[<-b.length];exact F.len _ _ _ _ h
 refine iJ (iX (F.run X.A X.stack s H ⟨us,[]⟩ (us++ds) (vs++dvs) Q E hr I.env0 (hb s us I.kIn c) b h) λr d a=>?_)
 cases r with
 | error e=>exact hx pins σ H s e d I a
 | ok g=>
  cases g with
  | ret u=>exact I.after a
  | next=>exact fj a
  | brk=>exact fj a
  | cont=>exact fj a
theorem CV(F:FnOk X.prog X.w X.K X.mg X.base CX k f fd ps sp)(hr:Room k X.A)(hg:Gl X x)(hm:X.mg x=some (.ref f))(hk:iI X.K (.ref f)=true)(hb:Binds X.K fd ps ds)(hd:Vals dvs ds)(hx:EH CX X E)
  (ha:PA X (e::es) t)(hdb:(x==("__debug__":Str))=false:=by decide)(he:dh (e::es) X.env=(false,eval e X.env)::dh es X.env:=by rfl)(hpl:(backTo pos (dh es X.env)).any (·.1)=false:=by rfl):
  PE X (.Call (.Name x p) (e::es) [] pos) (Ks sp dvs E t):=by
 intro a s c H Q I h
 refine fI (vB I hg hm ?_ hdb)
 refine jf (h₀:=X.base) I.ok.mod.kin hk (En (ha pos a s c H _ I h) λg d ⟨vs,j,b,r,q⟩=>⟨b.kIn,?_⟩) he hpl
 exact zN F hr hb hd hx b r q
theorem Dh{pl:Sem Bool}(he:PE X o ta)(c:Cls X.K C)(hm:Jw X.K C m f)(F:FnOk X.prog X.w X.K X.mg X.base CX k f fd ps sp)(hr:Room k X.A)(hb:Binds X.K fd ps ds)(hd:Vals dvs ds)(hx:EH CX X E)(ha:PA X (e::es) t)
  (hst:dh (e::es) X.env=(false,eval e X.env)::dh es X.env:=by rfl)(hpl:(backTo pos (dh es X.env)).any (·.1)=false:=by rfl)
  (ht:eval (.Call (.Attribute o m apos) (e::es) [] pos) X.env=(do
   let ov<-eval o X.env
   standAt apos.atName
   let(f,first)<-holding [ov] (getMethod ov m pl)
   callWith pos f first (backTo pos (dh (e::es) X.env)) (backToKw pos (keywordEach [] X.env))):=by rfl):
  PE X (.Call (.Attribute o m apos) (e::es) [] pos) (IB C m sp dvs E ta t):=by
 intro b s j H Q I h
 refine iz (pl:=pl) (En (he b s j H _ I h) λu n ⟨x,z,g,p,a,L,G,B,v,l,q⟩=>?_) ht
 subst B
 obtain rfl:u=cR a:=p
 refine uc g v c hm l ?_
 refine jf (first:=[.ref a]) (h₀:=X.base) I.ok.mod.kin hm.kp (En (ha pos b n j z _ g q) λus D ⟨vs,J,d,r,y⟩=>⟨d.kIn,?_⟩) hst hpl
 exact zN (us:= .ref a::us) (vs:= .ref a::vs) F hr hb hd hx d (.cons rfl r) y
theorem B9{pl:Sem Bool}(he:PE X o ta)(c:Cls X.K C)(hm:Jw X.K C m f)(F:FnOk X.prog X.w X.K X.mg X.base CX k f fd ps sp)(hr:Room k X.A)(hb:Binds X.K fd ps ds)(hd:Vals dvs ds)(hx:EH CX X E)
  (ht:eval (.Call (.Attribute o m apos) [] [] pos) X.env=(do
   let ov<-eval o X.env
   standAt apos.atName
   let(f,first)<-holding [ov] (getMethod ov m pl)
   callWith pos f first (backTo pos (dh [] X.env)) (backToKw pos (keywordEach [] X.env))):=by rfl):
  PE X (.Call (.Attribute o m apos) [] [] pos) (IB C m sp dvs E ta Kz):=by
 intro d s j H Q I h
 refine iz (pl:=pl) (En (he d s j H _ I h) λu p ⟨x,t,b,e,a,v,r,n,g,l,q⟩=>?_) ht
 subst n
 obtain rfl:u=cR a:=e
 refine uc b g c hm l ?_
 exact PySem.W.callWith_K0 (first:=[.ref a]) b.kIn hm.kp (zN (us:=[.ref a]) (vs:=[.ref a]) F hr hb hd hx b (.cons rfl .nil) q)
structure Mk(K:cu)(C f:cG):Prop where
 makes:oq K C=true
 init:gp K (.ref C) "__init__"=some (some (.ref f))
 fn:m7 K (.ref f)=true
 kp:iI K (.ref C)=true
theorem B5{pins:List (cG×Obj)}{σ:St}{H:Hp}{s:cD}{Q:VK}{us:List cA}{vs:List V}(M:Mk X.K C f)(F:FnOk X.prog X.w X.K X.mg X.base CX k f fd ps sp)(hr:Room (k+1) X.A)(hb:Binds X.K fd ps ds)(hd:Vals dvs ds)
  (hx:EH CX X E)(I:Inv X pins σ H s)(r:Vals vs us)
  (h:∀x dx,H x=none->H dx=none->dx≠x->sp (.ref x::(vs++dvs)) (upd (upd H dx (.own x)) x (.ins C dx [])) (λv H2=>v = .non/\Q (.ref x) H2) E):
  wpAny (model X.prog X.w) X.A (call (.ref C) us) (EP X pins σ Q) X.xe s:=by
 have c:=h (s.heap.objs.size+1) s.heap.objs.size (I.hok.fresh (ec _)) (I.hok.fresh (cI _)) (df (dH _))
 have b:=Inv.made (C:=C) I
 have d:Vals (V.ref (s.heap.objs.size+1)::(vs++dvs)) (cR (s.heap.objs.size+1)::(us++ds)):= .cons rfl (r.append hd)
 have n:(cR (s.heap.objs.size+1)::us++ds).length=ps.length:=by
  have e:=d.length
  rw[F.len _ _ _ _ c]at e
  exact e.symm
 refine iJ (Ch (f:=f) I.kIn M.makes M.init (beq_iff_eq.mp M.fn) (iX (F.run _ X.stack _ _ ⟨cR (s.heap.objs.size+1)::us,[]⟩ (cR (s.heap.objs.size+1)::(us++ds)) _ _ E (hr.make C us [])
  (b.env0.make C us []) (hb _ (cR (s.heap.objs.size+1)::us) b.kIn n) d c) λr o a=>?_))
 cases r with
 | error e=>exact hx pins σ _ _ e o b a
 | ok p=>
  cases p with
  | ret u=>
   obtain⟨v,j,l,g,ev,m⟩:=b.after a
   subst ev
   exact⟨g,⟨V.ref (s.heap.objs.size+1),j,l,rfl,m⟩⟩
  | next=>exact fj a
  | brk=>exact fj a
  | cont=>exact fj a
theorem CO(M:Mk X.K C f)(F:FnOk X.prog X.w X.K X.mg X.base CX k f fd ps sp)(hr:Room (k+1) X.A)(hg:Gl X x)(hm:X.mg x=some (.ref C))(hb:Binds X.K fd ps ds)(hd:Vals dvs ds)(hx:EH CX X E)
  (ha:PA X (e::es) t)(hdb:(x==("__debug__":Str))=false:=by decide)(he:dh (e::es) X.env=(false,eval e X.env)::dh es X.env:=by rfl)(hpl:(backTo pos (dh es X.env)).any (·.1)=false:=by rfl):
  PE X (.Call (.Name x p) (e::es) [] pos) (Kg C sp dvs E t):=by
 intro a s c H Q I h
 refine fI (vB I hg hm ?_ hdb)
 refine jf (h₀:=X.base) I.ok.mod.kin M.kp (En (ha pos a s c H _ I h) λg d ⟨vs,j,b,r,q⟩=>⟨b.kIn,?_⟩) he hpl
 exact B5 M F hr hb hd hx b r q
end
structure Ef(N P:List Str)(sc:Scope):Prop where
 kind:sc.kind = .function
 co:sc.isCoroutine=false
 gen:sc.isGenerator=false
 nd:N.Nodup
 pre:N.take P.length=P
 par:∀x∈P,sc.names.lookup x=some .local\/sc.names.lookup x=some .cell
 nofree:∀y∈sc.names,y.2≠ .free
theorem xb{kindOf:Str->Option ip}{x:Str}:∀{binds:List (Str×cA)} {m:Str->Option cA},(∀v,(x,v)∉binds)->bindL kindOf binds m x=m x
 | [],_,_=>rfl
 | (n,v)::r,m,h=>by
  unfold bindL
  rw[xb λw a=>h w (cO _ a)]
  split
  ·have:x≠n:=by rintro rfl;exact h v cM
   simp[this]
  ·rfl
theorem xQ{kindOf:Str->Option ip}{x:Str}:∀{binds:List (Str×cA)} {m:Str->Option cA},(∀v,(x,v)∉binds)->bindC kindOf binds m x=m x
 | [],_,_=>rfl
 | (n,v)::r,m,h=>by
  unfold bindC
  rw[xQ λw a=>h w (cO _ a)]
  split
  ·rfl
  ·have:x≠n:=by rintro rfl;exact h v cM
   simp[this]
theorem xy{kindOf:Str->Option ip}{x:Str}{v:cA}:∀{P:List Str} {vs:List cA} {i:Nat} {m:Str->Option cA},P.Nodup->P[i]?=some x->vs[i]?=some v->kindOf x=some .local->
  bindL kindOf (P.zip vs) m x=some v
 | [],_,_,_,_,h,_,_=>by simp at h
 | _::_,[],_,_,_,_,h,_=>by simp at h
 | p::P,w::vs,0,m,nd,h1,h2,hk=>by
  simp at h1 h2;subst h1;subst h2
  show bindL kindOf ((p,w)::P.zip vs) m p=_
  unfold bindL
  rw[xb λv a=>(fz.mp nd).1 (jS a).1,if_pos hk]
  simp
 | p::P,w::vs,i+1,m,nd,h1,h2,hk=>by
  show bindL kindOf ((p,w)::P.zip vs) m x=_
  unfold bindL
  exact xy (i:=i) (fz.mp nd).2 (by simpa using h1) (by simpa using h2) hk
theorem xc{kindOf:Str->Option ip}{x:Str}{v:cA}:∀{P:List Str} {vs:List cA} {i:Nat} {m:Str->Option cA},P.Nodup->P[i]?=some x->vs[i]?=some v->kindOf x≠some .local->
  bindC kindOf (P.zip vs) m x=some v
 | [],_,_,_,_,h,_,_=>by simp at h
 | _::_,[],_,_,_,_,h,_=>by simp at h
 | p::P,w::vs,0,m,nd,h1,h2,hk=>by
  simp at h1 h2;subst h1;subst h2
  show bindC kindOf ((p,w)::P.zip vs) m p=_
  unfold bindC
  rw[xQ λv a=>(fz.mp nd).1 (jS a).1,if_neg hk]
  simp
 | p::P,w::vs,i+1,m,nd,h1,h2,hk=>by
  show bindC kindOf ((p,w)::P.zip vs) m x=_
  unfold bindC
  exact xc (i:=i) (fz.mp nd).2 (by simpa using h1) (by simpa using h2) hk
def start(N:List Str)(vs:List V):St:=vs.map some++fA (N.length-vs.length) none
def G7(CX:Ho)(P:cT)(w:dc)(K:cu)(mg:Str->Option cA)(base:Heap)(N:List Str)(qual:Str)(scope:Scope)(f:cG)(cd:cA)(A:dw)(outer:List Env)(s:cD)(H:Hp)(E:XK):Cx where
 prog:=P
 w:=w
 K:=K
 mg:=mg
 base:=base
 A:=A.deeper (envOfC qual scope s.heap.objs.size f cd)
 N:=N
 s₀:=s
 H₀:=H
 env:=envOfC qual scope s.heap.objs.size f cd
 outer:=outer
 stack:=envOfC qual scope s.heap.objs.size f cd::outer
 ex:=[]
 calm:=true
 fn:=λ_=>true
 pn:=[]
 xe:=λe s'=>wpAny (model P w) (A.deeper (envOfC qual scope s.heap.objs.size f cd)) (leaving (envOfC qual scope s.heap.objs.size f cd) e) (λ_ s''=>CX outer H s E e s'') (λe' s''=>CX outer H s E e' s'') s'
theorem y0{sc:Scope}{n:Nat}{x:Str}(h:sc.names.lookup x=some .cell):∃c,(cellsFrom n sc.names []).lookup x=some c:=by
 have q:=lu sc.names n [] (.inl h);exact kI.mp q
theorem Au{CX:Ho}{P:cT}{w:dc}{K:cu}{mg:Str->Option cA}{base:Heap}{N ps:List Str}{qual:Str}{scope:Scope}{f:cG}{cd:cA}{A:dw}{outer:List Env}{s s1:cD}{H:Hp}{E:XK}{us:List cA}{vs:List V}
  (S:Ef N ps scope)(hd:A.handled=none)(e0:Env0 P w K mg base A outer s H)(hl:vs.length=ps.length)(r:Vals vs us)
  (x:InCallC s s.heap.objs.size (bindL (envOfC qual scope s.heap.objs.size f cd).kindOf (ps.zip us) λ_=>none) (cellsFrom (s.heap.objs.size+1) scope.names []) (bindC (envOfC qual scope s.heap.objs.size f cd).kindOf (ps.zip us) λ_=>none) s1):
  Inv (G7 CX P w K mg base N qual scope f cd A outer s H E) [] (start N vs) H s1:=by
 have B:ps.length<=N.length:=by have:=congrArg ji S.pre;rw[cV]at this;omega
 obtain⟨h1,tk,rfl,hk⟩:=x.done
 have g:∀b:cG,b∉(G7 CX P w K mg base N qual scope f cd A outer s H E).ex:=λb z=>absurd (show b∈([]:List cG)from z) (by simp)
 refine⟨⟨e0.mod,S.kind,rfl,rfl,cI _,λy z c h1 h2=>?_,λy d=>?_,λy c _ h=>?_,λ_=>hd,Around.frames_deeper e0.frames,.inr ⟨rfl,rfl⟩,λb z=>absurd z (g b),e0.bs,e0.bsz,λb _ _=>g b,λb z=>absurd z (g b),e0.funs,e0.frf⟩,
  rfl,e0.bare,Un.kept hk,⟨_,x.toInCall.ns,λi y v h1 h2 h3=>?_⟩,λy c h=>⟨_,x.cell y c h⟩,e0.hok.fresh (cI _),λy c h=>?_,λp hp=>absurd (show p∈([]:List (cG×Obj))from hp) (by simp),e0.hok.kept hk,?_⟩
 ·exact name_of_addr x.apart (eV h1) (eV h2)
 ·have d:scope.names.lookup y=some .cell\/scope.names.lookup y=some .free:=d
  rcases d with d|d
  ·exact y0 d
  ·exact absurd rfl (S.nofree _ (eV d))
 ·exact dB (x.above y c (eV h))
 ·have j:i<vs.length:=by
   unfold start at h2
   by_cases j:i<vs.length
   ·exact j
   ·rw[eZ (by simpa using j)]at h2
    rw[List.getElem?_replicate]at h2
    split at h2 <;> cases h2
  have t:vs[i]?=some v:=by
   unfold start at h2
   rw[gO (by simpa using j),cH]at h2
   cases e:vs[i]? with
   | none=>rw[e]at h2;cases h2
   | some a=>rw[e]at h2;cases h2;rfl
  obtain⟨u,m,o⟩:=r.get t
  have hp:ps[i]?=some y:=by
   rw[<-S.pre,gX (by omega)];exact h1
  have l:ps.Nodup:=by rw[<-S.pre];exact S.nd.sublist (List.take_sublist _ _)
  refine⟨u,o,?_⟩
  rcases S.par y (da hp)with k|k
  ·exact .inl ⟨k,xy l hp m k⟩
  ·obtain⟨c,e⟩:=y0 (n:=s.heap.objs.size+1) k
   refine .inr ⟨.inl k,c,e,?_⟩
   have q:=x.cell y c e
   rw[xc l hp m (by show scope.names.lookup y≠_;rw[k];decide)]at q
   exact q
 ·exact e0.hok.fresh (dB (x.above y c (eV h)))
 ·unfold start
  show _=N.length
  rw[dq,cx,eT]
  omega
theorem B1{CX:Ho}{P:cT}{w:dc}{K:cu}{mg:Str->Option cA}{base:Heap}{k:Nat}{f:cG}{name qual:Str}{params:Arguments}{body:List Stmt}{scope:Scope}{dV kV doc pm cdv ct oc:cA}{an od:Option cG}
  {osl:Array (Option cA)}{N ps:List Str}{sp:Sp}(lk:K.lookup f=some ⟨oc,od,.func (f9 name qual params body scope dV kV doc pm an cdv ct),osl⟩)(hcd:l3 K cdv qual=true)(S:Ef N ps scope)
  (len:∀vs H Q E,sp vs H Q E->vs.length=ps.length)
  (hbody:∀(A:dw) (outer:List Env) (s:cD) (H:Hp) (vs:List V) (Q:VK) (E:XK),Room k (A.deeper (envOfC qual scope s.heap.objs.size f cdv))->sp vs H Q E->
   ∃t,PSs (G7 CX P w K mg base N qual scope f cdv A outer s H E) body t/\t {nx:=λ_ H'=>Q .non H',rt:=Q} (start N vs) H):
  FnOk P w K mg base CX (k+1) f (f9 name qual params body scope dV kV doc pm an cdv ct) ps sp:=by
 refine⟨len,λA outer s H F R vs Q E l d O r h=>?_⟩
 have T:=len _ _ _ _ h
 have B:K.In s.heap:=d.mod.kin.keeps λb o e=>(d.bs b o e).1
 have z:s.heap.NoLimit:=d.mod.nolimit.keeps λb o e=>(d.bs b o e).1
 have g:∀y∈ps.zip R,scope.names.lookup y.1=some .local\/(scope.names.lookup y.1=some .cell/\((cellsFrom (s.heap.objs.size+1) scope.names []).lookup y.1).isSome=true):=λ⟨n,v⟩ C=>by
  rcases S.par n (jS C).1 with q|q
  ·exact .inl q
  ·exact .inr ⟨q,lu _ _ _ (.inl q)⟩
 refine codeAny_call_function l.depth (B _ _ lk) rfl S.co S.gen rfl (PySem.W.codeRec_of B hcd) (O _ _ _ _ ?_)
 refine wpAny_newFunctionEnv_cells S.kind g λU L p x=>?_
 subst L
 refine⟨z.keeps x.toInCall.keep,codeAny_func ?_⟩
 obtain⟨t,D,G⟩:=hbody A outer s H vs Q E (l.deeper _) h
 have I:Inv (G7 CX P w K mg base N qual scope f cdv A outer s H E) [] (start N vs) H p:=Au S l.hd d T r x
 refine gj (D [] p (start N vs) H _ I G) (λM m c=>?_) λe m c=>c
 have fin:∀{a:St} {H':Hp} {v:V} {u:cA},Inv (G7 CX P w K mg base N qual scope f cdv A outer s H E) [] a H' m->RelV v u->Q v H'->CE outer P w H s Q u m:=
  λ {a H' v u} J j q=>⟨v,H',J.os,J.bare,J.base,J.hok,j,q⟩
 cases M with
 | ret u=>
  obtain⟨v,a,H',J,j,q⟩:=c
  exact fin J j q
 | next=>
  obtain⟨a,H',J,q⟩:=c
  exact fin (v:=V.non) (u:=cA.none) J rfl q
 | brk=>
  obtain⟨_,_,_,q⟩:=c
  exact fj q
 | cont=>
  obtain⟨_,_,_,q⟩:=c
  exact fj q
section
variable{X:Cx}{x:Str}{p pos:Pos}{e:Expr}{es:List Expr}{t:TA}{id T:String}{r:List V->Hp->VK->Prop}
def MC(r:List V->Hp->VK->Prop)(t:TA):TE:=λσ H Q=>t σ H λvs H1=>r vs H1 Q
theorem rJ(hc:EQ X (.builtin id) r)(hg:Gl X x)(hm:X.mg x=none)(hv:bootBuiltins x=some (.builtin id))(ha:PA X (e::es) t)(hn:x≠"__name__":=by decide)(hdb:(x==("__debug__":Str))=false:=by decide)
  (he:dh (e::es) X.env=(false,eval e X.env)::dh es X.env:=by rfl)(hpl:(backTo pos (dh es X.env)).any (·.1)=false:=by rfl):PE X (.Call (.Name x p) (e::es) [] pos) (MC r t):=by
 intro a s b H Q I h
 refine fI (tP I hg hm hv ?_ hn hdb)
 exact g9 (En (ha pos a s b H _ I h) λf d ⟨vs,k,g,j,c⟩=>hc a d b k vs f Q g j c) he hpl
theorem sh(hc:EQ X (.type T) r)(hg:Gl X x)(hm:X.mg x=none)(hv:bootBuiltins x=some (.type T))(ha:PA X (e::es) t)(hn:x≠"__name__":=by decide)(hdb:(x==("__debug__":Str))=false:=by decide)
  (he:dh (e::es) X.env=(false,eval e X.env)::dh es X.env:=by rfl)(hpl:(backTo pos (dh es X.env)).any (·.1)=false:=by rfl):PE X (.Call (.Name x p) (e::es) [] pos) (MC r t):=by
 intro a s b H Q I h
 refine fI (tP I hg hm hv ?_ hn hdb)
 exact d7 (En (ha pos a s b H _ I h) λf d ⟨vs,k,g,j,c⟩=>hc a d b k vs f Q g j c) he hpl
end
end L2
namespace HT
open PySem PyProof.Rows
section
variable{prog:cT}{w:dc}{A:dw}{E:cA->cD->Prop}{s:cD}
theorem cat_tup{t b:cG}{vs ws:List cA}{Q:cA->cD->Prop}(ht:IsTup s.heap t vs.toArray)(hb:IsTup s.heap b ws.toArray)(hv:vs≠[])
  (h1:ws=[]->Q (.ref t) s)(h2:ws≠[]->Q (.ref s.heap.objs.size) {s with heap:=s.heap.push {cls:= .type "tuple",data:= .seq (vs++ws).toArray}})
  (hsz:vs.length+ws.length<=sizeLine):wpAny (model prog w) A (binaryOp .Add (.ref t) (.ref b)) Q E s:=by
 obtain⟨⟨cls,o,data,p⟩,d,l,n,k⟩:=id ht
 obtain⟨⟨r,f,q,h⟩,a,j,m,g⟩:=id hb
 simp only at l k j g
 subst l k j g
 have e:vs.toArray++ws.toArray=(vs++ws).toArray:=by simp
 by_cases c:ws=[]
 ·exact ng ⟨_,d,rfl⟩ ⟨_,a,rfl⟩ kX mw jr jj (i9 _ _)
   (tuple_addW1 t b vs.toArray ws.toArray n m o f p h (by simpa using hv) (by simp[c])) ⟨d,a,h1 c⟩
 ·refine ng ⟨_,d,rfl⟩ ⟨_,a,rfl⟩ kX mw jr jj (i9 _ _)
   (tuple_addW2 t b vs.toArray ws.toArray n m o f p h (by simpa using hv) (by simpa using c) (by rw[cX,cX];exact hsz)) ⟨d,a,?_⟩
  rw[e]
  exact h2 c
def sIx(n d:Nat):Option Int->Nat
 | none=>d
 | some v=>if v<0 then(v+(n:Int)).toNat else min v.toNat n
end
end HT
namespace L2
open PySem PySem.Spec PyProof.Rows
abbrev TO:=St->Hp->(Option Int->Hp->Prop)->Prop
def PO(X:Cx)(e:Option Expr)(t:TO):Prop:=
 ∀(pins:List (cG×Obj)) (s:cD) (σ:St) (H:Hp) (Q:Option Int->Hp->Prop),Inv X pins σ H s->t σ H Q->
  wpAny (model X.prog X.w) X.A (evalPart e X.env) (λu s'=>∃o H',Inv X pins σ H' s'/\IsPart u o/\Q o H') X.xe s
def Kd:TO:=λ_ H Q=>Q none H
def LQ(t:TE):TO:=λσ H Q=>t σ H λx H1=>∃i,x = .int i/\Q (some i) H1
section
variable{X:Cx}{e:Expr}{te:TE}{lo hi:Option Expr}{tl th:TO}{pos p2:Pos}
theorem AS:PO X none Kd:=by
 intro a s b H Q I h;rw[pM];exact cv ⟨none,H,I,.none,h⟩
theorem uR(h:PE X e te):PO X (some e) (LQ te):=by
 intro a s d H Q I b;rw[evalPart_some];refine En (h a s d H _ I b) λu k ⟨x,j,f,g,c⟩=>?_
 obtain⟨i,rfl,q⟩:=c;obtain⟨t,rfl⟩:=g;exact⟨some i,j,f,.int i t,q⟩
def L9(X:Cx)(r:V->Option Int->Option Int->Hp->VK->Prop):Prop:=
 ∀(pins:List (cG×Obj)) (s:cD) (σ:St) (H:Hp) (x:V) (v vl vu:cA) (lo hi:Option Int) (sl:cG) (Q:VK),Inv X pins σ H s->RelV x v->s.heap.IsSliceOf sl vl vu .none->IsPart vl lo->IsPart vu hi->r x lo hi H Q->
  ∃T id,typeLookup (.type T) "__getitem__"=pure (some (.builtin id))/\s.TypeIs v T/\wpAny (model X.prog X.w) X.A (getItem v (.ref sl)) (EP X pins σ Q) X.xe s
def MT(r:V->Option Int->Option Int->Hp->VK->Prop)(te:TE)(tl th:TO):TE:=λσ H Q=>te σ H λx H1=>tl σ H1 λl H2=>th σ H2 λu H3=>r x l u H3 Q
theorem vg{r:V->Option Int->Option Int->Hp->VK->Prop}(hr:L9 X r)(he:PE X e te)(hl:PO X lo tl)(hu:PO X hi th):PE X (.Subscript e (.Slice lo hi none p2) pos) (MT r te tl th):=by
 intro a s d H Q I h;refine Subscript_ (En (he a s d H _ I h) λv y ⟨x,k,B,n,F⟩=>?_);refine wpAny_Slice (En (hl a y d k _ B F) λf z ⟨l,G,t,C,L⟩=>En (hu a z d G _ t L) λg c ⟨u,j,D,o,E⟩=>?_);rw[pM];refine cv ?_;have K:Inv X a d j {c with heap:=c.heap.push {cls:= .type "slice",data:= .fields #[f,g,.none]}}:=D.kept (t':=c.toks) λb M q=>cF _ q
 obtain⟨T,id,m,p,J⟩:=hr a {c with heap:=c.heap.push {cls:= .type "slice",data:= .fields #[f,g,.none]}} d j x v f g l u c.heap.objs.size Q K n (q4 ..) C o E;show wpAny (model X.prog X.w) X.A (subscriptTail e (.Slice lo hi none p2) v (.ref c.heap.objs.size)) (EP X a d Q) X.xe {c with heap:=c.heap.push {cls:= .type "slice",data:= .fields #[f,g,.none]}};exact tail_any (ops:=[.ref c.heap.objs.size,v]) p m J (by with_unfolding_all rfl)
def Gv(xs:List V)(lo hi:Option Int):List V:=(xs.drop (HT.sIx xs.length 0 lo)).take (HT.sIx xs.length xs.length hi-HT.sIx xs.length 0 lo)
theorem vk(xs:List V)(lo hi:Option Int):(Gv xs lo hi).length<=xs.length:=by
 unfold Gv;rw[cV,iY];omega
def LC(K:cu):R2:=λx y H Q=>∃a b xs ys,x = .ref a/\y = .ref b/\SqT K H a xs/\SqT K H b ys/\xs≠[]/\xs.length+ys.length<=sizeLine/\
 (ys=[]->Q (.ref a) H)/\(ys≠[]->∀p,H p=none->Q (.ref p) (upd H p (.tup (xs++ys))))
theorem Vals.nil_iff{xs:List V}{us:List cA}(r:Vals xs us):us=[]↔xs=[]:=by
 cases r with
 | nil=>simp
 | cons _ _=>simp
theorem C6:Fv X (binaryOp .Add) (LC X.K):=by
 intro B s F H x y v u Q I j f h;obtain⟨a,b,n,l,rfl,rfl,p,A,g,e,r,C⟩:=h
 cases j
 cases f;obtain⟨D,d,t,_⟩:=I.tuple p;obtain⟨m,c,k,_⟩:=I.tuple A;refine HT.cat_tup t k (λz=>g (d.nil_iff.mp z)) (λz=>⟨.ref a,H,I,rfl,r (c.nil_iff.mp z)⟩) (λz=>?_) (by rw[<-d.length,<-c.length];exact e);refine⟨.ref s.heap.objs.size,_,I.laid (t':=s.toks) (o:= .tup (n++l)) (λb E q=>cF _ q) (cI _) ?_,rfl,C (λw=>z (c.nil_iff.mpr w)) _ (I.hok.fresh (cI _))⟩;exact⟨by rw[dq];exact e,_,d.append c,p7 _ _⟩
end
def Jt(n:Nat)(i:Int):Option Nat:=if 0<=i then(if i<n then some i.toNat else none)else if -(n:Int)<=i then some (i+n).toNat else none
def Hb{α:Type}(xs:List α)(i:Int):Option α:=(Jt xs.length i).bind λj=>xs[j]?
theorem AZ{n:Nat}{i:Int}{j:Nat}(h:Jt n i=some j):seqIndex? i n=some j/\j<n/\ -(n:Int)<=i/\i<n:=by
 unfold Jt at h;by_cases h0:0<=i
 ·rw[if_pos h0]at h;by_cases h1:i<n
  ·rw[if_pos h1]at h;have e:i.toNat=j:=Option.some.inj h;exact⟨by rw[ol h0 h1,e],by omega,by omega,h1⟩
  ·rw[if_neg h1]at h;cases h
 ·rw[if_neg h0]at h;by_cases h1: -(n:Int)<=i
  ·rw[if_pos h1]at h;have e:(i+n).toNat=j:=Option.some.inj h;exact⟨by rw[nh (by omega) h1,e],by omega,h1,by omega⟩
  ·rw[if_neg h1]at h;cases h
theorem yd{α:Type}{xs:List α}{i:Int}{v:α}(h:Hb xs i=some v):∃j,seqIndex? i xs.length=some j/\xs[j]?=some v/\j<xs.length/\ -(xs.length:Int)<=i/\i<xs.length:=by
 unfold Hb at h
 cases e:Jt xs.length i with
 | none=>rw[e]at h;cases h
 | some j=>
  rw[e]at h;obtain⟨h1,h2,h3,h4⟩:=AZ e;exact⟨j,h1,h,h2,h3,h4⟩
theorem sr{α:Type}{xs:List α}{j:Nat}{v:α}(h:xs[j]?=some v):Hb xs (j:Int)=some v:=by
 have a:j<xs.length:=(cL.mp h).1;have e:Jt xs.length (j:Int)=some j:=by
  unfold Jt;rw[if_pos (by omega),if_pos (by omega)];simp
 unfold Hb;rw[e];exact h
def J8(b:Expr):Prop:=∀o i,subscripted b false o i=operate [o,i] (getItem o i)
def IxR(X:Cx)(r:R2):Prop:=
 ∀(value slice:Expr) (pins:List (cG×Obj)) (s:cD) (σ:St) (H:Hp) (x y:V) (v u:cA) (Q:VK),Inv X pins σ H s->RelV x v->RelV y u->r x y H Q->
  subscripted slice false v u=operate [v,u] (getItem v u)->wpAny (model X.prog X.w) X.A (subscriptTail value slice v u) (EP X pins σ Q) X.xe s
def KZ(X:Cx)(id:String)(r:V->List V->Hp->VK->Prop):Prop:=
 ∀(pins:List (cG×Obj)) (s:cD) (σ:St) (H:Hp) (x:V) (xs:List V) (v:cA) (us:List cA) (Q:VK),Inv X pins σ H s->RelV x v->Vals xs us->r x xs H Q->
  wpAny (model X.prog X.w) X.A (call (.builtin id) (v::us)) (EP X pins σ Q) X.xe s
section
variable{X:Cx}{a b:Expr}{ta tb:TE}{pos:Pos}
theorem IxR.or{r r':R2}(h:IxR X r)(h':IxR X r'):IxR X (λx y H Q=>r x y H Q\/r' x y H Q):=by
 intro b a c s e H x y v u Q I f d q g;rcases q with q|q
 ·exact h b a c s e H x y v u Q I f d q g
 ·exact h' b a c s e H x y v u Q I f d q g
theorem rN{r:R2}(hr:IxR X r)(ha:PE X a ta)(hb:PE X b tb)(hs:J8 b):PE X (.Subscript a b pos) (LY r ta tb):=by
 intro c s f H Q I h;exact Subscript_ (KA ha hb I h λv u j x y e g k d q=>hr a b c j f e x y v u Q g k d q (hs _ _))
def KK(K:cu):R2:=λx y H Q=>∃p xs i v,x = .ref p/\y = .int i/\SqL K H p xs/\Hb xs i=some v/\Q v H
def KE(K:cu):R2:=λx y H Q=>∃p xs i v,x = .ref p/\y = .int i/\SqT K H p xs/\Hb xs i=some v/\Q v H
def Lv:R2:=λx y H Q=>∃z i c,x = .str z/\y = .int i/\z.length<=sizeLine/\Hb z.cps.toList i=some c/\Q (.str ⟨#[c]⟩) H
theorem rL:IxR X (KK X.K):=by
 intro l m a s g H x y v u Q I o n h d;obtain⟨p,G,i,z,rfl,rfl,A,B,q⟩:=h
 cases o;obtain⟨t,rfl⟩:=n;obtain⟨k,r,b,F⟩:=I.list A;obtain⟨j,h1,h2,h3,h4,h5⟩:=yd B;obtain⟨w,f,e⟩:=r.get h2;have D:=r.length;have E:=Fs;have fin:EP X a g Q w s:=⟨z,H,I,e,q⟩;by_cases h0:0<=i
 ·have c:i.toNat=j:=by
   rw[ol h0 h5]at h1;exact Option.some.inj h1
  exact item_listR b.isList h0 (by omega) (by rw[c];simpa using f) fin d
 ·have c:(i+(k.toArray.size:Int)).toNat=j:=by
   rw[nh (by omega) h4]at h1;rw[cX,<-D];exact Option.some.inj h1
  exact js (x:=w) b.isList.typeIs ni.lookup
   (wpAny_getItem_list_neg (Q:=λr C=>r=w/\EP X a g Q r C) b.isList (by omega) (by rw[cX] <;> omega) (by omega) (by rw[c];simpa using f) ⟨rfl,fin⟩) d
theorem sv:IxR X (KE X.K):=by
 intro e f a s d H x y v u Q I l k h g;obtain⟨p,F,i,z,rfl,rfl,n,o,q⟩:=h
 cases l;obtain⟨t,rfl⟩:=k;obtain⟨C,r,c,E⟩:=I.tuple n;obtain⟨j,h1,h2,h3,h4,h5⟩:=yd o;obtain⟨w,m,b⟩:=r.get h2;have B:=r.length;have D:=Fs;have fin:EP X a d Q w s:=⟨z,H,I,b,q⟩;exact js (x:=w) c.typeIs slot_tuple_getitem.lookup
  (getItem_tuple (j:=j) (Q:=λr A=>r=w/\EP X a d Q r A) c (by omega) (by omega) (by rw[cX,<-B];exact h1) (by simpa using m) ⟨rfl,fin⟩) g
theorem yL:IxR X Lv:=by
 intro a b m s r H x y v u Q I k f h e;obtain⟨z,i,c,rfl,rfl,p,l,q⟩:=h;obtain⟨t,rfl⟩:=k;obtain⟨w,rfl⟩:=f;obtain⟨j,h1,h2,h3,h4,h5⟩:=yd l;have n:z.cps.toList.length=z.length:=by simp[fJ]
 rw[n]at h1 h4 h5;have o:=Fs;exact tail_any (mL s z t) nS.lookup (getItem_str (c:=c) (by
  have d:decide (i < -(2^63:Int))=false:=decide_eq_false (by omega);have g:decide (i>=2^63)=false:=decide_eq_false (by omega);rw[d,g,kJ]) (by rw[h1];simpa using h2) ⟨.str ⟨#[c]⟩,H,I.tok _,⟨_,rfl⟩,q⟩) e
def MZ(K:cu):R2:=λx y H Q=>KK K x y H Q\/KE K x y H Q\/Lv x y H Q
theorem Ct:IxR X (MZ X.K):=rL.or (sv.or yL)
theorem zy(its:List cA)(n j:Nat)(u:cA):d2 (·.setIfInBounds j u) {cls:= .type "list",data:= .seq its.toArray n}={cls:= .type "list",data:= .seq (its.set j u).toArray n}:=by
 simp[d2]
theorem Inv.lst{pins:List (cG×Obj)}{σ:St}{H:Hp}{s:cD}{p:cG}{xs:List V}(I:Inv X pins σ H s)(h:H p=some (.lst xs)):
  ∃(its:List cA) (n:Nat),Vals xs its/\s.heap.get? p=some {cls:= .type "list",data:= .seq its.toArray n}/\xs.length<=sizeLine:=by
 obtain⟨z,its,n,r,e⟩:=I.hok p _ h
 exact⟨its,n,r,e,z⟩
theorem Inv.lstUpd{pins:List (cG×Obj)}{σ:St}{H:Hp}{s:cD}{p:cG}{xs ys:List V}{its its':List cA}{n n':Nat}{f:Obj->Obj}(I:Inv X pins σ H s)(h:H p=some (.lst xs))
  (ho:s.heap.get? p=some {cls:= .type "list",data:= .seq its.toArray n})(hf:f {cls:= .type "list",data:= .seq its.toArray n}={cls:= .type "list",data:= .seq its'.toArray n'})(r:Vals ys its')(hz:ys.length<=sizeLine)(t:Nat):
  Inv X pins σ (upd H p (.lst ys)) {s with heap:=s.heap.update p f,toks:=t}:=by
 have e:(s.heap.update p f).get? p=some {cls:= .type "list",data:= .seq its'.toArray n'}:=by
  rw[eI f ho (by rw[hf] <;> rfl),hf]
 refine I.write (x:=p) (e:=p) (by rw[h];trivial) (.inl rfl) (λb u a q=>(fk _ _ (Ne.symm a)).trans q) ⟨_,e⟩ ?_
 exact⟨hz,its',n',r,e⟩
def Lz:V->V->V->Hp->(Hp->Prop)->Prop:=λo i v H Q=>∃p xs k j,o = .ref p/\i = .int k/\H p=some (.lst xs)/\Jt xs.length k=some j/\Q (upd H p (.lst (xs.set j v)))
theorem wA:J1 X Lz:=by
 intro c s m H o i v B A u Q I y l f h;obtain⟨p,w,k,j,rfl,rfl,hp,x,q⟩:=h
 cases y;obtain⟨t,rfl⟩:=l;obtain⟨a,n,r,b,g⟩:=I.lst hp;obtain⟨h1,h2,h3,h4⟩:=AZ x;have d:=r.length;have z:=Fs;have e:Inv X c m (upd H p (.lst (w.set j v))) {s with heap:=s.heap.update p (d2 (·.setIfInBounds j u))}:=
  I.lstUpd hp b (zy a n j u) (r.set f j) (by rw[je];exact g) s.toks
 by_cases h0:0<=k
 ·have hk:k.toNat=j:=by
   rw[ol h0 h4]at h1;exact Option.some.inj h1
  exact PySem.W.ki_setAt b h0 (by omega) (by rw[cX,<-d];exact h4) (by rw[hk];exact⟨_,e,q⟩)
 ·have hk:(k+(a.toArray.size:Int)).toNat=j:=by
   rw[nh (by omega) h3]at h1;rw[cX,<-d];exact Option.some.inj h1
  exact PySem.W.ki_setBack b (by omega) (by rw[cX,<-d];exact h3) (by omega) (by rw[hk];exact⟨_,e,q⟩)
theorem xg(lo hi:Option Int)(n:Nat):(sliceBounds lo hi none n).1=((HT.sIx n 0 lo:Nat):Int)/\(sliceBounds lo hi none n).2.1=((HT.sIx n n hi:Nat):Int)/\(sliceBounds lo hi none n).2.2=1:=by
 refine⟨?_,?_,rfl⟩
 ·cases lo with
  | none=>simp[sliceBounds,HT.sIx]
  | some i=>
   simp only[sliceBounds,HT.sIx,kY,show(1:Int)>0 by decide,if_true];by_cases h:i<0
   ·simp only[h,if_true] <;> omega
   ·simp only[h,if_false] <;> omega
 ·cases hi with
  | none=>simp[sliceBounds,HT.sIx]
  | some i=>
   simp only[sliceBounds,HT.sIx,kY,show(1:Int)>0 by decide,if_true];by_cases h:i<0
   ·simp only[h,if_true] <;> omega
   ·simp only[h,if_false] <;> omega
theorem wC(its:List cA)(lo hi:Option Int):slicePick its.toArray lo hi none=((its.drop (HT.sIx its.length 0 lo)).take (HT.sIx its.length its.length hi-HT.sIx its.length 0 lo)).toArray:=by
 obtain⟨h1,h2,h3⟩:=xg lo hi its.toArray.size;unfold slicePick;rw[h1,h2,h3];simp only[sliceRange_one,pick_run,cX] <;> rfl
def Mx(K:cu):V->Option Int->Option Int->Hp->VK->Prop:=λx lo hi H Q=>∃a xs,x = .ref a/\SqL K H a xs/\∀p,H p=none->Q (.ref p) (upd H p (.lst (Gv xs lo hi)))
theorem Dp:L9 X (Mx X.K):=by
 intro t s A H x v w y d f B Q I n j p k h;obtain⟨a,c,rfl,m,q⟩:=h
 cases n;obtain⟨u,r,g,l⟩:=I.list m;have e:=r.length;refine⟨"list",_,ni.lookup,g.isList.typeIs,?_⟩;refine wpAny_getItem_list_slice g.isList j p k .none (by simp) ?_ (by rw[cX] <;> omega);rw[wC,<-e];refine⟨.ref s.heap.objs.size,_,I.laid (t':=s.toks) (o:= .lst (Gv c d f)) (λb z q=>cF _ q) (cI _) ?_,rfl,q _ (I.hok.fresh (cI _))⟩;exact⟨dg (vk c d f) l,_,0,(r.drop (HT.sIx c.length 0 d)).take (HT.sIx c.length c.length f-HT.sIx c.length 0 d),cN _ rfl⟩
def FI:V->Bool
 | .non=>true
 | .bl _=>true
 | .int _=>true
 | .str _=>true
 | _=>false
def Ju:V->V->Bool
 | .non,.non=>true
 | .bl a,.bl b=>a==b
 | .bl a,.int b=>(if a then 1 else 0)==b
 | .int a,.bl b=>a==(if b then 1 else 0)
 | .int a,.int b=>a==b
 | .str a,.str b=>a==b
 | _,_=>false
theorem DQ{A:dw}{s:cD}{y x:V}{u v:cA}(ry:RelV y u)(rx:RelV x v)(fy:FI y=true)(fx:FI x=true):q5 A s u v (Ju y x):=by
 cases y with
 | non=>
  cases ry
  cases x with
  | non=>cases rx;exact rk _
  | bl b=>cases rx;exact qA b
  | int b=>obtain⟨t,rfl⟩:=rx;exact qJ b t
  | str b=>obtain⟨t,rfl⟩:=rx;exact qK b t
  | _=>exact absurd (show false=true from fx) de
 | bl a=>
  cases ry
  cases x with
  | non=>cases rx;exact qB a
  | bl b=>cases rx;exact qC a b
  | int b=>obtain⟨t,rfl⟩:=rx;exact qL a b t
  | str b=>obtain⟨t,rfl⟩:=rx;exact qM a b t
  | _=>exact absurd (show false=true from fx) de
 | int a=>
  obtain⟨c,rfl⟩:=ry
  cases x with
  | non=>cases rx;exact qO a c
  | bl b=>cases rx;exact qQ a c b
  | int b=>obtain⟨t,rfl⟩:=rx;exact q8 a c b t
  | str b=>obtain⟨t,rfl⟩:=rx;exact mG a c b t
  | _=>exact absurd (show false=true from fx) de
 | str a=>
  obtain⟨c,rfl⟩:=ry
  cases x with
  | non=>cases rx;exact qS a c
  | bl b=>cases rx;exact qT a c b
  | int b=>obtain⟨t,rfl⟩:=rx;exact mH a c b t
  | str b=>obtain⟨t,rfl⟩:=rx;exact q9 a c b t
  | _=>exact absurd (show false=true from fx) de
 | _=>exact absurd (show false=true from fy) de
def J5(x:V)(u:cA):Bool:=match u with
 | .none=>Ju .non x
 | .bool b=>Ju (.bl b) x
 | .int i _=>Ju (.int i) x
 | .str z _=>Ju (.str z) x
 | _=>false
theorem Cy{x y:V}{u:cA}(r:RelV y u)(f:FI y=true):J5 x u=Ju y x:=by
 cases y with
 | non=>cases r;rfl
 | bl b=>cases r;rfl
 | int i=>obtain⟨t,rfl⟩:=r;rfl
 | str z=>obtain⟨t,rfl⟩:=r;rfl
 | _=>exact absurd (show false=true from f) de
theorem yb{x:V}:∀{xs:List V} {us:List cA},Vals xs us->xs.all FI=true->us.any (J5 x)=xs.any λy=>Ju y x
 | _,_,.nil,_=>rfl
 | y::xs,u::us,.cons r t,f=>by
  rw[jJ,dn]at f
  rw[gY,gY,Cy r f.1,yb t f.2]
theorem wO{A:dw}{s:cD}{x:V}{v:cA}(rx:RelV x v)(fx:FI x=true):∀{xs:List V} {us:List cA},Vals xs us->xs.all FI=true->∀u∈us,q5 A s u v (J5 x u)
 | _,_,.nil,_=>λu a=>by cases a
 | y::xs,u::us,.cons r t,f=>λb a=>by
  rw[jJ,dn]at f
  rcases cZ.mp a with rfl|a
  ·rw[Cy r f.1];exact DQ r rx f.1 fx
  ·exact wO rx fx t f.2 b a
def JA(x:V)(xs:List V):Bool:=xs.any λy=>Ju y x
def ML(K:cu)(neg:Bool):R2:=λx y H Q=>∃p xs,y = .ref p/\(SqL K H p xs\/SqT K H p xs)/\FI x=true/\xs.all FI=true/\Q (.bl (if neg then !JA x xs else JA x xs)) H
theorem t7:Fv X (compareOp .NotIn) (ML X.K true):=by
 intro l s m H x y v u Q I f j h;obtain⟨p,n,rfl,b,g,c,q⟩:=h
 cases j;rcases b with b|b
 ·obtain⟨a,r,e,k⟩:=I.list b;refine SeqAt.notIn_listAt (J5 x) e.isList (λw d=>wO f g r c w (by simpa using d)) ⟨.bl _,H,I,rfl,?_⟩;rw[show a.toArray.any (J5 x)=a.any (J5 x)by simp,yb r c];exact q
 ·obtain⟨a,r,e,k⟩:=I.tuple b;refine SeqAt.notIn_tupleAt (J5 x) e (λw d=>wO f g r c w (by simpa using d)) ⟨.bl _,H,I,rfl,?_⟩;rw[show a.toArray.any (J5 x)=a.any (J5 x)by simp,yb r c];exact q
theorem rP:EQ X (.builtin "len") (λxs H Q=>∃p ys,xs=[.ref p]/\(SqL X.K H p ys\/SqT X.K H p ys)/\Q (.int ys.length) H):=by
 intro j s l H xs m Q I r h;obtain⟨p,ys,rfl,b,q⟩:=h;obtain⟨u,rfl,g⟩:=E5 r
 cases g;have k:=Fs;rcases b with b|b
 ·obtain⟨e,d,c,f⟩:=I.list b;have a:=d.length;exact Calls.call_len_list c.isList (by simp only[cX] <;> omega) ⟨.int ys.length,H,I.tok _,⟨s.toks+1,by rw[cX,a]⟩,q⟩
 ·obtain⟨e,d,c,f⟩:=I.tuple b;have a:=d.length;exact len_tuple c (by simp only[cX] <;> omega) ⟨.int ys.length,H,I.tok _,⟨s.toks+1,by rw[cX,a]⟩,q⟩
theorem xw:EQ X (.builtin "len") (λxs H Q=>∃z,xs=[.str z]/\z.length<=sizeLine/\Q (.int z.length) H):=by
 intro a s b H xs e Q I r h;obtain⟨z,rfl,c,q⟩:=h;obtain⟨u,rfl,t,rfl⟩:=E5 r;have d:=Fs;exact len_str (by omega) ⟨.int z.length,H,I.tok _,⟨_,rfl⟩,q⟩
theorem sR:EQ X (.type "list") (λxs H Q=>∃p ys,xs=[.ref p]/\(SqL X.K H p ys\/SqT X.K H p ys)/\∀l,H l=none->Q (.ref l) (upd H l (.lst ys))):=by
 intro z s B H xs C Q I r h;obtain⟨p,ys,rfl,k,q⟩:=h;obtain⟨u,rfl,A⟩:=E5 r
 cases A;have fin:∀(a:List cA),Vals ys a->ys.length<=sizeLine->∀(c:Heap) (f:Nat),(∀b o',s.heap.get? b=some o'->c.get? b=some o')->
   c.get? s.heap.objs.size=some {cls:= .type "list",dict:=none,data:= .seq a.toArray f,slots:= #[]}->EP X z B Q (.ref s.heap.objs.size) {s with heap:=c}:=λa d j c f g e=>
  ⟨.ref s.heap.objs.size,_,I.laid (t':=s.toks) g (cI _) (show ObjOk X.prog X.w _ c _ (.lst ys)from⟨j,a,f,d,e⟩),rfl,q _ (I.hok.fresh (cI _))⟩
 rcases k with k|k
 ·obtain⟨a,d,v,j⟩:=I.list k;have m:=d.length;obtain⟨o,y,t,n,x⟩:=v.isList;exact pN p (.inl rfl) y t x (λc f g e=>fin a d j c f g e) (by simp only[cX] <;> omega)
 ·obtain⟨a,d,v,j⟩:=I.tuple k;have m:=d.length;obtain⟨o,y,t,n,x⟩:=v;exact pN p (.inr rfl) y t x (λc f g e=>fin a d j c f g e) (by simp only[cX] <;> omega)
theorem sK:EQ X (.type "tuple") (λxs H Q=>∃p ys,xs=[.ref p]/\((SqL X.K H p ys/\∀l,H l=none->Q (.ref l) (upd H l (.tup ys)))\/(SqT X.K H p ys/\Q (.ref p) H))):=by
 intro c s n H xs z Q I r h;obtain⟨p,ys,rfl,h⟩:=h;obtain⟨u,rfl,y⟩:=E5 r
 cases y;rcases h with⟨g,q⟩|⟨g,q⟩
 ·obtain⟨a,j,f,k⟩:=I.list g;have t:=j.length;refine ou f.isList (λd v=>?_) (by simp only[cX] <;> omega);have m:Inv X c n H {s with heap:=d}:=I.kept (t':=s.toks) v;have x:Inv X c n (upd H d.objs.size (.tup ys)) {s with heap:=d.push {cls:= .type "tuple",data:= .seq a.toArray}}:=
   m.laid (t':=s.toks) (λb o e=>cF _ e) (cI _) (show ObjOk X.prog X.w _ _ _ (.tup ys)from⟨k,a,j,p7 _ _⟩)
  exact⟨.ref d.objs.size,_,x,rfl,q _ (m.hok.fresh (cI _))⟩
 ·obtain⟨a,j,f,k⟩:=I.tuple g;exact call_tuple_same f ⟨.ref p,H,I,rfl,q⟩
def Mc(K:cu)(T:String)(x:V)(H:Hp):Prop:=match x with
 | .str _=>T="str"
 | .int _=>T="int"
 | .ref p=>(T="list"/\∃xs,SqL K H p xs)\/(T="tuple"/\∃o,K.lookup p=some o/\o.cls = .type "tuple"/\o.dict=none)\/
   (T="dict"/\((∃kvs,H p=some (.dK kvs))\/∃kvs,H p=some (.dT kvs)))\/(T="set"/\∃S n,H p=some (.set S n))
 | _=>False
theorem CG{pins:List (cG×Obj)}{σ:St}{H:Hp}{s:cD}{T:String}{x:V}{v:cA}(I:Inv X pins σ H s)(r:RelV x v)(ty:Mc X.K T x H):
  s.TypeIs v T/\∀a,v = .ref a->∃ob,s.heap.get? a=some ob/\ob.dict=none:=by
 cases x with
 | str z=>
  obtain⟨t,rfl⟩:=r
  cases(show T="str"from ty)
  exact⟨mL s z t,λ_ e=>nomatch e⟩
 | int i=>
  obtain⟨t,rfl⟩:=r
  cases(show T="int"from ty)
  exact⟨typeIs_int s i t,λ_ e=>nomatch e⟩
 | ref p=>
  cases r
  rcases ty with⟨rfl,m,k⟩|⟨rfl,o,hk,j,f⟩|⟨rfl,hk⟩|⟨rfl,S,n,hk⟩
  ·obtain⟨l,_,g,_⟩:=I.list k
   refine⟨g.isList.typeIs,λa e=>?_⟩
   cases e
   obtain⟨o,n,e,c,f,_⟩:=g
   exact⟨o,e,f⟩
  ·refine⟨⟨o,I.kIn p o hk,j⟩,λa e=>?_⟩
   cases e
   exact⟨o,I.kIn _ o hk,f⟩
  ·have z:∃o,s.heap.get? p=some o/\o.ExactDict:=by
    rcases hk with⟨h,hk⟩|⟨h,hk⟩
    ·obtain⟨_,_,_,_,o,_,_,e,b,_⟩:=I.hok p _ hk
     exact⟨o,e,b⟩
    ·obtain⟨_,_,_,_,o,_,_,e,b,_⟩:=I.hok p _ hk
     exact⟨o,e,b⟩
   obtain⟨o,e,b⟩:=z
   refine⟨⟨o,e,b.1⟩,λa d=>?_⟩
   cases d
   exact⟨o,e,b.2.1⟩
  ·obtain⟨o,_,_,_,e,b,_⟩:=I.hok p _ hk
   refine⟨⟨o,e,b.1⟩,λa d=>?_⟩
   cases d
   exact⟨o,e,b.2.1⟩
 | _=>exact fj ty
def Mp(K:cu)(T:String)(r:V->List V->Hp->VK->Prop)(to:TE):TE:=λσ H Q=>to σ H λx H1=>Mc K T x H1/\r x [] H1 Q
def MJ(K:cu)(T:String)(r:V->List V->Hp->VK->Prop)(to:TE)(t:TA):TE:=λσ H Q=>to σ H λx H1=>Mc K T x H1/\t σ H1 λxs H2=>r x xs H2 Q
variable{o e:Expr}{es:List Expr}{to:TE}{t:TA}{name:Str}{apos cpos:Pos}{T id:String}{r:V->List V->Hp->VK->Prop}
theorem xp(pa:PlainAttrs T)(slot:Slot T name id)(hty:typeOf (.builtin id)=pure (.type "method_descriptor"))(hm:KZ X id r)(ho:PE X o to)
  (hbase:attributeBase o name X.env (eval o X.env)=eval o X.env:=by rfl)(hline:(apos.endLine==cpos.line)=true:=by rfl):PE X (.Call (.Attribute o name apos) [] [] cpos) (Mp X.K T r to):=by
 intro a s b H Q I h
 refine kZ hbase hline (En (ho a s b H _ I h) λv f ⟨x,g,c,d,j,e⟩=>?_)
 obtain⟨h1,h2⟩:=CG c d j
 exact⟨T,id,pa,slot,hty,h1,h2,gB rfl (ml (hm a f b g x [] v [] Q c d .nil e))⟩
theorem uP(pa:PlainAttrs T)(slot:Slot T name id)(hty:typeOf (.builtin id)=pure (.type "method_descriptor"))(hm:KZ X id r)(ho:PE X o to)(ha:PA X (e::es) t)
  (hbase:attributeBase o name X.env (eval o X.env)=eval o X.env:=by rfl)
  (hfew:((backTo cpos (dh (e::es) X.env)).all (λx=>!x.1)&&(backToKw cpos (keywordEach [] X.env)).all (λx=>x.1.isSome)
   && decide ((e::es).length+([]:List Keyword).length+(if([]:List Keyword).isEmpty then 0 else 1)<30))=true:=by rfl)
  (hline:(apos.endLine==cpos.line)=true:=by rfl)(hs:dh (e::es) X.env=(false,eval e X.env)::dh es X.env:=by rfl)(hplain:(backTo cpos (dh es X.env)).any (·.1)=false:=by rfl):
  PE X (.Call (.Attribute o name apos) (e::es) [] cpos) (MJ X.K T r to t):=by
 intro a s b H Q I h
 refine wpAny_Call_method_late hbase hfew hline rfl (En (ho a s b H _ I h) λv l ⟨x,f,d,c,j,n⟩=>?_)
 obtain⟨h1,h2⟩:=CG d c j
 refine⟨T,id,pa,slot,hty,h1,h2,?_⟩
 have hA:=ha cpos a l b f _ d n
 rw[hs]at hA ⊢
 refine gB (by show(false||(backTo cpos (dh es X.env)).any (·.1))=false;rw[hplain] <;> rfl) (iK ?_)
 exact En hA λq m ⟨vs,p,k,g,u⟩=>hm a m b p x vs v q Q k c g u
end
def KG(X:Cx)(id:String)(r:V->List V->Hp->VK->Prop):Prop:=
 ∀(pins:List (cG×Obj)) (s:cD) (σ:St) (H:Hp) (x:V) (xs:List V) (v:cA) (us:List cA) (Q:VK),Inv X pins σ H s->RelV x v->Vals xs us->r x xs H Q->
  wpAny (model X.prog X.w) X.A (call (.builtin id) (v::us)) (EP X pins σ Q) X.xe s
theorem Vals.one:∀{x:V} {us:List cA},Vals [x] us->∃u,us=[u]/\RelV x u
 | _,_,.cons r .nil=>⟨_,rfl,r⟩
theorem Vals.two:∀{x y:V} {us:List cA},Vals [x,y] us->∃u v,us=[u,v]/\RelV x u/\RelV y v
 | _,_,_,.cons r (.cons q .nil)=>⟨_,_,rfl,r,q⟩
theorem Vals.zero:∀{us:List cA},Vals [] us->us=[]
 | _,.nil=>rfl
theorem Vals.dropLast{xs:List V}{us:List cA}(h:Vals xs us):Vals xs.dropLast us.dropLast:=by
 induction h with
 | nil=>exact .nil
 | cons r t a=>
  cases t with
  | nil=>exact .nil
  | cons q b=>exact .cons r a
theorem Vals.reverse{xs:List V}{us:List cA}(h:Vals xs us):Vals xs.reverse us.reverse:=by
 induction h with
 | nil=>exact .nil
 | cons r t a=>rw[nj,nj];exact Vals.append a (.cons r .nil)
theorem zf{α:Type}(l:List α):l.eraseIdx (l.length-1)=l.dropLast:=by
 induction l with
 | nil=>rfl
 | cons a r c=>
  cases r with
  | nil=>rfl
  | cons b r=>
   have e:(a::b::r).length-1=((b::r).length-1)+1:=by
    have h1:(a::b::r).length=r.length+2:=rfl;have h2:(b::r).length=r.length+1:=rfl;omega
   rw[e,List.eraseIdx_cons_succ,c]
   all_goals rfl
section
variable{X:Cx}{pins:List (cG×Obj)}{σ:St}{H:Hp}{s:cD}{l b:cG}{xs ys zs:List V}
theorem Inv.lset{its its':List cA}{n:Nat}{f:Array cA->Array cA}{t':Nat}(I:Inv X pins σ H s)(hH:H l=some (.lst xs))
  (e:s.heap.get? l=some {cls:= .type "list",data:= .seq its.toArray n})(hf:f its.toArray=its'.toArray)(hv:Vals ys its')(hz:ys.length<=sizeLine):
  Inv X pins σ (upd H l (.lst ys)) {s with heap:=s.heap.update l (d2 f),toks:=t'}:=by
 have q:=hO e f
 rw[hf]at q
 refine I.write (x:=l) (e:=l) (by rw[hH];exact trivial) (.inl rfl) (λc u a b=>(fk s.heap (d2 f) (Ne.symm a)).trans b) ⟨_,q⟩ ?_
 exact⟨hz,its',_,hv,q⟩
theorem Inv.lnew{its:List cA}{t':Nat}(I:Inv X pins σ H s)(hv:Vals ys its)(hz:ys.length<=sizeLine):
  Inv X pins σ (upd H s.heap.objs.size (.lst ys)) {s with heap:=s.heap.push {cls:= .type "list",data:= .seq its.toArray},toks:=t'}:=
 I.laid (λ_ _ q=>cF _ q) (cI _) ⟨hz,its,0,hv,cN _ rfl⟩
theorem Inv.lstM(I:Inv X pins σ H s)(hH:H l=some (.lst xs)):xs.length<=sizeLine/\∃(its:List cA) (n:Nat),Vals xs its/\xs.length=its.length/\s.heap.get? l=some {cls:= .type "list",data:= .seq its.toArray n}:=by
 obtain⟨z,its,n,r,e⟩:=I.hok l _ hH;exact⟨z,its,n,r,r.length,e⟩
end
section
variable{X:Cx}
def J0:V->List V->Hp->VK->Prop:=λx vs H Q=>∃l xs y,x = .ref l/\vs=[y]/\H l=some (.lst xs)/\xs.length<sizeLine/\Q .non (upd H l (.lst (xs++[y])))
theorem tM:KG X "list.append" J0:=by
 intro g s k H x vs v o Q I f c h;obtain⟨l,m,y,rfl,rfl,b,j,q⟩:=h
 cases f;obtain⟨u,rfl,d⟩:=c.one;obtain⟨z,a,n,r,p,e⟩:=I.lstM b;refine gZ fT ⟨_,e,rfl⟩ mm (l4 _ _) (nk l a.toArray n u (by rw[cX];omega)) ⟨e,?_⟩;refine⟨.non,_,I.lset (its':=a++[u]) b e (by simp) (r.append (.cons d .nil)) ?_,rfl,q⟩;rw[dq,eU];omega
def Mt:V->List V->Hp->VK->Prop:=λx vs H Q=>∃l xs y,x = .ref l/\vs=[]/\H l=some (.lst xs)/\xs[xs.length-1]?=some y/\Q y (upd H l (.lst xs.dropLast))
theorem DT:KG X "list.pop" Mt:=by
 intro m s t H x vs v A Q I k f h;obtain⟨l,w,y,rfl,rfl,c,g,q⟩:=h
 cases k;have b:=f.zero;subst b;obtain⟨z,a,n,r,o,e⟩:=I.lstM c;obtain⟨u,p,j⟩:=r.get g;have d:a.toArray[a.toArray.size-1]?=some u:=by
  show a.toArray[a.length-1]?=some u;rw[<-gh,<-o];exact p
 refine gZ F.slot_list_pop ⟨_,e,rfl⟩ F.entry_list_pop (F.args_list_pop_1 _) (MeetsSeq.list_pop_last l a.toArray n u d (by rw[cX];omega)) ⟨e,?_⟩;refine⟨y,_,I.lset (its':=a.dropLast) c e ?_ r.dropLast ?_,j,q⟩
 ·show a.toArray.eraseIdxIfInBounds (a.toArray.size-1)=a.dropLast.toArray;rw[cX,List.eraseIdxIfInBounds_toArray,zf]
 ·rw[gS];omega
def JN:V->List V->Hp->VK->Prop:=λx vs H Q=>∃l xs,x = .ref l/\vs=[]/\H l=some (.lst xs)/\Q .non (upd H l (.lst xs.reverse))
theorem zv:KG X "list.reverse" JN:=by
 intro g s j H x vs v m Q I f d h;obtain⟨l,k,rfl,rfl,c,q⟩:=h
 cases f;have b:=d.zero;subst b;obtain⟨z,a,n,r,o,e⟩:=I.lstM c;refine gZ F.slot_list_reverse ⟨_,e,rfl⟩ F.entry_list_reverse (F.args_list_reverse_1 _) (AutoSeq1.list_reverse_list_0 l a.toArray n (by rw[cX];omega)) ⟨e,?_⟩;refine⟨.non,_,I.lset (its':=a.reverse) c e (by simp) r.reverse ?_,rfl,q⟩;rw[List.length_reverse];omega
def Kv:V->List V->Hp->VK->Prop:=λx vs H Q=>∃l xs,x = .ref l/\vs=[]/\H l=some (.lst xs)/\Q .non (upd H l (.lst []))
theorem wE:KG X "list.clear" Kv:=by
 intro g s j H x vs v m Q I f d h;obtain⟨l,k,rfl,rfl,c,q⟩:=h
 cases f;have b:=d.zero;subst b;obtain⟨z,a,n,r,o,e⟩:=I.lstM c;refine gZ F.slot_list_clear ⟨_,e,rfl⟩ F.entry_list_clear (F.args_list_clear_1 _) (AutoSeq1.list_clear_list_0 l a.toArray n (by rw[cX];omega)) ⟨e,?_⟩;exact⟨.non,_,I.lset (its':=[]) (ys:=[]) c e rfl .nil (du _),rfl,q⟩
end
end L2
namespace Att
open PySem PySem.W PySem.Calls PyProof.Rows
theorem vN{P:Params}{h:Heap}:∀(ns:List Int) (vs:List cA),WellAll P h vs (ns.map ri)->IntsAre vs ns:=by
 intro ns
 induction ns with
 | nil=>
  intro vs w;rw[qc]at w
  cases w;exact .nil
 | cons n ns c=>
  intro vs w;rw[dN]at w
  cases w with
  | cons a b=>
   cases a;exact .cons _ _ (c _ b)
theorem z9{l:OpenLaw}{n:Nat}(hn:l.most=some n){P:Params}{h:Heap}{args:List WData}{vals:List cA}
  (hpre:l.row.toRowW.claim.pre args=true)(hwl:WellAll P h vals args):
  ∃a vs ns,vals=[cR a]/\args=[WData.list (ns.map ri)]/\h.get? a=some {cls:= .type "list",data:= .seq vs.toArray}/\IntsAre vs ns/\ns.length<=n:=by
 have e:WShape.hasAll [] args [.list .int]=true:=(pre_splitW hpre).1
 have c:l.pre.holds [] {args:=args}=true:=(pre_splitW hpre).2
 obtain⟨d,r,rfl,h1,h2⟩:=hasAllW_cons e
 obtain rfl:=hasAllW_nil h2
 obtain⟨m,rfl,h3⟩:=hasW_list h1
 obtain⟨ns,rfl⟩:=items_int h3
 have b:ns.length<=n:=by
  unfold OpenLaw.pre at c
  have h4:(WTm.not (.lt (.lit (.int (n:Int))) (.len (.arg 0)))).holds [] {args:=[.list (ns.map .int)]}=true:=by
   have h4:=(holds_andW c).1
   rw[hn]at h4
   exact h4
  have h5:=condW_of h4 (w_not (w_lt w_lit (w_len_list (w_arg rfl))))
  rw[cx]at h5
  refine k6 λq=>?_
  have g:(n:Int)<((ns.length:Nat):Int):=by omega
  first
   | (rw[decide_eq_true g]at h5;exact absurd h5 (by decide))
   | (simp at h5;omega)
 cases hwl with
 | cons f k=>
  cases k
  cases f with
  | list j hall=>exact⟨_,_,ns,rfl,rfl,j,vN ns _ hall,b⟩
theorem AE(l:OpenLaw)(args:List WData):l.row.toRowW.claim.post args (.bool true) args=true:=
 postW_of (r:=l.row.toRowW) (X:=(true==true))
  (show rb [] (.bool true) .bool=true by first|rfl|decide|simp[rb,WShape.arms,WShape.armsAll])
  (show(WTm.eq .res (.lit (.bool true))).value [] {args:=args,res:=some (.bool true),after:=args}=some (.bool (true==true))from w_eq_bool (w_res rfl) w_lit) rfl
theorem attach_call{l:OpenLaw}{n:Nat}{q:cT}{loose:List Str}{XP:(Str->Option cA)->Heap->Prop}{YP:dc->Heap->Prop}{d:DefRec}
  (hn:l.most=some n)(hdf:d.params.defaults=[])
  (call:∀(w:dc) (s₀ s₁:cD) (mg mb:Str->Option cA) (fa:cG) (o:Obj) (pm cd doc:cA) (a:cG) (vs:List cA) (ns:List Int),
   Ground q loose [] XP w s₀ mg mb s₁.heap->YP w s₁.heap->
   s₁.heap.get? fa=some o->o.data = .func (docDef d.name d.params d.body d.scope pm cd doc)->s₁.heap.CodeRec cd d.name->mg d.name=some (.ref fa)->
   s₁.heap.get? a=some {cls:= .type "list",data:= .seq vs.toArray}->IntsAre vs ns->ns.length<=n->s₁.gens = #[]->
   codeAny (model l.prog w) callerA (.call (.ref fa) ⟨[.ref a],[]⟩) (λr s'=>r = .ok (.ret (.bool true))/\OldK s₁.heap s'.heap/\s'.os=s₁.os/\AllBare s'.gens) s₁):
  WalkO q loose XP YP l.row.toRowW d [] (λf vs=>oM f vs):=by
 intro w s₀ s₁ mg mb G Y fa o pm cd doc y kV z x j h k A t u as g p C m B
 obtain rfl:y = .none:=Dflts.none h hdf
 obtain rfl:kV = .none:=Dflts.noKw h
 obtain⟨a,vs,ns,rfl,rfl,e,b,c⟩:=z9 hn g m
 refine enter_call (iX (call w s₀ s₁ mg mb fa o pm cd doc a vs ns G Y z (fd_plain x) j k e b c A) λr s' v=>?_)
 obtain⟨rfl,h2,h3,h4⟩:=v
 exact⟨.inl ⟨.bool true,.bool true,[],rfl,λ_=>rfl,.bool true,AE l _,λ_=>⟨my.nil,λ_ s=>(nomatch s)⟩⟩,h2,h3,h4⟩
end Att
namespace L2
open PySem PySem.Spec PyProof.Rows
theorem uB:∀{vs:List cA} {ns:List Int},IntsAre vs ns->Vals (ns.map V.int) vs
 | _,_,.nil=> .nil
 | _,_,.cons n t h=> .cons ⟨t,rfl⟩ (uB h)
def KQ(H:Hp):Prop:=∀b,H b=none\/∃o xs,H b=some (.frz o (.lst xs))
theorem BD{P:cT}{w:dc}{K:cu}{mg mb:Str->Option cA}{CX:Ho}{k:Nat}{fa a:cG}{fd:FuncData}{x:Str}{sp:Sp}{s₁:cD}{vs:List cA}{ns:List Int}
  (KX:K.In s₁.heap)(hns:s₁.heap.Ns fD mg)(hb:s₁.heap.Ns builtinsNs mb)(hbb:∀x:Str,x≠"__name__"->mb x=bootBuiltins x)(hlim:s₁.heap.NoLimit)(hg:s₁.gens = #[])
  (ha:s₁.heap.get? a=some {cls:= .type "list",data:= .seq vs.toArray})(hi:IntsAre vs ns)(hl:ns.length<=sizeLine)(hr:Room k callerA)
  (F:∀base:Heap,K.In base->base.Ns fD mg->FnOk P w K mg base CX k fa fd [x] sp)(hbind:∀(s:cD) (u:cA),BindsTo s fd ⟨[u],[]⟩ [(x,u)])
  (hsp:∀H:Hp,KQ H->SqL K H a (ns.map V.int)->sp [.ref a] H (λv _=>v = .bl true) λ_ _ _=>False)
  (hCX:∀H e s',CX [] H s₁ (λ_ _ _=>False) e s'->False):
  codeAny (model P w) callerA (.call (.ref fa) ⟨[.ref a],[]⟩) (λr s'=>r = .ok (.ret (.bool true))/\OldK s₁.heap s'.heap/\s'.os=s₁.os/\AllBare s'.gens) s₁:=by
 have E:=uB hi
 have C:=hi.length
 have l:∀H:Hp,KQ H->SqL K H a (ns.map V.int)->HOk P w H s₁.heap->(∀b,H b≠none->b=a)->(H a≠none->K.lookup a=none)->
   codeAny (model P w) callerA (.call (.ref fa) ⟨[.ref a],[]⟩) (λr s'=>r = .ok (.ret (.bool true))/\OldK s₁.heap s'.heap/\s'.os=s₁.os/\AllBare s'.gens) s₁:=by
  intro H I M y hA O
  have c:∀{b:cG} {o:Obj},s₁.heap.get? b=some o->H b=none->(Hu s₁.heap H).get? b=some o:=λe n=>BM e n
  have J:∀{b:cG} {o:Obj} {p:Array DictEntry} {g:Nat},s₁.heap.get? b=some o->o.data = .dict p g->H b=none:=λ {b o p g} e d=>by
   cases q:H b with
   | none=>rfl
   | some u=>
    have A:b=a:=hA b (by rw[q];simp)
    subst A
    rw[ha]at e;cases e
    have R:iL vs.toArray _=Data.dict p g:=d
    cases R
  have f:∀{b:cG} {m:Str->Option cA},s₁.heap.Ns b m->(Hu s₁.heap H).Ns b m:=λ {b m} ⟨o,p,g,e,d,r⟩=>⟨o,p,g,c e (J e d),d,r⟩
  have t:K.In (Hu s₁.heap H):=λb o e=>c (KX b o e) (by
   cases q:H b with
   | none=>rfl
   | some u=>
    have A:b=a:=hA b (by rw[q];simp)
    subst A
    rw[O (by rw[q];simp)]at e;cases e)
  have S:Mod K mg (Hu s₁.heap H):=⟨t,f hns,⟨mb,f hb,hbb⟩,let⟨X,h1,h2⟩:=hlim;⟨X,f h1,h2⟩⟩
  have Y:Env0 P w K mg (Hu s₁.heap H) callerA [] s₁ H:=⟨rfl,S,λb o e=>CU e,na (Aw _ _),trivial,λb hb=>absurd (show b∈([]:List cG)from hb) (by simp),y,.of_eq hg⟩
  refine iX ((F _ t (f hns)).run callerA [] s₁ H ⟨[.ref a],[]⟩ [.ref a] [.ref a] _ _ hr Y (hbind s₁ (.ref a)) (.cons rfl .nil) (hsp H I M)) λr s' h=>?_
  cases r with
  | error e=>exact(hCX H e s' h).elim
  | ok Z=>
   cases Z with
   | next=>exact fj h
   | brk=>exact fj h
   | cont=>exact fj h
   | ret u=>
    obtain⟨v,H',os,D,L,B,r',q⟩:=h
    have T:v = .bl true:=q
    subst T
    obtain rfl:u=er true:=r'
    refine⟨rfl,OldK.of_keep λb o e=>?_,os,D⟩
    cases q:H b with
    | none=>exact L.keep b o e q (by intro z;exact absurd (show b∈([]:List cG)from z) (by simp)) (by simp)
    | some u=>
     rcases I b with z|⟨U,xs,z⟩
     ·rw[q]at z;cases z
     ·have N:=L.frzs b U _ z
      obtain⟨G,_⟩:=y b _ z
      obtain⟨Q,_⟩:=B b _ N
      rw[e]at G;cases G
      exact Q
 cases hk:K.lookup a with
 | some o=>
  have e:=KX a o hk
  rw[ha]at e
  cases e
  refine l (λ_=>none) (λ_=> .inl rfl) (.inr ⟨_,vs.toArray,_,hk,rfl,rfl,rfl,by rw[cX,C];exact hl,by simpa using E⟩) (λb u z=>by have j:(none:Option HO)=some u:=z;cases j) (λb z=>absurd rfl z) λz=>absurd rfl z
 | none=>
  refine l (λb=>if b=a then some (.frz {cls:= .type "list",data:= .seq vs.toArray} (.lst (ns.map V.int)))else none) (λb=>?_) (.inl (.inr ⟨{cls:= .type "list",data:= .seq vs.toArray},if_pos rfl⟩)) (λb u z=>?_) (λb z=>?_) λ_=>hk
  ·by_cases hb:b=a
   ·exact .inr ⟨_,_,if_pos hb⟩
   ·exact .inl (if_neg hb)
  ·by_cases hb:b=a
   ·have j:=(if_pos hb).symm.trans z
    cases j
    subst hb
    exact⟨ha,by rw[cx];exact hl,vs,_,E,ha⟩
   ·have j:=(if_neg hb).symm.trans z
    cases j
  ·by_cases hb:b=a
   ·exact hb
   ·exact absurd (if_neg hb) z
theorem walk_of{l:PySem.W.OpenLaw}{n k:Nat}{q:cT}{loose:List Str}{XP:(Str->Option cA)->Heap->Prop}{YP:dc->Heap->Prop}{d:DefRec}{K:Params->cu}{CX:dc->Ho}{sp:dc->Sp}{x:Str}
  (hn:l.most=some n)(hn2:n<=sizeLine)(hdf:d.params.defaults=[])(hr:Room k callerA)
  (hY:∀(w:dc) (h:Heap),YP w h->(K w.params).In h)
  (F:∀(w:dc) (mg:Str->Option cA) (fa:cG) (h:Heap),(K w.params).In h->h.Ns fD mg->mg d.name=some (.ref fa)->
   ∃fd:FuncData,(∀(s:cD) (u:cA),BindsTo s fd ⟨[u],[]⟩ [(x,u)])/\
    ∀base:Heap,(K w.params).In base->base.Ns fD mg->FnOk l.prog w (K w.params) mg base (CX w) k fa fd [x] (sp w))
  (hsp:∀(w:dc) (H:Hp) (a:cG) (ns:List Int),ns.length<=n->KQ H->SqL (K w.params) H a (ns.map V.int)->sp w [.ref a] H (λv _=>v = .bl true) λ_ _ _=>False)
  (hCX:∀(w:dc) (H:Hp) (s:cD) (e:cA) (s':cD),CX w [] H s (λ_ _ _=>False) e s'->False):
  PySem.W.WalkO q loose XP YP l.row.toRowW d [] (λf vs=>oM f vs):=by
 refine Att.attach_call hn hdf λw A p mg O fa o L J I a vs ns G Y N M E r m j c C=>?_
 have t:=hY w _ Y
 obtain⟨fd,D,B⟩:=F w mg fa _ t G.T.g r
 exact BD t G.T.g G.T.b G.T.builtins G.T.nolimit C m j (dg c hn2) hr B D (λH z y=>hsp w H a ns c z y) λH e s'=>hCX w H p e s'
def Eo(s:Stmt):Arguments:=match s with
 | .FunctionDef _ a _ _ _ _ _ _ _ _=>a
 | _=>{posonlyargs:=[],args:=[],vararg:=none,kwonlyargs:=[],kw_defaults:=[],kwarg:=none,defaults:=[]}
def Ek(s:Stmt):List Stmt:=match s with
 | .FunctionDef _ _ b _ _ _ _ _ _ _=>b
 | _=>[]
def Ec(s:Stmt):Scope:=match s with
 | .FunctionDef _ _ _ _ _ _ sc _ _ _=>sc
 | _=>{kind:= .function,names:=[],isGenerator:=false,isCoroutine:=false}
abbrev Em:Ho:=λ_ _ _ _ _ _=>False
abbrev E0:XK:=λ_ _ _=>False
theorem Eh{X:Cx}:EH Em X E0:=λ_ _ _ _ _ _ _ h=>h.elim
structure Fun(K:cu)(x qual:Str)(st:Stmt)(f:cG)(fd:FuncData):Prop where
 ex:∃(oc:cA) (od:Option cG) (kV doc pm:cA) (an:Option cG) (cdv ct:cA) (osl:Array (Option cA)),
  fd=f9 x qual (Eo st) (Ek st) (Ec st) .none kV doc pm an cdv ct/\K.lookup f=some ⟨oc,od,.func fd,osl⟩/\l3 K cdv qual=true
 kp:iI K (.ref f)=true
section
variable{P:cT}{w:dc}{K:cu}{mg:Str->Option cA}{base:Heap}
theorem Fun.ok{x qual:Str}{st:Stmt}{f:cG}{fd:FuncData}{N ps:List Str}{k:Nat}{sp:Sp}(F:Fun K x qual st f fd)(S:Ef N ps (Ec st))(len:∀vs H Q E,sp vs H Q E->vs.length=ps.length)
  (hbody:∀(cdv:cA) (A:dw) (outer:List Env) (s:cD) (H:Hp) (vs:List V) (Q:VK) (E:XK),Room k (A.deeper (envOfC qual (Ec st) s.heap.objs.size f cdv))->sp vs H Q E->
   ∃t,PSs (G7 Em P w K mg base N qual (Ec st) f cdv A outer s H E).nox (Ek st) t/\t {nx:=λ_ H'=>Q .non H',rt:=Q} (start N vs) H):FnOk P w K mg base Em (k+1) f fd ps sp:=by
 obtain⟨l,m,kV,e,j,n,cdv,g,d,rfl,lk,a⟩:=F.ex
 refine B1 lk a S len λA outer s H vs Q E c b=>?_
 obtain⟨t,h,q⟩:=hbody cdv A outer s H vs Q E c b
 exact⟨t,h.nox,q⟩
theorem Fun.binds{x qual:Str}{st:Stmt}{f:cG}{fd:FuncData}{ps:List Str}(F:Fun K x qual st f fd)
  (h:∀(kV doc pm:cA) (an:Option cG) (cdv ct:cA) (us:List cA),us.length=ps.length->bindArgs (f9 x qual (Eo st) (Ek st) (Ec st) .none kV doc pm an cdv ct) ⟨us,[]⟩=pure (ps.zip us)):Binds K fd ps []:=by
 obtain⟨c,d,kV,doc,pm,an,cdv,ct,a,rfl,lk,b⟩:=F.ex
 exact .all (h kV doc pm an cdv ct)
theorem yM{x qual:Str}{st:Stmt}{f:cG}{oc:cA}{od an:Option cG}{osl:Array (Option cA)}{kV doc pm cdv ct:cA}(l:K.lookup f=some ⟨oc,od,.func (f9 x qual (Eo st) (Ek st) (Ec st) .none kV doc pm an cdv ct),osl⟩)
  (c:l3 K cdv qual=true)(k:iI K (.ref f)=true):Fun K x qual st f (f9 x qual (Eo st) (Ek st) (Ec st) .none kV doc pm an cdv ct):=⟨⟨oc,od,kV,doc,pm,an,cdv,ct,osl,rfl,l,c⟩,k⟩
end
theorem Ed{n:Nat}(h:n<=1000):n<sizeLine:=eQ h (by decide)
section
variable{X:Cx}
theorem pv(i:Nat){x:Str}{pos:Pos}(hN:X.N[i]?=some x:=by rfl)(hv:L1 X.env.scope x:=by first|exact Or.inl rfl|exact Or.inr (Or.inl rfl)|exact Or.inr (Or.inr rfl))(hd:(x==("__debug__":Str))=false:=by decide)
  (hcd:(x==("__classdict__":Str))=false:=by decide):PE X (.Name x pos) (Lg i):=Dz hN hv hd hcd
end
theorem Eu{A B:Prop}(h:B):if false=true then A else B:=by
 rw[if_neg de];exact h
theorem ER{A B:Prop}(h:A):if true=true then A else B:=by
 rw[if_pos rfl];exact h
theorem Jv{c A B:Prop}[Decidable c](h1:c->A)(h2:¬c->B):if c then A else B:=by
 by_cases h:c
 ·rw[if_pos h];exact h1 h
 ·rw[if_neg h];exact h2 h
theorem GZ{c A B:Prop}[Decidable c](hc:c)(h:B):if(!decide c)=true then A else B:=by
 rw[decide_eq_true hc];exact Eu h
def Same(H H':Hp):Prop:=∀b o,H b=some o->H' b=some o
theorem Same.refl(H:Hp):Same H H:=λ_ _ h=>h
theorem Same.trans{H H1 H2:Hp}(a:Same H H1)(b:Same H1 H2):Same H H2:=λc o h=>b c o (a c o h)
theorem Same.free{H H':Hp}(e:Same H H'){l:cG}(h:H' l=Option.none):H l=Option.none:=by
 cases q:H l with
 | none=>rfl
 | some o=>
  rw[e l o q]at h
  cases h
theorem Same.seq{K:cu}{H H':Hp}{a:cG}{xs:List V}(e:Same H H')(h:SqL K H a xs):SqL K H' a xs:=by
 rcases h with(h|⟨o,h⟩)|h
 ·exact .inl (.inl (e _ _ h))
 ·exact .inl (.inr ⟨o,e _ _ h⟩)
 ·exact .inr h
def FV(scope:Scope)(env:Env):List (Str×cG):=
 (scope.names.filterMap λx=>if x.2==eA then(env.cells.lookup x.1).map λc=>(x.1,c)else none).reverse
theorem yo{env:Env}(f:Str×ip->List (Str×cG)->Sem (ForInStep (List (Str×cG))))
  (hf:∀n k r,f (n,k) r=(if(k==eA)=true then(do let c<-cellOf env n;pure (.yield ((n,c)::r)))else pure (.yield r))):
  ∀(ns:List (Str×ip)) (cs:List (Str×cG)),(∀x∈ns,x.2 = .free->∃c,env.cells.lookup x.1=some c)->
   forIn ns cs f=pure ((ns.filterMap λx=>if x.2==eA then(env.cells.lookup x.1).map λc=>(x.1,c)else none).reverse++cs)
 | [],cs,_=>by rw[gr];rfl
 | (n,k)::r,cs,h=>by
  rw[eg,hf]
  have a:∀x∈r,x.2 = .free->∃c,env.cells.lookup x.1=some c:=λx g=>h x (cO _ g)
  by_cases hk:k = .free
  ·subst hk
   obtain⟨c,b⟩:=h (n,.free) cM rfl
   have e:cellOf env n=pure c:=by unfold cellOf;rw[b]
   rw[if_pos (by rfl),e,pure_bind,pure_bind]
   show forIn r ((n,c)::cs) f=_
   rw[yo f hf r _ a,gd]
   simp[b]
  ·have d:(k==eA)=false:=by simpa using hk
   rw[if_neg (by rw[d];decide),pure_bind]
   show forIn r cs f=_
   rw[yo f hf r _ a,gd]
   simp[d]
theorem Ad{scope:Scope}{env:Env}(h:∀x∈scope.names,x.2 = .free->∃c,env.cells.lookup x.1=some c):closureFor scope env=pure (FV scope env):=by
 simp only[closureFor];rw[yo (env:=env) _ (λn k r=>by cases hk:k==eA <;> simp[hk]) scope.names [] h];rw[fV];rfl
theorem uo{env:Env}{x:Str}:∀{l:List (Str×cG)} {c:cG},(∀p∈l,env.cells.lookup p.1=some p.2)->l.lookup x=some c->env.cells.lookup x=some c
 | [],_,_,e=>by simp at e
 | (n,d)::r,c,h,e=>by
  rw[dW]at e
  cases a:x==n with
  | true=>
   rw[a]at e
   have b:d=c:=Option.some.inj e
   have f:x=n:=by simpa using a
   subst f b
   exact h _ cM
  | false=>
   rw[a]at e
   exact uo (λp hp=>h p (cO _ hp)) e
theorem yI{scope:Scope}{env:Env}{p:Str×cG}(h:p∈FV scope env):env.cells.lookup p.1=some p.2:=by
 unfold FV at h;rw[k7,gH]at h;obtain⟨x,_,e⟩:=h;split at e
 ·cases q:env.cells.lookup x.1 with
  | none=>rw[q]at e;cases e
  | some c=>
   rw[q]at e;have a:(x.1,c)=p:=Option.some.inj e;subst a;exact q
 ·cases e
theorem wX{scope:Scope}{env:Env}{x:Str}{c:cG}(h:(x,c)∈FV scope env):(x,eA)∈scope.names:=by
 unfold FV at h;rw[k7,gH]at h;obtain⟨⟨y,k⟩,b,e⟩:=h;split at e
 ·rename_i hk
  have a:k = .free:=by simpa using hk
  cases q:env.cells.lookup y with
  | none=>simp[q]at e
  | some d=>
   simp[q]at e;rw[<-e.1,<-a];exact b
 ·cases e
theorem sO{scope:Scope}{env:Env}{x:Str}{c:cG}(e:(FV scope env).lookup x=some c):env.cells.lookup x=some c:=
 uo (λ_ hp=>yI hp) e
theorem tN{x:Str}:∀{l:List (Str×cG)},(∃c,(x,c)∈l)->∃c,l.lookup x=some c
 | [],⟨_,h⟩=>by cases h
 | (n,d)::r,⟨c,h⟩=>by
  rw[dW]
  cases a:x==n with
  | true=>exact⟨d,rfl⟩
  | false=>
   rcases cZ.mp h with q|q
   ·injection q with q1 _
    rw[q1]at a
    simp at a
   ·exact tN ⟨c,q⟩
theorem y8{scope:Scope}{env:Env}{x:Str}{c:cG}(hm:(x,eA)∈scope.names)(e:env.cells.lookup x=some c):(FV scope env).lookup x=some c:=by
 have a:(x,c)∈FV scope env:=by
  unfold FV;rw[k7,gH];exact⟨(x,.free),hm,by simp[e]⟩
 obtain⟨d,b⟩:=tN ⟨c,a⟩;have:=sO b;rw[e]at this
 cases this;exact b
def E8(caps:List (Option Nat))(σ:St):St:=caps.map λo=>o.bind λi=>(σ[i]?).bind id
structure CompOk(scope sc:Scope)(NX N:List Str)(caps:List (Option Nat)):Prop where
 kind:scope.kind = .function
 nd:N.Nodup
 own:∀y∈scope.names,y.2 = .cell->scope.names.lookup y.1=some .cell
 loc:∀y∈scope.names,y.2 = .local->scope.names.lookup y.1=some .local
 free:∀y∈scope.names,y.2 = .free->scope.names.lookup y.1=some .free/\(sc.names.lookup y.1=some .cell\/sc.names.lookup y.1=some .free)
 len:caps.length=N.length
 cap:∀p∈(caps.zip N),∀i,p.1=some i->NX[i]?=some p.2/\scope.names.lookup p.2=some .free
def Ji(scope sc:Scope)(NX N:List Str)(caps:List (Option Nat)):Bool:=
 (scope.kind == .function)&&decide N.Nodup&&scope.names.all (λy=>y.2 != .cell||scope.names.lookup y.1==some .cell)&&scope.names.all (λy=>y.2 != .local||scope.names.lookup y.1==some .local) &&
 scope.names.all (λy=>y.2 != .free||(scope.names.lookup y.1==some .free&&(sc.names.lookup y.1==some .cell||sc.names.lookup y.1==some .free)))&&(caps.length==N.length) &&
 (caps.zip N).all (λp=>match p.1 with|none=>true|some i=>NX[i]?==some p.2&&scope.names.lookup p.2==some .free)
theorem CompOk.of{scope sc:Scope}{NX N:List Str}{caps:List (Option Nat)}(h:Ji scope sc NX N caps=true):CompOk scope sc NX N caps:=by
 unfold Ji at h;simp only[dn]at h;obtain⟨⟨⟨⟨⟨⟨h1,h2⟩,h3⟩,h4⟩,h5⟩,h6⟩,c⟩:=h;refine⟨by simpa using h1,of_decide_eq_true h2,λy a b=>?_,λy a e=>?_,λy a d=>?_,by simpa using h6,λp hp i f=>?_⟩
 ·have:=dZ.mp h3 y a;rw[b]at this;simpa using this
 ·have:=dZ.mp h4 y a;rw[e]at this;simpa using this
 ·have:=dZ.mp h5 y a;rw[d]at this;simpa using this
 ·have:=dZ.mp c p hp;rw[f]at this;simpa using this
def KJ(scope:Scope)(C:cG)(env:Env):List (Str×cG):=cellsFrom (C+1) scope.names (FV scope env)
theorem uf:∀(names:List (Str×ip)) (n:Nat) (acc:List (Str×cG)) {x:Str} {c:cG},(cellsFrom n names acc).lookup x=some c->(n<=c/\(x,f7)∈names)\/acc.lookup x=some c
 | [],_,_,_,_,h=> .inr h
 | (y,k)::r,n,acc,x,c,h=>by
  unfold cellsFrom at h
  split at h
  ·rename_i hk
   have b:k = .cell:=by simpa using hk
   rcases uf r (n+1) _ h with⟨h1,h2⟩|h2
   ·exact .inl ⟨by omega,cO _ h2⟩
   ·rw[dW]at h2
    cases a:x==y with
    | true=>
     rw[a]at h2
     have e:n=c:=Option.some.inj h2
     have d:x=y:=by simpa using a
     exact .inl ⟨by omega,by rw[d,b];exact cM⟩
    | false=>rw[a]at h2;exact .inr h2
  ·rcases uf r n acc h with⟨h1,h2⟩|h2
   ·exact .inl ⟨h1,cO _ h2⟩
   ·exact .inr h2
theorem uS:∀(names:List (Str×ip)) (n:Nat) (acc:List (Str×cG)) {x:Str},(x,f7)∉names->(cellsFrom n names acc).lookup x=acc.lookup x
 | [],_,_,_,_=>rfl
 | (y,k)::r,n,acc,x,h=>by
  unfold cellsFrom
  have b:(x,f7)∉r:=λz=>h (cO _ z)
  split
  ·rename_i hk
   have c:k = .cell:=by simpa using hk
   rw[uS r _ _ b,dW]
   have a:(x==y)=false:=by
    cases a:x==y with
    | false=>rfl
    | true=>
     have d:x=y:=by simpa using a
     exact absurd (by rw[d,c];exact cM) h
   rw[a]
  ·exact uS r n acc b
theorem uC:∀(names:List (Str×ip)) (n:Nat) (acc:List (Str×cG)) {x:Str},((x,f7)∈names\/∃c,acc.lookup x=some c)->∃c,(cellsFrom n names acc).lookup x=some c
 | [],_,_,_,h=>by
  rcases h with h|h
  ·cases h
  ·exact h
 | (y,k)::r,n,acc,x,h=>by
  unfold cellsFrom
  split
  ·rename_i hk
   refine uC r _ _ ?_
   by_cases a:x=y
   ·subst a;exact .inr ⟨n,by simp[dW]⟩
   ·rcases h with h|⟨c,h⟩
    ·rcases cZ.mp h with z|z
     ·injection z with z1 _;exact absurd z1 a
     ·exact .inl z
    ·exact .inr ⟨c,by rw[dW,show(x==y)=false by simpa using a];exact h⟩
  ·rename_i hk
   refine uC r _ _ ?_
   rcases h with h|h
   ·rcases cZ.mp h with z|z
    ·injection z with _ z2
     rw[<-z2]at hk
     exact absurd rfl hk
    ·exact .inl z
   ·exact .inr h
theorem vh:∀(names:List (Str×ip)) (n:Nat) (acc:List (Str×cG)),(∀x y c,acc.lookup x=some c->acc.lookup y=some c->x=y)->(∀x c,acc.lookup x=some c->c<n)->
  ∀x y c,(cellsFrom n names acc).lookup x=some c->(cellsFrom n names acc).lookup y=some c->x=y
 | [],_,_,hi,_=>hi
 | (w,k)::r,n,acc,hi,hb=>by
  unfold cellsFrom
  split
  ·refine vh r (n+1) _ (λx y c h1 h2=>?_) (λx c h=>?_)
   ·rw[dW]at h1 h2
    cases a:x==w <;> cases b:y==w <;> rw[a]at h1 <;> rw[b]at h2
    ·exact hi x y c h1 h2
    ·cases h2;exact absurd (hb x _ h1) (dt _)
    ·cases h1;exact absurd (hb y _ h2) (dt _)
    ·have d:x=w:=by simpa using a
     have e:y=w:=by simpa using b
     rw[d,e]
   ·rw[dW]at h
    cases a:x==w <;> rw[a]at h
    ·exact dz (hb x c h)
    ·cases h;exact dH _
  ·exact vh r n acc hi hb
theorem vy:∀(names:List (Str×ip)) (h:Heap) (acc:List (Str×cG)) {x:Str} {c:cG},(x,c)∈cellsFrom h.objs.size names acc->(x,c)∈acc\/(h.objs.size<=c/\(pushCells h names).IsCell c none)
 | [],_,_,_,_,hm=> .inl hm
 | (y,k)::r,h,acc,x,c,hm=>by
  unfold cellsFrom at hm
  unfold pushCells
  split at hm
  ·rename_i hk
   rw[if_pos hk]
   have b:(x,c)∈cellsFrom (h.push {cls:= .type "cell",data:= .cell none}).objs.size r ((y,h.objs.size)::acc):=by rw[gq];exact hm
   rcases vy r _ _ b with z|⟨d,a⟩
   ·rcases cZ.mp z with z|z
    ·injection z with _ a
     subst a
     refine .inr ⟨cI _,_,lH r _ _ _ (cN _ rfl),rfl⟩
    ·exact .inl z
   ·rw[gq]at d
    exact .inr ⟨by omega,a⟩
  ·rename_i hk
   rw[if_neg hk]
   exact vy r h acc hm
theorem yj{M:Model}{A:dw}{E:cA->cD->Prop}{s:cD}{scope:Scope}{globals:cG}{cl:List (Str×cG)}{qual:Str}{env:Env}{Q:Env->cD->Prop}(hcl:∀x c,(x,c)∈cl->c<s.heap.objs.size)
  (h:∀h':Heap,h'.Ns s.heap.objs.size (λ_=>none)->(∀b o,s.heap.get? b=some o->h'.get? b=some o)->(∀x c,(cellsFrom (s.heap.objs.size+1) scope.names cl).lookup x=some c->s.heap.objs.size+1<=c->h'.IsCell c none)->
   Q {scope:=scope,locals:=s.heap.objs.size,globals:=globals,cells:=cellsFrom (s.heap.objs.size+1) scope.names cl,qual:=qual,func:=none,code:=env.code,frame:=env.frame,builtins:=env.builtins} {s with heap:=h'}):
  wpAny M A (newFunctionEnv scope globals cl [] qual none .none (some env)) Q E s:=by
 simp only[newFunctionEnv,Option.isSome_some,if_true]
 refine cr (om ?_)
 refine cr (wpAny_layCells _ (λg a cells=>by cases f:a==f7 <;> simp[f]) _ _ _ _ ?_)
 rw[show({s with heap:=s.heap.push {cls:= .type "dict",data:= .dict #[]}}:cD).heap.objs.size=s.heap.objs.size+1 from gq ..]
 refine cr ?_
 rw[gr]
 refine cv (cv (h _ ?_ (λb o e=>lH _ _ _ _ (cF _ e)) λx c e j=>?_))
 ·refine⟨_,#[],0,lH _ _ _ _ (cN _ rfl),rfl,?_,λx=>rfl⟩
  first|exact λe k=>by simp at k|simp
 ·have l:=eV e
  have d:(x,c)∈cellsFrom (s.heap.push {cls:= .type "dict",data:= .dict #[]}).objs.size scope.names cl:=by rw[gq];exact l
  rcases vy _ _ _ d with z|z
  ·exact absurd (cU (hcl x c z) (Nat.le_of_succ_le j)) (dt _)
  ·exact z.2
def Er(X:Cx)(scope:Scope)(N:List Str)(C:cG)(s₀:cD)(H₀:Hp)(ex:List cG):Cx where
 prog:=X.prog
 w:=X.w
 K:=X.K
 mg:=X.mg
 base:=X.base
 A:=X.A
 N:=N
 s₀:=s₀
 H₀:=H₀
 env:=compEnvC scope (KJ scope C X.env) C X.env
 outer:=X.stack
 stack:=X.stack
 ex:=ex
 fn:=λx=>scope.names.lookup x==some .cell
 calm:=X.calm
 pn:=[]
 xe:=λ_ _=>False
theorem uT{scope:Scope}{env:Env}{x:Str}{k:ip}(hk:k = .cell\/k = .free)(h:(relabel scope env).names.lookup x=some k):(x,eA)∈scope.names\/(x,f7)∈scope.names:=by
 have b:(x,k)∈(relabel scope env).names:=eV h;unfold relabel at b;rw[dv]at b;obtain⟨⟨n,d⟩,c,e⟩:=b;dsimp only at e;by_cases a:(d==eA&&env.scope.kind == .function&&env.kindOf n==some .cell)=true
 ·rw[if_pos a]at e;injection e with e1 e2
  have:d = .free:=by
   rw[dn,dn]at a;simpa using a.1.1
  subst this e1;exact .inl c
 ·rw[if_neg a]at e;injection e with e1 e2
  subst e1 e2;rcases hk with hk|hk
  ·subst hk;exact .inr c
  ·subst hk;exact .inl c
theorem tH{env:Env}:∀{names:List (Str×ip)} {x:Str},names.lookup x=some .free->
  (names.map λ(n,k)=>if(k==eA&&env.scope.kind == .function&&env.kindOf n==some .cell)then(n,f7)else(n,k)).lookup x=some .cell\/
  (names.map λ(n,k)=>if(k==eA&&env.scope.kind == .function&&env.kindOf n==some .cell)then(n,f7)else(n,k)).lookup x=some .free
 | [],_,h=>by simp at h
 | (n,k)::r,x,h=>by
  have c:=@tH env r x
  rw[dN]
  dsimp only
  cases a:x==n with
  | true=>
   simp only[dW,a]at h
   cases h
   by_cases b:(eA==eA&&env.scope.kind == .function&&env.kindOf n==some .cell)=true
   ·rw[if_pos b];left;simp[dW,a]
   ·rw[if_neg b];right;simp[dW,a]
  | false=>
   simp only[dW,a]at h
   by_cases b:(k==eA&&env.scope.kind == .function&&env.kindOf n==some .cell)=true
   ·rw[if_pos b];simp only[dW,a];exact c h
   ·rw[if_neg b];simp only[dW,a];exact c h
section
variable{X:Cx}{pins:List (cG×Obj)}{σ:St}{H:Hp}{s:cD}{scope:Scope}{N:List Str}{caps:List (Option Nat)}{fp:List cG}
theorem zE{h1:Heap}{tk:Nat}(I:Inv X pins σ H s)(O:CompOk scope X.env.scope X.N N caps)(f2:∀b∈fp,Gf X pins H b)(hob:∀b∈fp,b<s.heap.objs.size)
  (hns:h1.Ns (s.heap.objs.size+1) (λ_=>none))(hD:h1.get? s.heap.objs.size=some {cls:= .type "list",data:= .seq #[]})(old:∀b o,s.heap.get? b=some o->h1.get? b=some o)
  (hnew:∀x c,(KJ scope (s.heap.objs.size+1) X.env).lookup x=some c->s.heap.objs.size+1+1<=c->h1.IsCell c none):
  Inv (Er X scope N (s.heap.objs.size+1) s H fp) [(s.heap.objs.size,{cls:= .type "list",data:= .seq #[]})] (E8 caps σ) H {s with heap:=h1,toks:=tk}:=by
 have S:∀b∈Fq X.stack,b<s.heap.objs.size:=λb f=>by
  obtain⟨_,o,A,_⟩:=I.stack.mem f
  exact cQ A
 have n:∀x c,X.env.cells.lookup x=some c->c<s.heap.objs.size:=λx c e=>by
  obtain⟨v,o,A,_⟩:=I.cell x c e
  exact cQ A
 have D:∀x c,(KJ scope (s.heap.objs.size+1) X.env).lookup x=some c->(s.heap.objs.size+1+1<=c/\(x,f7)∈scope.names)\/X.env.cells.lookup x=some c:=λx c e=>by
  rcases uf _ _ _ e with z|z
  ·exact .inl z
  ·exact .inr (sO z)
 have B:∀x,(x,eA)∈scope.names->∃c,X.env.cells.lookup x=some c:=λx d=>by
  rcases(O.free _ d rfl).2 with q|q
  ·exact I.ok.has x (.inl q)
  ·exact I.ok.has x (.inr q)
 have h:∀x,(x,eA)∈scope.names->(x,f7)∉scope.names:=λx d G=>by
  have h1:=(O.free _ d rfl).1
  have h2:=O.own _ G rfl
  dsimp only at h1 h2
  rw[h1]at h2
  cases h2
 refine⟨⟨I.ok.mod,O.kind,I.ok.glob,I.ok.blt,ec _,λx y c h1 h2=>?_,λx C=>?_,λx c E e=>?_,I.ok.hd,I.ok.frames,.inl rfl,λb f=>⟨df (dz (hob b f)),λx c e=>?_⟩,I.bs,?_,λb o e f=>?_,λb f M=>?_,I.stack,I.stkFree⟩,
  rfl,I.bare,Un.kept old,⟨_,hns,λi x v T t e3=>?_⟩,λx c e=>?_,I.hok.fresh (ec _),λx c e=>?_,λp hp=>?_,I.hok.kept old,?_⟩
 ·exact vh scope.names _ (FV scope X.env) (λx y c a b=>I.ok.inj x y c (sO a) (sO b)) (λx c a=>dz (dz (n x c (sO a)))) x y c h1 h2
 ·have d:(x,eA)∈scope.names\/(x,f7)∈scope.names:=by
   rcases C with C|C
   ·exact uT (.inl rfl) C
   ·exact uT (.inr rfl) C
  rcases d with d|d
  ·obtain⟨c,G⟩:=B x d
   exact uC _ _ _ (.inr ⟨c,y8 d G⟩)
  ·exact uC _ _ _ (.inl d)
 ·have P:scope.names.lookup x=some .cell:=by simpa [Er]using E
  rcases D x c e with z|z
  ·exact dB (cU (dz (dH _)) z.1)
  ·exfalso
   have d:=eV P
   rcases uf _ _ _ e with w|w
   ·exact absurd (cU (n x c z) (dg (iD (ec _)) w.1)) (dt _)
   ·have F:=wX (eV w)
    exact h x F d
 ·rcases D x c e with z|z
  ·exact λw=>absurd (cU (hob b f) (dg (iD (ec _)) (w▸z.1))) (dt _)
  ·exact(f2 b f).2.2.2.2.1 x c z
 ·exact dg I.ok.bsz I.sz
 ·rcases(f2 b f).2.2.2.1 with z|z
  ·exact I.ok.noex b o e z
  ·exact absurd (cU (cQ (I.ok.bs b o e).1) z) (dt _)
 ·rcases cZ.mp (I.stkSub b M)with z|z
  ·exact(f2 b f).2.1 z
  ·exact(f2 b f).2.2.1 z
 · -- a captured name
  have hi:i<caps.length:=by
   have:=(cL.mp t).1
   unfold E8 at this
   rwa[cx]at this
  have L:∃j,caps[i]?=some (some j)/\σ[j]?=some (some v):=by
   unfold E8 at t
   rw[cH]at t
   cases q:caps[i]? with
   | none=>rw[q]at t;cases t
   | some o=>
    rw[q]at t
    have g:(o.bind λi=>(σ[i]?).bind id)=some v:=Option.some.inj t
    cases o with
    | none=>cases g
    | some j=>
     refine⟨j,rfl,?_⟩
     cases R:σ[j]? with
     | none=>rw[nT,R]at g;cases g
     | some U=>
      rw[nT,R]at g
      cases U with
      | none=>cases g
      | some v2=>cases g;rfl
  obtain⟨j,Z,hv⟩:=L
  have W:N[i]?=some x:=T
  have Y:(some j,x)∈caps.zip N:=by
   have:(caps.zip N)[i]?=some (some j,x):=by
    rw[i4]
    exact⟨Z,W⟩
   exact da this
  obtain⟨V,E⟩:=O.cap _ Y j rfl
  have d:(x,eA)∈scope.names:=eV E
  have K:L1 X.env.scope x:=by
   rcases(O.free _ d rfl).2 with q|q
   ·exact .inr (.inl q)
   ·exact .inr (.inr q)
  obtain⟨m,hn,hl⟩:=I.loc
  obtain⟨u,r,l⟩:=hl j x v V hv K
  refine⟨u,r,?_⟩
  rcases l with⟨k,_⟩|⟨_,c,e,⟨o,A,J⟩⟩
  ·exfalso
   rcases(O.free _ d rfl).2 with q|q
   ·have:X.env.scope.names.lookup x=some .local:=k
    rw[q]at this;cases this
   ·have:X.env.scope.names.lookup x=some .local:=k
    rw[q]at this;cases this
  ·have Q:(Er X scope N (s.heap.objs.size+1) s H fp).env.kindOf x=some .cell\/(Er X scope N (s.heap.objs.size+1) s H fp).env.kindOf x=some .free:=tH E
   exact .inr ⟨Q,c,(uS _ _ _ (h x d)).trans (y8 d e),⟨o,old c o A,J⟩⟩
 ·rcases D x c e with z|z
  ·exact⟨none,hnew x c e z.1⟩
  ·obtain⟨v,o,A,J⟩:=I.cell x c z
   exact⟨v,o,old c o A,J⟩
 ·rcases D x c e with z|z
  ·exact I.hok.fresh (dg (iD (ec _)) z.1)
  ·exact I.freeC x c z
 ·have e:p=(s.heap.objs.size,{cls:= .type "list",data:= .seq #[]}):=by simpa [Er]using hp
  subst e
  refine⟨hD,I.hok.fresh (cI _),df (dH _),λf=>absurd (S _ f) (dt _),λv z=>by cases z⟩
 ·show(E8 caps σ).length=N.length
  unfold E8
  rw[cx]
  exact O.len
end
def LA(X:Cx)(ifs:List Expr)(t:TT):Prop:=
 ∀(pins:List (cG×Obj)) (s:cD) (σ:St) (H:Hp) (Q:Bool->Hp->Prop),Inv X pins σ H s->t σ H Q->
  wpAny (model X.prog X.w) X.A (forIn ifs true λc r=>if r=true then do let ok<-isTrue c X.env (eval c X.env);pure (jT ok)else pure (jT r)) (TP X pins σ Q) X.xe s
def Gb:TT:=λ_ H Q=>Q true H
theorem su{X:Cx}:LA X [] Gb:=λ_ _ _ H _ I h=>wpAny_tests_nil ⟨H,I,h⟩
theorem tZ{X:Cx}{c:Expr}{t:TT}(h:PT X c t):LA X [c] t:=λa s d H Q I b=>wpAny_tests_one (h a s d H Q I b)
section
variable{prog:cT}{w:dc}{A:dw}{R:Result->cD->Prop}{s:cD}
theorem Ai{elt target iter:Expr}{ifs:List Expr}{scope:Scope}{pos:Pos}{it acc:cA}{env:Env}(I:Nat->cD->Prop)
  (turn:∀n s,I n s->wpAny (model prog w) A (pyNext it) (λr s₁=>match r with
   | none=>R (.ok .next) s₁
   | some v=>wpAny (model prog w) A (letOwnedTupleGo target it v) (λ_ s₀=>wpAny (model prog w) A (assign target env v) (λ_ s₂=>
     wpAny (model prog w) A (forIn ifs true λc r=>if r=true then do let ok<-isTrue c env (eval c env);pure (jT ok)else pure (jT r)) (λok s₃=>
      if ok=true then wpAny (model prog w) A (eval elt env) (λx s₄=>
       wpAny (model prog w) A (call (.builtin "list.append") [acc,x]) (λ_ s₅=>∃m,m<n/\I m s₅) (λ_ _=>False) s₄) (λ_ _=>False) s₃
      else ∃m,m<n/\I m s₃) (λ_ _=>False) s₂) (λ_ _=>False) s₀) (λ_ _=>False) s₁) (λ_ _=>False) s)
  (n:Nat)(h:I n s):codeAny (model prog w) A (.compLoop (.ListComp elt [⟨target,iter,ifs,0⟩] scope pos) 0 it acc env) R s:=by
 refine codeAny_loop rfl I (λn s j=>?_) n h
 show wpAny _ A ((compTurn (.ListComp elt [⟨target,iter,ifs,0⟩] scope pos) 0 it acc env).onRaise (λx=>do noteFrame x env;theTreesLotGoes x)) _ _ s
 refine wpAny_noted (wpAny_noRaise ?_)
 rw[compTurn_list]
 refine cr (mv (cr (En (turn n s j) λr s₁ a=>?_)))
 cases r with
 | none=>exact cv a
 | some v=>
  refine cr (En a λ_ s₀ d=>?_)
  refine cr (En d λ_ s₂ f=>cr (En f λok s₃ b=>?_))
  cases ok with
  | false=>exact cv ⟨rfl,b⟩
  | true=>exact cr (cr (En b λx s₄ g=>cr (En g λ_ s₅ e=>cv (cv ⟨rfl,e⟩))))
end
def Keep(caps:List (Option Nat))(σ σ':St):Prop:=∀(j:Nat) (v:V),(E8 caps σ)[j]?=some (some v)->σ'[j]?=some (some v)
def GK(caps:List (Option Nat))(g:TG):Prop:=∀σ σ1 x H (Q:St->Hp->Prop),Keep caps σ σ1->g x σ1 H Q->g x σ1 H λσ2 H2=>Keep caps σ σ2/\Q σ2 H2
def LW(caps:List (Option Nat))(g:JV):Prop:=∀σ σ1 xs H (Q:St->Hp->Prop),Keep caps σ σ1->g xs σ1 H Q->g xs σ1 H λσ2 H2=>Keep caps σ σ2/\Q σ2 H2
theorem Keep.set{caps:List (Option Nat)}{σ σ':St}{i:Nat}{x:Option V}(k:Keep caps σ σ')(h:caps[i]?=some none):Keep caps σ (σ'.set i x):=λj v e=>by
 by_cases a:i=j
 ·subst a;unfold E8 at e;rw[cH,h]at e
  cases e
 ·rw[jM a];exact k j v e
theorem rY{caps:List (Option Nat)}{i:Nat}(h:caps[i]?=some none):GK caps (Il i):=λ_ _ _ _ _ k q=>⟨k.set h,q⟩
theorem wG{caps:List (Option Nat)}:LW caps LD:=λ_ _ _ _ _ k q=>⟨q.1,k,q.2⟩
theorem tm{caps:List (Option Nat)}{t:TG}{u:JV}(mono:∀x σ H (Q Q':St->Hp->Prop),(∀σ H,Q σ H->Q' σ H)->t x σ H Q->t x σ H Q')(h1:GK caps t)(h2:LW caps u):LW caps (Kq t u):=λσ b g H Q k q=>by
 obtain⟨v,r,e,q⟩:=q;refine⟨v,r,e,?_⟩;exact mono _ _ _ _ _ (λa c ⟨d,f⟩=>h2 σ a r c Q d f) (h1 σ b v H _ k q)
theorem sL{i:Nat}:∀x σ H (Q Q':St->Hp->Prop),(∀σ H,Q σ H->Q' σ H)->Il i x σ H Q->Il i x σ H Q':=λ_ _ _ _ _ h q=>h _ _ q
theorem yq{K:cu}{caps:List (Option Nat)}{n:Nat}{t:JV}(h:LW caps t):GK caps (Ku K n t):=λf c x H Q k q=>by
 obtain⟨a,b,e,d,g,q⟩:=q;exact⟨a,b,e,d,g,h f c b H Q k q⟩
def IM(its:List cA)(n:Nat):Obj:={cls:= .type "list",data:= .seq its.toArray n}
def EG(caps:List (Option Nat))(g:TG)(tt:TT)(te:TE)(σ:St)(QQ:List V->Hp->Prop)(J:It)(H1:Hp):Prop:=
 ∃W:Nat->Nat->List V->Hp->Prop,(∃m,W 0 m [] H1)/\∀i m ys H,W i m ys H->
  (J.stop i H/\QQ ys H)\/(J.go i H/\∃N:List V->Hp->Prop,(∀ys' H',N ys' H'->∃m',m'<m/\W (i+1) m' ys' H')/\
   ∀x H',J.yld i H x H'->g x (E8 caps σ) H' λσ2 H2=>tt σ2 H2 λb H3=>if b=true then te σ2 H3 λy H4=>ys.length<sizeLine/\N (ys++[y]) H4 else N ys H3)
def Lb(caps:List (Option Nat))(wi:TI)(g:TG)(tt:TT)(te:TE):TE:=λσ H Q=>
 wi σ H (EG caps g tt te σ λys H'=>∀D,H' D=none->Q (.ref D) (upd H' D (.lst ys)))
section
variable{X:Cx}{pins:List (cG×Obj)}{σ:St}{scope:Scope}{N:List Str}{caps:List (Option Nat)}{fp:List cG}
theorem BT{H H':Hp}{s s':cD}{σ':St}{its:List cA}{n:Nat}{ys:List V}(I:Inv X pins σ H s)(f2:∀b∈fp,Gf X pins H b)
  (J:Inv (Er X scope N (s.heap.objs.size+1) s H fp) [(s.heap.objs.size,IM its n)] σ' H' s')(hv:Vals ys its)(hz:ys.length<=sizeLine):
  Inv X pins σ (upd H' s.heap.objs.size (.lst ys)) s'/\H' s.heap.objs.size=none/\H' (s.heap.objs.size+1)=none:=by
 have f:=J.pin (s.heap.objs.size,IM its n) (d5 _ (cK.mpr rfl))
 obtain⟨m,d,t,_,_⟩:=f
 have c:H s.heap.objs.size=none:=I.hok.fresh (cI _)
 have g:∀b o,s.heap.get? b=some o->b≠s.heap.objs.size:=λb o e=>df (cQ e)
 refine⟨I.call' (ch:=fp) J.os ⟨J.base.keep,J.base.slot,λb o e l p=>?_,J.base.there,λb h e=>?_,λb o u e=>?_,λb k e=>?_⟩ (λa o e=>?_) J.bare (λb r=>?_),d,J.free⟩
 ·rw[rH (g b o e)];exact J.base.free b o e l p
 ·rw[rH (rF e c)];exact J.base.tups b h e
 ·rw[rH (rF e c)];exact J.base.frzs b o u e
 ·rw[rH (rF e c)];exact J.base.tbls b k e
 ·by_cases j:a=s.heap.objs.size
  ·subst j
   rw[rC]at e
   cases e
   exact⟨hz,its,n,hv,m⟩
  ·rw[rH j]at e
   exact(J.hok a o e).stay (λb u _ q=>q) (λb q=>by rw[rH (rF q d)];exact q) λb h q=>by rw[rH (rF q d)];exact q
 ·obtain⟨_,h1,_,h3,h4,h5⟩:=f2 b r
  exact⟨h3,h1,h4,h5⟩
theorem wq{elt tg iter:Expr}{ifs:List Expr}{pos:Pos}{g:TG}{tt:TT}{te:TE}{QQ:List V->Hp->Prop}{R:cA->cG->Result->cD->Prop}{itv:cA}{s2:cD}(hc:X.calm=true)(O:CompOk scope X.env.scope X.N N caps)(gk:GK caps g)
  (hg:∀C s H fp,PG (Er X scope N C s H fp) tg g)(ht:∀C s H fp,LA (Er X scope N C s H fp) ifs tt)(he:∀C s H fp,PE (Er X scope N C s H fp) elt te)
  (h2:L4 X pins σ tg (EG caps g tt te σ QQ) itv s2)
  (fin:∀(D C:cG) (s':cD) (H':Hp) (ys:List V) (m:Str->Option cA),Inv X pins σ (upd H' D (.lst ys)) s'->s'.heap.Ns C m->H' D=none->H' C=none->C≠D->X.s₀.heap.objs.size<=C->C≠X.env.locals->(∀x c,X.env.cells.lookup x=some c->c≠C)->(∀p∈X.pn++pins,p.1≠C)->
   QQ ys H'->R (.ref D) C (.ok .next) s'):
  wpAny (model X.prog X.w) X.A (newList []) (λacc s₃=>wpAny (model X.prog X.w) X.A (newFunctionEnv scope X.env.globals (FV scope X.env) [] X.env.qual none .none (some X.env)) (λcenv s₄=>
   codeAny (model X.prog X.w) X.A (.compStart (.ListComp elt [⟨tg,iter,ifs,0⟩] scope pos) 0 itv acc {cenv with scope:=relabel scope X.env}) (R acc cenv.locals) s₄) X.xe s₃) X.xe s2:=by
 obtain⟨it,fp,tn,J,E,e,P,T,ah,f2,W,⟨m0,w0⟩,ap⟩:=h2
 subst e
 have G:∀x c,X.env.cells.lookup x=some c->c<s2.heap.objs.size:=λx c e=>by
  obtain⟨v,o,ho,_⟩:=P.cell x c e
  exact cQ ho
 refine e9 (yj (λx c Q=>by rw[gq];exact dz (G x c (yI Q))) (λB l j h=>?_))
 dsimp only at l j h ⊢
 have L:∀b∈fp,b<s2.heap.objs.size:=λb a=>by
  obtain⟨o,ho,_⟩:=T.obj _ _ ah b a
  exact cQ ho
 generalize hH2:s2.heap.push {cls:= .type "list",dict:=none,data:= .seq ([]:List cA).toArray}=G2 at l j h ⊢
 have hC:G2.objs.size=s2.heap.objs.size+1:=by rw[<-hH2,gq]
 rw[hC]at l h ⊢
 have ak:∀b o,s2.heap.get? b=some o->B.get? b=some o:=λb o e=>j b o (hH2▸cF _ e)
 have hD:B.get? s2.heap.objs.size=some {cls:= .type "list",data:= .seq #[]}:=j _ _ (hH2▸cN _ rfl)
 have I0:=zE (scope:=scope) (N:=N) (caps:=caps) (fp:=fp) (tk:=s2.toks) P O f2 L l hD ak h
 have am:tn 0 B:=T.keep _ _ _ ah λb _ o e=>ak b o e
 have f0:∀{pins':List (cG×Obj)} {H':Hp},(∀p∈pins',p.1=s2.heap.objs.size)->(∀b∈fp,H' b=none)->∀b∈fp,Gf (Er X scope N (s2.heap.objs.size+1) s2 E fp) pins' H' b:=λ {pins' H'} hp hn b a=>by
  obtain⟨_,k1,k2,k3,k4,k5⟩:=f2 b a
  refine⟨hn b a,df (dz (L b a)),λQ=>?_,.inl a,λx c e=>by
   rcases uf _ _ _ e with z|z
   ·exact λw=>absurd (cU (L b a) (dg (iD (ec _)) (w▸z.1))) (dt _)
   ·exact k4 x c (sO z),λp Q=>?_⟩
  ·rcases cZ.mp (P.stkSub b Q)with z|z
   ·exact k1 z
   ·exact k2 z
  ·have q:=hp p (by simpa [Er]using Q)
   rw[q]
   exact ie (L b a)
 have ab:codeAny (model X.prog X.w) X.A (.compLoop (.ListComp elt [⟨tg,iter,ifs,0⟩] scope pos) 0 (.ref it) (.ref s2.heap.objs.size) (Er X scope N (s2.heap.objs.size+1) s2 E fp).env)
   (R (.ref s2.heap.objs.size) (s2.heap.objs.size+1)) {s2 with heap:=B}:=by
  refine Ai (λn s'=>∃i ys f k H',Inv (Er X scope N (s2.heap.objs.size+1) s2 E fp) [(s2.heap.objs.size,IM f k)] (E8 caps σ) H' s'/\Vals ys f/\ys.length<=sizeLine/\tn i s'.heap/\(∀b∈fp,H' b=none)/\W i n ys H')
   ?_ m0 ⟨0,[],[],0,E,I0,.nil,du _,am,λb a=>(f2 b a).1,w0⟩
  rintro n s3 ⟨i,ys,f,k,H3,I3,v3,z3,aj,ao,w3⟩
  have ae:∀p∈[(s2.heap.objs.size,IM f k)],p.1=s2.heap.objs.size:=λp hp=>by rw[cK.mp hp]
  rcases ap i n ys H3 w3 with⟨stop,qn⟩|⟨go,M,hM,aq⟩
  ·refine En (T.done (Er X scope N (s2.heap.objs.size+1) s2 E fp) rfl rfl rfl hc i _ s3 _ H3 _ I3 (f0 ae ao) aj stop) λr s4 ⟨hr,I4⟩=>?_
   subst hr
   obtain⟨E1,E2,E3⟩:=BT P f2 I4 v3 z3
   obtain⟨m,Q,_⟩:=I4.loc
   refine fin _ _ s4 H3 ys m E1 Q E2 E3 (ie (dH _)) (iD P.sz) (ie (dz P.lt)) (λx c e=>?_) (λp hp=>?_) qn
   ·obtain⟨v,o,ho,_⟩:=P.cell x c e
    exact df (dz (cQ ho))
   ·exact df (dz (cQ (P.pin p hp).1))
  ·refine En (T.item (Er X scope N (s2.heap.objs.size+1) s2 E fp) rfl rfl rfl hc i _ s3 _ H3 _ I3 (f0 ae ao) aj go) λr s4 ⟨u,hr,h4⟩=>?_
   subst hr
   refine En h4 λ_ s5 ⟨x,H5,I5,r5,y5,ad,ax⟩=>?_
   have aw:=I5.pinned (f0 ae ax) (T.obj _ _ ad)
   refine En (hg _ _ _ _ _ s5 _ H5 x u _ aw r5 (gk σ _ x H5 _ (λ_ _ e=>e) (aq x H5 y5))) λ_ s6 ⟨S,H6,I6,kp,q6⟩=>?_
   refine En (ht _ _ _ _ _ s6 S H6 _ I6 q6) λok s7 ⟨H7,I7,q7⟩=>?_
   have Z:∀{al:St} {K:Hp} {t:cD} {ag:List V},Inv (Er X scope N (s2.heap.objs.size+1) s2 E fp) ([(s2.heap.objs.size,IM f k)]++GU fp s5.heap) al K t->M ag K->
     tn (i+1) t.heap/\(∀b∈fp,K b=none)/\∃Y,Y<n/\W (i+1) Y ag K:=λ {al K t ag} U m8=>by
    refine⟨T.keep _ _ _ ad λb a o e=>(U.pin (b,o) (d5 _ (d5 _ (uh a e)))).1,λb a=>?_,hM _ _ m8⟩
    obtain⟨o,e,d⟩:=T.obj _ _ ad b a
    exact(U.pin (b,o) (d5 _ (d5 _ (uh a e)))).2.1
   have aa:(E8 caps σ).length=S.length:=by rw[I6.len];exact I3.len
   cases ok with
   | false=>
    have ac:M ys H7:=q7
    obtain⟨b1,b2,Y,af,w'⟩:=Z I7 ac
    exact⟨Y,af,i+1,ys,f,k,H7,(I7.weak aa kp).unpinned,v3,z3,b1,b2,w'⟩
   | true=>
    have ac:te S H7 λy H4=>ys.length<sizeLine/\M (ys++[y]) H4:=q7
    refine En (he _ _ _ _ _ s7 S H7 _ I7 ac) λI t ⟨y,K,U,r8,az,m8⟩=>?_
    obtain⟨b1,b2,Y,af,w'⟩:=Z U m8
    have ar:=U.pin (s2.heap.objs.size,IM f k) (d5 _ (jL _ (cK.mpr rfl)))
    obtain⟨e8,an,ai,au,_⟩:=ar
    have ay:=v3.length
    refine gZ fT ⟨_,e8,rfl⟩ mm (l4 _ _) (nk s2.heap.objs.size f.toArray k I (by rw[cX];omega)) ⟨e8,?_⟩
    have q:=hO e8 (·.push I)
    rw[show f.toArray.push I=(f++[I]).toArray by simp]at q
    obtain⟨k',q⟩:∃k',(t.heap.update s2.heap.objs.size (d2 (·.push I))).get? s2.heap.objs.size=some (IM (f++[I]) k'):=⟨_,q⟩
    have I9:Inv (Er X scope N (s2.heap.objs.size+1) s2 E fp) [] (E8 caps σ) K t:=(U.weak aa kp).pins_of (pins':=[]) λp hp=>nomatch hp
    have av:=I9.turned (h':=t.heap.update s2.heap.objs.size (d2 (·.push I))) (t':=t.toks) (it:=s2.heap.objs.size) (λb o a e=>(fk t.heap _ (Ne.symm a)).trans e) an ai (.inr (cI _))
     (λx c e z=>by
      rcases uf _ _ _ e with w|w
      ·exact absurd (cU (dz (dH _)) (z▸w.1)) (dt _)
      ·exact absurd (G x c (sO w)) (by rw[z];exact dt _)) (λp hp=>nomatch hp)
    refine⟨Y,af,i+1,ys++[y],f++[I],k',K,av.pins_of λp hp=>?_,v3.append (.cons r8 .nil),by rw[dq,eU];omega,T.keep _ _ _ b1 λb a o e=>?_,b2,w'⟩
    ·rw[cK.mp hp]
     exact⟨q,an,ai,au,λv z=>by cases z⟩
    ·exact(fk t.heap _ (ie (L b a))).trans e
 exact codeAny_compStart_list ab (T.self _ _ _ _ _ am ab)
theorem sy{elt tg iter:Expr}{ifs:List Expr}{pos:Pos}{wi:TI}{g:TG}{tt:TT}{te:TE}(hc:X.calm=true)(O:CompOk scope X.env.scope X.N N caps)(gk:GK caps g)(hi:PI X tg iter wi)
  (hg:∀C s H fp,PG (Er X scope N C s H fp) tg g)(ht:∀C s H fp,LA (Er X scope N C s H fp) ifs tt)(he:∀C s H fp,PE (Er X scope N C s H fp) elt te)
  (hs:∀x,foldedSetIterable iter X.env x=pure x:=by intro _;rfl):PE X (.ListComp elt [⟨tg,iter,ifs,0⟩] scope pos) (Lb caps wi g tt te):=by
 intro a s p H Q I h
 rw[eval_ListComp]
 have l:closureFor scope X.env=pure (FV scope X.env):=Ad λx u y=>by
  rcases(O.free x u y).2 with q|q
  ·exact I.ok.has x.1 (.inl q)
  ·exact I.ok.has x.1 (.inr q)
 refine kK (use:=none) rfl hs l O.kind O.loc (En (hi a s p H _ I h) λv P h1=>En h1 λL S h2=>?_)
 refine wq (R:=λf C=>compPost (model X.prog X.w) X.A X.xe none (EP X a p Q) f C) hc O gk hg ht he h2 ?_
 intro D C F M T m B t E G d r n j k J
 refine⟨m,t,λh' c=>?_⟩
 have z:=B.turned (h':=h') (t':=F.toks) (it:=C) (λb o K e=>c.extBut b o K e) (by rw[rH d];exact G) n (.inr r) j k
 exact⟨.ref D,_,z,rfl,J D E⟩
def JJ(i:Nat)(caps:List (Option Nat))(wi:TI)(g:TG)(tt:TT)(te:TE):TS:=λD σ H=>
 wi σ H (EG caps g tt te σ λys H'=>∀d,H' d=none->D.nx (σ.set i (some (.ref d))) (upd H' d (.lst ys)))
theorem sF{i:Nat}{y:Str}{py spos:Pos}{elt tg iter:Expr}{ifs:List Expr}{pos:Pos}{wi:TI}{g:TG}{tt:TT}{te:TE}(hN:X.N.Nodup)(hy:X.N[i]?=some y)(hl:X.env.scope.names.lookup y=some .local)
  (hsw:swapsWith (.ListComp elt [⟨tg,iter,ifs,0⟩] scope pos) (some (.Name y py)) spos.line X.env=pure true)
  (hc:X.calm=true)(O:CompOk scope X.env.scope X.N N caps)(gk:GK caps g)(hi:PI X tg iter wi)
  (hg:∀C s H fp,PG (Er X scope N C s H fp) tg g)(ht:∀C s H fp,LA (Er X scope N C s H fp) ifs tt)(he:∀C s H fp,PE (Er X scope N C s H fp) elt te)
  (hs:∀x,foldedSetIterable iter X.env x=pure x:=by intro _;rfl):PS X (.Assign [.Name y py] (.ListComp elt [⟨tg,iter,ifs,0⟩] scope pos) spos) (JJ i caps wi g tt te):=by
 intro c s S H D I h
 rw[exec_Assign_Name_used _ _ _ _ hsw]
 refine cr (mv (cr ?_))
 show wpAny _ X.A (do let _<-comprehension (.ListComp elt [⟨tg,iter,ifs,0⟩] scope pos) scope X.env _ (newList []) false (eval iter X.env) (some (assign (.Name y py) X.env))) _ _ s
 have E:closureFor scope X.env=pure (FV scope X.env):=Ad λx K L=>by
  rcases(O.free x K L).2 with q|q
  ·exact I.ok.has x.1 (.inl q)
  ·exact I.ok.has x.1 (.inr q)
 refine cr (En (kK (use:=some (assign (.Name y py) X.env)) (Q:=λ_ f=>SP X c D .next f) rfl hs E O.kind O.loc
  (En (hi c s S H _ I h) λv s1 h1=>En h1 λaa s2 h2=>?_)) λ_ f M=>cv (cv M))
 refine wq (R:=λr C=>compPost (model X.prog X.w) X.A X.xe (some (assign (.Name y py) X.env)) (λ_ f=>SP X c D .next f) r C) hc O gk hg ht he h2 ?_
 intro d C f H' ys m T J U W p F k j B Y
 show wpAny _ X.A (assign (.Name y py) X.env (.ref d)) _ _ _
 refine m6 (xJ (v:= .ref d) T hN hy (.inl hl) rfl (λt u ⟨a,l,V⟩=>?_) (.inr hl))
 have G:C≠a:=by
  rcases V with z|z
  ·rw[z];exact k
  ·exact λq=>j y a z q.symm
 refine⟨m,J.sameBut l G,λh' n=>?_⟩
 have P:=u.turned (h':=h') (t':=t.toks) (it:=C) (λb o Z e=>n.extBut b o Z e) (by rw[rH p];exact W) k (.inr F) j B
 exact⟨_,_,P,Y d U⟩
end
structure Dn(P:cT)(w:dc)(K:cu)(mg:Str->Option cA)(base:Heap)(CX:Ho)(k:Nat)(x:Str)(ps:List Str)(sp:Sp):Prop where
 ex:∃f fd,FnOk P w K mg base CX k f fd ps sp/\mg x=some (.ref f)/\iI K (.ref f)=true/\Binds K fd ps []
theorem rW{X:Cx}{CX:Ho}{k j:Nat}{x:Str}{ps:List Str}{sp:Sp}{E:XK}{p pos:Pos}{e:Expr}{es:List Expr}{t:TA}(D:Dn X.prog X.w X.K X.mg X.base CX k x ps sp)(hr:Room j X.A)(hk:k<=j)(hg:Gl X x)(hx:EH CX X E)
  (ha:PA X (e::es) t)(hdb:(x==("__debug__":Str))=false:=by decide)(he:dh (e::es) X.env=(false,eval e X.env)::dh es X.env:=by rfl)(hpl:(backTo pos (dh es X.env)).any (·.1)=false:=by rfl):
  PE X (.Call (.Name x p) (e::es) [] pos) (Ks sp [] E t):=by
 obtain⟨f,c,F,m,a,b⟩:=D.ex
 exact CV F (hr.mono hk) hg m a b .nil hx ha hdb he hpl
def Def(K:cu)(mg:Str->Option cA)(x:Str)(st:Stmt):Prop:=∃f fd,Fun K x x st f fd/\mg x=some (.ref f)
section
variable{P:cT}{w:dc}{K:cu}{mg:Str->Option cA}{base:Heap}
theorem Def.ok{x:Str}{st:Stmt}{N ps:List Str}{k:Nat}{sp:Sp}(F:Def K mg x st)(S:Ef N ps (Ec st))(len:∀vs H Q E,sp vs H Q E->vs.length=ps.length)
  (hb:∀(kV doc pm:cA) (an:Option cG) (cdv ct:cA) (us:List cA),us.length=ps.length->bindArgs (f9 x x (Eo st) (Ek st) (Ec st) .none kV doc pm an cdv ct) ⟨us,[]⟩=pure (ps.zip us))
  (hbody:∀(f:cG) (cdv:cA) (A:dw) (outer:List Env) (s:cD) (H:Hp) (vs:List V) (Q:VK) (E:XK),Room k (A.deeper (envOfC x (Ec st) s.heap.objs.size f cdv))->sp vs H Q E->
   ∃t,PSs (G7 Em P w K mg base N x (Ec st) f cdv A outer s H E).nox (Ek st) t/\t {nx:=λ_ H'=>Q .non H',rt:=Q} (start N vs) H):Dn P w K mg base Em (k+1) x ps sp:=by
 obtain⟨f,a,F,m⟩:=F
 exact⟨f,a,F.ok S len (hbody f),m,F.kp,F.binds hb⟩
theorem Def.nothing{x:Str}{st:Stmt}{ps:List Str}(F:Def K mg x st)
  (hb:∀(kV doc pm:cA) (an:Option cG) (cdv ct:cA) (us:List cA),us.length=ps.length->bindArgs (f9 x x (Eo st) (Ek st) (Ec st) .none kV doc pm an cdv ct) ⟨us,[]⟩=pure (ps.zip us)):
  Dn P w K mg base Em 0 x ps (λ_ _ _ _=>False):=by
 obtain⟨f,a,F,m⟩:=F
 exact⟨f,a,⟨λ_ _ _ _ h=>h.elim,λ_ _ _ _ _ _ _ _ _ _ _ _ _ h=>h.elim⟩,m,F.kp,F.binds hb⟩
theorem Dn.imp{CX:Ho}{k:Nat}{x:Str}{ps:List Str}{sp sp':Sp}(D:Dn P w K mg base CX k x ps sp)(h:∀vs H Q E,sp' vs H Q E->sp vs H Q E):Dn P w K mg base CX k x ps sp':=by
 obtain⟨f,a,F,r⟩:=D.ex;exact⟨f,a,F.imp h,r⟩
end
def JY(K:cu)(mg:Str->Option cA)(x:Str)(xs:List V):Prop:=∃a,mg x=some (.ref a)/\∀H,SqT K H a xs
def Kf(K:cu)(xs:List V):TE:=λ_ H Q=>∀a,(∀H,SqT K H a xs)->Q (.ref a) H
theorem t9{X:Cx}{x:Str}{xs:List V}{pos:Pos}(h:JY X.K X.mg x xs)(hg:Gl X x:=by rfl)(hd:(x==("__debug__":Str))=false:=by decide):PE X (.Name x pos) (Kf X.K xs):=λ_ _ _ H _ I q=>by
 obtain⟨a,m,r⟩:=h;exact vB I hg m ⟨.ref a,H,I,rfl,q a r⟩ hd
theorem AD{X:Cx}{x:Str}{i:Int}{pos:Pos}(h:∃t,X.mg x=some (.int i t))(hg:Gl X x:=by rfl)(hd:(x==("__debug__":Str))=false:=by decide):PE X (.Name x pos) (tC (.int i)):=λ_ _ _ H _ I q=>by
 obtain⟨t,m⟩:=h;exact vB I hg m ⟨.int i,H,I,⟨t,rfl⟩,q⟩ hd
theorem Ht{c A B:Prop}[Decidable c](hc:¬c)(h:B):if decide c=true then A else B:=by rw[if_neg (by simpa using hc)];exact h
theorem Je{c A B:Prop}[Decidable c](hc:c)(h:A):if decide c=true then A else B:=by rw[if_pos (by simpa using hc)];exact h
theorem EE{c A B:Prop}[Decidable c](h1:c->A)(h2:¬c->B):if decide c=true then A else B:=by
 by_cases h:c
 ·exact Je h (h1 h)
 ·exact Ht h (h2 h)
theorem GQ{c A B:Prop}[Decidable c](h1:¬c->A)(h2:c->B):if(!decide c)=true then A else B:=by
 by_cases h:c
 ·rw[if_neg (by simpa using h)];exact h2 h
 ·rw[if_pos (by simpa using h)];exact h1 h
theorem MB{i j:Int}(h:i≠j):V.int i≠V.int j:=λz=>h (V.int.inj z)
theorem Ki{i j:Int}(h:V.int i=V.int j):i=j:=V.int.inj h
theorem ud{k:Int}{m:Nat}(h:k.natAbs<2^m):mn k<=m:=by
 unfold mn;split
 ·exact du _
 ·rcases mO k.natAbs with h0|hp
  ·rename_i hz
   exact absurd (by simpa using h0) (by simpa using hz)
  ·have:k.natAbs.log2<m:=(on (ie hp)).mpr h;omega
theorem LK{i j:Int}{m n:Nat}(hi:i.natAbs<2^m)(hj:j.natAbs<2^n)(h:m+n<=134217728):IntMulOk i j:=IntMulOk.of_le (ud hi) (ud hj) h
section
variable{X:Cx}
theorem sC:Fv X (binaryOp .Mult) (rI IntMulOk λi j=> .int (i*j)):=LL λ_ _ _ _ _ _ _ c h=>mul_int h c
theorem Ap:Fv X (binaryOp .FloorDiv) (rI (λ_ j=>j≠0/\j.natAbs<2^9000) λi j=> .int (i.fdiv j)):=LL λi j _ _ _ _ _ c h=>
 qd c.1 h (Or.inl (kL ((on (by have:=c.1;omega)).mpr c.2)))
theorem tJ:Fv X (binaryOp .FloorDiv) (rI (λ_ j=>0<j/\j.natAbs<2^9000) λi j=> .int (i/j)):=LL λi j _ _ _ _ _ c h=>
 qd (by have:=c.1;omega) (by rw[iM _ (by have:=c.1;omega)];exact h) (Or.inl (kL ((on (by have:=c.1;omega)).mpr c.2)))
theorem c9{n:Int}(h0:0<n)(h:n.natAbs<2^64):0<n/\n.natAbs<2^9000:=⟨h0,cU h (eB (by decide) (by decide))⟩
theorem JK{i j:Int}(h:i.natAbs<2^64):IntMulOk i j:=IntMulOk.of_left (ud h)
theorem J6{i j:Int}(h:j.natAbs<2^64):IntMulOk i j:=IntMulOk.of_right (ud h)
theorem tW{x:Str}{T:String}{pos:Pos}(hg:Gl X x)(hm:X.mg x=none)(hv:bootBuiltins x=some (.type T))(hn:x≠"__name__":=by decide)(hd:(x==("__debug__":Str))=false:=by decide):PE X (.Name x pos) (tC (.ty T)):=Dm hg hm hv rfl hn hd
def J2:V->List V->Hp->VK->Prop:=λx vs H Q=>∃l xs i y,x = .ref l/\vs=[.int i,y]/\H l=some (.lst xs)/\0<=i/\i<=(xs.length:Int)/\xs.length<sizeLine/\Q .non (upd H l (.lst (xs.take i.toNat++y::xs.drop i.toNat)))
theorem Bc:KG X "list.insert" J2:=by
 intro m s t H x vs v A Q I k f h;obtain⟨l,w,i,y,rfl,rfl,d,h0,h1,p,q⟩:=h
 cases k;obtain⟨u,c,rfl,⟨tk,rfl⟩,j⟩:=f.two;obtain⟨z,a,n,r,B,e⟩:=I.lstM d;have o:=Fs;have b:¬(!j9 i)=true:=by
  unfold j9;simp only[nl,Bool.not_eq_false];simp only[dn,decide_eq_true_eq];omega
 refine gZ F.slot_list_insert ⟨_,e,rfl⟩ F.entry_list_insert (F.args_list_insert_3 _ _ _) (lI l a.toArray n i tk c b (by rw[cX];omega)) ⟨e,?_⟩;refine⟨.non,_,I.lset (its':=a.take i.toNat++c::a.drop i.toNat) d e ?_ (Vals.append (r.take _) (.cons j (r.drop _))) ?_,rfl,q⟩
 ·have g:(if i<0 then(i+(a.toArray.size:Int)).toNat else min i.toNat a.toArray.size)=i.toNat:=by
   rw[if_neg (by omega),cX];omega
  show(a.toArray.extract 0 _).push c++a.toArray.extract _=_;rw[g];apply oN;simp[Array.toList_extract,List.extract];exact eK (by rw[iY];omega)
 ·rw[dq,dQ,cV,iY];omega
def tyOf(K:cu)(H:Hp)(x:V)(t:String):Prop:=match x with
 | .non=>t="NoneType"
 | .bl _=>t="bool"
 | .int _=>t="int"
 | .str _=>t="str"
 | .ref a=>(t="list"/\∃xs,SqL K H a xs)\/(t="tuple"/\∃xs,SqT K H a xs)
 | _=>False
def GA(t T:String):Bool:=t==T||(t=="bool"&&T=="int")
def JR:List String:=["NoneType","bool","int","str","list","tuple"]
def JE:List String:=["bool","int","str","list","tuple"]
theorem Bg{pins:List (cG×Obj)}{σ:St}{H:Hp}{s:cD}{A:dw}{E:cA->cD->Prop}{Q:cA->cD->Prop}{c:cA}{b:Bool}{x:V}{u:cA}{t:String}(I:Inv X pins σ H s)(rx:RelV x u)(ty:tyOf X.K H x t)
  (e:l5 X.K (.type t) c=some b)(h:∀tk,Q (.bool b) {s with toks:=tk}):wpAny (model X.prog X.w) A (call (.builtin "isinstance") [u,c]) Q E s:=by
 cases x with
 | non=>cases(show u=cA.none from rx);cases(show t="NoneType"from ty);exact iq nq I.kIn True.intro e (λz=>nomatch z) h
 | bl y=>cases(show u=er y from rx);cases(show t="bool"from ty);exact iq nr I.kIn True.intro e (λz=>nomatch z) h
 | int i=>obtain⟨tk,q⟩:=(show ∃t,u=dX i t from rx);cases q;cases(show t="int"from ty);exact iq nU I.kIn True.intro e (λz=>nomatch z) h
 | str y=>obtain⟨tk,q⟩:=(show ∃t,u=iw y t from rx);cases q;cases(show t="str"from ty);exact iq nV I.kIn True.intro e (λz=>nomatch z) h
 | ref a=>
  cases(show u=cR a from rx)
  rcases ty with⟨rfl,g,d⟩|⟨rfl,g,d⟩
  ·obtain⟨f,_,⟨o,n,h1,h2,_⟩,_⟩:=I.list d
   exact iq nt I.kIn ⟨o,h1,h2⟩ e (λz=>nomatch z) h
  ·obtain⟨f,_,⟨o,h1,h2,_⟩,_⟩:=I.tuple d
   exact iq mP I.kIn ⟨o,h1,h2⟩ e (λz=>nomatch z) h
 | byt _=>exact ty.elim
 | flt _=>exact ty.elim
 | ty _=>exact ty.elim
theorem vC{K:cu}{H:Hp}{x:V}{t:String}(h:tyOf K H x t):t∈JR:=by
 cases x with
 | non=>cases(show t="NoneType"from h);decide
 | bl _=>cases(show t="bool"from h);decide
 | int _=>cases(show t="int"from h);decide
 | str _=>cases(show t="str"from h);decide
 | ref a=>rcases h with⟨rfl,_⟩|⟨rfl,_⟩ <;> decide
 | byt _=>exact h.elim
 | flt _=>exact h.elim
 | ty _=>exact h.elim
theorem zO{K:cu}{t T:String}(ht:t∈JR)(hT:T∈JE):l5 K (.type t) (.type T)=some (GA t T):=by
 simp only[JR,JE,cZ,hU,or_false]at ht hT;rcases ht with rfl|rfl|rfl|rfl|rfl|rfl <;> rcases hT with rfl|rfl|rfl|rfl|rfl <;> (unfold l5 PySem.W.kitCls PySem.W.subIn;kernel_rfl)
theorem sx:EQ X (.builtin "isinstance") (λxs H Q=>∃x T t,xs=[x,.ty T]/\T∈JE/\tyOf X.K H x t/\Q (.bl (GA t T)) H):=by
 intro e s f H xs g Q I r h;obtain⟨x,T,t,rfl,a,ty,q⟩:=h;obtain⟨u,c,rfl,d,b⟩:=Jh r
 cases(show c=dL T from b);exact Bg I d ty (zO (vC ty) a) λtk=>⟨.bl _,H,I.tok tk,rfl,q⟩
end
theorem Same.tup{K:cu}{H H':Hp}{a:cG}{xs:List V}(e:Same H H')(h:SqT K H a xs):SqT K H' a xs:=by
 rcases h with(h|⟨o,h⟩)|h
 ·exact .inl (.inl (e _ _ h))
 ·exact .inl (.inr ⟨o,e _ _ h⟩)
 ·exact .inr h
theorem rz{H:Hp}{p:cG}(h:H p=none)(o:HO):Same H (upd H p o):=λb u q=>by rw[rH (rF q h)];exact q
theorem Same.over{H H':Hp}{p:cG}(e:Same H H')(h:H p=none)(o:HO):Same H (upd H' p o):=λb u q=>by
 rw[rH (rF q h)];exact e b u q
def IsF(K:cu)(H:Hp)(v:V)(p:Int×Int):Prop:=∃a,v = .ref a/\SqT K H a [.int p.1,.int p.2]
theorem IsF.mono{K:cu}{H H':Hp}{v:V}{p:Int×Int}(e:Same H H')(h:IsF K H v p):IsF K H' v p:=by
 obtain⟨a,rfl,q⟩:=h;exact⟨a,rfl,e.tup q⟩
theorem uJ{K:cu}{H:Hp}{a p:cG}{xs ys zs:List V}(h:SqT K H a xs)(hp:H p=some (.lst ys)):SqT K (upd H p (.lst zs)) a xs:=by
 rcases h with(h|⟨o,h⟩)|h
 ·exact .inl (.inl (by rw[rH (sN h hp (by intro z;cases z))];exact h))
 ·exact .inl (.inr ⟨o,by rw[rH (sN h hp (by intro z;cases z))];exact h⟩)
 ·exact .inr h
theorem IsF.over{K:cu}{H:Hp}{v:V}{p:cG}{ys zs:List V}{q:Int×Int}(h:IsF K H v q)(hp:H p=some (.lst ys)):IsF K (upd H p (.lst zs)) v q:=by
 obtain⟨a,rfl,h⟩:=h;exact⟨a,rfl,uJ h hp⟩
theorem Paired.get{α β:Type}{F:α->β->Prop}:∀{xs:List α} {ys:List β} {i:Nat} {y:β},dr F xs ys->ys[i]?=some y->∃x,xs[i]?=some x/\F x y
 | _,_,_,_,.nil,e=>by simp at e
 | _,_,0,_,.cons r _,e=>by simp at e;subst e;exact⟨_,rfl,r⟩
 | _,_,i+1,y,.cons _ t,e=>by
  obtain⟨x,h1,h2⟩:=Paired.get (i:=i) t (by simpa using e)
  exact⟨x,by simpa using h1,h2⟩
theorem Paired.get'{α β:Type}{F:α->β->Prop}:∀{xs:List α} {ys:List β} {i:Nat} {x:α},dr F xs ys->xs[i]?=some x->∃y,ys[i]?=some y/\F x y
 | _,_,_,_,.nil,e=>by simp at e
 | _,_,0,_,.cons r _,e=>by simp at e;subst e;exact⟨_,rfl,r⟩
 | _,_,i+1,y,.cons _ t,e=>by
  obtain⟨x,h1,h2⟩:=Paired.get' (i:=i) t (by simpa using e)
  exact⟨x,by simpa using h1,h2⟩
theorem Paired.app{α β:Type}{F:α->β->Prop}:∀{xs xs':List α} {ys ys':List β},dr F xs ys->dr F xs' ys'->dr F (xs++xs') (ys++ys')
 | _,_,_,_,.nil,t=>t
 | _,_,_,_,.cons r s,t=> .cons r (Paired.app s t)
theorem sJ{α:Type}{xs:List α}{i:Int}{v:α}(h0:0<=i)(h:xs[i.toNat]?=some v):Hb xs i=some v:=by
 have e:i=((i.toNat:Nat):Int):=by omega
 rw[e];exact sr h
theorem tG{ns:List Int}{i:Nat}(h:i<ns.length):(ns.map V.int)[i]?=some (.int (ns.getD i 0)):=by
 simp[h]
theorem yQ{c:TT}{tb:TS}{D:GC}{σ:St}{H:Hp}(Pv:Nat->St->Hp->Prop)(h0:∃m,Pv m σ H)
  (hs:∀m σ H,Pv m σ H->c σ H λb H1=>if b=true then tb {D with nx:=λσ' H'=>∃m',m'<m/\Pv m' σ' H',ct:=λσ' H'=>∃m',m'<m/\Pv m' σ' H',bk:=D.nx} σ H1 else D.nx σ H1)
  (mono:∀σ H Q Q',(∀b H1,Q b H1->Q' b H1)->c σ H Q->c σ H Q'):JX c tb D σ H:=by
 refine⟨Pv,h0,λm σ H p=>?_⟩
 refine mono σ H _ _ (λb H1 q=>?_) (hs m σ H p)
 cases b with
 | true=>exact⟨_,λσ' H' z=>z,q⟩
 | false=>exact q
end L2
namespace FQ
structure LX(p:Int×Int):Prop where
 pos:0<p.2
 cop:Int.gcd p.1 p.2=1
def red(t b:Int):Int×Int:=(t*b.sign/(Int.gcd t b:Int),b*b.sign/(Int.gcd t b:Int))
theorem gcd_turn{a b:Int}:Int.gcd b (a%b)=Int.gcd a b:=by
 have h:=Int.gcd_add_mul_left_right b (a%b) (a/b);rw[Int.emod_add_mul_ediv]at h;rw[<-h,nu]
theorem wg{k m n:Int}(h:Int.gcd k m=1)(d:k ∣ m*n):k ∣ n:=by
 have h1:k.natAbs ∣ m.natAbs*n.natAbs:=by
  have:=lO.mpr d;rwa[kb]at this
 exact lO.mp (nN h h1)
theorem vf{t b:Int}(hb:b≠0):∃u v:Int,t*b.sign=u*(Int.gcd t b:Int)/\b*b.sign=v*(Int.gcd t b:Int)/\red t b=(u,v)/\0<v/\Int.gcd u v=1:=by
 have j:0<Int.gcd t b:=fB _ hb;have d:(0:Int)<(Int.gcd t b:Int):=by omega
 have f:(Int.gcd t b:Int) ∣ t:=Int.gcd_dvd_left ..;have k:(Int.gcd t b:Int) ∣ b:=Int.gcd_dvd_right ..;obtain⟨u,c⟩:=f;obtain⟨v,a⟩:=k;refine⟨u*b.sign,v*b.sign,?_,?_,?_,?_,?_⟩
 ·rw[fW,gn u,<-c]
 ·rw[fW,gn v,<-a]
 ·unfold red
  congr 1
  ·apply kc (by omega);rw[fW,gn u,<-c]
  ·apply kc (by omega);rw[fW,gn v,<-a]
 ·have h1:0<b*b.sign:=by rw[Int.mul_sign_self];omega
  have h2:b*b.sign=(v*b.sign)*(Int.gcd t b:Int):=by rw[fW,gn v,<-a]
  rw[h2]at h1;rcases Int.lt_or_le 0 (v*b.sign)with h|h
  ·exact h
  ·exact absurd h1 (oO.mpr (Int.mul_nonpos_of_nonpos_of_nonneg h (fq d)))
 ·have l:b.sign=1\/b.sign = -1:=by
   rcases kd hb with h|h
   ·exact .inr (gI h)
   ·exact .inl (ig h)
  have g:Int.gcd u v=1:=by
   have e:=Int.gcd_mul_left (Int.gcd t b:Int) u v;rw[<-c,<-a,jg]at e;have:Int.gcd t b*1=Int.gcd t b*Int.gcd u v:=by rw[qD];exact e
   exact(Nat.eq_of_mul_eq_mul_left j this).symm
  rcases l with h|h <;> rw[h] <;> simp[g]
theorem red_low{t b:Int}(hb:b≠0):LX (red t b):=by
 obtain⟨u,v,_,_,e,h1,h2⟩:=vf (t:=t) hb;rw[e];exact⟨h1,h2⟩
theorem red_worth{t b:Int}(hb:b≠0):(red t b).1*b=t*(red t b).2:=by
 obtain⟨u,v,h1,h2,e,_,_⟩:=vf (t:=t) hb;rw[e];have c:(Int.gcd t b:Int)≠0:=by have:=fB t hb;omega
 have d:b.sign≠0:=by simpa using hb
 have a:(u*b)*((Int.gcd t b:Int)*b.sign)=(t*v)*((Int.gcd t b:Int)*b.sign):=by
  calc (u*b)*((Int.gcd t b:Int)*b.sign)=(u*(Int.gcd t b:Int))*(b*b.sign):=by ac_rfl
   _=(t*b.sign)*(v*(Int.gcd t b:Int)):=by rw[<-h1,<-h2]
   _=(t*v)*((Int.gcd t b:Int)*b.sign):=by ac_rfl
 exact gJ (dE c d) a
theorem wj{p q:Int×Int}(hp:LX p)(hq:LX q)(h:p.1*q.2=q.1*p.2):p=q:=by
 obtain⟨a,b⟩:=p;obtain⟨c,d⟩:=q;obtain⟨m,f⟩:=hp;obtain⟨l,g⟩:=hq;dsimp only at *;have j:b ∣ d:=by
  have:b ∣ a*d:=⟨c,by rw[h,gn]⟩;exact wg (by rw[nu];exact f) this
 have k:d ∣ b:=by
  have:d ∣ c*b:=⟨a,by rw[<-h,gn]⟩;exact wg (by rw[nu];exact g) this
 have e:b=d:=Int.dvd_antisymm (by omega) (by omega) j k;subst e;have:a=c:=gJ (by omega) h;rw[this]
theorem red_eq{t b t' b':Int}(hb:b≠0)(hb':b'≠0)(h:t*b'=t'*b):red t b=red t' b':=by
 refine wj (red_low hb) (red_low hb') ?_;have c:=red_worth (t:=t) hb;have d:=red_worth (t:=t') hb';have a:((red t b).1*(red t' b').2)*(b*b')=((red t' b').1*(red t b).2)*(b*b'):=by
  calc ((red t b).1*(red t' b').2)*(b*b')=((red t b).1*b)*((red t' b').2*b'):=by ac_rfl
   _=(t*(red t b).2)*((red t' b').2*b'):=by rw[c]
   _=(t*b')*((red t b).2*(red t' b').2):=by ac_rfl
   _=(t'*b)*((red t b).2*(red t' b').2):=by rw[h]
   _=(t'*(red t' b').2)*((red t b).2*b):=by ac_rfl
   _=((red t' b').1*b')*((red t b).2*b):=by rw[d]
   _=((red t' b').1*(red t b).2)*(b*b'):=by ac_rfl
 exact gJ (dE hb hb') a
theorem red_eq_iff{t b:Int}(hb:b≠0){p:Int×Int}(hp:LX p)(h:p.1*b=t*p.2):red t b=p:=by
 refine wj (red_low hb) hp ?_;have c:=red_worth (t:=t) hb;have a:((red t b).1*p.2)*b=(p.1*(red t b).2)*b:=by
  calc ((red t b).1*p.2)*b=((red t b).1*b)*p.2:=by ac_rfl
   _=(t*p.2)*(red t b).2:=by rw[c];ac_rfl
   _=(p.1*(red t b).2)*b:=by rw[<-h];ac_rfl
 exact gJ hb a
theorem red_small{t b:Int}(hb:b≠0):(red t b).1.natAbs<=t.natAbs/\(red t b).2.natAbs<=b.natAbs:=by
 obtain⟨u,v,h1,h2,e,_,_⟩:=vf (t:=t) hb;rw[e];have c:1<=Int.gcd t b:=fB _ hb;have f:b.sign.natAbs=1:=by
  rcases kd hb with h|h
  ·rw[gI h];rfl
  ·rw[ig h];rfl
 have a:=congrArg rc h1;have d:=congrArg rc h2;rw[kb,kb,f,qD,jg]at a d;constructor
 ·show u.natAbs<=_;rw[a];exact k8 _ c
 ·show v.natAbs<=_;rw[d];exact k8 _ c
theorem fdiv_red{t b:Int}(hb:b≠0):((t.fdiv ((Int.gcd t b:Int)*b.sign),b.fdiv ((Int.gcd t b:Int)*b.sign)):Int×Int)=red t b:=by
 obtain⟨u,v,h1,h2,e,_,_⟩:=vf (t:=t) hb;rw[e];have j:(Int.gcd t b:Int)≠0:=by have:=fB t hb;omega
 have k:b.sign≠0:=by simpa using hb
 have a:b.sign*b.sign=1:=by
  rcases kd hb with h|h
  ·rw[gI h];rfl
  ·rw[ig h];rfl
 have f:t=u*((Int.gcd t b:Int)*b.sign):=by
  calc t=t*(b.sign*b.sign):=by rw[a,ia]
   _=(t*b.sign)*b.sign:=by ac_rfl
   _=u*((Int.gcd t b:Int)*b.sign):=by rw[h1];ac_rfl
 have g:b=v*((Int.gcd t b:Int)*b.sign):=by
  calc b=b*(b.sign*b.sign):=by rw[a,ia]
   _=(b*b.sign)*b.sign:=by ac_rfl
   _=v*((Int.gcd t b:Int)*b.sign):=by rw[h2];ac_rfl
 generalize hd:(Int.gcd t b:Int)*b.sign=d at f g ⊢;have c:d≠0:=by rw[<-hd];exact dE j k
 rw[f,g,mo _ c,mo _ c]
end FQ
namespace LM
def cellAt(ns:List Int)(k:Int):Int:=if k<ns.length then ns.getD k.toNat 0 else 0
def oddGo(n:Int):Nat->List Int×Int
 | 0=>([],n)
 | k+1=>((oddGo n k).1++[(oddGo n k).2%5040],(oddGo n k).2/5040)
def evenX(n k:Int):Int:=(n*n+48271*n+k+1)%2147483647
def evenGo(n:Int):Nat->List Int×Int
 | 0=>([],n)
 | k+1=>((evenGo n k).1++[evenX (evenGo n k).2 k],evenX (evenGo n k).2 k)
def mixed(c:Int)(m:Nat):List Int:=if c%2=1 then(oddGo (c/2) m).1 else(evenGo ((c/2%2147483647*16807+11)%2147483647) m).1
theorem oddGo_len(n:Int):∀m,(oddGo n m).1.length=m
 | 0=>rfl
 | m+1=>by simp[oddGo,oddGo_len n m]
theorem evenGo_len(n:Int):∀m,(evenGo n m).1.length=m
 | 0=>rfl
 | m+1=>by simp[evenGo,evenGo_len n m]
theorem mixed_len(c:Int)(m:Nat):(mixed c m).length=m:=by
 unfold mixed;split <;> simp[oddGo_len,evenGo_len]
theorem yC(n:Int):∀m,∀x∈(oddGo n m).1,0<=x/\x<2147483647
 | 0,x,h=>by cases h
 | m+1,x,h=>by
  rcases dJ.mp h with h|h
  ·exact yC n m x h
  ·rw[cK.mp h];omega
theorem yH(n k:Int):0<=evenX n k/\evenX n k<2147483647:=⟨dO _ (by decide),dC _ (by decide)⟩
theorem xO(n:Int):∀m,∀x∈(evenGo n m).1,0<=x/\x<2147483647
 | 0,x,h=>by cases h
 | m+1,x,h=>by
  rcases dJ.mp h with h|h
  ·exact xO n m x h
  ·rw[cK.mp h];exact yH _ _
theorem evenGo_num(n:Int)(h0:0<=n)(h1:n<2147483647):∀m,0<=(evenGo n m).2/\(evenGo n m).2<2147483647
 | 0=>⟨h0,h1⟩
 | m+1=>yH _ _
theorem mixed_bd(c:Int)(m:Nat):∀x∈mixed c m,0<=x/\x<2147483647:=by
 unfold mixed;split
 ·exact yC _ _
 ·exact xO _ _
def ins(xs:List Int)(i:Nat)(x:Int):List Int:=xs.take i++x::xs.drop i
theorem B2(xs:List Int)(i:Nat)(x:Int):(ins xs i x).Perm (x::xs):=by
 unfold ins;refine nW.trans ?_;rw[lP]
def permGo(num:Int):Nat->List Int×Int
 | 0=>([],num)
 | k+1=>(ins (permGo num k).1 ((permGo num k).2%(k+1)).toNat k,(permGo num k).2/(k+1))
def perm(num:Int)(n:Nat):List Int:=(permGo num n).1
theorem perm_succ_perm:∀(num:Int) (n:Nat),(perm num n).Perm ((db n).map hV)
 | _,0=>iN _
 | num,n+1=>by
  unfold perm
  rw[gf,cS]
  refine(B2 _ _ _).trans ?_
  refine p8.trans ?_ List.perm_append_comm
  exact(perm_succ_perm num n).cons _
theorem perm_len(num:Int)(n:Nat):(perm num n).length=n:=by
 have:=(perm_succ_perm num n).length_eq;simpa using this
theorem vZ(row:List Int):(db row.length).map (λi=>row.getD i 0)=row:=by
 apply k9
 ·simp
 ·intro i h1 h2;simp at h1;simp[h1]
def addOne(r:List Int)(t:Int)(w:Int):List Int:=r.set t.toNat (r.getD t.toNat 0+w)
theorem zq(r:List Int)(t w:Int):(addOne r t w).length=r.length:=by simp[addOne]
def addDeal(M:List (List Int))(o:List Int)(w:Int):List (List Int):=qe (λr t=>addOne r t w) M o
end LM
namespace L2
open PySem PySem.Spec PyProof.Rows
def Jk:Sp:=λvs H Q _=>∃i:Int,vs=[.int i]/\Q (.bl true) H
def Kl:Sp:=λvs H Q _=>∃i j:Int,vs=[.int i,.int j]/\Q (.int (Int.gcd i j:Int)) H
def JO(p:Int×Int):HO:= .tup [.int p.1,.int p.2]
def Sz(n:Nat)(p:Int×Int):Prop:=p.1.natAbs<2^n/\p.2.natAbs<2^n/\p.2≠0
def FP(x y:Int×Int):Int×Int:=FQ.red (x.1*y.2+y.1*x.2) (x.2*y.2)
def IR(x y:Int×Int):Int×Int:=FQ.red (x.1*y.2-y.1*x.2) (x.2*y.2)
def IY(x y:Int×Int):Int×Int:=FQ.red (x.1*y.1) (x.2*y.2)
def G8(f:(Int×Int)->(Int×Int)->(Int×Int))(K:cu):Sp:=λvs H Q _=>∃a b x y,vs=[.ref a,.ref b]/\SqT K H a [.int x.1,.int x.2]/\SqT K H b [.int y.1,.int y.2]/\Sz 4000 x/\Sz 4000 y/\
 ∀p H',Same H H'->H' p=some (JO (f x y))->Q (.ref p) H'
def IU(K:cu):Sp:=λvs H Q _=>∃a ns k,vs=[.ref a,.int k]/\SqL K H a (ns.map V.int)/\0<=k/\Q (.int (LM.cellAt ns k)) H
def Jj:Sp:=λvs H Q _=>∃(c:Int) (m:Nat),vs=[.int c,.int m]/\m<=63/\∀p H',Same H H'->H p=none->H' p=some (.lst ((LM.mixed c m).map V.int))->Q (.ref p) H'
def IZ:Sp:=λvs H Q _=>∃(num:Int) (n:Nat),vs=[.int num,.int n]/\n<=63/\∀p H',Same H H'->H p=none->H' p=some (.lst ((LM.perm num n).map V.int))->Q (.ref p) H'
def Hs:Sp:=λvs H Q _=>∃i j:Int,vs=[.int i,.int j]/\0<=j/\Q (.int (Int.gcd i j:Int)) H
def HZ:Sp:=λvs H Q _=>∃t b:Int,vs=[.int t,.int b]/\0<b/\b.natAbs<2^9000/\∀p H',Same H H'->H' p=some (JO (FQ.red t b))->Q (.ref p) H'
theorem DE{t b:Int}(hb:b≠0):Int.gcd t b<=b.natAbs:=Nat.le_of_dvd (by omega) (Int.gcd_dvd_natAbs_right ..)
theorem uY{t b:Int}(hb:b≠0)(hz:b.natAbs<2^9000):
  (b<0->(-(Int.gcd t b:Int)≠0/\(-(Int.gcd t b:Int)).natAbs<2^9000)/\t.fdiv (-(Int.gcd t b:Int))=(FQ.red t b).1/\b.fdiv (-(Int.gcd t b:Int))=(FQ.red t b).2)/\
  (¬b<0->((Int.gcd t b:Int)≠0/\(Int.gcd t b:Int).natAbs<2^9000)/\t.fdiv (Int.gcd t b:Int)=(FQ.red t b).1/\b.fdiv (Int.gcd t b:Int)=(FQ.red t b).2):=by
 have d:0<Int.gcd t b:=fB _ hb
 have c:=DE (t:=t) hb
 have e:=FQ.fdiv_red (t:=t) hb
 constructor
 ·intro a
  rw[gI a,Int.mul_neg_one]at e
  exact⟨⟨by omega,by rw[Int.natAbs_neg,jg];exact eQ c hz⟩,congrArg Prod.fst e,congrArg Prod.snd e⟩
 ·intro a
  rw[ig (by omega),ia]at e
  exact⟨⟨by omega,by rw[jg];exact eQ c hz⟩,congrArg Prod.fst e,congrArg Prod.snd e⟩
theorem zr{a b m n:Nat}(h1:a<2^m)(h2:b<2^n):a*b<2^(m+n):=by
 rw[Nat.pow_add];exact Nat.mul_lt_mul'' h1 h2
theorem vd{a b:Int}{m n:Nat}(h1:a.natAbs<2^m)(h2:b.natAbs<2^n):(a*b).natAbs<2^(m+n):=by
 rw[kb];exact zr h1 h2
theorem vx{a:Int}{m n:Nat}(h:a.natAbs<2^m)(hmn:m<=n):a.natAbs<2^n:=cU h (eB (by decide) hmn)
theorem Hd{a b:Int}(h1:a.natAbs<2^4000)(h2:b.natAbs<2^4000):IntMulOk a b:=LK h1 h2 (by decide)
theorem Kw{a b:Int}(h1:a.natAbs<2^4000)(h2:b.natAbs<2^4000):(a*b).natAbs<2^9000:=vx (vd h1 h2) (by decide)
mutual
inductive Rep(K:cu)(H:Hp):V->iO->Prop
 | non:Rep K H .non .none
 | bl (b:Bool):Rep K H (.bl b) (.bool b)
 | int (i:Int):Rep K H (.int i) (.int i)
 | str (x:Str):Rep K H (.str x) (.str x)
 | lst {a:cG} {xs:List V} {ds:List iO}:SqL K H a xs->Reps K H xs ds->xs.length<=1000->Rep K H (.ref a) (.list ds)
 | tup {a:cG} {xs:List V} {ds:List iO}:SqT K H a xs->Reps K H xs ds->xs.length<=1000->Rep K H (.ref a) (.tuple ds)
inductive Reps(K:cu)(H:Hp):List V->List iO->Prop
 | nil:Reps K H [] []
 | cons {x:V} {d:iO} {xs:List V} {ds:List iO}:Rep K H x d->Reps K H xs ds->Reps K H (x::xs) (d::ds)
end
section
variable{X:Cx}{pins:List (cG×Obj)}{σ:St}{H:Hp}{s:cD}
mutual
theorem Rep.reads(I:Inv X pins σ H s){x:V}{d:iO}{u:cA}(r:Rep X.K H x d)(q:RelV x u):∃as,Reads s.heap u d as:=by
 cases r with
 | non=>cases(show u=cA.none from q);exact⟨_,.none⟩
 | bl b=>cases(show u=er b from q);exact⟨_,.bool b⟩
 | int i=>obtain⟨t,e⟩:=(show ∃t,u=dX i t from q);cases e;exact⟨_,.int i t⟩
 | str x=>obtain⟨t,e⟩:=(show ∃t,u=iw x t from q);cases e;exact⟨_,.str x t⟩
 | @lst a xs ds hq hs hl=>
  cases(show u=cR a from q);obtain⟨g,c,⟨o,n,h1,h2,_,h3⟩,_⟩:=I.list hq;obtain⟨as,f⟩:=Reps.reads I hs c;exact⟨_,.list h1 h2 h3 (by simpa using f)⟩
 | @tup a xs ds hq hs hl=>
  cases(show u=cR a from q);obtain⟨g,c,⟨o,h1,h2,n,h3⟩,_⟩:=I.tuple hq;obtain⟨as,f⟩:=Reps.reads I hs c;exact⟨_,.tuple h1 h2 h3 (by simpa using f)⟩
theorem Reps.reads(I:Inv X pins σ H s){xs:List V}{ds:List iO}{us:List cA}(r:Reps X.K H xs ds)(q:Vals xs us):∃as,ReadsAll s.heap us ds as:=by
 cases r with
 | nil=>cases q;exact⟨_,.nil⟩
 | cons r b=>
  cases q with
  | cons q a=>
   obtain⟨as,h1⟩:=Rep.reads I r q;obtain⟨c,h2⟩:=Reps.reads I b a;exact⟨_,.cons h1 h2⟩
end
def LG(K:cu):R2:=λx y H Q=>∃d e,Rep K H x d/\Rep K H y e/\ga d=true/\ga e=true/\Q (.bl (gy d e)) H
def Lm(K:cu):R2:=λx y H Q=>∃d e,Rep K H x d/\Rep K H y e/\ga d=true/\ga e=true/\Q (.bl (!gy d e)) H
theorem yT{k:Nat}(hr:Room k X.A):Fv X (compareOp .Eq) (LG X.K):=by
 intro l s n H x y v u Q I j c h;obtain⟨d,e,b,a,f,g,q⟩:=h;obtain⟨as,h1⟩:=b.reads I j;obtain⟨m,h2⟩:=a.reads I c;exact eq_dataH h1 h2 f g hr.units ⟨.bl _,H,I,rfl,q⟩
theorem xk{k:Nat}(hr:Room k X.A):Fv X (compareOp .NotEq) (Lm X.K):=by
 intro l s n H x y v u Q I j c h;obtain⟨d,e,b,a,f,g,q⟩:=h;obtain⟨as,h1⟩:=b.reads I j;obtain⟨m,h2⟩:=a.reads I c;exact ne_dataH h1 h2 f g hr.units ⟨.bl _,H,I,rfl,q⟩
end
theorem Reps.length{K:cu}{H:Hp}:∀{xs:List V} {ds:List iO},Reps K H xs ds->xs.length=ds.length
 | _,_,.nil=>rfl
 | _,_,.cons _ r=>by simp[Reps.length r]
theorem Reps.get{K:cu}{H:Hp}:∀{xs:List V} {ds:List iO} {i:Nat} {d:iO},Reps K H xs ds->ds[i]?=some d->∃x,xs[i]?=some x/\Rep K H x d
 | _,_,_,_,.nil,e=>by simp at e
 | _,_,0,_,.cons r _,e=>by simp at e;subst e;exact⟨_,rfl,r⟩
 | _,_,i+1,d,.cons _ t,e=>by
  obtain⟨x,h1,h2⟩:=Reps.get (i:=i) t (by simpa using e)
  exact⟨x,by simpa using h1,h2⟩
def dF(p:Int×Int):iO:= .tuple [.int p.1,.int p.2]
theorem IsF.rep{K:cu}{H:Hp}{v:V}{p:Int×Int}(h:IsF K H v p):Rep K H v (dF p):=by
 obtain⟨a,rfl,q⟩:=h;exact .tup q (.cons (.int _) (.cons (.int _) .nil)) (by simp)
theorem Paired.len{α β:Type}{F:α->β->Prop}{xs:List α}{ys:List β}(h:dr F xs ys):xs.length=ys.length:=mt h
theorem wy{lo:Int}{n:Nat}{caps:List (Option Nat)}{g:TG}{tt:TT}{te:TE}{σ:St}{QQ:List V->Hp->Prop}{H:Hp}(Pv:Nat->List V->Hp->Prop)(h0:Pv 0 [] H)
  (hs:∀i ys H,i<n->Pv i ys H->g (.int (lo+i)) (E8 caps σ) H λσ2 H2=>tt σ2 H2 λb H3=>if b=true then te σ2 H3 λy H4=>ys.length<sizeLine/\Pv (i+1) (ys++[y]) H4 else Pv (i+1) ys H3)
  (hd:∀ys H,Pv n ys H->QQ ys H):EG caps g tt te σ QQ (Ka lo n) H:=by
 refine⟨λi m ys H=>m=n-i/\i<=n/\Pv i ys H,⟨n,by simp,du _,h0⟩,?_⟩
 rintro i m ys H ⟨rfl,h,p⟩
 by_cases a:i<n
 ·refine .inr ⟨a,Pv (i+1),λf c d=>⟨n-(i+1),by omega,rfl,a,d⟩,λx c y=>?_⟩
  obtain⟨e,y⟩:=y
  subst e y
  exact hs i ys _ a p
 ·have e:i=n:=by omega
  subst e
  exact .inl ⟨cI _,hd ys H p⟩
theorem vt{K:cu}{a:cG}{xs:List V}{caps:List (Option Nat)}{g:TG}{tt:TT}{te:TE}{σ:St}{QQ:List V->Hp->Prop}{H:Hp}(Pv:Nat->List V->Hp->Prop)(h0:Pv 0 [] H)
  (hl:∀i ys H,i<=xs.length->Pv i ys H->SqL K H a xs)
  (hs:∀i x ys H,xs[i]?=some x->Pv i ys H->g x (E8 caps σ) H λσ2 H2=>tt σ2 H2 λb H3=>if b=true then te σ2 H3 λy H4=>ys.length<sizeLine/\Pv (i+1) (ys++[y]) H4 else Pv (i+1) ys H3)
  (hd:∀ys H,Pv xs.length ys H->QQ ys H):EG caps g tt te σ QQ (KL K a) H:=by
 refine⟨λi m ys H=>m=xs.length-i/\i<=xs.length/\Pv i ys H,⟨xs.length,by simp,du _,h0⟩,?_⟩
 rintro i m ys H ⟨rfl,f,p⟩
 have q:=hl i ys H f p
 by_cases c:i<xs.length
 ·refine .inr ⟨⟨xs,xs[i],q,by simp[c]⟩,Pv (i+1),λj d h=>⟨xs.length-(i+1),by omega,rfl,c,h⟩,λx d y=>?_⟩
  obtain⟨e,y⟩:=y
  subst e
  exact hs i x ys _ (y xs q) p
 ·have e:i=xs.length:=by omega
  subst e
  exact .inl ⟨⟨xs,q,cI _⟩,hd ys H p⟩
theorem ug{K:cu}{a:cG}{xs:List V}{caps:List (Option Nat)}{g:TG}{tt:TT}{te:TE}{σ:St}{QQ:List V->Hp->Prop}{H:Hp}(Pv:Nat->List V->Hp->Prop)(h0:Pv 0 [] H)
  (hl:∀i ys H,i<=xs.length->Pv i ys H->SqT K H a xs)
  (hs:∀i x ys H,xs[i]?=some x->Pv i ys H->g x (E8 caps σ) H λσ2 H2=>tt σ2 H2 λb H3=>if b=true then te σ2 H3 λy H4=>ys.length<sizeLine/\Pv (i+1) (ys++[y]) H4 else Pv (i+1) ys H3)
  (hd:∀ys H,Pv xs.length ys H->QQ ys H):EG caps g tt te σ QQ (KU K a) H:=by
 refine⟨λi m ys H=>m=xs.length-i/\i<=xs.length/\Pv i ys H,⟨xs.length,by simp,du _,h0⟩,?_⟩
 rintro i m ys H ⟨rfl,f,p⟩
 have q:=hl i ys H f p
 by_cases c:i<xs.length
 ·refine .inr ⟨⟨xs,xs[i],q,by simp[c]⟩,Pv (i+1),λj d h=>⟨xs.length-(i+1),by omega,rfl,c,h⟩,λx d y=>?_⟩
  obtain⟨e,y⟩:=y
  subst e
  exact hs i x ys _ (y xs q) p
 ·have e:i=xs.length:=by omega
  subst e
  exact .inl ⟨⟨xs,q,cI _⟩,hd ys H p⟩
theorem tO{σ:St}{H:Hp}{A:Hp->Prop}{B:Hp->Prop}:(Gb σ H λb H3=>if b=true then A H3 else B H3)=A H:=by
 unfold Gb;exact if_pos rfl
theorem sP{lo:Int}{n:Nat}{caps:List (Option Nat)}{g:TG}{te:TE}{σ:St}{QQ:List V->Hp->Prop}{H:Hp}(Pv:Nat->List V->Hp->Prop)(h0:Pv 0 [] H)
  (hs:∀i ys H,i<n->Pv i ys H->g (.int (lo+i)) (E8 caps σ) H λσ2 H2=>te σ2 H2 λy H4=>ys.length<sizeLine/\Pv (i+1) (ys++[y]) H4)
  (hd:∀ys H,Pv n ys H->QQ ys H):EG caps g Gb te σ QQ (Ka lo n) H:=
 wy Pv h0 (λi ys H a p=>by simp only[tO];exact hs i ys H a p) hd
theorem sU{K:cu}{a:cG}{xs:List V}{caps:List (Option Nat)}{g:TG}{te:TE}{σ:St}{QQ:List V->Hp->Prop}{H:Hp}(Pv:Nat->List V->Hp->Prop)(h0:Pv 0 [] H)
  (hl:∀i ys H,i<=xs.length->Pv i ys H->SqL K H a xs)
  (hs:∀i x ys H,xs[i]?=some x->Pv i ys H->g x (E8 caps σ) H λσ2 H2=>te σ2 H2 λy H4=>ys.length<sizeLine/\Pv (i+1) (ys++[y]) H4)
  (hd:∀ys H,Pv xs.length ys H->QQ ys H):EG caps g Gb te σ QQ (KL K a) H:=
 vt Pv h0 hl (λi x ys H b p=>by simp only[tO];exact hs i x ys H b p) hd
theorem vo{K:cu}{a:cG}{xs:List V}{caps:List (Option Nat)}{g:TG}{te:TE}{σ:St}{QQ:List V->Hp->Prop}{H:Hp}(Pv:Nat->List V->Hp->Prop)(h0:Pv 0 [] H)
  (hl:∀i ys H,i<=xs.length->Pv i ys H->SqT K H a xs)
  (hs:∀i x ys H,xs[i]?=some x->Pv i ys H->g x (E8 caps σ) H λσ2 H2=>te σ2 H2 λy H4=>ys.length<sizeLine/\Pv (i+1) (ys++[y]) H4)
  (hd:∀ys H,Pv xs.length ys H->QQ ys H):EG caps g Gb te σ QQ (KU K a) H:=
 ug Pv h0 hl (λi x ys H b p=>by simp only[tO];exact hs i x ys H b p) hd
theorem wV{a b T:Int}(hT:T≠0):FP (FQ.red a T) (FQ.red b T)=FQ.red (a+b) T:=by
 have h1:=FQ.red_worth (t:=a) hT;have h2:=FQ.red_worth (t:=b) hT;have c:=(FQ.red_low (t:=a) hT).pos;have d:=(FQ.red_low (t:=b) hT).pos;unfold FP;refine FQ.red_eq (dE (by omega) (by omega)) hT ?_;generalize FQ.red a T=p at *;generalize FQ.red b T=q at *
 calc (p.1*q.2+q.1*p.2)*T=(p.1*T)*q.2+(q.1*T)*p.2:=by rw[gT];ac_rfl
  _=(a*p.2)*q.2+(b*q.2)*p.2:=by rw[h1,h2]
  _=(a+b)*(p.2*q.2):=by rw[gT];ac_rfl
theorem vc{T:Int}(hT:T≠0):FQ.red 0 T=(0,1):=FQ.red_eq_iff hT ⟨by decide,by decide⟩ (by simp)
theorem xX{T:Int}(hT:T≠0):FQ.red T T=(1,1):=FQ.red_eq_iff hT ⟨by decide,by decide⟩ (by simp)
theorem vn{a T:Int}(hT:T≠0)(h1:a.natAbs<2^100)(h2:T.natAbs<2^100):Sz 4000 (FQ.red a T):=by
 have s:=FQ.red_small (t:=a) hT;have p:=(FQ.red_low (t:=a) hT).pos;refine⟨eQ s.1 (cU h1 (eB (by decide) (by decide))),eQ s.2 (cU h2 (eB (by decide) (by decide))),by omega⟩
def Jo(K:cu):Sp:=λvs H Q _=>∃(a:cG) (ns:List Int),vs=[.ref a]/\SqL K H a (ns.map V.int)/\ns.length<=63/\∀H',Q (.bl true) H'
def Gd:Nat->iO->Bool
 | _,.none=>true
 | _,.bool _=>true
 | _,.int _=>true
 | _,.str x=>ga (.str x)
 | n+1,.tuple ds=>ds.all (Gd n)
 | n+1,.list ds=>ds.all (Gd n)
 | _,_=>false
def HJ(K:cu)(n:Nat):Sp:=λvs H Q _=>∃v u d,vs=[v,u]/\Rep K H v d/\Rep K H u d/\Gd n d=true/\Q (.bl true) H
def JU(sp:Nat->Sp):Nat->Sp
 | 0=>λ_ _ _ _=>False
 | n+1=>sp n
structure Flies(P:cT)(w:dc)(outer:List Env)(H:Hp)(s:cD)(a C:cG)(B:Heap)(a0:cA)(H':Hp)(s':cD):Prop where
 os:s'.os=s.os
 bare:AllBare s'.gens
 un:Un (Fq outer) [] H H' s.heap s'.heap
 hok:HOk P w H' B
 keep:∀b o,s.heap.get? b=some o->H b=none->b∉Fq outer->B.get? b=some o
 has:∀b o,s.heap.get? b=some o->b∉Fq outer->∃o',B.get? b=some o'
 fly:lw B outer a (.ref C) a0 s'.heap
def FH(P:cT)(w:dc):Ho:=λouter H s E e s'=>∃a C B a0 H',e = .ref a/\Flies P w outer H s a C B a0 H' s'/\E (.ref C) none H'
theorem ObjOk.is{P:cT}{w:dc}{H:Hp}{h:Heap}{a:cG}{o:HO}(x:ObjOk P w H h a o):∃u,h.get? a=some u:=by
 cases o with
 | lst c=>obtain⟨_,_,_,_,e⟩:=x;exact⟨_,e⟩
 | tup c=>obtain⟨_,_,_,o,e,_⟩:=x;exact⟨_,e⟩
 | dK b=>obtain⟨_,_,_,_,o,_,_,e,_⟩:=x;exact⟨_,e⟩
 | dT b=>obtain⟨_,_,_,_,o,_,_,e,_⟩:=x;exact⟨_,e⟩
 | set S n=>obtain⟨o,_,_,_,e,_⟩:=x;exact⟨_,e⟩
 | ins C p d=>obtain⟨_,_,_,e,_⟩:=x;exact⟨_,e⟩
 | own y=>obtain⟨_,e⟩:=x;exact⟨_,e⟩
 | xd d=>obtain⟨_,⟨_,_,_,e,_⟩,_⟩:=x;exact⟨_,e⟩
 | rng j m=>obtain⟨_,_,_,e⟩:=x;exact⟨_,e⟩
 | frz g u=>obtain⟨e,_⟩:=x;exact⟨_,e⟩
 | tbl k=>exact⟨_,(show h.get? a=some _ from x)⟩
 | met f y=>exact⟨_,(show h.get? a=some _ from x)⟩
 | ext l=>obtain⟨_,⟨_,e⟩,_⟩:=x;exact⟨_,e⟩
theorem Flies.free{P:cT}{w:dc}{outer:List Env}{H H':Hp}{s s':cD}{a C:cG}{B:Heap}{a0:cA}(f:Flies P w outer H s a C B a0 H' s'):H' a=none:=by
 cases q:H' a with
 | none=>rfl
 | some o=>
  obtain⟨x,b⟩:=(f.hok a o q).is;rw[f.fly.2.1]at b;cases b
theorem BU{P:cT}{w:dc}{H:Hp}{h:Heap}{l:List cG}(x:HOk P w H h)(n:∀b∈l,H b=none):HOk P w H (lF h l):=λa o e=>
 (x a o e).stay (λb u c q=>gA _ q λz=>by
  rcases c with rfl|c
  ·rw[n _ z]at e;cases e
  ·rw[n _ z]at c;cases c) (λ_ q=>q) λ_ _ q=>q
section
variable{P:cT}{w:dc}{K:cu}{mg:Str->Option cA}{base:Heap}{N:List Str}{qual:Str}{scope:Scope}{f:cG}{cd:cA}{A:dw}{outer:List Env}{s₀:cD}{H₀:Hp}{E:XK}
abbrev HY(P:cT)(w:dc)(K:cu)(mg:Str->Option cA)(base:Heap)(N:List Str)(qual:Str)(scope:Scope)(f:cG)(cd:cA)(A:dw)(outer:List Env)(s₀:cD)(H₀:Hp)(E:XK):Cx:=G7 (FH P w) P w K mg base N qual scope f cd A outer s₀ H₀ E
theorem wB{env:Env}{l:List Env}{L:cG}(h:env.frame=some L):Fq (env::l)=L::Fq l:=by unfold Fq;rw[gd,h]
theorem yg{pins:List (cG×Obj)}{σ:St}{H:Hp}{s:cD}{h':Heap}{e C:cG}{vs:List cA}(I:Inv (HY P w K mg base N qual scope f cd A outer s₀ H₀ E) pins σ H s)(hx:Heap.MadeExcOf s.heap h' e (.ref C) vs)(hE:E (.ref C) none H):
  (HY P w K mg base N qual scope f cd A outer s₀ H₀ E).xe (.ref e) {s with heap:=h'}:=by
 have y:(envOfC qual scope s₀.heap.objs.size f cd).frame=some s₀.heap.objs.size:=rfl
 have O:(HY P w K mg base N qual scope f cd A outer s₀ H₀ E).stack=envOfC qual scope s₀.heap.objs.size f cd::outer:=rfl
 have x:∀j∈(envOfC qual scope s₀.heap.objs.size f cd::outer),∀b,j.frame=some b->b∈Fq (envOfC qual scope s₀.heap.objs.size f cd::outer):=λj L b a=>gH.mpr ⟨j,L,a⟩
 have J:s.heap.FunFrames base (envOfC qual scope s₀.heap.objs.size f cd::outer):=I.stack
 have D:∀b∈Fq (envOfC qual scope s₀.heap.objs.size f cd::outer),H b=none:=I.stkFree
 have d:∀b o,s₀.heap.get? b=some o->b∉Fq outer->b∉Fq (envOfC qual scope s₀.heap.objs.size f cd::outer):=λb o q nb=>by
  rw[wB y]
  intro z
  rcases cZ.mp z with z|z
  ·exact absurd (cQ q) (by rw[z];exact dt _)
  ·exact nb z
 have U:Un (Fq outer) [] H₀ H s₀.heap s.heap:=I.base
 show wpAny _ _ (leaving _ _) _ _ _
 refine wpAny_leaves_madeW (base:=lF s.heap (Fq (envOfC qual scope s₀.heap.objs.size f cd::outer))) (h:=s.heap) I.ok.frames y (λb o q=>mI _ q) (PySem.W.funFrames_hide J x) hx λQ t F _ _ v=>?_
 have g:=F.1
 refine⟨e,C,_,_,H,rfl,⟨I.os,I.bare,⟨λb o q n nb _=>?_,λb o q n a _=>?_,λb o q n B=>U.free b o q n B,λb o q _=>?_,U.tups,U.frzs,U.tbls⟩,BU I.hok D,λb o q n nb=>?_,λb o q nb=>?_,F⟩,hE⟩
 ·exact g _ _ (gA _ (U.keep b o q n nb (by simp)) (d b o q nb))
 ·obtain⟨M,l⟩:=U.slot b o q n a (by simp)
  obtain⟨_,m,c,k⟩:=I.funs.mem a
  have G:m={o with slots:=M}:=Option.some.inj (c.symm.trans l)
  obtain⟨r,p⟩:=v b m (hx.keeps _ _ c) k
  rw[G]at p
  exact⟨r,p⟩
 ·obtain⟨u,l⟩:=U.there b o q (by simp)
  by_cases a:b∈Fq outer
  ·obtain⟨_,m,c,k⟩:=I.funs.mem a
   obtain⟨r,p⟩:=v b m (hx.keeps _ _ c) k
   exact⟨_,p⟩
  ·exact⟨u,g _ _ (gA _ l (d b o q a))⟩
 ·exact gA _ (U.keep b o q n nb (by simp)) (d b o q nb)
 ·obtain⟨u,l⟩:=U.there b o q (by simp)
  exact⟨u,gA _ l (d b o q nb)⟩
theorem Iw{E':XK}(hE:∀c d H',E' c d H'->E c d H'):EH (FH P w) (HY P w K mg base N qual scope f cd A outer s₀ H₀ E) E':=by
 intro aa σ H s e O I Z;obtain⟨a,C,B,a0,H',rfl,F,q⟩:=Z;have y:(envOfC qual scope s₀.heap.objs.size f cd).frame=some s₀.heap.objs.size:=rfl;have t:∀b o,s₀.heap.get? b=some o->b∉Fq outer->b∉Fq (envOfC qual scope s₀.heap.objs.size f cd::outer):=λb o q nb=>by
  rw[wB y];intro z;rcases cZ.mp z with z|z
  ·exact absurd (cQ q) (by rw[z];exact dt _)
  ·exact nb z
 have v:∀b∈Fq outer,b∈Fq (envOfC qual scope s₀.heap.objs.size f cd::outer):=λb g=>by rw[wB y];exact cO _ g
 have U:Un (Fq outer) [] H₀ H s₀.heap s.heap:=I.base;have p:Un (Fq (envOfC qual scope s₀.heap.objs.size f cd::outer)) [] H H' s.heap O.heap:=F.un;have ff:O.heap.FunFrames B (envOfC qual scope s₀.heap.objs.size f cd::outer):=F.fly.2.2.1;show wpAny _ _ (leaving _ _) _ _ _;refine wpAny_leaves_onW I.ok.frames y F.fly λS R T=>?_
 have l:=R.1;have J:∀b o,s₀.heap.get? b=some o->H₀ b=none->b∉Fq outer->B.get? b=some o:=λb o q n nb=>F.keep b o (U.keep b o q n nb (by simp)) (U.free b o q n (by simp)) (t b o q nb)
 have G:∀b o,s₀.heap.get? b=some o->b∉Fq outer->∃j,B.get? b=some j:=λb o q nb=>by
  obtain⟨j,h⟩:=U.there b o q (by simp);exact F.has b j h (t b o q nb)
 have k:∀b o,s₀.heap.get? b=some o->H₀ b=none->b∈Fq outer->∃k,S.get? b=some {o with slots:=k}:=λb o q n g=>by
  obtain⟨k,h⟩:=U.slot b o q n g (by simp);obtain⟨ab,q2⟩:=p.slot b _ h (U.free b o q n (by simp)) (v b g) (by simp);obtain⟨_,Y,r,Q⟩:=ff.mem (v b g);have x:=Option.some.inj (r.symm.trans q2);obtain⟨D,M⟩:=T b Y r Q;rw[x]at M;exact⟨D,M⟩
 refine⟨a,C,B,a0,H',rfl,⟨F.os.trans I.os,F.bare,⟨λb o q n nb _=>l _ _ (J b o q n nb),λb o q n g _=>k b o q n g,λb o q n m=>?_,λb o q _=>?_,λb L q=>p.tups b L (U.tups b L q),λb o u q=>p.frzs b o u (U.frzs b o u q),λb V q=>?_⟩,F.hok,J,G,R⟩,hE _ _ _ q⟩
 ·obtain⟨j,h⟩:=U.there b o q m;exact p.free b j h (U.free b o q n m) m
 ·by_cases g:b∈Fq outer
  ·obtain⟨k,h⟩:=k b o q (I.ok.frf b g) g;exact⟨_,h⟩
  ·obtain⟨j,h⟩:=G b o q g;exact⟨j,l _ _ h⟩
 ·obtain⟨X,W⟩:=U.tbls b V q;obtain⟨m2,x⟩:=p.tbls b _ W;exact⟨X++m2,by rw[x,mJ]⟩
end
def L3:List cA:=[.type "ValueError",.type "Exception",.type "BaseException",.type "object"]
structure G6(K:cu)(mg:Str->Option cA)(x:Str)(C:cG):Prop where
 bound:mg x=some (.ref C)
 exc:kM K C L3 "ValueError.__new__"=true
theorem AJ{K:cu}{h:Heap}{C:cG}{bmB:List cA}{nid:String}(X:K.In h)(q:kM K C bmB nid=true):
  ∃bm N nm qn bs hdct sn sub ab col dd k0 k1 k2 k3 k5 mN,h.get? C=some (excClassObj nm qn C N bs bm hdct sn sub ab col dd k0 k1 k2 k3 k5 nid)/\h.Ns N mN/\mN "__init__"=none/\OwnTail h bmB bm:=by
 unfold kM at q
 split at q
 ·rename_i dd cd sl hlk
  split at q
  ·rename_i C' bm u0 u1 u2 u3 n u5 hmro hsl
   simp only[dn,beq_iff_eq,nl]at q
   obtain⟨⟨⟨⟨⟨rfl,rfl⟩,c⟩,e⟩,a⟩,b⟩:=q
   obtain⟨nm,bs,j,f,qn,d,sn,sub,ab,col,g⟩:=cd
   dsimp only at hmro c a b
   subst hmro c
   obtain⟨l⟩:=sl
   simp only at hsl
   subst hsl
   exact⟨bm,f,nm,qn,bs,d,sn,sub,ab,col,dd,u0,u1,u2,u3,u5,_,X _ _ hlk,.of_isNs (PySem.W.isNs_of_in X a),PySem.W.nsMap_none_of_in X a b,PySem.W.tail_of_in X e⟩
  ·cases q
 ·cases q
section
variable{P:cT}{w:dc}{K:cu}{mg:Str->Option cA}{base:Heap}{N:List Str}{qual:Str}{scope:Scope}{f:cG}{cd:cA}{A:dw}{outer:List Env}{s₀:cD}{H₀:Hp}{E:XK}
def KC(C:cG)(E:XK)(t:TA):TS:=λ_ σ H=>t σ H λvs H1=>vs.length<=sizeLine/\E (.ref C) none H1
theorem tR{x:Str}{C:cG}{e₀:Expr}{es:List Expr}{np cpos pos:Pos}{t:TA}(hC:G6 K mg x C)(hg:Gl (HY P w K mg base N qual scope f cd A outer s₀ H₀ E) x)
  (ha:PA (HY P w K mg base N qual scope f cd A outer s₀ H₀ E).nox (e₀::es) t)
  (hd:(x==("__debug__":Str))=false:=by decide)(he:dh (e₀::es) (HY P w K mg base N qual scope f cd A outer s₀ H₀ E).env=(false,eval e₀ (HY P w K mg base N qual scope f cd A outer s₀ H₀ E).env)::dh es (HY P w K mg base N qual scope f cd A outer s₀ H₀ E).env:=by rfl)
  (hpl:(backTo cpos (dh es (HY P w K mg base N qual scope f cd A outer s₀ H₀ E).env)).any (·.1)=false:=by rfl):
  PS (HY P w K mg base N qual scope f cd A outer s₀ H₀ E) (.Raise (some (.Call (.Name x np) (e₀::es) [] cpos)) none pos) (KC C E t):=by
 intro b s n H D I h
 obtain⟨bm,o,nm,j,bs,hdct,sn,sub,ab,col,dd,k0,k1,k2,k3,k5,mN,d,k,g,T⟩:=AJ I.ok.mod.kin hC.exc
 refine wpAny_Raise_call_subT (C:=C) (nm:=nm) (q:=j) (N:=o) (bs:=bs) (bm:=bm) (hdct:=hdct) (sn:=sn) (sub:=sub) (ab:=ab) (col:=col) (dd:=dd) (k0:=k0) (k1:=k1) (k2:=k2) (k3:=k3) (k5:=k5) (mN:=mN) (bmB:=L3) (newId:="ValueError.__new__")
  PySem.F.excBase_ValueError (T.hasType (by decide)) (I.ok.hd rfl) (by rw[he];exact hpl) g (vB I hg hC.bound ⟨rfl,?_⟩ hd)
 have z:=ha cpos b s n H _ (I.wish _) h
 have c:dh (e₀::es) (HY P w K mg base N qual scope f cd A outer s₀ H₀ E).nox.env=(false,eval e₀ (HY P w K mg base N qual scope f cd A outer s₀ H₀ E).env)::dh es (HY P w K mg base N qual scope f cd A outer s₀ H₀ E).env:=he
 rw[c]at z
 rw[he]
 refine iK ?_
 refine gj z (λy v h1=>?_) λ_ _ z=>fj z
 obtain⟨vs,B,a,r,p,m⟩:=h1
 have a:=a.unwish
 exact⟨rfl,by rw[<-r.length];exact p,a.bk _ _ d,k.keeps a.bk,T.keeps a.bk,λu e l=>yg a l m⟩
end
section
variable{M:Model}{A:dw}{E:cA->cD->Prop}{K:cu}{h:Heap}{g:Array GenState}{d:Drawn}{t:Nat}{os:OsState}{a C CW:cG}{oe:Obj}
theorem xh{Q:Bool->cD->Prop}(X:K.In h)(qW:kM K CW L3 "ValueError.__new__"=true)(hm:mz K C (.ref CW)=some true)(ha:h.get? a=some oe)(hc:oe.cls = .ref C)
  (hq:Q true ⟨h,g,d,t,os⟩):wpAny M A (excMatches (.ref a) (.ref CW)) Q E ⟨h,g,d,t,os⟩:=by
 obtain⟨e,B,s,u,n,f,D,m,x,k,y,F,w,p,r,o,q,b,v,l,T⟩:=AJ X qW
 have j:e.contains (.type "BaseException")=true:=T.hasType (by decide)
 have c:(cR CW::e).contains (.type "BaseException")=true:=by rw[List.contains_cons,j,Bool.or_true]
 have z:=tc_notTuple
 have L:=PySem.W.looks_mroIn (M:=M) X hm
 unfold excMatches
 repeat (first|(with_reducible refine nv ha ?_;rw[hc])|with_reducible refine nv b ?_|(with_reducible refine wpAny_isSubtype_exc b ?_;rw[c])|with_reducible refine L.at ?_|wp_step)
 exact hq
end
def LE(C a:cG):HO:= .ext λh=>∃o,h.get? a=some o/\o.cls = .ref C/\∃vs,o.data = .fields vs
section
variable{X:Cx}{pins:List (cG×Obj)}{σ:St}{H:Hp}{s:cD}
theorem Inv.caught{a C:cG}{B:Heap}{a0:cA}{H':Hp}{s':cD}{h6:Heap}(I:Inv X pins σ H s)(F:Flies X.prog X.w X.stack H s a C B a0 H' s')(fl:lw B X.stack a (.ref C) a0 h6)(up:s'.heap.UpToSlots h6):
  Inv X pins σ (upd H' a (LE C a)) {s' with heap:=h6}:=by
 have fr:=F.free
 have m:=F.un
 have N:=F.fly.2.2.1
 obtain⟨D,vs,h,y,r,_⟩:=fl.first
 have j:∀b u,H' b=some u->b≠a:=λb u q z=>by rw[z,fr]at q;cases q
 have G:∀b o,s.heap.get? b=some o->H b=none->b≠a:=λb o q n z=>by
  by_cases e:b∈Fq X.stack
  ·obtain⟨_,x,d,g⟩:=fl.2.2.1.mem e
   rw[z,h]at d
   cases d
   exact g _ r
  ·have:=F.keep b o q n e
   rw[z,fl.2.1]at this
   cases this
 refine I.call' (s':={s' with heap:=h6}) (ch:=[]) F.os ⟨λb o q n nb _=>fl.1 _ _ (F.keep b o q n nb),λb o q n e _=>?_,λb o q n M=>?_,λb o q _=>?_,λb E q=>?_,λb o u q=>?_,λb K q=>?_⟩ ?_ F.bare (λb z=>absurd z (by simp))
 ·obtain⟨P,l⟩:=m.slot b o q n e (by simp)
  obtain⟨_,x,d,g⟩:=N.mem e
  have L:=Option.some.inj (d.symm.trans l)
  obtain⟨A,p⟩:=up b x d g
  rw[L]at p
  exact⟨A,p⟩
 ·rw[rH (G b o q n)]
  exact m.free b o q n M
 ·by_cases e:b∈Fq X.stack
  ·obtain⟨_,x,d,g⟩:=fl.2.2.1.mem e
   exact⟨_,d⟩
  ·obtain⟨J,l⟩:=F.has b o q e
   exact⟨J,fl.1 _ _ l⟩
 ·have f:=m.tups b E q
  rw[rH (j _ _ f)];exact f
 ·have f:=m.frzs b o u q
  rw[rH (j _ _ f)];exact f
 ·obtain⟨t,f⟩:=m.tbls b K q
  exact⟨t,by rw[rH (j _ _ f)];exact f⟩
 ·intro b u q
  by_cases e:b=a
  ·subst e
   rw[rC]at q
   cases q
   exact⟨⟨D,h,y,vs,r⟩,⟨D,h⟩,λh1 h2 ⟨o,l,p,O⟩ k=>⟨o,k o l,p,O⟩⟩
  ·rw[rH e]at q
   exact(F.hok b u q).stay (λc v _ z=>fl.1 _ _ z) (λc z=>by rw[rH (j _ _ z)];exact z) λc E z=>by rw[rH (j _ _ z)];exact z
end
def Cx.hold(X:Cx)(a:cG):Cx:={X with A:=X.A.mark (some (.ref a)),calm:=false,xe:=λ_ _=>False}
theorem Cx.Ok.hold{X:Cx}(ok:X.Ok)(a:cG):(X.hold a).Ok:=
 ⟨ok.mod,ok.kind,ok.glob,ok.blt,ok.above,ok.inj,ok.has,ok.cab,(λz=>by cases z),ok.frames,ok.stk,ok.exf,ok.bs,ok.bsz,ok.noex,ok.exfs,ok.funs,ok.frf⟩
section
variable{X:Cx}{pins:List (cG×Obj)}{σ:St}{H:Hp}{s:cD}
theorem Inv.hold(I:Inv X pins σ H s)(a:cG):Inv (X.hold a) pins σ H s:=⟨I.ok.hold a,I.os,I.bare,I.base,I.loc,I.cell,I.free,I.freeC,I.pin,I.hok,I.len⟩
theorem Inv.unhold{a:cG}(ok:X.Ok)(I:Inv (X.hold a) pins σ H s):Inv X pins σ H s:=⟨ok,I.os,I.bare,I.base,I.loc,I.cell,I.free,I.freeC,I.pin,I.hok,I.len⟩
end
def MH(X:Cx)(e:Expr)(t:XK->TE):Prop:=∀(pins:List (cG×Obj)) (s:cD) (σ:St) (H:Hp) (Q:VK) (E:XK) (xe:cA->cD->Prop),Inv X pins σ H s->
 (∀H1 s1 e' s',Inv X pins σ H1 s1->FH X.prog X.w X.stack H1 s1 E e' s'->xe e' s')->t E σ H Q->wpAny (model X.prog X.w) X.A (eval e X.env) (EP X pins σ Q) xe s
def MA(X:Cx)(sts:List Stmt)(t:XK->TS):Prop:=∀(pins:List (cG×Obj)) (s:cD) (σ:St) (H:Hp) (D:GC) (E:XK) (xe:cA->cD->Prop),Inv X pins σ H s->
 (∀H1 s1 e' s',Inv X pins σ H1 s1->FH X.prog X.w X.stack H1 s1 E e' s'->xe e' s')->t E D σ H->wpAny (model X.prog X.w) X.A (execs sts X.env) (SP X pins D) xe s
section
variable{X:Cx}
theorem C5{e:Expr}{te:XK->TE}{pos:Pos}(he:MH X e te)(hs:swapsWith e none pos.line X.env=pure false:=by rfl):MA X [.Expr e pos] (λE=>Ko (te E)):=by
 intro a s b H D E l I g h;refine kW (gj (Q:=SP X a D) (oK (En (he a s b H _ E l I g h) λv c ⟨x,k,d,m,j⟩=>⟨b,k,d,j⟩) I.quiet hs) (λf c q=>?_) λ_ _ z=>z)
 cases f with
 | next=>exact io q
 | ret v=>exact q
 | brk=>exact q
 | cont=>exact q
end
section
variable{P:cT}{w:dc}{K:cu}{mg:Str->Option cA}{base:Heap}
theorem Def.okE{x:Str}{st:Stmt}{N ps:List Str}{k:Nat}{sp:Sp}(F:Def K mg x st)(S:Ef N ps (Ec st))(len:∀vs H Q E,sp vs H Q E->vs.length=ps.length)
  (hb:∀(kV doc pm:cA) (an:Option cG) (cdv ct:cA) (us:List cA),us.length=ps.length->bindArgs (f9 x x (Eo st) (Ek st) (Ec st) .none kV doc pm an cdv ct) ⟨us,[]⟩=pure (ps.zip us))
  (hbody:∀(f:cG) (cdv:cA) (A:dw) (outer:List Env) (s:cD) (H:Hp) (vs:List V) (Q:VK) (E:XK),Room k (A.deeper (envOfC x (Ec st) s.heap.objs.size f cdv))->sp vs H Q E->
   ∃t,PSs (HY P w K mg base N x (Ec st) f cdv A outer s H E) (Ek st) t/\t {nx:=λ_ H'=>Q .non H',rt:=Q} (start N vs) H):Dn P w K mg base (FH P w) (k+1) x ps sp:=by
 obtain⟨f,h,F,m⟩:=F
 have a:=F.binds hb
 have d:=F.kp
 obtain⟨j,l,kV,doc,pm,an,cdv,ct,g,rfl,lk,b⟩:=F.ex
 exact⟨f,_,B1 lk b S len λA outer s H vs Q E e c=>hbody f cdv A outer s H vs Q E e c,m,d,a⟩
theorem FG{X:Cx}:EH (FH X.prog X.w) X E0:=λ_ _ _ _ _ _ _ ⟨_,_,_,_,_,_,_,z⟩=>z.elim
end
structure Xs where
 WishError:cG
 NoFraction:cG
 NoWishes:cG
 NoTable:cG
 NoPick:cG
 NoOrder:cG
 NoRoll:cG
 NoPerson:cG
 Unready:cG
 NoWay:cG
def EN(x:Xs):Sp:=λvs H Q E=>∃t b:Int,vs=[.int t,.int b]/\(b=0->E (.ref x.NoFraction) none H)/\(b≠0->b.natAbs<2^9000/\∀p H',Same H H'->H' p=some (JO (FQ.red t b))->Q (.ref p) H')
def GI(K:cu):Sp:=λvs H Q _=>∃a b x y,vs=[.ref a,.ref b]/\SqT K H a [.int x.1,.int x.2]/\SqT K H b [.int y.1,.int y.2]/\Sz 4000 x/\Sz 4000 y/\Q (.bl (decide (x.1*y.2<y.1*x.2))) H
theorem Sz.up{m n:Nat}{p:Int×Int}(h:Sz m p)(hmn:m<=n):Sz n p:=⟨vx h.1 hmn,vx h.2.1 hmn,h.2.2⟩
theorem BQ{a b:Int}{m:Nat}(h1:a.natAbs<2^m)(h2:b.natAbs<2^m):(a+b).natAbs<2^(m+1):=by
 have:=Int.natAbs_add_le a b;rw[qf];omega
section
variable{X:Cx}
theorem CS{xs:List V}{us:List cA}(r:Vals xs us){i:Nat}{u:cA}(h:us[i]?=some u):∃x,xs[i]?=some x/\RelV x u:=by
 have b:=r.length;have c:i<us.length:=(cL.mp h).1;have e:xs[i]?=some xs[i]:=by simp[show i<xs.length by omega]
 obtain⟨a,h1,h2⟩:=r.get e;rw[h]at h1
 cases h1;exact⟨_,e,h2⟩
theorem yE(hc:X.calm=true):EQ X (.builtin "all") (λxs H Q=>∃(p:cG) (bs:List Bool),xs=[.ref p]/\SqL X.K H p (bs.map V.bl)/\Q (.bl (bs.all id)) H):=by
 intro D s J H xs L Q I r h;obtain⟨p,bs,rfl,C,q⟩:=h;obtain⟨u,rfl,g⟩:=E5 r
 cases(show u=cR p from g);obtain⟨c,n,j,G⟩:=I.list C;have B:=n.length;rw[cx]at B;have hp:p<s.heap.objs.size:=by obtain⟨_,e,_⟩:=j.isList;exact cQ e
 have t:TruthOf X.prog X.w X.A.in1 (λi v=>c.toArray[i]?=some v) (λi=>bs.getD i false):=λi v s Q E m k=>by
  dsimp only at m k;rw[jD]at m;obtain⟨x,a,g⟩:=CS n m;rw[cH]at a
  cases l:bs[i]? with
  | none=>rw[l]at a;cases a
  | some b=>
   rw[l]at a
   cases a
   cases(show v=er b from g);have e:bs.getD i false=b:=by simp[cC,l]
   rw[e]at k;exact cv k
 refine call_all_walk (iC j.isList ⟨s.heap.objs.size,_,_,_,_,_,_,rfl,oP (A:=X.A.in1) (I.ok.hd hc) s.heap.objs.size p (df hp) c.toArray,⟨⟨_,cN _ rfl,rfl,rfl⟩,j.isList.push _⟩,t,λF tk hk=>?_⟩);have e:(db c.toArray.size).all (λi=>bs.getD i false)=bs.all id:=by
  rw[cX,<-B];apply gx.mpr;rw[dZ,dZ];constructor
  ·intro h x a;obtain⟨i,d,rfl⟩:=eO.mp a;have:=h i (dY.mpr d);simpa [d]using this
  ·intro h i d;have f:=dY.mp d;have:=h bs[i] (cW f);simpa [f]using this
 rw[e];refine⟨.bl _,H,I.kept λb o z=>hk b o (λy=>?_) (cF _ z),rfl,q⟩;rw[cK]at y;subst y;exact absurd (cQ z) (dt _)
theorem u8{ns:List Int}:∀{vs:List cA},Vals (ns.map V.int) vs->IntsAre vs ns:=by
 induction ns with
 | nil=>intro vs r;cases r;exact .nil
 | cons n ns a=>
  intro vs r
  cases r with
  | cons r b=>
   obtain⟨t,rfl⟩:=(show ∃t,_=dX n t from r);exact .cons _ _ (a b)
theorem vD{prog:cT}{w:dc}{A:dw}{E:cA->cD->Prop}{s:cD}{l:cG}{vs:List cA}{Q:List cA->cD->Prop}(ht:IsTup s.heap l vs.toArray)(hsz:vs.length<=sizeLine)
  (h:Q vs {s with heap:=(s.heap.push (seqObj "list" #[] 0)).update s.heap.objs.size (d2 (· ++ vs.toArray))}):wpAny (model prog w) A (collect (.ref l)) Q E s:=by
 obtain⟨o,f,c,n,d⟩:=ht
 have b:(s.heap.push (seqObj "list" #[] 0)).get? l=some o:=cF _ f
 have a:(s.heap.push (seqObj "list" #[] 0)).get? s.heap.objs.size=some (seqObj "list" #[] 0):=cN _ rfl
 unfold collect
 refine cr (kf (eY lQ ?_))
 change wpAny _ _ (do again (.builtin "list.__iadd__" ⟨[<-newList [],.ref l],[]⟩)) _ _ s
 refine cr (ja (cv ⟨ii _ (by decide +kernel),eY ny ?_⟩))
 change wpAny _ _ (f5 (.ref s.heap.objs.size) (.ref l) (.ref s.heap.objs.size)) _ _ {s with heap:=s.heap.push (seqObj "list" #[] 0)}
 unfold f5
 refine cr (ij (T:="tuple") ⟨o,b,c⟩ ?_)
 rw[if_pos (by rw[show(dL "tuple"==dL "tuple")=true from rfl];simp)]
 refine cr (qg b d ?_)
 refine cr (qg (xs:= #[]) (n:=0) a rfl ?_)
 rw[if_neg (by simp)]
 refine cr (ix (xs:= #[]) (n:=0) a rfl ?_ (du _) (by change (#[]++vs.toArray).size<=sizeLine+1;simp only[Array.size_append,cX,jU];omega))
 refine cv ?_
 change wpAny (model prog w) A (do
   let o<-load s.heap.objs.size
   match o.data with
   | .seq xs _=>pure xs.toList
   | _=>unsupported "internal:collect") Q E {s with heap:=(s.heap.push (seqObj "list" #[] 0)).update s.heap.objs.size (d2 (· ++ vs.toArray))}
 refine cr (wpAny_load (get?_update_seq a _) ?_)
 change wpAny _ _ (pure ((#[]:Array cA)++vs.toArray).toList) Q E _
 have e:((#[]:Array cA)++vs.toArray).toList=vs:=by simp
 rw[e]
 exact cv h
theorem zb{prog:cT}{w:dc}{A:dw}{E:cA->cD->Prop}{s:cD}{l:cG}{vs:List cA}{ns:List Int}{Q:cA->cD->Prop}(ht:IsTup s.heap l vs.toArray)(hI:IntsAre vs ns)(h64:vs.length<64)
  (h:∀(out:Array cA) (ns':List Int),IntsAre out.toList ns'->ns'.Perm ns->ns'.Pairwise (· <= ·)->Q (.ref (s.heap.objs.size+1)) {s with heap:=sortedAll s.heap vs out}):
  wpAny (model prog w) A (call (.builtin "sorted") [.ref l]) Q E s:=by
 have b:((s.heap.push (seqObj "list" #[] 0)).update s.heap.objs.size (d2 (· ++ vs.toArray))).objs.size=s.heap.objs.size+1:=by rw[nX,lx]
 have a:(((s.heap.push (seqObj "list" #[] 0)).update s.heap.objs.size (d2 (· ++ vs.toArray))).push (seqObj "list" vs.toArray 0)).get? (s.heap.objs.size+1)=some (seqObj "list" vs.toArray 0):=by
  rw[<-b];exact cN _ rfl
 refine gP oo nA nB (nC _) ?_
 unfold Builtin.«sorted»
 refine cr (m:=checkCount "sorted" 1 1 _) (cv ?_)
 have f:vs.length<=sizeLine:=dB (Ed (by omega))
 refine cr (vD ht f (cr (ja ?_)))
 change wpAny _ _ _ _ _ {s with heap:=((s.heap.push (seqObj "list" #[] 0)).update s.heap.objs.size (d2 (· ++ vs.toArray))).push (seqObj "list" vs.toArray 0)}
 rw[b]
 refine cr (dG (dR l8 ⟨_,a,rfl⟩ lJ (oQ a hI h64 λout ns' d c e=>⟨_,rfl,?_⟩) (l9 _)))
 exact cv ⟨_,rfl,h out ns' d c e⟩
theorem yc:EQ X (.builtin "sorted") (λxs H Q=>∃(p:cG) (ns:List Int),xs=[.ref p]/\(SqL X.K H p (ns.map V.int)\/SqT X.K H p (ns.map V.int))/\ns.length<64/\∀(l:cG) (ns':List Int),H l=none->ns'.Perm ns->ns'.Pairwise (· <= ·)->Q (.ref l) (upd H l (.lst (ns'.map V.int)))):=by
 intro j s y H xs C Q I r h;obtain⟨p,ns,rfl,f,B,q⟩:=h;obtain⟨u,rfl,v⟩:=E5 r
 cases(show u=cR p from v);have fin:∀(a:List cA),Vals (ns.map V.int) a->∀(d:Array cA) (ns':List Int),IntsAre d.toList ns'->ns'.Perm ns->ns'.Pairwise (· <= ·)->EP X j y Q (.ref (s.heap.objs.size+1)) {s with heap:=sortedAll s.heap a d}:=λa c d ns' n m z=>by
  obtain⟨e,x⟩:=qh s.heap a d;refine⟨.ref (s.heap.objs.size+1),_,I.laid (t':=s.toks) (λb o A=>pO A) (ec _) (show ObjOk X.prog X.w _ _ _ (.lst (ns'.map V.int))from⟨?_,d.toList,e,uB n,by rw[x]⟩),rfl,q _ ns' (I.hok.fresh (ec _)) m z⟩;rw[cx,m.length_eq];exact dB (Ed (by omega))
 rcases f with f|f
 ·obtain⟨a,c,g,t⟩:=I.list f;have k:=c.length;rw[cx]at k;exact sorted_ints g.isList (u8 c) (by omega) (fin a c)
 ·obtain⟨a,c,g,t⟩:=I.tuple f;have k:=c.length;rw[cx]at k;exact zb g (u8 c) (by omega) (fin a c)
theorem zu{pins:List (cG×Obj)}{σ:St}{H:Hp}{s:cD}{A:dw}{E:cA->cD->Prop}{Q:cA->cD->Prop}{tp:cG}{dd:Option cG}{its:List cA}{n:Nat}{sl:Array (Option cA)}{b:Bool}{x:V}{u:cA}{t:String}(I:Inv X pins σ H s)(rx:RelV x u)(ty:tyOf X.K H x t)
  (htp:s.heap.get? tp=some ⟨.type "tuple",dd,.seq its.toArray n,sl⟩)(e:oR X.K (.type t) its=some b)(h:∀tk,Q (.bool b) {s with toks:=tk}):wpAny (model X.prog X.w) A (call (.builtin "isinstance") [u,.ref tp]) Q E s:=by
 cases x with
 | non=>cases(show u=cA.none from rx);cases(show t="NoneType"from ty);exact ir nq I.kIn True.intro htp e (λz=>nomatch z) h
 | bl y=>cases(show u=er y from rx);cases(show t="bool"from ty);exact ir nr I.kIn True.intro htp e (λz=>nomatch z) h
 | int i=>obtain⟨tk,q⟩:=(show ∃t,u=dX i t from rx);cases q;cases(show t="int"from ty);exact ir nU I.kIn True.intro htp e (λz=>nomatch z) h
 | str y=>obtain⟨tk,q⟩:=(show ∃t,u=iw y t from rx);cases q;cases(show t="str"from ty);exact ir nV I.kIn True.intro htp e (λz=>nomatch z) h
 | ref a=>
  cases(show u=cR a from rx)
  rcases ty with⟨rfl,f,c⟩|⟨rfl,f,c⟩
  ·obtain⟨d,_,⟨o,g,h1,h2,_⟩,_⟩:=I.list c
   exact ir nt I.kIn ⟨o,h1,h2⟩ htp e (λz=>nomatch z) h
  ·obtain⟨d,_,⟨o,h1,h2,_⟩,_⟩:=I.tuple c
   exact ir mP I.kIn ⟨o,h1,h2⟩ htp e (λz=>nomatch z) h
 | byt _=>exact ty.elim
 | flt _=>exact ty.elim
 | ty _=>exact ty.elim
theorem A6:EQ X (.builtin "isinstance") (λxs H Q=>∃x p t,xs=[x,.ref p]/\SqT X.K H p [.ty "list",.ty "tuple"]/\tyOf X.K H x t/\Q (.bl (GA t "list"||GA t "tuple")) H):=by
 intro y s B H xs E Q I r h;obtain⟨x,p,t,rfl,v,ty,q⟩:=h;obtain⟨u,l,rfl,m,k⟩:=Jh r
 cases(show l=cR p from k);obtain⟨c,d,⟨o,h1,h2,n,h3⟩,_⟩:=I.tuple v;have e:c=[dL "list",dL "tuple"]:=by
  cases d with
  | cons j a=>
   cases a with
   | cons f a=>
    cases a
    cases(show _=dL "list"from j)
    cases(show _=dL "tuple"from f);rfl
 subst e;obtain⟨C,D,A,z⟩:=o;dsimp only at h2 h3;subst h2 h3;refine zu I m ty h1 (b:=GA t "list"||GA t "tuple") ?_ λtk=>⟨.bl _,H,I.tok tk,rfl,q⟩
 have w:=zO (K:=X.K) (T:="list") (vC ty) (by decide);have g:=zO (K:=X.K) (T:="tuple") (vC ty) (by decide);simp only[oR,w,g]
 cases GA t "list" <;> cases GA t "tuple" <;> rfl
end
mutual
theorem zY:∀(n:Nat) (d:iO),Gd n d=true->d.canLay0=true/\d.depth<=n
 | _,.none,_=>by simp[iP,iZ]
 | _,.bool _,_=>by simp[iP,iZ]
 | _,.int _,_=>by simp[iP,iZ]
 | n,.str x,h=>by
  have a:ga (.str x)=true:=by cases n <;> simpa [Gd]using h
  exact⟨SeqAt.canLay_of_shaped a,by simp[iZ]⟩
 | n+1,.tuple ds,h=>by
  have:=wY n ds (by simpa [Gd]using h)
  simp[iP,iZ,this]
 | n+1,.list ds,h=>by
  have:=wY n ds (by simpa [Gd]using h)
  simp[iP,iZ,this]
 | 0,.tuple _,h=>by simp[Gd]at h
 | 0,.list _,h=>by simp[Gd]at h
 | 0,.dict _,h=>by simp[Gd]at h
 | _+1,.dict _,h=>by simp[Gd]at h
theorem wY:∀(n:Nat) (ds:List iO),(∀d∈ds,Gd n d=true)->kC ds=true/\lK ds<=n
 | n,[],_=>by simp[kC,lK]
 | n,d::ds,h=>by
  have h1:=zY n d (h d cM)
  have h2:=wY n ds λx a=>h x (cO _ a)
  simp only[kC,lK,h1.1,h2.1,Bool.and_self,true_and]
  omega
end
theorem vM{n:Nat}{d:iO}(h:Gd n d=true)(hn:n<=64):ga d=true:=by
 have:=zY n d h;unfold ga;rw[this.1];simp;omega
theorem tyOf.mono{K:cu}{H H':Hp}{x:V}{t:String}(e:Same H H')(h:tyOf K H x t):tyOf K H' x t:=by
 cases x with
 | ref a=>
  rcases h with⟨h1,c,b⟩|⟨h1,c,b⟩
  ·exact .inl ⟨h1,c,e.seq b⟩
  ·exact .inr ⟨h1,c,e.tup b⟩
 | non=>exact h
 | bl _=>exact h
 | int _=>exact h
 | str _=>exact h
 | byt _=>exact h
 | flt _=>exact h
 | ty _=>exact h
theorem DH{X:Cx}{tg l:Expr}{tl:TE}(hl:PE X l tl):PI X tg l (λσ H R=>Kt X.K tl σ H R\/K8 X.K tl σ H R):=by
 intro a s σ H R I h;rcases h with h|h
 ·exact sZ hl a s σ H R I h
 ·exact uy hl a s σ H R I h
section
variable{X:Cx}{K:cu}
theorem w8(h:X.K=K):EQ X (.type "list") (λxs H Q=>∃p ys,xs=[.ref p]/\(SqL K H p ys\/SqT K H p ys)/\∀l,H l=none->Q (.ref l) (upd H l (.lst ys))):=by subst h;exact sR
theorem sV(h:X.K=K):IxR X (KK K):=by subst h;exact rL
theorem tX(h:X.K=K):IxR X (KE K):=by subst h;exact sv
theorem uD(h:X.K=K):EQ X (.builtin "len") (λxs H Q=>∃p ys,xs=[.ref p]/\(SqL K H p ys\/SqT K H p ys)/\Q (.int ys.length) H):=by subst h;exact rP
theorem Dj{k:Nat}(h:X.K=K)(hr:Room k X.A):Fv X (compareOp .Eq) (LG K):=by subst h;exact yT hr
theorem AV{k:Nat}(h:X.K=K)(hr:Room k X.A):Fv X (compareOp .NotEq) (Lm K):=by subst h;exact xk hr
theorem uH(h:X.K=K):Fv X (compareOp .NotIn) (ML K true):=by subst h;exact t7
theorem vb{x:Str}{xs:List V}{pos:Pos}(e:X.K=K)(h:JY K X.mg x xs)(hg:Gl X x:=by rfl)(hd:(x==("__debug__":Str))=false:=by decide):PE X (.Name x pos) (Kf K xs):=by subst e;exact t9 h hg hd
end
end L2
namespace LM
def rng(n:Nat):List Int:=(db n).map hV
theorem rng_len(n:Nat):(rng n).length=n:=by simp[rng]
theorem mem_rng{n:Nat}{x:Int}:x∈rng n↔0<=x/\x<n:=by
 unfold rng;simp only[dv,dY];constructor
 ·rintro⟨a,h,rfl⟩;simp;omega
 ·rintro⟨h0,h1⟩;exact⟨x.toNat,by omega,by simp;omega⟩
theorem zj(n:Nat):(rng n).Pairwise (· <= ·):=by
 unfold rng;rw[jt];refine nD ?_ (ly (n:=n));intro a b h;simp;omega
theorem rng_nodup(n:Nat):(rng n).Nodup:=by
 unfold rng;rw[List.nodup_iff_pairwise_ne,jt];refine nD ?_ (ly (n:=n));intro a b h z;have:a=b:=hV.inj z;omega
theorem yp{a b r:List Int}(ha:a.Perm r)(hs:a.Pairwise (· <= ·))(hr:r.Pairwise (· <= ·)):a=r:=
 kN (λx y _ _ h1 h2=>Int.le_antisymm h1 h2) hs hr ha
end LM
namespace L2
open PySem PySem.Spec PyProof.Rows
def Hq(K:cu):Sp:=λvs H Q _=>∃v t,vs=[v]/\tyOf K H v t/\∀H',Same H H'->Q (.bl (GA t "list"||GA t "tuple")) H'
def ID(K:cu):Sp:=λvs H Q _=>∃a us,vs=[.ref a]/\(SqL K H a us\/SqT K H a us)/\∀H',Same H H'->Q (.bl (decide (1<=us.length/\us.length<=6))) H'
theorem SqL.over{K:cu}{H:Hp}{a p:cG}{o:HO}{xs:List V}(h:SqL K H a xs)(hne:a≠p):SqL K (upd H p o) a xs:=by
 rcases h with(h|⟨u,h⟩)|h
 ·exact .inl (.inl (by rw[rH hne];exact h))
 ·exact .inl (.inr ⟨u,by rw[rH hne];exact h⟩)
 ·exact .inr h
def fr(T:Int)(m:List Int):List (Int×Int):=m.map λx=>FQ.red x T
def RwFT(K:cu)(H:Hp)(T:Int)(v:V)(m:List Int):Prop:=∃a gs,v = .ref a/\SqT K H a gs/\dr (IsF K H) gs (fr T m)
theorem rQ{K:cu}{H H':Hp}{gs:List V}{ps:List (Int×Int)}(e:Same H H')(h:dr (IsF K H) gs ps):dr (IsF K H') gs ps:=Paired.mapP h λ_ _ q=>q.mono e
theorem RwFT.mono{K:cu}{H H':Hp}{T:Int}{v:V}{m:List Int}(e:Same H H')(h:RwFT K H T v m):RwFT K H' T v m:=by
 obtain⟨a,c,rfl,q,b⟩:=h;exact⟨a,c,rfl,e.tup q,rQ e b⟩
end L2
namespace LN
open LM
def Pm(n:Nat)(l:List Int):Prop:=l.Perm (rng n)
theorem Pm.len{n:Nat}{l:List Int}(h:Pm n l):l.length=n:=by rw[qV h,rng_len]
theorem Pm.mem{n:Nat}{l:List Int}(h:Pm n l){x:Int}:x∈l↔0<=x/\x<n:=by rw[re h];exact mem_rng
theorem Pm.nodup{n:Nat}{l:List Int}(h:Pm n l):l.Nodup:=(qX h).mpr (rng_nodup n)
theorem findSome_snoc{α:Type}{f:Nat->Option α}{i:Nat}(h:(db i).findSome? f=none):(db (i+1)).findSome? f=f i:=by
 rw[gf,lR,h];simp
theorem findSome_up{α:Type}{f:Nat->Option α}{i n:Nat}{r:α}(h:(db i).findSome? f=some r)(hn:i<=n):(db n).findSome? f=some r:=by
 have e:db n=db i++(db (n-i)).map (i + ·):=by
  rw[<-List.range_add]
  congr 1
  omega
 rw[e,lR,h];rfl
end LN
namespace L2
open PySem PySem.Spec PyProof.Rows
section
variable{X:Cx}{pins:List (cG×Obj)}{σ:St}{H:Hp}{s:cD}{h':Heap}
theorem Inv.turnedL{t':Nat}{fp:List cG}(I:Inv X pins σ H s)(k:∀b o,b∉fp->s.heap.get? b=some o->h'.get? b=some o)(hf:∀b∈fp,Gf X pins H b):Inv X pins σ H {s with heap:=h',toks:=t'}:=by
 have d:∀b u,H b=some u->b∉fp:=λb u e z=>by rw[(hf b z).1]at e;cases e
 refine I.step (g':=s.gens) (d':=s.drawn) (ch:=fp) (λb x=>?_) (λb o _ _ a e _=>k b o a e) (λb o _ _ a e _=>⟨o.slots,k b o a e⟩) (λ_ _ _ _ n=>n)
  (λb o a e=>⟨o,k b o a e⟩) (λ_ _ e=>e) (λ_ _ _ e=>e) (λb y e=>⟨#[],by rw[e];simp⟩) (λm h=>?_) (λb u e=>?_) I.bare
 ·obtain⟨B,w,A,t,f,j⟩:=hf b x;exact⟨t,w,f,j⟩
 ·obtain⟨o,p,g,l,r⟩:=h;exact⟨o,p,g,k _ o (λz=>(hf _ z).2.1 rfl) l,r⟩
 ·refine(I.hok b u e).stay (λc v a q=>k c v ?_ q) (λ_ q=>q) λ_ _ q=>q
  rcases a with z|z
  ·rw[z];exact d b u e
  ·exact d c _ z
theorem tF{h:Heap}{o u:Obj}{b:cG}(e:(h.push o).get? b=some u)(ho:o.isFreed=false):h.get? b=some u\/(b=h.objs.size/\u=o):=by
 rcases iE b h.objs.size with q|q|q
 ·left
  cases a:h.get? b with
  | some f=>rw[cF _ a]at e;exact e
  | none=>
   exfalso;unfold Heap.get? at a e;unfold la at e;simp only[Array.getElem?_push]at e;rw[if_neg (by omega)]at e;rw[a]at e
   cases e
 ·right
  subst q;rw[cN _ ho]at e
  cases e;exact⟨rfl,rfl⟩
 ·exfalso;have c:(h.push o).objs.size=h.objs.size+1:=by unfold la;simp
  have d:b<h.objs.size+1:=by rw[<-c];exact cQ e
  exact dt _ (cU q (Nat.le_of_lt_succ d))
def KO(K:cu)(a:cG):It:=
 ⟨λi H=>∃xs x,SqL K H a xs/\xs[i]?=some x,λi H x H'=>∃y t,(∀xs,SqL K H a xs->xs[i]?=some y)/\x = .ref t/\H t=none/\H'=upd H t (.tup [.int i,y]),λi H=>∃xs,SqL K H a xs/\xs.length<=i⟩
theorem AO{P:cT}{w:dc}{K:cu}{elts:List Expr}{x1:Nat}{pos:Pos}(a it e:cG)(hne:e≠it):HX P w K (.Tuple elts x1 pos) (KO K a) [e,it] e (λi h=>(∃old,IsEnum h e it i old)/\h.IsListIter it a i) where
 mem:=by simp
 obj:=λi h st b f=>by
  obtain⟨⟨old,j⟩,o,l,c,d⟩:=st
  rcases cZ.mp f with z|z
  ·subst z
   exact⟨_,j,λv z=>by cases z⟩
  ·have e:=cK.mp z
   subst e
   exact⟨o,l,λv z=>by rw[d]at z;cases z⟩
 keep:=λi h m st k=>by
  obtain⟨⟨old,j⟩,l⟩:=st
  exact⟨⟨old,k e (by simp) _ j⟩,l.at λo q=>k it (by simp) o q⟩
 item:=by
  intro X F y B L i g s t H E I D st G
  subst F y B
  obtain⟨xs,x,r,C⟩:=G
  obtain⟨N,A,p,Y⟩:=I.list r
  obtain⟨u,hu,S⟩:=A.get C
  obtain⟨⟨old,j⟩,l⟩:=st
  refine wpAny_pyNext_enum_item j l p.isList (x:=u) (by simpa using hu) hne λm so si T aa kk=>?_
  have J:∀b o,s.heap.get? b=some o->b≠s.heap.objs.size:=λb o q=>df (cQ q)
  have U:e≠s.heap.objs.size:=J _ _ j
  have li:it≠s.heap.objs.size:=by obtain⟨o,q,_⟩:=l;exact J _ _ q
  have R:H s.heap.objs.size=none:=I.hok.fresh (cI _)
  have I0:Inv X g t (upd H s.heap.objs.size (.tup [.int i,x])) {s with heap:=s.heap.push {cls:= .type "tuple",data:= .seq #[.int i s.toks,u]},toks:=s.toks}:=
   I.laid (t':=s.toks) (λb o q=>cF _ q) (cI _) ⟨by show 2<=sizeLine;decide,[.int i s.toks,u],.cons ⟨_,rfl⟩ (.cons S .nil),⟨_,cN _ rfl,rfl,_,rfl⟩⟩
  have n:∀b∈[e,it],Gf X g (upd H s.heap.objs.size (.tup [.int i,x])) b:=λb f=>by
   have q:=D b f
   refine⟨?_,q.2⟩
   have M:b≠s.heap.objs.size:=by
    rcases cZ.mp f with z|z
    ·rw[z];exact U
    ·rw[cK.mp z];exact li
   rw[rH M]
   exact q.1
  have Z:Inv X g t (upd H s.heap.objs.size (.tup [.int i,x])) {s with heap:=m,toks:=s.toks+1}:=
   Inv.turnedL (s:={s with heap:=s.heap.push {cls:= .type "tuple",data:= .seq #[.int i s.toks,u]},toks:=s.toks}) I0 (fp:=[e,it]) (t':=s.toks+1) (λb o f q=>by
    rcases tF q rfl with q|⟨rfl,rfl⟩
    ·exact kk b o (λz=>f (by simp[z])) (λz=>f (by simp[z])) q
    ·exact T) n
  refine⟨_,rfl,wpAny_letOwnedTupleGo_enum (s:={s with heap:=m,toks:=s.toks+1}) so λh2 se O=>?_⟩
  have V:Inv X g t (upd H s.heap.objs.size (.tup [.int i,x])) {s with heap:=h2,toks:=s.toks+1}:=
   Inv.turnedL (s:={s with heap:=m,toks:=s.toks+1}) Z (fp:=[e,it]) (t':=s.toks+1) (λb o f q=>(O.2 b (λz=>f (by simp[z]))).trans q) n
  refine⟨.ref s.heap.objs.size,_,V,rfl,⟨x,_,λys Q=>by rw[I.list_inj Q r];exact C,rfl,R,rfl⟩,⟨⟨_,se⟩,si.at λo q=>(O.2 it (Ne.symm hne)).trans q⟩,λb f=>(n b f).1⟩
 done:=by
  intro X F y B L i g s t H E I D st G
  subst F y B
  obtain⟨xs,r,C⟩:=G
  obtain⟨N,A,p,Y⟩:=I.list r
  obtain⟨⟨old,j⟩,l⟩:=st
  have hl:=A.length
  exact wpAny_pyNext_enum_end (I.ok.hd L) j l p.isList (by simp;omega) λm eb=>⟨rfl,I.turnedL (fp:=[e,it]) (t':=s.toks) (λb o f q=>eb b o (λz=>f (by simp[z])) q) D⟩
 self:=λ_ _ _ _ _ st h=>by
  obtain⟨⟨old,j⟩,l⟩:=st
  exact nE j h
def Lu(K:cu)(ta:TA):TI:=λσ H R=>ta σ H λvs H1=>∃a,vs=[.ref a]/\(∃xs,SqL K H1 a xs)/\R (KO K a) H1
theorem Aj{elts:List Expr}{x1:Nat}{tpos:Pos}{a:Expr}{ta:TA}{p pos:Pos}(hg:Gl X "enumerate")(hm:X.mg "enumerate"=none)(ha:PA X [a] ta)(hs:dh [a] X.env=[(false,eval a X.env)]:=by rfl):
  PI X (.Tuple elts x1 tpos) (.Call (.Name "enumerate" p) [a] [] pos) (Lu X.K ta):=by
 intro f s j H R I h
 refine rd (tP I hg hm oH (d7 (En (ha pos f s j H _ I h) λG d ⟨vs,k,c,n,y⟩=>?_) hs rfl))
 obtain⟨l,e,⟨F,w⟩,q⟩:=y
 subst e
 cases n with
 | cons r o=>
  cases o
  cases r
  obtain⟨C,D,v,E⟩:=c.list w
  refine call_enumerate_list v.isList λg m u B x=>?_
  refine nE (s:={d with heap:=g}) m ?_
  have t:Inv X f j k {d with heap:=g}:=c.kept (t':=d.toks) x
  refine⟨_,[d.heap.objs.size+1,d.heap.objs.size],_,_,k,rfl,t,AO l _ _ (Nat.succ_ne_self _),⟨⟨_,m⟩,u⟩,λb A=>?_,q⟩
  rcases cZ.mp A with z|z
  ·subst z
   exact c.fpOk (ec _) (c.hok.fresh (ec _))
  ·rw[cK.mp z]
   exact c.fpOk (cI _) (c.hok.fresh (cI _))
end
section
variable{X:Cx}{K:cu}
theorem w6{es:List Expr}{k:Nat}{pos:Pos}{t:JV}(hK:X.K=K)(n:Nat)(hc:X.calm=true)(h:K6 X es t)(hn:(assignEach es X.env).length=n:=by rfl)(hst:(assignEach es X.env).findIdx? (·.1)=none:=by rfl):
  PG X (.Tuple es k pos) (Ku K n t):=by subst hK;exact yO hc h hn hst
theorem CF{T:String}{name:Str}{id:String}{r:V->List V->Hp->VK->Prop}{o e:Expr}{es:List Expr}{apos cpos:Pos}{to:TE}{t:TA}(hK:X.K=K)(pa:PlainAttrs T)(slot:Slot T name id)(hty:typeOf (.builtin id)=pure (.type "method_descriptor"))(hm:KZ X id r)(ho:PE X o to)(ha:PA X (e::es) t)
  (hbase:attributeBase o name X.env (eval o X.env)=eval o X.env:=by rfl)
  (hfew:((backTo cpos (dh (e::es) X.env)).all (λx=>!x.1)&&(backToKw cpos (keywordEach [] X.env)).all (λx=>x.1.isSome)
   && decide ((e::es).length+([]:List Keyword).length+(if([]:List Keyword).isEmpty then 0 else 1)<30))=true:=by rfl)
  (hline:(apos.endLine==cpos.line)=true:=by rfl)(hs:dh (e::es) X.env=(false,eval e X.env)::dh es X.env:=by rfl)(hplain:(backTo cpos (dh es X.env)).any (·.1)=false:=by rfl):
  PE X (.Call (.Attribute o name apos) (e::es) [] cpos) (MJ K T r to t):=by subst hK;exact uP pa slot hty hm ho ha hbase hfew hline hs hplain
end
theorem Cd{K:cu}{a:cG}{xs:List V}{g:TG}{tb:TS}{D:GC}{σ:St}{H:Hp}(Pv:Nat->St->Hp->Prop)(h0:Pv 0 σ H)(hl:∀i σ H,i<=xs.length->Pv i σ H->SqL K H a xs)
  (hs:∀i x σ H t,xs[i]?=some x->H t=none->Pv i σ H->g (.ref t) σ (upd H t (.tup [.int i,x])) λσ2 H2=>tb {D with nx:=Pv (i+1),ct:=Pv (i+1),bk:=D.nx} σ2 H2)(hd:∀σ H,Pv xs.length σ H->D.nx σ H):
  ∃W:Nat->Nat->St->Hp->Prop,(∃m,W 0 m σ H)/\∀i m σ H,W i m σ H->
   ((KO K a).stop i H/\D.nx σ H)\/((KO K a).go i H/\∃N:St->Hp->Prop,(∀σ' H',N σ' H'->∃m',m'<m/\W (i+1) m' σ' H')/\∀x H',(KO K a).yld i H x H'->g x σ H' λσ2 H2=>tb {D with nx:=N,ct:=N,bk:=D.nx} σ2 H2):=by
 refine⟨λi m σ H=>m=xs.length-i/\i<=xs.length/\Pv i σ H,⟨xs.length,by simp,du _,h0⟩,?_⟩
 rintro i m σ H ⟨rfl,c,p⟩
 have q:=hl i σ H c p
 by_cases b:i<xs.length
 ·refine .inr ⟨⟨xs,xs[i],q,by simp[b]⟩,Pv (i+1),λσ' H' d=>⟨xs.length-(i+1),by omega,rfl,b,d⟩,λx H' y=>?_⟩
  obtain⟨y,t,h1,rfl,h3,rfl⟩:=y
  exact hs i y σ H t (h1 xs q) h3 p
 ·have e:i=xs.length:=by omega
  subst e
  exact .inl ⟨⟨xs,q,cI _⟩,hd σ H p⟩
theorem zV{K:cu}{a:cG}{xs:List V}{caps:List (Option Nat)}{g:TG}{tt:TT}{te:TE}{σ:St}{QQ:List V->Hp->Prop}{H:Hp}(Pv:Nat->List V->Hp->Prop)(h0:Pv 0 [] H)
  (hl:∀i ys H,i<=xs.length->Pv i ys H->SqL K H a xs)
  (hs:∀i x ys H t,xs[i]?=some x->H t=none->Pv i ys H->g (.ref t) (E8 caps σ) (upd H t (.tup [.int i,x])) λσ2 H2=>tt σ2 H2 λb H3=>if b=true then te σ2 H3 λy H4=>ys.length<sizeLine/\Pv (i+1) (ys++[y]) H4 else Pv (i+1) ys H3)
  (hd:∀ys H,Pv xs.length ys H->QQ ys H):EG caps g tt te σ QQ (KO K a) H:=by
 refine⟨λi m ys H=>m=xs.length-i/\i<=xs.length/\Pv i ys H,⟨xs.length,by simp,du _,h0⟩,?_⟩
 rintro i m ys H ⟨rfl,f,p⟩
 have q:=hl i ys H f p
 by_cases c:i<xs.length
 ·refine .inr ⟨⟨xs,xs[i],q,by simp[c]⟩,Pv (i+1),λj d h=>⟨xs.length-(i+1),by omega,rfl,c,h⟩,λx d y=>?_⟩
  obtain⟨y,t,h1,rfl,h3,rfl⟩:=y
  exact hs i y ys H t (h1 xs q) h3 p
 ·have e:i=xs.length:=by omega
  subst e
  exact .inl ⟨⟨xs,q,cI _⟩,hd ys H p⟩
theorem za{K:cu}{a:cG}{xs:List V}{caps:List (Option Nat)}{g:TG}{te:TE}{σ:St}{QQ:List V->Hp->Prop}{H:Hp}(Pv:Nat->List V->Hp->Prop)(h0:Pv 0 [] H)
  (hl:∀i ys H,i<=xs.length->Pv i ys H->SqL K H a xs)
  (hs:∀i x ys H t,xs[i]?=some x->H t=none->Pv i ys H->g (.ref t) (E8 caps σ) (upd H t (.tup [.int i,x])) λσ2 H2=>te σ2 H2 λy H4=>ys.length<sizeLine/\Pv (i+1) (ys++[y]) H4)
  (hd:∀ys H,Pv xs.length ys H->QQ ys H):EG caps g Gb te σ QQ (KO K a) H:=
 zV Pv h0 hl (λi x ys H t c b p=>by simp only[tO];exact hs i x ys H t c b p) hd
def IsR(K:cu)(H:Hp)(v:V)(row:List Int):Prop:=∃a,v = .ref a/\SqT K H a (row.map V.int)
theorem IsR.mono{K:cu}{H H':Hp}{v:V}{row:List Int}(e:Same H H')(h:IsR K H v row):IsR K H' v row:=by
 obtain⟨a,rfl,q⟩:=h;exact⟨a,rfl,e.tup q⟩
def Ez(x y:Int×Int):Bool:=decide (x.1*y.2<y.1*x.2)
end L2
namespace EM
open LM
def at0(ms:List Int)(t:Int):Int:=ms.getD t.toNat 0
def best(ms:List Int)(w:List Int):Int:=(w.filter λt=>decide (at0 ms t≠0)).headD 0
def dishes(W:List (List Int))(ms:List Int):List Int:=W.map (best ms)
def cnt(ds:List Int)(t:Int):Int:=(ds.count t:Nat)
def Fa(ds ms:List Int):Int->List Int->Int
 | s,[]=>s
 | s,t::r=>Fa ds ms (if at0 ms t*cnt ds s<at0 ms s*cnt ds t then t else s) r
def pick(ds ms:List Int):Int:=Fa ds ms (ds.headD 0) ds
def nextMs(ds ms:List Int):List Int:=(rng ms.length).map λj=>at0 ms j*cnt ds (pick ds ms)-cnt ds j*at0 ms (pick ds ms)
structure Course where
 m:Int
 D:Int
 ds:List Int
 gone:List Int
def goneOf(ds ms':List Int):List Int:=(rng ms'.length).filter λt=>decide (t∈ds)&&decide (at0 ms' t=0)
def FU(W:List (List Int))(D:Int)(ms:List Int):Course:=
 ⟨at0 ms (pick (dishes W ms) ms),D*cnt (dishes W ms) (pick (dishes W ms) ms),dishes W ms,goneOf (dishes W ms) (nextMs (dishes W ms) ms)⟩
def nz(ms:List Int):Nat:=((rng ms.length).filter λt=>decide (at0 ms t≠0)).length
theorem at0_mem{ms:List Int}{t:Int}(h0:0<=t)(h:t<ms.length):at0 ms t∈ms:=by
 unfold at0;have h1:t.toNat<ms.length:=by omega
 rw[cC,cz h1];exact cW h1
theorem At{ms w:List Int}(h:∃t∈w,at0 ms t≠0):best ms w∈w/\at0 ms (best ms w)≠0:=by
 obtain⟨t,d,f⟩:=h;have b:t∈w.filter λt=>decide (at0 ms t≠0):=d8.mpr ⟨d,decide_eq_true f⟩
 unfold best
 cases c:w.filter λt=>decide (at0 ms t≠0)with
 | nil=>rw[c]at b;cases b
 | cons a r=>
  have e:a∈w.filter λt=>decide (at0 ms t≠0):=by rw[c];exact cM
  have:=d8.mp e;exact⟨this.1,of_decide_eq_true this.2⟩
theorem xI{a b e c d f:Int}(hd:0<d)(hc:0<=c)(hf:0<=f)(h1:a*d<=b*c)(h2:b*f<=e*d):a*f<=e*c:=by
 have h3:a*d*f<=b*c*f:=e7 h1 hf;have h4:b*f*c<=e*d*c:=e7 h2 hc;refine Int.le_of_mul_le_mul_right (a:=d) ?_ hd;have j:a*f*d=a*d*f:=by rw[fW]
 have g:b*c*f=b*f*c:=by rw[fW]
 have h:e*c*d=e*d*c:=by rw[fW]
 rw[j,h];rw[g]at h3;exact nF h3 h4
theorem cnt_pos{ds:List Int}{t:Int}(h:t∈ds):0<cnt ds t:=by
 have:=List.count_pos_iff.mpr h;unfold cnt;omega
theorem cnt_nn(ds:List Int)(t:Int):0<=cnt ds t:=by unfold cnt;omega
theorem w9{ds:List Int}{t:Int}(h:t∉ds):cnt ds t=0:=by
 unfold cnt;rw[mQ.mpr h];rfl
theorem cnt_le(ds:List Int)(t:Int):cnt ds t<=ds.length:=by
 have:=List.count_le_length (a:=t) (l:=ds);unfold cnt;omega
theorem uq{ds ms:List Int}:∀(r:List Int) (s:Int),s∈ds->(∀t∈r,t∈ds)->
  Fa ds ms s r∈ds/\at0 ms (Fa ds ms s r)*cnt ds s<=at0 ms s*cnt ds (Fa ds ms s r)/\∀t∈r,at0 ms (Fa ds ms s r)*cnt ds t<=at0 ms t*cnt ds (Fa ds ms s r)
 | [],s,hs,_=>⟨hs,fE _,λt f=>by cases f⟩
 | t::r,s,hs,hr=>by
  have f:=hr t cM
  have g:∀u∈r,u∈ds:=λu e=>hr u (cO _ e)
  unfold Fa
  by_cases c:at0 ms t*cnt ds s<at0 ms s*cnt ds t
  ·rw[if_pos c]
   obtain⟨a,b,d⟩:=uq (ms:=ms) r t f g
   refine⟨a,?_,λu e=>?_⟩
   ·exact xI (cnt_pos f) (cnt_nn _ _) (cnt_nn _ _) b (fq c)
   ·rcases cZ.mp e with rfl|e
    ·exact b
    ·exact d u e
  ·rw[if_neg c]
   obtain⟨a,b,d⟩:=uq (ms:=ms) r s hs g
   refine⟨a,b,λu e=>?_⟩
   rcases cZ.mp e with rfl|e
   ·exact xI (cnt_pos hs) (cnt_nn _ _) (cnt_nn _ _) b (oO.mp c)
   ·exact d u e
theorem xG{ds ms:List Int}(h:ds≠[]):pick ds ms∈ds/\∀t∈ds,at0 ms (pick ds ms)*cnt ds t<=at0 ms t*cnt ds (pick ds ms):=by
 cases ds with
 | nil=>exact absurd rfl h
 | cons a r=>
  have:=uq (ds:=a::r) (ms:=ms) (a::r) a cM λ_ h=>h
  exact⟨this.1,this.2.2⟩
theorem Al(ms:List Int):(rng ms.length).map (at0 ms)=ms:=by
 conv=>rhs;rw[<-vZ ms]
 unfold rng;rw[ik];rfl
theorem Cg(ds ms:List Int):(nextMs ds ms).length=ms.length:=by
 unfold nextMs;rw[cx,rng_len]
theorem rng_get{n k:Nat}(h:k<n):(rng n)[k]?=some (k:Int):=by
 unfold rng;rw[cH,d9 h];rfl
theorem at0_next{ds ms:List Int}{t:Int}(h0:0<=t)(h:t<ms.length):at0 (nextMs ds ms) t=at0 ms t*cnt ds (pick ds ms)-cnt ds t*at0 ms (pick ds ms):=by
 have h1:t.toNat<ms.length:=by omega
 have e:((t.toNat:Nat):Int)=t:=by omega
 conv=>lhs;unfold at0 nextMs
 rw[cC,cH,rng_get h1,e];rfl
theorem sum_zero:∀{ms:List Int},(∀m∈ms,0<=m)->ms.sum=0->∀m∈ms,m=0
 | [],_,_,m,h=>by cases h
 | a::r,hn,hs,m,h=>by
  have f:=hn a cM
  have e:0<=r.sum:=by
   have:∀{r:List Int},(∀m∈r,0<=m)->0<=r.sum:=by
    intro r
    induction r with
    | nil=>intro _;exact fE 0
    | cons b q d=>intro h;rw[eR];have:=h b cM;have:=d λm c=>h m (cO _ c);omega
   exact this λm c=>hn m (cO _ c)
  rw[eR]at hs
  rcases cZ.mp h with rfl|h
  ·omega
  ·exact sum_zero (λm c=>hn m (cO _ c)) (by omega) m h
theorem t8:∀{ms:List Int},(∀m∈ms,m=0)->ms.sum=0
 | [],_=>rfl
 | a::r,h=>by rw[eR,h a cM,t8 λm b=>h m (cO _ b)];rfl
theorem some_left{ms:List Int}(h:ms.sum≠0):∃t:Int,0<=t/\t<ms.length/\at0 ms t≠0:=
 dM λc=>h (t8 λm a=>by
  obtain⟨k,hk,e⟩:=eO.mp a
  refine dM λz=>c ⟨(k:Nat),by omega,by omega,?_⟩
  unfold at0
  rw[cC,gb,cz hk,e]
  exact z)
theorem AM{d:Int}:∀{l:List Int},l.Nodup->((d∈l->(l.map λj=>if d=j then(1:Int)else 0).sum=1)/\(d∉l->(l.map λj=>if d=j then(1:Int)else 0).sum=0))
 | [],_=>⟨λh=>(by cases h),λ_=>rfl⟩
 | a::r,hn=>by
  obtain⟨h1,h2⟩:=fz.mp hn
  obtain⟨c,b⟩:=AM (d:=d) h2
  rw[dN,eR]
  by_cases e:d=a
  ·subst e
   exact⟨λ_=>by rw[if_pos rfl,b h1];rfl,λh=>absurd cM h⟩
  ·rw[if_neg e]
   exact⟨λh=>by rw[c ((cZ.mp h).resolve_left e)];rfl,λh=>by rw[b λz=>h (cO _ z)];rfl⟩
theorem vQ{f g:Int->Int}:∀l:List Int,(l.map λj=>f j+g j).sum=(l.map f).sum+(l.map g).sum
 | []=>rfl
 | a::r=>by rw[dN,dN,dN,eR,eR,eR,vQ r];omega
theorem vG{f g:Int->Int}{a b:Int}:∀l:List Int,(l.map λj=>f j*a-g j*b).sum=(l.map f).sum*a-(l.map g).sum*b
 | []=>by simp
 | x::r=>by
  rw[dN,dN,dN,eR,eR,eR,vG r,gT,gT]
  omega
theorem BA(d:Int)(ds:List Int)(j:Int):cnt (d::ds) j=cnt ds j+if d=j then 1 else 0:=by
 unfold cnt;rw[List.count_cons];by_cases e:d=j
 ·rw[if_pos e,if_pos (by simp[e])];rfl
 ·rw[if_neg e,if_neg (by simp[e])];rfl
theorem z4{n:Nat}:∀{ds:List Int},(∀d∈ds,0<=d/\d<n)->((rng n).map (cnt ds)).sum=ds.length
 | [],_=>t8 λm a=>by
  obtain⟨j,_,rfl⟩:=dv.mp a
  rfl
 | d::ds,h=>by
  have c:=z4 (n:=n) (ds:=ds) λx b=>h x (cO _ b)
  have e:(rng n).map (cnt (d::ds))=(rng n).map λj=>cnt ds j+if d=j then 1 else 0:=fF λj _=>BA d ds j
  rw[e,vQ,c,(AM (rng_nodup n)).1 (mem_rng.mpr (h d cM)),dQ]
  omega
theorem xu{p q:Int->Bool}:∀{l:List Int},(∀x∈l,q x=true->p x=true)->(l.filter q).length<=(l.filter p).length/\((∃x∈l,p x=true/\q x=false)->(l.filter q).length<(l.filter p).length)
 | [],_=>⟨cI _,λ⟨x,h,_⟩=>by cases h⟩
 | a::r,h=>by
  obtain⟨j,f⟩:=xu (p:=p) (q:=q) (l:=r) λx b=>h x (cO _ b)
  have g:=h a cM
  rw[nY,nY]
  cases d:q a with
  | true=>
   rw[if_pos rfl,if_pos (g d),dQ,dQ]
   refine⟨by omega,λ⟨x,b,hp,c⟩=>?_⟩
   rcases cZ.mp b with rfl|b
   ·rw[d]at c;cases c
   ·have:=f ⟨x,b,hp,c⟩;omega
  | false=>
   rw[if_neg (by decide)]
   cases e:p a with
   | true=>rw[if_pos rfl,dQ];exact⟨by omega,λ_=>by omega⟩
   | false=>
    rw[if_neg (by decide)]
    refine⟨j,λ⟨x,b,hp,c⟩=>?_⟩
    rcases cZ.mp b with rfl|b
    ·rw[e]at hp;cases hp
    ·exact f ⟨x,b,hp,c⟩
structure St(n:Nat)(D:Int)(ms:List Int)(T:Int)(G:List Int):Prop where
 pos:0<D
 len:ms.length=n
 nn:∀m∈ms,0<=m
 le:∀m∈ms,m<=D
 sum:ms.sum=n*(D-T)
 T0:0<=T
 gone:∀t:Int,0<=t->t<n->(t∈G↔at0 ms t=0)
 inG:∀t∈G,0<=t/\t<n
 nd:G.Nodup
 big:D<=8^(n-nz ms)
theorem DL(ms:List Int):nz ms<=ms.length:=by
 unfold nz;exact dg (d6 ..) (by rw[rng_len];exact cI _)
theorem St.start{n:Nat}:St n 1 (fA n 1) 0 []:=by
 have a:∀t:Int,0<=t->t<n->at0 (fA n (1:Int)) t=1:=λt h0 h=>by
  unfold at0;rw[cC,List.getElem?_replicate_of_lt (by omega)];rfl
 refine⟨by decide,eT,λm h=>?_,λm h=>?_,?_,fE 0,λt h0 h=>⟨λz=>(by cases z),λz=>?_⟩,λt h=>(by cases h),hX,?_⟩
 ·rw[(mR.mp h).2];decide
 ·rw[(mR.mp h).2];decide
 ·have:∀n:Nat,(fA n (1:Int)).sum=n:=by
   intro n
   induction n with
   | zero=>rfl
   | succ k b=>rw[List.replicate_succ,eR,b];omega
  rw[this];omega
 ·rw[a t h0 h]at z;cases z
 ·exact_mod_cast Nat.one_le_pow _ _ (by decide)
section
variable{n:Nat}{W:List (List Int)}{D T:Int}{ms G:List Int}
theorem C1(S:St n D ms T G)(hW:∀w∈W,w.Perm (rng n))(hs:ms.sum≠0){w:List Int}(hw:w∈W):(0<=best ms w/\best ms w<n)/\at0 ms (best ms w)≠0/\best ms w∈w:=by
 obtain⟨t,h0,h1,c⟩:=some_left hs;rw[S.len]at h1;obtain⟨a,b⟩:=At (ms:=ms) (w:=w) ⟨t,(hW w hw).mem_iff.mpr (mem_rng.mpr ⟨h0,h1⟩),c⟩;exact⟨mem_rng.mp ((hW w hw).mem_iff.mp a),b,a⟩
theorem dish_ok(S:St n D ms T G)(hW:∀w∈W,w.Perm (rng n))(hs:ms.sum≠0){d:Int}(hd:d∈dishes W ms):(0<=d/\d<n)/\at0 ms d≠0:=by
 obtain⟨w,a,rfl⟩:=dv.mp hd;have:=C1 S hW hs a;exact⟨this.1,this.2.1⟩
theorem A3(S:St n D ms T G)(hl:W.length=n)(hn1:1<=n)(hn6:n<=6)(hW:∀w∈W,w.Perm (rng n))(hs:ms.sum≠0):
  0<(FU W D ms).m/\0<cnt (dishes W ms) (pick (dishes W ms) ms)/\cnt (dishes W ms) (pick (dishes W ms) ms)<=6/\pick (dishes W ms) ms∈(FU W D ms).gone/\
  nz (nextMs (dishes W ms) ms)<nz ms/\
  St n (FU W D ms).D (nextMs (dishes W ms) ms) (T*cnt (dishes W ms) (pick (dishes W ms) ms)+(FU W D ms).m) (G++(FU W D ms).gone):=by
 have o:(dishes W ms).length=n:=by unfold dishes;rw[cx,hl]
 have M:dishes W ms≠[]:=λz=>by rw[z]at o;simp at o;omega
 have v:=λ {d:Int} (h:d∈dishes W ms)=>dish_ok S hW hs h
 unfold FU
 dsimp only
 generalize dishes W ms=f at *
 obtain⟨I,J⟩:=xG (ms:=ms) M
 have g:=cnt_pos I
 have N:=cnt_le f (pick f ms)
 rw[o]at N
 obtain⟨⟨y,A⟩,pn⟩:=v I
 have B:0<at0 ms (pick f ms):=by
  have:=S.nn _ (at0_mem y (by rw[S.len];exact A));omega
 have u:∀t:Int,0<=t->t<n->at0 (nextMs f ms) t=at0 ms t*cnt f (pick f ms)-cnt f t*at0 ms (pick f ms):=λt h0 h1=>at0_next h0 (by rw[S.len];exact h1)
 have p:(nextMs f ms).length=n:=by rw[Cg,S.len]
 have l:∀t:Int,0<=t->t<n->at0 ms t=0->at0 (nextMs f ms) t=0:=λt h0 h1 z=>by
  have:t∉f:=λq=>(v q).2 z
  rw[u t h0 h1,z,w9 this];omega
 have F:∀t:Int,0<=t->t<n->at0 ms t≠0->at0 (nextMs f ms) t=0->t∈f:=λt h0 h1 z q=>dM λc=>by
  rw[u t h0 h1,w9 c,ju,qi]at q
  rcases ow.mp q with q|q
  ·exact z q
  ·omega
 have C:at0 (nextMs f ms) (pick f ms)=0:=by
  rw[u _ y A,gn];omega
 have k:∀t:Int,t∈goneOf f (nextMs f ms)↔(0<=t/\t<n)/\t∈f/\at0 (nextMs f ms) t=0:=λt=>by
  unfold goneOf
  rw[d8,p,mem_rng,dn,decide_eq_true_iff,decide_eq_true_iff]
 have L:nz (nextMs f ms)<nz ms:=by
  unfold nz
  rw[p,S.len]
  refine(xu λx Q h=>?_).2 ⟨pick f ms,mem_rng.mpr ⟨y,A⟩,decide_eq_true pn,by rw[C];rfl⟩
  have E:=mem_rng.mp Q
  exact decide_eq_true λz=>of_decide_eq_true h (l x E.1 E.2 z)
 refine⟨B,g,by omega,(k _).mpr ⟨⟨y,A⟩,I,C⟩,L,gU S.pos g,p,?_,?_,?_,?_,λt h0 h1=>?_,λt h=>?_,?_,?_⟩
 ·intro m r
  unfold nextMs at r
  obtain⟨j,s,rfl⟩:=dv.mp r
  rw[S.len]at s
  obtain⟨K,H⟩:=mem_rng.mp s
  by_cases c:j∈f
  ·have:=J j c
   rw[gn (cnt f j)];omega
  ·rw[w9 c,ju]
   have:=iQ (S.nn _ (at0_mem K (by rw[S.len];exact H))) (fq g)
   omega
 ·intro m r
  unfold nextMs at r
  obtain⟨j,s,rfl⟩:=dv.mp r
  rw[S.len]at s
  obtain⟨K,H⟩:=mem_rng.mp s
  have h1:=e7 (S.le _ (at0_mem K (by rw[S.len];exact H))) (fq g)
  have h2:=iQ (cnt_nn f j) (fq B)
  omega
 ·unfold nextMs
  rw[vG,Al,S.len,z4 (n:=n) (λd h=>(v h).1),o,S.sum]
  rw[pP,<-Int.mul_sub,jN,Int.sub_sub]
 ·have:=iQ S.T0 (fq g);omega
 ·rw[dJ,S.gone t h0 h1,k]
  constructor
  ·rintro(z|z)
   ·exact l t h0 h1 z
   ·exact z.2.2
  ·intro z
   by_cases c:at0 ms t=0
   ·exact .inl c
   ·exact .inr ⟨⟨h0,h1⟩,F t h0 h1 c z,z⟩
 ·rcases dJ.mp h with h|h
  ·exact S.inG t h
  ·exact((k t).mp h).1
 ·refine gv.mpr ⟨S.nd,?_,λa R b V e=>?_⟩
  ·unfold goneOf
   exact(rng_nodup _).filter _
  ·subst e
   obtain⟨q,U,_⟩:=(k a).mp V
   exact(v U).2 ((S.gone a q.1 q.2).mp R)
 ·have O:cnt f (pick f ms)<=8:=by omega
  have h1:=jv S.big O (fq g) (by exact_mod_cast du _)
  refine nF h1 ?_
  have e:(8:Int)^(n-nz ms)*8=8^(n-nz ms+1):=(Int.pow_succ ..).symm
  rw[e]
  have P:=DL ms
  rw[S.len]at P
  exact_mod_cast eB (by decide) (show n-nz ms+1<=n-nz (nextMs f ms)by omega)
theorem CP(S:St n D ms T G)(hn1:1<=n)(hs:ms.sum=0):T=D/\G.Perm (rng n):=by
 have a:=sum_zero S.nn hs;refine⟨?_,?_⟩
 ·have:=S.sum;rw[hs]at this;rcases ow.mp this.symm with h|h <;> omega
 ·refine(gc S.nd (rng_nodup n)).mpr λt=>?_
  rw[mem_rng];exact⟨S.inG t,λh=>(S.gone t h.1 h.2).mpr (a _ (at0_mem h.1 (by rw[S.len];exact h.2)))⟩
end
end EM
namespace EM
open LM
structure KS where
 D:Int
 ms:List Int
 T:Int
 G:List Int
def s0(n:Nat):KS:=⟨1,fA n 1,0,[]⟩
def cs(W:List (List Int))(s:KS):Course:=FU W s.D s.ms
def cn(W:List (List Int))(s:KS):Int:=cnt (dishes W s.ms) (pick (dishes W s.ms) s.ms)
def nxt(W:List (List Int))(s:KS):KS:=⟨s.D*cn W s,nextMs (dishes W s.ms) s.ms,s.T*cn W s+(cs W s).m,s.G++(cs W s).gone⟩
def st(W:List (List Int))(n:Nat):Nat->KS
 | 0=>s0 n
 | i+1=>nxt W (st W n i)
def Upto(W:List (List Int))(n N:Nat):Prop:=∀i,i<N->(st W n i).ms.sum≠0
theorem Upto.mono{W:List (List Int)}{n N M:Nat}(h:Upto W n N)(hM:M<=N):Upto W n M:=λi a=>h i (by omega)
theorem Upto.snoc{W:List (List Int)}{n N:Nat}(h:Upto W n N)(hs:(st W n N).ms.sum≠0):Upto W n (N+1):=λi a=>by
 rcases fP.mp a with z|z
 ·exact h i z
 ·rw[z];exact hs
structure Stops(W:List (List Int))(n N:Nat):Prop where
 up:Upto W n N
 last:(st W n N).ms.sum=0
theorem Stops.uniq{W:List (List Int)}{n N M:Nat}(h:Stops W n N)(h':Stops W n M):N=M:=by
 rcases iE N M with z|z|z
 ·exact absurd h.last (h'.up N z)
 ·exact z
 ·exact absurd h'.last (h.up M z)
structure Ws(n:Nat)(W:List (List Int)):Prop where
 n1:1<=n
 n6:n<=6
 len:W.length=n
 pm:∀w∈W,w.Perm (rng n)
section
variable{W:List (List Int)}{n:Nat}
theorem st_ok(h:Ws n W):∀i,Upto W n i->St n (st W n i).D (st W n i).ms (st W n i).T (st W n i).G/\nz (st W n i).ms+i<=n
 | 0,_=>⟨St.start,by
  have:=DL (fA n 1)
  rw[eT]at this
  exact this⟩
 | i+1,hu=>by
  obtain⟨S,d⟩:=st_ok h i (hu.mono (by omega))
  have b:=hu i (by omega)
  obtain⟨_,_,_,_,c,a⟩:=A3 S h.len h.n1 h.n6 h.pm b
  refine⟨a,?_⟩
  show nz (nextMs (dishes W (st W n i).ms) (st W n i).ms)+(i+1)<=n
  omega
theorem upto_le(h:Ws n W){i:Nat}(hu:Upto W n i):i<=n:=by have:=(st_ok h i hu).2;omega
theorem D_le{D T:Int}{ms G:List Int}(S:St n D ms T G)(hn:n<=6):D<=262144:=by
 have h:=S.big;have h2:(8:Int)^(n-nz ms)<=8^6:=by
  have:(8:Nat)^(n-nz ms)<=8^6:=eB (by decide) (by omega)
  exact_mod_cast this
 have e:(8:Int)^6=262144:=by decide
 omega
structure Mg(W:List (List Int))(n:Nat)(s:KS):Prop where
 S:St n s.D s.ms s.T s.G
 S':St n (nxt W s).D (nxt W s).ms (nxt W s).T (nxt W s).G
 m0:0<(cs W s).m
 mD:(cs W s).m<=s.D
 c0:0<cn W s
 c6:cn W s<=6
 ne:(cs W s).gone≠[]
 dl:(dishes W s.ms).length=n
 dm:∀d∈dishes W s.ms,(0<=d/\d<n)/\at0 s.ms d≠0
theorem step_of(h:Ws n W){i:Nat}(hu:Upto W n i)(hs:(st W n i).ms.sum≠0):Mg W n (st W n i):=by
 obtain⟨S,_⟩:=st_ok h i hu;obtain⟨a,b,c,d,_,k⟩:=A3 S h.len h.n1 h.n6 h.pm hs;have e:(dishes W (st W n i).ms).length=n:=by unfold dishes;rw[cx,h.len]
 have f:∀d∈dishes W (st W n i).ms,(0<=d/\d<n)/\at0 (st W n i).ms d≠0:=λd j=>dish_ok S h.pm hs j
 have g:dishes W (st W n i).ms≠[]:=λz=>by rw[z]at e;have:=h.n1;simp at e;omega
 have hp:=f _ (xG (ms:=(st W n i).ms) g).1;refine⟨S,k,a,?_,b,c,(λz=>by unfold cs at z;rw[z]at d;cases d),e,f⟩;exact S.le _ (at0_mem hp.1.1 (by rw[S.len];exact hp.1.2))
def et(W:List (List Int))(n:Nat):Nat->Nat->Int->Int
 | 0,_,_=>0
 | i+1,p,t=>et W n i p t*cn W (st W n i)+if(dishes W (st W n i).ms).getD p 0=t then(cs W (st W n i)).m else 0
theorem et_bd(h:Ws n W)(p:Nat)(t:Int):∀i,Upto W n i->0<=et W n i p t/\et W n i p t<=(st W n i).T
 | 0,_=>⟨fE _,fE _⟩
 | i+1,hu=>by
  obtain⟨a,b⟩:=et_bd h p t i (hu.mono (by omega))
  have s:=step_of h (hu.mono (ec i)) (hu i (dH i))
  have h1:=iQ a (fq s.c0)
  have h2:=e7 b (fq s.c0)
  have h3:=s.m0
  show 0<=et W n i p t*cn W (st W n i)+_/\et W n i p t*cn W (st W n i)+_<=(st W n i).T*cn W (st W n i)+(cs W (st W n i)).m
  split <;> omega
theorem all_gone(h:Ws n W){N:Nat}(hN:Stops W n N):(st W n N).T=(st W n N).D/\(st W n N).G.Perm (rng n):=CP (st_ok h N hN.up).1 h.n1 hN.last
end
theorem nodup_len:∀(n:Nat) {l:List Int},l.Nodup->(∀x∈l,0<=x/\x<(n:Int))->l.length<=n
 | 0,l,_,h=>by
  cases l with
  | nil=>exact cI _
  | cons x r=>have:=h x cM;omega
 | n+1,l,hn,h=>by
  have c:=nodup_len n (l:=l.erase (n:Int)) (hn.erase _) λx b=>by
   have h1:=h x (List.mem_of_mem_erase b)
   have h2:x≠(n:Int):=λz=>by rw[z]at b;exact(hn.not_mem_erase) b
   omega
  have:=List.length_erase (a:=(n:Int)) (l:=l)
  split at this <;> omega
theorem gone_eq{ns ds ms:List Int}(hm:∀i,i∈ns↔i∈ds)(hn:ns.Nodup)(hs:ns.Pairwise (· <= ·))(hd:∀d∈ds,0<=d/\d<ms.length):ns.filter (λt=>decide (at0 ms t=0))=goneOf ds ms:=by
 refine yp (b:=[]) ?_ (hs.filter _) ((zj _).filter _);refine(gc (hn.filter _) ((rng_nodup _).filter _)).mpr λt=>?_
 rw[d8,d8,hm,mem_rng];constructor
 ·rintro⟨a,b⟩;exact⟨hd t a,by rw[decide_eq_true a,b];rfl⟩
 ·rintro⟨_,b⟩;have:=(dn _ _).mp b;exact⟨of_decide_eq_true this.1,this.2⟩
end EM
namespace L2
open PySem PySem.Spec PyProof.Rows
def Ee(b:Nat->Bool):List Nat:=(db 6).filter b
def Ey(S:List Nat)(led:Bool):SetTable:=⟨if S.length<=4 then 7 else 31,S.toArray,#[],0,led,if S.length<=4 then 0 else 1,true⟩
def Iv:List Nat->List (List Nat)
 | []=>[[]]
 | a::r=>Iv r++(Iv r).map (a :: ·)
theorem wL:∀{l S:List Nat},S.Sublist l->S∈Iv l
 | _,_,.slnil=>cK.mpr rfl
 | _,_,.cons a h=>dJ.mpr (.inl (wL h))
 | _,_,.cons₂ a h=>dJ.mpr (.inr (dv.mpr ⟨_,wL h,rfl⟩))
theorem tT(b:Nat->Bool):Ee b∈Iv (db 6):=wL List.filter_sublist
def FJ(S:List Nat)(v:Nat):Nat:=(S.filter (· < v)).length
def GO(S:List Nat)(v:Nat):List Nat:=S.take (FJ S v)++v::S.drop (FJ S v)
def HH(S:List Nat)(v:Nat)(led:Bool):Bool:=
 match(Ey S led).freeSlot (v:Int)with
 | some (j,d)=>
  let q:=(Ey S led).put j
  decide (j=v) && !d&&decide (q.2=FJ S v)&&q.1.fits (S.length+1)&&decide (q.1.plain=true) &&
  (if q.1.tooFull then
   match q.1.relaid ((GO S v).map hV).toArray (kg (S.length+1))with
   | some (t',o)=>decide (t'=Ey (GO S v) led)&&decide (o=(db (S.length+1)).toArray)&&t'.fits (S.length+1)&&coversAll o (S.length+1)
   | none=>false
  else decide (q.1=Ey (GO S v) led))
 | none=>false
theorem Dk:∀S∈Iv (db 6),∀v∈db 6,v∉S->HH S v true=true/\HH S v false=true:=by decide +kernel
theorem C0:∀S∈Iv (db 6),∀v∈db 6,v∉S->GO S v=(db 6).filter λx=>decide (x∈S)||x==v:=by decide +kernel
theorem BB:∀S∈Iv (db 6),(Ey S true).fits S.length=true/\(Ey S false).fits S.length=true:=by decide +kernel
def HQ(S:List Nat)(led:Bool):Bool:=
 (db (S.length+1)).all λi=>decide (oS (Ey S led).place (if i=0 then 0 else(S.getD (i-1) 0)+1)=i)
theorem BO:∀S∈Iv (db 6),HQ S true=true/\HQ S false=true:=by decide +kernel
def GJ(tok:Nat->Tok)(v:Nat):Int×cA:=((v:Int),dX (v:Int) (tok v))
def SetIs(h:Heap)(a:cG)(b:Nat->Bool)(led:Bool):Prop:=
 ∃(o:Obj) (es:Array (Int×cA)) (ep:Nat) (tok:Nat->Tok),h.get? a=some o/\o.ExactSet/\o.data = .set es ep (Ey (Ee b) led)/\es.toList=(Ee b).map (GJ tok)
theorem tj{b:Nat->Bool}{v:Nat}:v∈Ee b↔v<6/\b v=true:=by
 unfold Ee;rw[d8,dY]
theorem uL(b:Nat->Bool):(Ee b).length<=6:=by
 unfold Ee;exact dg (d6 ..) (by rw[fb];exact cI _)
theorem tz(b:Nat->Bool)(led:Bool):(Ey (Ee b) led).fits (Ee b).length=true:=by
 have:=BB _ (tT b)
 cases led
 ·exact this.2
 ·exact this.1
theorem xM{b:Nat->Bool}{v:Nat}(hv:v<6)(hb:b v=false):GO (Ee b) v=Ee λx=>b x||x==v:=by
 rw[C0 _ (tT b) v (dY.mpr hv) λz=>by rw[(tj.mp z).2]at hb;cases hb];unfold Ee;refine gV λx a=>?_
 have:decide (x∈qE b (db 6))=b x:=by
  rw[gx,decide_eq_true_iff,d8];exact⟨λh=>h.2,λh=>⟨a,h⟩⟩
 rw[this]
theorem xD{b:Nat->Bool}{v:Nat}(hb:b v=true):(Ee λx=>b x||x==v)=Ee b:=by
 unfold Ee;refine gV λx a=>?_
 by_cases e:x=v
 ·subst e;rw[hb];rfl
 ·rw[beq_false_of_ne e,kJ]
theorem wm(v:Nat)(hv:v<6):hashInt (v:Int)=v:=
 (show ∀v∈db 6,hashInt ((v:Nat):Int)=v by decide +kernel) v (dY.mpr hv)
theorem wZ{α:Type}(xs:Array α):Array.filterMap (λx=>xs[x]?) (db xs.size).toArray=xs:=by
 apply oN;rw[Array.toList_filterMap];have:∀(l:List α),oU (λx=>l[x]?) (db l.length)=l:=by
  intro l
  induction l with
  | nil=>rfl
  | cons a r b=>
   rw[dQ,List.range_succ_eq_map,gd,List.filterMap_map];show a::oU (λx=>r[x]?) (db r.length)=a::r;rw[b]
 have:=this xs.toList;simpa using this
theorem zh{prog:cT}{w:dc}{b:Nat->Bool}{tok:Nat->Tok}{es:Array (Int×cA)}(he:es.toList=(Ee b).map (GJ tok)):ElemsOf (intKind prog w) es.toList:=by
 intro e a;rw[he]at a;obtain⟨u,c,rfl⟩:=dv.mp a;exact⟨⟨(u:Int),beq_self_eq_true _,(wm u (tj.mp c).1).symm⟩,rfl⟩
theorem Ak{b:Nat->Bool}{v:Nat}{led:Bool}{es:Array (Int×cA)}{x:cA}{tok:Nat->Tok}(hv:v<6)(hb:b v=false)(he:es.toList=(Ee b).map (GJ tok)):
  ∃t,layNew (Ey (Ee b) led) es (v:Int) x=(iF es (FJ (Ee b) v) ((v:Int),x),t,false,false)/\t.plain=true/\t.fits (es.size+1)=true/\
   (t.tooFull=false->t=Ey (GO (Ee b) v) led)/\(t.tooFull=true->t.relaid ((GO (Ee b) v).map hV).toArray (kg (es.size+1))=some (Ey (GO (Ee b) v) led,(db (es.size+1)).toArray)/\
    (Ey (GO (Ee b) v) led).fits (es.size+1)=true/\coversAll (db (es.size+1)).toArray (es.size+1)=true):=by
 have l:es.size=(Ee b).length:=by rw[<-eo,he,cx]
 have h:=Dk _ (tT b) v (dY.mpr hv) λz=>by rw[(tj.mp z).2]at hb;cases hb
 have h1:HH (Ee b) v led=true:=by
  cases led
  ·exact h.2
  ·exact h.1
 unfold HH at h1
 cases e:(Ey (Ee b) led).freeSlot (v:Int)with
 | none=>rw[e]at h1;cases h1
 | some y=>
  obtain⟨j,d⟩:=y
  rw[e]at h1
  dsimp only at h1
  rw[dn,dn,dn,dn,dn,decide_eq_true_iff,decide_eq_true_iff,decide_eq_true_iff]at h1
  obtain⟨⟨⟨⟨⟨rfl,r⟩,hp⟩,c⟩,m⟩,a⟩:=h1
  have g:d=false:=by cases d <;> first|rfl|cases r
  subst g
  rw[<-l]at c a
  have k:(iF es (FJ (Ee b) j) ((j:Int),x)).size=es.size+1:=by
   have:=(lz es (FJ (Ee b) j) ((j:Int),x)).length_eq
   simpa using this
  refine⟨((Ey (Ee b) led).put j).1,?_,m,c,λn=>?_,λq=>?_⟩
  ·unfold layNew
   rw[e]
   dsimp only
   rw[hp,k,c]
   have s:((Ey (Ee b) led).put j).1.orStandIn (es.size+1)=((Ey (Ee b) led).put j).1:=by
    unfold SetTable.orStandIn;rw[if_pos c]
   rw[s]
   rfl
  ·rw[n,if_neg (by decide)]at a
   exact of_decide_eq_true a
  ·rw[q,if_pos rfl]at a
   cases f:((Ey (Ee b) led).put j).1.relaid ((GO (Ee b) j).map hV).toArray (kg (es.size+1))with
   | none=>rw[f]at a;cases a
   | some u=>
    obtain⟨A,o⟩:=u
    rw[f]at a
    dsimp only at a
    rw[dn,dn,dn,decide_eq_true_iff,decide_eq_true_iff]at a
    obtain⟨⟨⟨rfl,rfl⟩,w⟩,p⟩:=a
    exact⟨rfl,w,p⟩
theorem xP{prog:cT}{w:dc}{A:dw}{E:cA->cD->Prop}{s:cD}{a:cG}{b:Nat->Bool}{led:Bool}{v:Nat}{tk:Tok}{Q:Bool->cD->Prop}(hv:v<6)(hS:SetIs s.heap a b led)
  (q:∀h',fK a s.heap h'->SetIs h' a (λx=>b x||x==v) led->Q (!b v) {s with heap:=h'}):
  wpAny (model prog w) A (setAddHashed a (.int v tk) ((intKind prog w).hash (v:Int))) Q E s:=by
 obtain⟨o,f,r,d,C,I,B,m⟩:=hS
 have M:f.size=(Ee b).length:=by rw[<-eo,m,cx]
 have h6:=uL b
 have K:(Ey (Ee b) led).fits f.size=true:=by rw[M];exact tz b led
 have N:ElemsOf (intKind prog w) f.toList:=zh m
 have X:(intKind prog w).hash (v:Int)=v:=wm v hv
 have aa:64<=scanBound:=by decide +kernel
 unfold setAddHashed
 refine dG ?_
 rw[qu]
 dsimp only
 refine cr (dU C B K ?_)
 dsimp only
 rw[if_pos (byScan_of (knd:=intKind prog w) (x:= .int v tk) rfl (by omega) N)]
 unfold setAddByScan
 refine cr (cr (iR ?_))
 refine cr (wpAny_setScan_of (knd:=intKind prog w) (k:=(v:Int)) (beq_self_eq_true _) C B K N ?_)
 cases g:b v with
 | true=>
  cases D:pQ (λe:Int×cA=>(intKind prog w).is (v:Int) e.2) f.toList with
  | none=>
   have:=List.findIdx?_eq_none_iff.mp D (GJ d v) (by rw[m];exact dv.mpr ⟨v,tj.mpr ⟨hv,g⟩,rfl⟩)
   rw[show(intKind prog w).is (v:Int) (GJ d v).2=true from beq_self_eq_true _]at this
   cases this
  | some j=>
   refine cv (cv ?_)
   have:=q s.heap (rf a _) ⟨o,f,r,d,C,I,by rw[xD g];exact B,by rw[xD g];exact m⟩
   rw[g]at this
   exact this
 | false=>
  cases D:pQ (λe:Int×cA=>(intKind prog w).is (v:Int) e.2) f.toList with
  | some j=>
   obtain⟨e,h1,h2⟩:=List.findIdx?_eq_some_iff_getElem.mp D
   have H:f.toList[j]∈(Ee b).map (GJ d):=by rw[<-m];exact cW e
   obtain⟨u,F,J⟩:=dv.mp H
   have h3:=(tj.mp F).2
   have h4:(intKind prog w).is (v:Int) (GJ d u).2=true:=by rw[J];exact h1
   have h5:(u:Int)=v:=eq_of_beq h4
   have:u=v:=by omega
   rw[this,g]at h3
   cases h3
  | none=>
   obtain⟨t,Y,O,U,y,p⟩:=Ak (led:=led) (x:= .int v tk) hv g m
   dsimp only
   rw[X,Y]
   dsimp only
   refine cr (cv ?_)
   rw[if_pos O,hashByValue_scannable 8 (x:= .int v tk) rfl]
   refine cr (cv ?_)
   rw[if_pos (show plainKind (dX (v:Int) tk)=true from rfl)]
   have n:(iF f (FJ (Ee b) v) ((v:Int),dX (v:Int) tk)).toList=(Ee λx=>b x||x==v).map (GJ λu=>if u=v then tk else d u):=by
    rw[SetTable.toList_insertAt,m,<-xM hv g]
    have S:(Ee b).map (GJ d)=(Ee b).map (GJ λu=>if u=v then tk else d u):=fF λu F=>by
     have:u≠v:=λz=>by rw[z]at F;rw[(tj.mp F).2]at g;cases g
     show((u:Int),dX (u:Int) (d u))=((u:Int),dX (u:Int) (if u=v then tk else d u))
     rw[if_neg this]
    rw[S]
    unfold GO
    rw[cS,dN,pR,pS]
    have V:GJ (λu=>if u=v then tk else d u) v=((v:Int),dX (v:Int) tk):=by
     show((v:Int),dX (v:Int) (if v=v then tk else d v))=_
     rw[if_pos rfl]
    rw[V]
   have h:(iF f (FJ (Ee b) v) ((v:Int),dX (v:Int) tk)).size=f.size+1:=by
    have:=(lz f (FJ (Ee b) v) ((v:Int),dX (v:Int) tk)).length_eq
    simpa using this
   rw[xM hv g]at y p
   generalize iF f (FJ (Ee b) v) ((v:Int),dX (v:Int) tk)=c at *
   have l:c.size<=sizeLine:=dB (Ed (by omega))
   rw[h]at l
   have P:=putSet_of c t B
   have g1:(s.heap.update a (mS c t)).get? a=some ⟨o.cls,o.dict,.set c (r+1) t,o.slots⟩:=by
    rw[<-P]
    exact eI _ C (by rw[P];rfl)
   refine cr (nG C B ?_ (by rw[h];exact l))
   cases G:t.tooFull with
   | false=>
    rw[if_neg (by simp)]
    refine cv (cv ?_)
    have:=q _ (eX s.heap a (mS c t)) ⟨_,c,r+1,_,g1,I,by rw[y G],n⟩
    rw[g]at this
    exact this
   | true=>
    obtain⟨T,R,Z⟩:=p G
    have H:Array.map (λx:Int×cA=>x.1) c=((Ee λx=>b x||x==v).map hV).toArray:=by
     apply oN
     rw[Array.toList_map,n,ik]
     rfl
    have W:relayAll t c (kg c.size)=(c,Ey (Ee λx=>b x||x==v) led,false):=by
     unfold relayAll
     rw[H,h,T]
     dsimp only
     rw[<-h,wZ,h,R,Z]
     rfl
    rw[if_pos (by simp),W]
    dsimp only
    refine cr (cv (cr (nG g1 rfl (cv (cv ?_)) (by rw[h];exact l))))
    have L:=putSet_of (o:=⟨o.cls,o.dict,.set c (r+1) t,o.slots⟩) c (Ey (Ee λx=>b x||x==v) led) rfl
    have g2:((s.heap.update a (mS c t)).update a (mS c (Ey (Ee λx=>b x||x==v) led))).get? a=some ⟨o.cls,o.dict,.set c (r+1+1) (Ey (Ee λx=>b x||x==v) led),o.slots⟩:=by
     rw[<-L]
     exact eI _ g1 (by rw[L];rfl)
    have:=q _ ((eX s.heap a _).trans (eX _ a _)) ⟨_,c,r+1+1,_,g2,I,rfl,n⟩
    rw[g]at this
    exact this
def El(w:dc):Bool:=!w.params.followText "set-order"
theorem zZ{prog:cT}{w:dc}{A:dw}{E:cA->cD->Prop}{s:cD}(a:cA){Q₁:cA->cD->Prop}
  (h:Q₁ (.ref s.heap.objs.size) {s with heap:=s.heap.push {cls:= .type "set",data:= .set #[] 0 (fQ 0 0 (El w))}}):
  codeAny (model prog w) A (.call (.builtin "set.__new__") ⟨[.type "set",a],[]⟩) (wants Q₁ E) s:=by
 refine lL ?_
 refine cr (fO (F.newCall_set_1 a) (cv ⟨jK ox _,eY F.entry_set_new ?_⟩))
 rw[fY ox _]
 have b:=ql
 unfold Builtin.«set.__new__» oV
 refine cr (cr (cv ?_))
 refine cP rfl (cr (fO b (cP rfl (cv ?_))))
 unfold newSet setsByText
 refine cr (cr (cr (fL (cv ?_))))
 show wpAny _ _ (newObj _ _) _ _ _
 unfold newObj
 dsimp only
 rw[if_neg (by decide)]
 unfold newObjAsIs
 exact cr (om (cv (cv h)))
theorem SetIs.congr{h h':Heap}{a:cG}{b:Nat->Bool}{led:Bool}(H:SetIs h a b led)(e:∀o,h.get? a=some o->h'.get? a=some o):SetIs h' a b led:=by
 obtain⟨o,g,f,c,d,r⟩:=H;exact⟨o,g,f,c,e o d,r⟩
theorem SetIs.by{h:Heap}{a:cG}{b b':Nat->Bool}{led:Bool}(H:SetIs h a b led)(e:∀x,x<6->b x=b' x):SetIs h a b' led:=by
 have:Ee b=Ee b':=gV λx c=>e x (dY.mp c)
 unfold SetIs at H ⊢;rw[this]at H;exact H
theorem BX{prog:cT}{w:dc}{A:dw}{R:Result->cD->Prop}{I:cG}{fp wr:List cG}{G:Array GenState->Array GenState->Prop}{n:Nat}{P:Nat->cA->Prop}{St:Nat->cD->Prop}{led:Bool}
  (W:WalksS prog w A.in1 I fp wr G n P St)(S:cG)(hS:S∉fp)(val:Nat->Nat)(hP:∀i v,P i v->val i<6/\∃t,v=dX (val i:Nat) t):
  ∀(k i:Nat) (s:cD) (b:Nat->Bool),n-i=k->i<=n->St i s->SetIs s.heap S b led->
   (∀s',Moved (S::wr) G s s'->SetIs s'.heap S (λx=>b x||(kD i (n-i)).any λj=>x==val j) led->R (.ok (.ret .none)) s')->
   codeAny (model prog w) A (.builtin "set.update.loop" ⟨[.ref S,.ref I],[]⟩) R s:=by
 have p:S∉wr:=λz=>hS (W.sub S z)
 intro k
 induction k with
 | zero=>
  intro i s b hk E f a h
  have e:i=n:=by omega
  subst e
  refine eY h8 ?_
  rw[fY fZ _]
  unfold Builtin.«set.update.loop»
  refine cr (W.done s _ _ f λs' m=>?_)
  refine cv (h s' ⟨λc o d=>m.heap c o λz=>d (cO _ z),m.gens,m.drawn,m.os,m.toks⟩ ((a.congr λo=>m.heap S o p).by λx _=>?_))
  rw[il]
  simp
 | succ k J=>
  intro i s b hk E f a h
  refine eY h8 ?_
  rw[fY fZ _]
  unfold Builtin.«set.update.loop»
  refine cr (W.item i s _ _ (by omega) f λv s' H r m=>?_)
  obtain⟨C,t,rfl⟩:=hP i v H
  dsimp only
  refine cr (dG ?_)
  unfold setAdd
  refine dG (cr ((intKind prog w).pyHash (k:=((val i:Nat):Int)) (beq_self_eq_true _) ?_))
  refine xP C (SetIs.congr a λo=>m.heap S o p) λB D u=>?_
  refine cv ⟨jK fZ _,J (i+1) _ _ (by omega) (by omega) (W.frame (i+1) s' B (s'.toks+1) r (ec _) λc d o q=>by rw[D.2 c λz=>hS (z▸d)];exact q) u λy g l=>h y ?_ (l.by λx _=>?_)⟩
  ·refine⟨λc o d q=>g.heap c o d ?_,W.gtrans _ _ _ m.gens g.gens,g.drawn.trans m.drawn,g.os.trans m.os,dg m.toks (dg (ec _) g.toks)⟩
   show B.get? c=some o
   rw[D.2 c λz=>d (by rw[z];exact cM)]
   exact m.heap c o (λz=>d (cO _ z)) q
  ·have e:n-i=(n-(i+1))+1:=by omega
   rw[e,lb,gY,Bool.or_assoc]
theorem vW{prog:cT}{w:dc}{A:dw}{E:cA->cD->Prop}{s:cD}{l:cG}{items:Array cA}{Q:cA->cD->Prop}(hh:A.handled=none)(hl:s.heap.IsList l items)(val:Nat->Nat)
  (hv:∀i v,items[i]?=some v->val i<6/\∃t,v=dX (val i:Nat) t)
  (h:∀(h':Heap) (tk:Nat),SetIs h' s.heap.objs.size (λx=>(kD 0 items.size).any λj=>x==val j) (El w)->(∀b o,s.heap.get? b=some o->h'.get? b=some o)->Q (.ref s.heap.objs.size) {s with heap:=h',toks:=tk}):
  wpAny (model prog w) A (call (.type "set") [.ref l]) Q E s:=by
 obtain⟨c,U,u⟩:=fu.mro
 have g:=fu.made
 have p:=fu.sub
 refine iJ (lL (cv ⟨ii _ (by decide +kernel),eY nH ?_⟩))
 rw[mT (lS "set" [.ref l] []) rfl]
 have h1:=fu.notType
 have h2:=fu.canCreate
 have G:=nZ (.ref l)
 unfold Builtin.«type.__call__»
 refine cP (by rw[h1];rfl) (cP (by rw[h2];rfl) (cr (fO G (cr (fO u (cP rfl (cr (fO g (cr (cv ?_))))))))))
 refine cr (dG (iJ (iX (zZ (E:=E) (.ref l) (Q₁:=λv O=>v = .ref s.heap.objs.size/\O=_) ⟨rfl,rfl⟩) λr y B=>?_)))
 cases r with
 | error e=>exact B
 | ok S=>
  cases S with
  | ret v=>
   obtain⟨rfl,rfl⟩:=(show v=_/\y=_ from B)
   have a:(s.heap.push {cls:=dL "set",data:=Data.set #[] 0 (fQ 0 0 (El w))}).get? s.heap.objs.size=some {cls:=dL "set",data:=Data.set #[] 0 (fQ 0 0 (El w))}:=cN _ rfl
   refine cr (eH (T:="set") ⟨_,a,rfl⟩ p (cP rfl (cr (dG ?_))))
   unfold callSpecial?
   refine cr (gg (T:="set") ⟨_,a,rfl⟩ fu.init.lookup ?_)
   refine dG (cr (fO (fu.init.bind _) (cr (iJ (ma fu.init.plain n5 (n7 ⟨_,a,rfl⟩ ?_))))))
   unfold Builtin.«set.__init__»
   refine cr (cv ?_)
   dsimp only[n8,oy]
   unfold typeNameOfCut
   unfold shownTypeOf
   refine cr (cr ?_)
   refine cr (ij (T:="set") ⟨_,a,rfl⟩ (cP rfl (cv (cv (cr (cv (cr (cv ?_))))))))
   unfold setUsed
   refine cr (cr (dU a rfl (by cases El w <;> rfl) (cv (cP rfl ?_))))
   have d:=hl.push {cls:=dL "set",data:=Data.set #[] 0 (fQ 0 0 (El w))}
   have q:kO {s with heap:=s.heap.push {cls:=dL "set",data:=Data.set #[] 0 (fQ 0 0 (El w))}} (.ref l) "list":=by
    obtain⟨o,h1,h2,_⟩:=d
    exact⟨o,h1,h2⟩
   unfold jV kh orM
   refine cr (cr (cr (eH q oW (eH q mc ?_))))
   refine cP rfl (cr (ij q (cP rfl (cr (iC d ?_)))))
   refine cr (kf ?_)
   have n:s.heap.get? s.heap.objs.size=none:=by
    cases e:s.heap.get? s.heap.objs.size with
    | none=>rfl
    | some o=>exact absurd (cQ e) (dt _)
   have C:l≠s.heap.objs.size:=λz=>by
    obtain⟨o,h1,_⟩:=hl
    rw[z,n]at h1;cases h1
   have k:(s.heap.push {cls:=dL "set",data:=Data.set #[] 0 (fQ 0 0 (El w))}).objs.size=s.heap.objs.size+1:=lx ..
   have D:l≠s.heap.objs.size+1:=λz=>by
    obtain⟨o,h1,_⟩:=hl
    rw[z]at h1
    exact absurd (gW (cQ h1)) (dt _)
   dsimp only
   rw[k]
   refine BX (rj (oP (A:=A.in1.in1.in1) hh (s.heap.objs.size+1) l D items)) s.heap.objs.size (λz=>?_) val hv items.size 0 _ (λ_=>false) rfl (du _) ⟨?_,d.push _⟩ (led:=El w) ?_ λR m K=>?_
   ·rcases cZ.mp z with z|z
    ·exact absurd z (df (dH _))
    ·exact C (cK.mp z).symm
   ·exact⟨_,(by rw[<-k];exact cN _ rfl),rfl,rfl⟩
   ·exact⟨_,#[],0,λ_=>0,cF _ a,⟨rfl,rfl,rfl⟩,rfl,rfl⟩
   ·refine cv (cv (cv (cP rfl (cv ?_))))
    obtain⟨h',L,N,P,H⟩:=R
    have J:L=s.gens:=m.gens
    have M:N=s.drawn:=m.drawn
    have I:H=s.os:=m.os
    subst J M I
    refine h h' P (K.by λx _=>by rw[pT];rfl) λb o f=>m.heap b o (λz=>?_) (cF _ (cF _ f))
    rcases cZ.mp z with z|z
    ·rw[z,n]at f;cases f
    ·rw[cK.mp z]at f
     exact absurd (gW (cQ f)) (dt _)
  | _=>exact B.elim
theorem sf:Slot "set_iterator" (fM "__next__") "set_iterator.__next__":=by
 refine Slot.of (owner:="set_iterator") (n:="__next__") ?_ ?_ ?_ ?_ ?_ ?_
 ·rw[oz,lT];rfl
 ·decide +kernel
 ·decide +kernel
 ·decide +kernel
 ·exact Or.inl (by decide +kernel)
 ·rw[oX];rfl
theorem s9:entryFor table "set_iterator.__next__"=some Builtin.«set_iterator.__next__»:=entryFor_of_tree rfl
theorem tq(a:cA):argsOk "set_iterator.__next__" ⟨[a],[]⟩:=by
 show _=_;rw[pU (rows:=kr) rfl rfl];rfl
theorem vX:entryFor table "set.__iter__"=some Builtin.«frozenset.__iter__»:=ki (id':="frozenset.__iter__") rfl rfl (by decide +kernel) rfl
def Et(a:cG)(slot i n ep:Nat):Obj:={cls:= .type "set_iterator",data:= .fields #[rawInt slot,rawInt i,.ref a,rawInt n,rawInt ep]}
theorem Co{prog:cT}{w:dc}{A:dw}{E:cA->cD->Prop}{s:cD}{a:cG}{o:Obj}{es:Array (Int×cA)}{ep:Nat}{t:SetTable}{Q:cA->cD->Prop}(ho:s.heap.get? a=some o)(hx:o.ExactSet)(hd:o.data = .set es ep t)
  (hf:t.fits es.size=true)(hp:t.plain=true)
  (h:Q (.ref s.heap.objs.size) {s with heap:=s.heap.push (Et a 0 0 es.size ep)}):wpAny (model prog w) A (pyIter (.ref a)) Q E s:=by
 have b:s.TypeIs (.ref a) "set":=⟨o,ho,hx.1⟩
 refine jw b oA (dR oA b vX ?_ (F.args_set_iter_1 _))
 unfold Builtin.«frozenset.__iter__» p9 slotArgs kP setEntries setDrawn setsByText
 refine cr (cr (cv (cv (cr (cr (cr (dU ho hd hf (cv (cv (cr (cr (dU ho hd hf ?_))))))))))))
 refine cr (cr (fL (cv (cv (cP ?_ ?_)))))
 ·show decide ((_&&(!t.plain&&_))=true)=false
  rw[hp]
  simp
 refine cr (cv ?_)
 unfold setEpoch newFields
 refine cr (cr (dU ho hd hf (cv (cr ?_))))
 unfold newObj
 dsimp only
 rw[if_neg (by show ¬5>sizeLine+2;decide +kernel)]
 unfold newObjAsIs
 refine cr (om (cv (cv ⟨_,rfl,"set_iterator",_,⟨_,cN _ rfl,rfl⟩,sf.lookup,h⟩)))
def EC(S:List Nat)(k:Nat):Nat:=if k=0 then 0 else S.getD (k-1) 0+1
theorem uK:firstArgMember (dL "StopIteration") []=pure cA.none:=by
 unfold firstArgMember;dsimp only;rw[pure_bind];split <;> rfl
theorem vR(b:Nat->Bool)(led:Bool){k:Nat}(hk:k<=(Ee b).length):oS (Ey (Ee b) led).place (EC (Ee b) k)=k:=by
 have h:=BO _ (tT b);have h1:HQ (Ee b) led=true:=by
  cases led
  ·exact h.2
  ·exact h.1
 unfold HQ at h1;have h2:=dZ.mp h1 k (dY.mpr (by omega));exact of_decide_eq_true h2
theorem B0{prog:cT}{w:dc}{A:dw}{E:cA->cD->Prop}{s:cD}{I a:cG}{o:Obj}{es:Array (Int×cA)}{ep i:Nat}{b:Nat->Bool}{Q:Option cA->cD->Prop}(hw:El w=true)
  (hI:s.heap.get? I=some (Et a (EC (Ee b) i) i es.size ep))(ho:s.heap.get? a=some o)(hd:o.data = .set es ep (Ey (Ee b) (El w)))(hes:es.size=(Ee b).length)(hi:i<es.size)(hne:a≠I)
  (h:∀h',fK I s.heap h'->h'.get? I=some (Et a (EC (Ee b) (i+1)) (i+1) es.size ep)->Q (some es[i].2) {s with heap:=h'}):
  wpAny (model prog w) A (pyNext (.ref I)) Q E s:=by
 have g:(Ey (Ee b) (El w)).fits es.size=true:=by rw[hes];exact tz b _
 have d:s.TypeIs (.ref I) "set_iterator":=⟨_,hI,rfl⟩
 unfold pyNext
 refine cr (iy (ef d sf (dR sf d s9 ?_ (tq _))))
 unfold Builtin.«set_iterator.__next__» slotArgs
 refine cr (cv (cr (iS hI rfl ?_)))
 dsimp only[rawInt]
 unfold setEntries
 refine cr (cr (dU ho hd g (cv (cP (by simp) ?_))))
 unfold setNext setsByText
 refine cr (cr (dU ho hd g ?_))
 dsimp only
 have j:w.params.followText "set-order"=false:=by
  unfold El at hw
  cases e:w.params.followText "set-order"with
  | false=>rfl
  | true=>rw[e]at hw;cases hw
 refine cr (cr (fL (cv ?_)))
 rw[if_neg (show ¬(model prog w).w.params.followText "set-order"=true by intro z;exact absurd (j.symm.trans z) (by decide))]
 refine cP (by show decide ((!true&&_)=true)=false;rfl) (cr ?_)
 have k:∀(x:Bool) (P:Sem Unit),(if(!true&&x)=true then P else pure ())=pure ():=λx P=>rfl
 rw[hw]
 refine(show ∀(R:Unit->cD->Prop),R () s->wpAny (model prog w) A.in1 (if(!true&&_)=true then _ else pure ()) R _ s from λR z=>cv z) _ ?_
 have c:i<(Ee b).length:=by omega
 have f:(Ey (Ee b) true).place[i]?=some (Ee b)[i]:=by
  show(Ee b).toArray[i]?=_
  simp[c]
 rw[gb,vR b true (dB c),f,fi hi]
 refine cv ?_
 dsimp only
 have g1:(s.heap.update I (pV λx=>x.setIfInBounds 0 (dX (((Ee b)[i]+1:Nat):Int) 0))).get? I=some {cls:= .type "set_iterator",data:= .fields #[dX (((Ee b)[i]+1:Nat):Int) 0,rawInt i,.ref a,rawInt es.size,rawInt ep]}:=
  eI (o:=Et a (EC (Ee b) i) i es.size ep) _ hI rfl
 refine cr (gt hI rfl (by show 0<5;decide) (cr (gt g1 rfl (by show 1<5;decide) (cv ⟨_,rfl,cv ?_⟩))))
 refine h _ ((eX s.heap I _).trans (eX _ I _)) ?_
 have e:EC (Ee b) (i+1)=(Ee b)[i]+1:=by
  unfold EC
  rw[if_neg (Nat.succ_ne_zero i),Nat.add_sub_cancel,cC,cz c]
  rfl
 rw[e]
 exact eI _ g1 rfl
theorem xf{prog:cT}{w:dc}{A:dw}{E:cA->cD->Prop}{s:cD}{I a:cG}{o:Obj}{es:Array (Int×cA)}{ep:Nat}{b:Nat->Bool}{Q:Option cA->cD->Prop}(hA:A.handled=none)(hw:El w=true)
  (hI:s.heap.get? I=some (Et a (EC (Ee b) es.size) es.size es.size ep))(ho:s.heap.get? a=some o)(hd:o.data = .set es ep (Ey (Ee b) (El w)))(hes:es.size=(Ee b).length)
  (h:∀h',(∀c ob,c≠I->s.heap.get? c=some ob->h'.get? c=some ob)->Q none {s with heap:=h'}):
  wpAny (model prog w) A (pyNext (.ref I)) Q E s:=by
 have g:(Ey (Ee b) (El w)).fits es.size=true:=by rw[hes];exact tz b _
 have f:s.TypeIs (.ref I) "set_iterator":=⟨_,hI,rfl⟩
 unfold pyNext
 refine cr (iy (ef f sf (dR sf f s9 ?_ (tq _))))
 unfold Builtin.«set_iterator.__next__» slotArgs
 refine cr (cv (cr (iS hI rfl ?_)))
 dsimp only[rawInt]
 unfold setEntries
 refine cr (cr (dU ho hd g (cv (cP (by simp) ?_))))
 unfold setNext setsByText
 refine cr (cr (dU ho hd g ?_))
 dsimp only
 have k:w.params.followText "set-order"=false:=by
  unfold El at hw
  cases e:w.params.followText "set-order"with
  | false=>rfl
  | true=>rw[e]at hw;cases hw
 refine cr (cr (fL (cv ?_)))
 rw[if_neg (show ¬(model prog w).w.params.followText "set-order"=true by intro z;exact absurd (k.symm.trans z) (by decide))]
 refine cP (by show decide ((!true&&_)=true)=false;rfl) (cr ?_)
 rw[hw]
 refine(show ∀(R:Unit->cD->Prop),R () s->wpAny (model prog w) A.in1 (if(!true&&_)=true then _ else pure ()) R _ s from λR z=>cv z) _ ?_
 rw[gb,vR b true (by omega),gC (cI _)]
 refine cv ?_
 dsimp only
 refine cr (gt hI rfl (by show 2<5;decide) ?_)
 unfold newExc raiseNew newTuple
 refine cr (cr (e9 (cr (fO (a:=cA.none) uK (e9 ?_ (lc ..)))) (du _)))
 refine cr (kQ ?_)
 rw[show A.in1.handled=none from hA]
 refine md (cr (eH (T:="StopIteration") ⟨_,cN _ rfl,rfl⟩ kj (iT rfl (cv ?_))))
 refine h _ λc ob j d=>cF _ (cF _ ?_)
 rw[i6 _ _ _ _ j]
 exact d
theorem vT{α:Type}(next:Nat->Nat):∀(fuel k:Nat) (left:List α) (out:Array α),left.length=fuel->(rn next fuel k left out).toList.Perm (out.toList++left)
 | 0,k,left,out,h=>by
  rw[pickOrder.go.eq_1,jk.mp h,fV]
 | fuel+1,k,left,out,h=>by
  have a:next k%left.length<left.length:=Nat.mod_lt _ (by omega)
  rw[pickOrder.go.eq_2,cz a]
  dsimp only
  refine(vT next fuel (k+1) _ _ (by rw[List.length_eraseIdx,if_pos a];omega)).trans ?_
  rw[Array.toList_push,List.append_assoc]
  refine qw _ ?_
  generalize next k%left.length=j at a
  have e:left.eraseIdx j=left.take j++left.drop (j+1):=List.eraseIdx_eq_take_drop_succ ..
  rw[e]
  have b:left=left.take j++left[j]::left.drop (j+1):=by
   rw[<-List.drop_eq_getElem_cons a,lP]
  conv=>rhs;rw[b]
  rw[List.singleton_append]
  exact nW.symm
theorem vI{α:Type}(next:Nat->Nat)(xs:Array α):(pickOrder next xs).toList.Perm xs.toList:=by
 unfold pickOrder;have:=vT next xs.size 0 xs.toList #[] (eo ..)
 simpa using this
theorem wH{prog:cT}{w:dc}{A:dw}{E:cA->cD->Prop}{s:cD}{I a:cG}{o:Obj}{es:Array (Int×cA)}{ep i:Nat}{b:Nat->Bool}{Q:Option cA->cD->Prop}(hw:El w=false)
  (hI:s.heap.get? I=some (Et a 0 i es.size ep))(ho:s.heap.get? a=some o)(hd:o.data = .set es ep (Ey (Ee b) (El w)))(hes:es.size=(Ee b).length)(hi:i<es.size)
  {x:Int×cA}(hx:(pickOrder (w.params.setOrder a ep) es)[i]?=some x)
  (h:∀h',fK I s.heap h'->h'.get? I=some (Et a 0 (i+1) es.size ep)->Q (some x.2) {s with heap:=h'}):
  wpAny (model prog w) A (pyNext (.ref I)) Q E s:=by
 have c:(Ey (Ee b) (El w)).fits es.size=true:=by rw[hes];exact tz b _
 have d:s.TypeIs (.ref I) "set_iterator":=⟨_,hI,rfl⟩
 have f:w.params.followText "set-order"=true:=by
  unfold El at hw
  cases e:w.params.followText "set-order"with
  | true=>rfl
  | false=>rw[e]at hw;cases hw
 unfold pyNext
 refine cr (iy (ef d sf (dR sf d s9 ?_ (tq _))))
 unfold Builtin.«set_iterator.__next__» slotArgs
 refine cr (cv (cr (iS hI rfl ?_)))
 dsimp only[rawInt]
 unfold setEntries
 refine cr (cr (dU ho hd c (cv (cP (by simp) ?_))))
 unfold setNext setWalk setsByText
 refine cr (cr (dU ho hd c ?_))
 dsimp only
 refine cr (cr (fL (cv ?_)))
 rw[if_pos (show(model prog w).w.params.followText "set-order"=true from f)]
 refine cP (by simp) (cr (cr (dU ho hd c ?_)))
 dsimp only
 refine cr (cr (fL (cv ?_)))
 rw[if_pos (show(model prog w).w.params.followText "set-order"=true from f)]
 refine cr (fL (cv ?_))
 have g:(pickOrder ((model prog w).w.params.setOrder a ep) es)[((i:Nat):Int).toNat]?=some x:=by rw[gb];exact hx
 dsimp only
 rw[g]
 refine cv ?_
 dsimp only[Option.map]
 have g1:(s.heap.update I (pV λy=>y.setIfInBounds 0 (dX (((0:Int).toNat:Nat):Int) 0))).get? I=some {cls:= .type "set_iterator",data:= .fields #[dX (((0:Int).toNat:Nat):Int) 0,rawInt i,.ref a,rawInt es.size,rawInt ep]}:=
  eI (o:=Et a 0 i es.size ep) _ hI rfl
 refine cr (gt hI rfl (by show 0<5;decide) (cr (gt g1 rfl (by show 1<5;decide) (cv ⟨_,rfl,cv ?_⟩))))
 refine h _ ((eX s.heap I _).trans (eX _ I _)) ?_
 exact eI _ g1 rfl
theorem xL{prog:cT}{w:dc}{A:dw}{E:cA->cD->Prop}{s:cD}{I a:cG}{o:Obj}{es:Array (Int×cA)}{ep:Nat}{b:Nat->Bool}{Q:Option cA->cD->Prop}(hA:A.handled=none)(hw:El w=false)
  (hI:s.heap.get? I=some (Et a 0 es.size es.size ep))(ho:s.heap.get? a=some o)(hd:o.data = .set es ep (Ey (Ee b) (El w)))(hes:es.size=(Ee b).length)
  (h:∀h',(∀c ob,c≠I->s.heap.get? c=some ob->h'.get? c=some ob)->Q none {s with heap:=h'}):
  wpAny (model prog w) A (pyNext (.ref I)) Q E s:=by
 have d:(Ey (Ee b) (El w)).fits es.size=true:=by rw[hes];exact tz b _
 have g:s.TypeIs (.ref I) "set_iterator":=⟨_,hI,rfl⟩
 have j:w.params.followText "set-order"=true:=by
  unfold El at hw
  cases e:w.params.followText "set-order"with
  | true=>rfl
  | false=>rw[e]at hw;cases hw
 unfold pyNext
 refine cr (iy (ef g sf (dR sf g s9 ?_ (tq _))))
 unfold Builtin.«set_iterator.__next__» slotArgs
 refine cr (cv (cr (iS hI rfl ?_)))
 dsimp only[rawInt]
 unfold setEntries
 refine cr (cr (dU ho hd d (cv (cP (by simp) ?_))))
 unfold setNext setWalk setsByText
 refine cr (cr (dU ho hd d ?_))
 dsimp only
 refine cr (cr (fL (cv ?_)))
 rw[if_pos (show(model prog w).w.params.followText "set-order"=true from j)]
 refine cP (by simp) (cr (cr (dU ho hd d ?_)))
 dsimp only
 refine cr (cr (fL (cv ?_)))
 rw[if_pos (show(model prog w).w.params.followText "set-order"=true from j)]
 refine cr (fL (cv ?_))
 have k:(pickOrder ((model prog w).w.params.setOrder a ep) es)[((es.size:Nat):Int).toNat]?=none:=by
  rw[gb]
  refine gC ?_
  have:=(vI (w.params.setOrder a ep) es).length_eq
  rw[eo,eo]at this
  exact na this
 dsimp only
 rw[k]
 refine cv ?_
 dsimp only[Option.map]
 refine cr (gt hI rfl (by show 2<5;decide) ?_)
 unfold newExc raiseNew newTuple
 refine cr (cr (e9 (cr (fO (a:=cA.none) uK (e9 ?_ (lc ..)))) (du _)))
 refine cr (kQ ?_)
 rw[show A.in1.handled=none from hA]
 refine md (cr (eH (T:="StopIteration") ⟨_,cN _ rfl,rfl⟩ kj (iT rfl (cv ?_))))
 refine h _ λc ob l f=>cF _ (cF _ ?_)
 rw[i6 _ _ _ _ l]
 exact f
theorem ux:Slot "set_iterator" (fM "__iter__") "set_iterator.__iter__":=by
 refine Slot.of (owner:="set_iterator") (n:="__iter__") ?_ ?_ ?_ ?_ ?_ ?_
 ·rw[oz,lT];rfl
 ·decide +kernel
 ·decide +kernel
 ·decide +kernel
 ·exact Or.inl (by decide +kernel)
 ·rw[oX];rfl
theorem vU:entryFor table "set_iterator.__iter__"=some Builtin.«dict_keyiterator.__iter__»:=ki (id':="dict_keyiterator.__iter__") rfl rfl (by decide +kernel) rfl
theorem wU(a:cA):argsOk "set_iterator.__iter__" ⟨[a],[]⟩:=by
 show _=_;rw[pU (rows:=kr) rfl rfl];rfl
def IN(w:dc)(a:cG)(ep:Nat)(es:Array (Int×cA)):Array (Int×cA):=if El w=true then es else pickOrder (w.params.setOrder a ep) es
theorem w5(w:dc)(a:cG)(ep:Nat)(es:Array (Int×cA)):(IN w a ep es).toList.Perm es.toList:=by
 unfold IN;split
 ·exact iN _
 ·exact vI _ _
theorem AN{prog:cT}{w:dc}{A:dw}{I a:cG}{o:Obj}{es:Array (Int×cA)}{ep:Nat}{b:Nat->Bool}(hA:A.handled=none)(hd:o.data = .set es ep (Ey (Ee b) (El w)))(hes:es.size=(Ee b).length)(hne:a≠I):
  WalksS prog w A I [I,a] [I] (λx y=>y=x) es.size (λi v=>∃x,(IN w a ep es)[i]?=some x/\v=x.2)
   (λi s=>s.heap.get? I=some (Et a (if El w=true then EC (Ee b) i else 0) i es.size ep)/\s.heap.get? a=some o):=by
 refine⟨λc m=>by rw[cK.mp m];exact cM,λ_=>rfl,λx y z h1 h2=>h2.trans h1,λi s f tk g _ hk=>⟨hk I cM _ g.1,hk a (cO _ cM) _ g.2⟩,λi s Q E u g h=>?_,λs Q E g h=>?_,λi s Q E g q=>?_⟩
 ·cases d:El w with
  | true=>
   obtain⟨e,k⟩:=g
   rw[if_pos d]at e
   refine B0 d e k hd hes u hne λf p n=>h _ _ ⟨es[i],?_,rfl⟩ ⟨?_,?_⟩ ?_
   ·unfold IN;rw[if_pos d,fi u]
   ·rw[if_pos d];exact n
   ·show f.get? a=some o
    rw[p.2 a hne];exact k
   ·exact⟨λc j m l=>by show f.get? c=some j;rw[p.2 c λz=>m (by rw[z];exact cM)];exact l,rfl,rfl,rfl,cI _⟩
  | false=>
   obtain⟨e,k⟩:=g
   rw[if_neg (by rw[d];decide)]at e
   have r:=(vI (w.params.setOrder a ep) es).length_eq
   rw[eo,eo]at r
   have B:(pickOrder (w.params.setOrder a ep) es)[i]?=some (pickOrder (w.params.setOrder a ep) es)[i]:=fi (by omega)
   refine wH d e k hd hes u B λf p n=>h _ _ ⟨_,?_,rfl⟩ ⟨?_,?_⟩ ?_
   ·unfold IN;rw[if_neg (by rw[d];decide)];exact B
   ·rw[if_neg (by rw[d];decide)];exact n
   ·show f.get? a=some o
    rw[p.2 a hne];exact k
   ·exact⟨λc j m l=>by show f.get? c=some j;rw[p.2 c λz=>m (by rw[z];exact cM)];exact l,rfl,rfl,rfl,cI _⟩
 ·obtain⟨e,k⟩:=g
  have fin:∀f,(∀c j,c≠I->s.heap.get? c=some j->f.get? c=some j)->Q none {s with heap:=f}:=λf hk=>h _ ⟨λc j m l=>hk c j (λz=>m (by rw[z];exact cM)) l,rfl,rfl,rfl,cI _⟩
  cases d:El w with
  | true=>rw[if_pos d]at e;exact xf hA d e k hd hes fin
  | false=>rw[if_neg (by rw[d];decide)]at e;exact xL hA d e k hd hes fin
 ·have t:s.TypeIs (.ref I) "set_iterator":=⟨_,g.1,rfl⟩
  refine jw t ux (dR ux t vU ?_ (wU _))
  exact cr (cv (cv ⟨_,rfl,"set_iterator",_,t,sf.lookup,q⟩))
theorem BS{prog:cT}{w:dc}{A:dw}{E:cA->cD->Prop}{s:cD}{a:cG}{Q:Bool->cD->Prop}(ht:s.TypeIs (.ref a) "set")(h:Q false s):wpAny (model prog w) A (iG (.ref a)) Q E s:=by
 have b:splitId "set.__len__"=some ("set","__len__"):=by decide +kernel
 unfold iG;refine cr (gg ht F.slot_set_len.lookup ?_);dsimp only;rw[b];dsimp only;refine cr (eH ht ql (cP rfl ?_));refine iT (by decide +kernel) ?_;refine cr (ij ht ?_);exact cv h
theorem v4:∀{l:List (Int×cA)},(∀x∈l,∃t,x.2=dX x.1 t)->IntsAre (l.map (·.2)) (l.map (·.1))
 | [],_=> .nil
 | x::r,h=>by
  obtain⟨t,e⟩:=h x cM
  rw[dN,dN,e]
  exact .cons _ _ (v4 λy a=>h y (cO _ a))
theorem x9{prog:cT}{w:dc}{A:dw}{E:cA->cD->Prop}{s:cD}{a:cG}{b:Nat->Bool}{Q:List cA->cD->Prop}(hA:A.handled=none)(hS:SetIs s.heap a b (El w))
  (h:∀(h':Heap) (tk:Nat) (vs:List cA) (ns:List Int),s.heap.objs.size<h'.objs.size->(∀c ob,s.heap.get? c=some ob->h'.get? c=some ob)->IntsAre vs ns->ns.Perm ((Ee b).map hV)->Q vs {s with heap:=h',toks:=tk}):wpAny (model prog w) A (collect (.ref a)) Q E s:=by
 obtain⟨o,d,f,aa,L,l,R,K⟩:=hS
 have C:d.size=(Ee b).length:=by rw[<-eo,K,cx]
 have hf:(Ey (Ee b) (El w)).fits d.size=true:=by rw[C];exact tz b _
 have p:(s.heap.push (seqObj "list" #[] 0)).get? a=some o:=cF _ L
 have J:(s.heap.push (seqObj "list" #[] 0)).get? s.heap.objs.size=some (seqObj "list" #[] 0):=cN _ rfl
 unfold collect
 refine cr (kf (eY lQ ?_))
 change wpAny _ _ (do again (.builtin "list.__iadd__" ⟨[<-newList [],.ref a],[]⟩)) _ _ s
 refine cr (ja (cv ⟨ii _ (by decide +kernel),eY ny ?_⟩))
 change wpAny _ _ (f5 (.ref s.heap.objs.size) (.ref a) (.ref s.heap.objs.size)) _ _ {s with heap:=s.heap.push (seqObj "list" #[] 0)}
 unfold f5
 have q:s.heap.objs.size≠a:=λz=>by
  have:=cQ L
  rw[z]at this
  exact absurd this (dt _)
 refine cr (ij (T:="set") ⟨o,p,l.1⟩ (cP ?_ (cr (Co p l R hf rfl (cr (dG (BS ⟨o,cF _ p,l.1⟩ ?_)))))))
 ·show decide ((kR (.ref s.heap.objs.size) (.ref a)||_||_)=true)=false
  have:kR (.ref s.heap.objs.size) (.ref a)=false:=by
   show(s.heap.objs.size==a)=false
   exact beq_false_of_ne q
  rw[this]
  rfl
 refine iT (by decide +kernel) (cr (iR ?_))
 have M:(s.heap.push (seqObj "list" #[] 0)).objs.size=s.heap.objs.size+1:=lx ..
 have S:a≠s.heap.objs.size+1:=λz=>by
  have:=cQ L
  rw[z]at this
  exact absurd (gW this) (dt _)
 dsimp only
 have N:((s.heap.push (seqObj "list" #[] 0)).push (Et a 0 0 d.size f)).get? (s.heap.push (seqObj "list" #[] 0)).objs.size=some (Et a 0 0 d.size f):=cN _ rfl
 have D:((s.heap.push (seqObj "list" #[] 0)).push (Et a 0 0 d.size f)).get? s.heap.objs.size=some (seqObj "list" #[] 0):=cF _ J
 have P:((s.heap.push (seqObj "list" #[] 0)).push (Et a 0 0 d.size f)).get? a=some o:=cF _ p
 have y:∀c ob,s.heap.get? c=some ob->c≠s.heap.objs.size/\((s.heap.push (seqObj "list" #[] 0)).push (Et a 0 0 d.size f)).get? c=some ob:=λc ob k=>⟨λz=>(by
  have:=cQ k
  rw[z]at this
  exact absurd this (dt _)),cF _ (cF _ k)⟩
 rw[M]at N ⊢
 generalize(s.heap.push (seqObj "list" #[] 0)).push (Et a 0 0 d.size f)=g at *
 unfold lA
 have G:(g.update s.heap.objs.size (d2 λx=>x.push cA.none)).get? s.heap.objs.size=some (seqObj "list" #[cA.none] 1):=eI (o:=seqObj "list" #[] 0) _ D rfl
 have O:((g.update s.heap.objs.size (d2 λx=>x.push cA.none)).update s.heap.objs.size (d2 λx=>x.pop)).get? s.heap.objs.size=some (seqObj "list" #[] 2):=eI (o:=seqObj "list" #[cA.none] 1) _ G rfl
 have r:∀c ob,c≠s.heap.objs.size->g.get? c=some ob->((g.update s.heap.objs.size (d2 λx=>x.push cA.none)).update s.heap.objs.size (d2 λx=>x.pop)).get? c=some ob:=λc ob k hg=>by
  rw[i6 _ _ _ _ k,i6 _ _ _ _ k];exact hg
 refine cr (cr (ix D rfl (ix G rfl ?_ (by show 1<=sizeLine;decide +kernel) (du _)) (du _) (by show 1<=sizeLine+1;decide +kernel)))
 generalize(g.update s.heap.objs.size (d2 λx=>x.push cA.none)).update s.heap.objs.size (d2 λx=>x.pop)=g4 at *
 refine cv ⟨ii _ (by decide +kernel),?_⟩
 refine codeAny_extend_loopS (AN (A:=A.in1) (I:=s.heap.objs.size+1) (a:=a) (o:=o) hA R C S) (by have:=uL b;exact dB (Ed (by omega))) s.heap.objs.size (λz=>?_) _ d.size 0 _ #[] 2 rfl (du _) ⟨?_,r a o (λz=>q z.symm) P⟩ O ⟨rfl,λj v B=>?_⟩ λs' n c m t H=>?_
 ·rcases cZ.mp z with z|z
  ·exact absurd z (df (dH _))
  ·exact q (cK.mp z)
 ·have:(if El w=true then EC (Ee b) 0 else 0)=0:=by split <;> rfl
  rw[this]
  exact r _ _ (λz=>absurd z.symm (df (dH _))) N
 ·simp at B
 ·obtain⟨h',Y,d',t',V⟩:=s'
  have X:Y=s.gens:=m.gens
  have Z:d'=s.drawn:=m.drawn
  have W:V=s.os:=m.os
  subst X Z W
  refine cr (wpAny_load' t (cv ?_))
  refine h h' t' n.toList ((IN w a f d).toList.map (·.1)) (cQ t) (λc ob k=>m.heap c ob (λz=>?_) (r c ob (y c ob k).1 (y c ob k).2)) ?_ ?_
  ·rcases cZ.mp z with z|z
   ·exact(y c ob k).1 z
   ·have:=cQ k
    rw[cK.mp z]at this
    exact absurd (gW this) (dt _)
  ·have U:=(w5 w a f d).length_eq
   rw[eo,eo]at U
   have e:n.toList=(IN w a f d).toList.map (·.2):=by
    refine List.ext_getElem? λj=>?_
    rw[cH,gh,gh]
    cases B:n[j]? with
    | none=>
     have:n.size<=j:=Array.getElem?_eq_none_iff.mp B
     rw[gC (by have:=H.1;omega)];rfl
    | some v=>
     obtain⟨x,l,rfl⟩:=H.2 j v B
     rw[l];rfl
   rw[e]
   refine v4 λx l=>?_
   have:=(w5 w a f d).mem_iff.mp l
   rw[K]at this
   obtain⟨u,_,rfl⟩:=dv.mp this
   exact⟨_,rfl⟩
  ·refine((w5 w a f d).map _).trans ?_
   rw[K,ik]
   exact iN _
theorem zC{prog:cT}{w:dc}{A:dw}{E:cA->cD->Prop}{s:cD}{a:cG}{b:Nat->Bool}{Q:cA->cD->Prop}(hA:A.handled=none)(hS:SetIs s.heap a b (El w))
  (h:∀(l:cG) (h':Heap) (tk:Nat) (out:Array cA) (ns:List Int),s.heap.objs.size<=l->(∀c ob,s.heap.get? c=some ob->h'.get? c=some ob)->(∃n,h'.get? l=some (seqObj "list" out n))->IntsAre out.toList ns->ns.Perm ((Ee b).map hV)->ns.Pairwise (· <= ·)->Q (.ref l) {s with heap:=h',toks:=tk}):
  wpAny (model prog w) A (call (.builtin "sorted") [.ref a]) Q E s:=by
 refine gP oo nA nB (nC _) ?_
 unfold Builtin.«sorted»
 refine cr (m:=checkCount "sorted" 1 1 _) (cv ?_)
 refine cr (x9 (A:=A.in1) hA hS λh' tk vs ns k hk f hp=>cr (ja ?_ (by have:=uL b;have:=hp.length_eq;rw[cx]at this;have:=f.length;exact dB (Ed (by omega)))))
 have q:ns.length=(Ee b).length:=by rw[hp.length_eq,cx]
 have h6:=uL b
 have v:vs.length=ns.length:=f.length
 have g:(h'.push (seqObj "list" vs.toArray 0)).get? h'.objs.size=some (seqObj "list" vs.toArray 0):=cN _ rfl
 refine cr (dG (dR l8 ⟨_,g,rfl⟩ lJ (oQ g f (by omega) λout o p u t=>⟨_,rfl,?_⟩) (l9 _)))
 refine cv ⟨_,rfl,?_⟩
 refine h _ _ _ out o (dB k) (λc ob r=>?_) (sortedHeap_at g) p (u.trans hp) t
 have d:=hk c ob r
 have j:=cQ d
 have e:(h'.push (seqObj "list" vs.toArray 0)).get? c=some ob:=cF _ d
 exact(sortedHeap_old (df j) (cQ e)).trans e
theorem AI:∀{vs:List cA} {ns:List Int},IntsAre vs ns->∀(i:Nat) (v:cA),vs[i]?=some v->i<ns.length/\∃t,v=dX (ns.getD i 0) t
 | _,_,.nil,i,v,h=>by simp at h
 | _,_,.cons n t hr,0,v,h=>by
  rw[List.getElem?_cons_zero]at h
  cases h
  exact⟨Nat.zero_lt_succ _,t,rfl⟩
 | _,_,.cons n t hr,i+1,v,h=>by
  rw[List.getElem?_cons_succ]at h
  obtain⟨h1,a,e⟩:=AI hr i v h
  exact⟨Nat.succ_lt_succ h1,a,e⟩
theorem x8(b:Nat->Bool):((Ee b).map hV).Nodup:=by
 unfold Ee;exact jt.mpr ((n9.filter _).imp λh z=>h (hV.inj z))
section
variable{X:Cx}
def Jb(K:cu)(te:TE):TE:=λσ H Q=>te σ H λx H1=>∃(p:cG) (ns:List Int),x = .ref p/\SqL K H1 p (ns.map V.int)/\(∀i∈ns,0<=i/\i<6)/\
 ∀(l:cG) (ns':List Int),H1 l=none->(∀i,i∈ns'↔i∈ns)->ns'.Nodup->ns'.Pairwise (· <= ·)->Q (.ref l) (upd H1 l (.lst (ns'.map V.int)))
theorem xS{e:Expr}{te:TE}{p p2 pos pos2:Pos}(hc:X.calm=true)(h1:Gl X "sorted")(m1:X.mg "sorted"=none)(h2:Gl X "set")(m2:X.mg "set"=none)(ha:PE X e te)
  (he:dh [e] X.env=(false,eval e X.env)::dh [] X.env:=by rfl):PE X (.Call (.Name "sorted" p) [.Call (.Name "set" p2) [e] [] pos2] [] pos) (Jb X.K te):=by
 intro F s σ H Q I h
 refine fI (tP I h1 m1 Boot.sorted ?_)
 refine g9 ?_ rfl rfl
 show wpAny _ _ (spliced ((false,eval (.Call (.Name "set" p2) [e] [] pos2) X.env)::[])) _ _ s
 refine fH ?_
 refine fI (tP I h2 m2 Boot.set ?_)
 refine d7 ?_ he rfl
 rw[he]
 show wpAny _ _ (spliced ((false,eval e X.env)::[])) _ _ s
 refine fH (En (ha F s σ H _ I h) λu O ⟨x,H1,n,r1,q1⟩=>?_)
 obtain⟨l,a,rfl,hq,E,q⟩:=q1
 cases(show u=cR l from r1)
 obtain⟨z,Z,pl,hz⟩:=n.list hq
 have J:=u8 Z
 have aa:z.length=a.length:=J.length
 have hA:X.A.handled=none:=n.ok.hd hc
 refine cv (vW hA pl.isList (λi=>(a.getD i 0).toNat) (λi v W=>?_) λh' tk f hk=>cv (zC hA f λR h2 L N d T S g D b r=>?_))
 ·rw[<-gh]at W
  obtain⟨k,t,e⟩:=AI J i v (by simpa using W)
  have m:a.getD i 0∈a:=by
   rw[cC,cz k]
   exact cW k
  have:=E _ m
  refine⟨by omega,t,?_⟩
  rw[e]
  congr 1
  omega
 ·have C:∀i,i∈d↔i∈a:=λi=>by
   rw[b.mem_iff,dv]
   constructor
   ·rintro⟨u,hu,rfl⟩
    obtain⟨_,Y⟩:=tj.mp hu
    obtain⟨j,G,e⟩:=i3.mp Y
    have e':u=(a.getD j 0).toNat:=eq_of_beq e
    have y:j<a.length:=by
     have:=oB.mp G
     simp at this
     omega
    have m:a.getD j 0∈a:=by
     rw[cC,cz y]
     exact cW y
    have:=E _ m
    have:hV u=a.getD j 0:=by rw[e'];show((a.getD j 0).toNat:Int)=_;omega
    rw[this];exact m
   ·intro k
    have ab:=E i k
    obtain⟨j,G,e⟩:=eO.mp k
    refine⟨i.toNat,tj.mpr ⟨by omega,i3.mpr ⟨j,?_,?_⟩⟩,by show((i.toNat:Nat):Int)=i;omega⟩
    ·rw[oB]
     exact⟨j,by simp;omega,by omega⟩
    ·rw[cC,cz G,Option.getD_some,e]
     exact beq_self_eq_true _
  obtain⟨n2,g⟩:=g
  have M:O.heap.objs.size<=h'.objs.size:=by
   obtain⟨o,_,_,_,ho,_⟩:=f
   exact dB (cQ ho)
  have B:O.heap.objs.size<=R:=dg M T
  have U:d.Nodup:=b.nodup_iff.mpr (x8 _)
  refine⟨.ref R,_,n.laid (t':=L) (λc P hc=>S c P (hk c P hc)) B (show ObjOk X.prog X.w _ _ _ (.lst (d.map V.int))from⟨?_,N.toList,n2,uB D,by rw[g]⟩),rfl,q _ d (n.hok.fresh B) C U r⟩
  have h6:=uL (λx=>(kD 0 z.toArray.size).any λj=>x==(a.getD j 0).toNat)
  have:=b.length_eq
  rw[cx]at this ⊢
  exact dB (Ed (by omega))
end
section
variable{X:Cx}
theorem Ci:KG X "list.count" (λx vs H Q=>∃(l:cG) (ns:List Int) (k:Int),x = .ref l/\vs=[.int k]/\SqL X.K H l (ns.map V.int)/\Q (.int (ns.count k:Nat)) H):=by
 intro e s j H x vs v m Q I b a h;obtain⟨l,ns,k,rfl,rfl,d,q⟩:=h
 cases b;obtain⟨u,rfl,tk,rfl⟩:=a.one;obtain⟨f,r,c,g⟩:=I.list d;exact count_list_ints c.isList (u8 r) ⟨.int _,H,I.tok _,⟨_,rfl⟩,q⟩
theorem xz{K:cu}(h:X.K=K):KG X "list.count" (λx vs H Q=>∃(l:cG) (ns:List Int) (k:Int),x = .ref l/\vs=[.int k]/\SqL K H l (ns.map V.int)/\Q (.int (ns.count k:Nat)) H):=by
 subst h;exact Ci
end
theorem uM(p q:Int×Int):gy (dF p) (dF q)=decide (p=q):=by
 obtain⟨a,b⟩:=p;obtain⟨c,d⟩:=q;unfold dF;by_cases h1:a=c <;> by_cases h2:b=d <;> simp[gy,jb,h1,h2]
theorem DO(p:Int×Int):Gd 1 (dF p)=true:=rfl
theorem sE(p:Int×Int):ga (dF p)=true:=vM (DO p) (by decide)
structure Wt(p:Int×Int)(a D:Int):Prop where
 w:p.1*D=a*p.2
 p2:p.2≠0
 d:D≠0
theorem uZ{a D:Int}(hD:D≠0):Wt (FQ.red a D) a D:=⟨FQ.red_worth hD,by have:=(FQ.red_low (t:=a) hD).pos;omega,hD⟩
theorem Bj{a D:Int}(hD:D≠0):Wt (a,D) a D:=⟨rfl,hD,hD⟩
theorem Di{p q:Int×Int}{a D b E:Int}(h:Wt p a D)(k:Wt q b E):FP p q=FQ.red (a*E+b*D) (D*E):=by
 unfold FP;refine FQ.red_eq (dE h.p2 k.p2) (dE h.d k.d) ?_
 calc (p.1*q.2+q.1*p.2)*(D*E)=(p.1*D)*(q.2*E)+(q.1*E)*(p.2*D):=by rw[gT];ac_rfl
  _=(a*p.2)*(q.2*E)+(b*q.2)*(p.2*D):=by rw[h.w,k.w]
  _=(a*E+b*D)*(p.2*q.2):=by rw[gT];ac_rfl
theorem CK{p q:Int×Int}{a D b E:Int}(h:Wt p a D)(k:Wt q b E):IR p q=FQ.red (a*E-b*D) (D*E):=by
 unfold IR;refine FQ.red_eq (dE h.p2 k.p2) (dE h.d k.d) ?_
 calc (p.1*q.2-q.1*p.2)*(D*E)=(p.1*D)*(q.2*E)-(q.1*E)*(p.2*D):=by rw[jN];ac_rfl
  _=(a*p.2)*(q.2*E)-(b*q.2)*(p.2*D):=by rw[h.w,k.w]
  _=(a*E-b*D)*(p.2*q.2):=by rw[jN];ac_rfl
theorem Bm{p q:Int×Int}{a D b E:Int}(h:Wt p a D)(k:Wt q b E):IY p q=FQ.red (a*b) (D*E):=by
 unfold IY;refine FQ.red_eq (dE h.p2 k.p2) (dE h.d k.d) ?_
 calc (p.1*q.1)*(D*E)=(p.1*D)*(q.1*E):=by ac_rfl
  _=(a*p.2)*(b*q.2):=by rw[h.w,k.w]
  _=(a*b)*(p.2*q.2):=by ac_rfl
theorem AG{a D c:Int}(hD:D≠0)(hc:c≠0):FQ.red (a*c) (D*c)=FQ.red a D:=FQ.red_eq (dE hD hc) hD (by ac_rfl)
theorem AT{T D m c:Int}(hD:D≠0)(hc:c≠0):FP (FQ.red T D) (FQ.red m (D*c))=FQ.red (T*c+m) (D*c):=by
 rw[Di (uZ hD) (uZ (dE hD hc))];refine FQ.red_eq (dE hD (dE hD hc)) (dE hD hc) ?_;rw[gT,gT]
 congr 1 <;> ac_rfl
theorem xr{a b D c:Int}(hD:D≠0)(hc:c≠0):IR (FQ.red a D) (FQ.red b (D*c))=FQ.red (a*c-b) (D*c):=by
 rw[CK (uZ hD) (uZ (dE hD hc))];refine FQ.red_eq (dE hD (dE hD hc)) (dE hD hc) ?_;rw[jN,jN]
 congr 1 <;> ac_rfl
theorem sw{m D:Int}(hD:D≠0):FQ.red m D=(0,1)↔m=0:=by
 constructor
 ·intro h;have:=FQ.red_worth (t:=m) hD;rw[h]at this;simp at this;omega
 ·rintro rfl;exact vc hD
theorem Bb{m D:Int}(hD:D≠0):FQ.red m D=(1,1)↔m=D:=by
 constructor
 ·intro h;have:=FQ.red_worth (t:=m) hD;rw[h]at this;simp at this;omega
 ·rintro rfl;exact xX hD
theorem BZ{p q:Int×Int}{a D b E:Int}(h:Wt p a D)(k:Wt q b E)(hp:0<p.2)(hq:0<q.2)(hD:0<D)(hE:0<E):Ez p q=decide (a*E<b*D):=by
 have c:(p.1*q.2)*(D*E)=(a*E)*(p.2*q.2)/\(q.1*p.2)*(D*E)=(b*D)*(p.2*q.2):=by
  constructor
  ·calc (p.1*q.2)*(D*E)=(p.1*D)*(q.2*E):=by ac_rfl
    _=(a*p.2)*(q.2*E):=by rw[h.w]
    _=_:=by ac_rfl
  ·calc (q.1*p.2)*(D*E)=(q.1*E)*(p.2*D):=by ac_rfl
    _=(b*q.2)*(p.2*D):=by rw[k.w]
    _=_:=by ac_rfl
 have h1:0<D*E:=gU hD hE;have h2:0<p.2*q.2:=gU hp hq;unfold Ez;refine decide_eq_decide.mpr ⟨λz=>?_,λz=>?_⟩
 ·have:=f6 z h1;rw[c.1,c.2]at this;exact gK this (fq h2)
 ·have:=f6 z h2;rw[<-c.1,<-c.2]at this;exact gK this (fq h1)
theorem xl{a D b E:Int}(hD:0<D)(hE:0<E):Ez (FQ.red a D) (FQ.red b E)=decide (a*E<b*D):=
 BZ (uZ (by omega)) (uZ (by omega)) (FQ.red_low (by omega)).pos (FQ.red_low (by omega)).pos hD hE
theorem tQ{a D:Int}{n:Nat}(hD:D≠0)(h1:a.natAbs<2^n)(h2:D.natAbs<2^n):Sz n (FQ.red a D):=by
 have s:=FQ.red_small (t:=a) hD;have p:=(FQ.red_low (t:=a) hD).pos;exact⟨eQ s.1 h1,eQ s.2 h2,by omega⟩
def Fo(ps:List (Int×Int)):Int×Int:=ps.foldl FP (0,1)
theorem uE(ps:List (Int×Int))(p:Int×Int):Fo (ps++[p])=FP (Fo ps) p:=by unfold Fo;rw[nI];rfl
theorem xj{D:Int}(hD:D≠0):∀(ms:List Int) (a:Int),(fr D ms).foldl FP (FQ.red a D)=FQ.red (a+ms.sum) D
 | [],a=>by simp[fr]
 | m::ms,a=>by
  show(fr D ms).foldl FP (FP (FQ.red a D) (FQ.red m D))=_
  rw[wV hD,xj hD ms,eR,mB]
theorem Dv{D:Int}(hD:D≠0)(ms:List Int):Fo (fr D ms)=FQ.red ms.sum D:=by
 have:=xj hD ms 0;rw[vc hD,d3]at this;exact this
theorem AQ{m n:Nat}{x y:Int×Int}(hx:Sz m x)(hy:Sz n y):Sz (m+n+1) (FP x y):=by
 obtain⟨d,b,e⟩:=hx;obtain⟨c,a,f⟩:=hy;refine tQ (dE e f) (BQ (vd d a) (by rw[Nat.add_comm];exact vd c b)) (vx (vd b a) (by omega))
theorem xK:∀(k:Nat) {ps:List (Int×Int)},ps.length=k->(∀p∈ps,Sz 30 p)->Sz (31*k+1) (Fo ps)
 | 0,ps,hl,_=>by rw[ib hl];exact⟨by decide,by decide,by decide⟩
 | k+1,ps,hl,h=>by
  have a:ps≠[]:=λz=>by rw[z]at hl;cases hl
  have e:=jW a
  rw[<-e,uE]
  have h1:=xK k (ps:=ps.dropLast) (by rw[gS];omega) λp hp=>h p (jO _ hp)
  have h2:=h _ (List.getLast_mem a)
  exact(AQ h1 h2).up (by omega)
theorem Dl{ps:List (Int×Int)}(hl:ps.length<=60)(h:∀p∈ps,Sz 30 p):Sz 4000 (Fo ps):=(xK _ rfl h).up (by omega)
def IT(K:cu):Sp:=λvs H Q _=>∃(a:cG) (gs:List V) (ps:List (Int×Int)),vs=[.ref a]/\SqL K H a gs/\dr (IsF K H) gs ps/\(∀p∈ps,Sz 30 p)/\ps.length<=60/\∀v H',Same H H'->IsF K H' v (Fo ps)->Q v H'
def Ew(s:Int×Int)(ps:List (Int×Int)):Int×Int:=ps.foldl (λs p=>if Ez p s=true then p else s) s
def GL(ps:List (Int×Int)):Int×Int:=Ew (ps.headD (0,1)) ps
def HN(K:cu):Sp:=λvs H Q _=>∃(a:cG) (gs:List V) (ps:List (Int×Int)),vs=[.ref a]/\SqL K H a gs/\dr (IsF K H) gs ps/\ps≠[]/\ps.length<=60/\(∀p∈ps,Sz 4000 p)/\∀v,IsF K H v (GL ps)->Q v H
open EM in
def ED(D:Int)(ds ms:List Int)(t:Int):Int×Int:=FQ.red (at0 ms t) (D*cnt ds t)
open EM in
theorem t5{D:Int}{ds ms:List Int}(hD:0<D):∀(r:List Int) (s:Int),s∈ds->(∀t∈r,t∈ds)->Ew (ED D ds ms s) (r.map (ED D ds ms))=ED D ds ms (Fa ds ms s r)
 | [],s,_,_=>rfl
 | t::r,s,hs,hr=>by
  have b:=hr t cM
  have a:∀u∈r,u∈ds:=λu h=>hr u (cO _ h)
  have g:0<D*cnt ds s:=gU hD (cnt_pos hs)
  have j:0<D*cnt ds t:=gU hD (cnt_pos b)
  have e:Ez (ED D ds ms t) (ED D ds ms s)=decide (at0 ms t*cnt ds s<at0 ms s*cnt ds t):=by
   unfold ED
   rw[xl j g]
   refine decide_eq_decide.mpr ?_
   have f:at0 ms t*(D*cnt ds s)=(at0 ms t*cnt ds s)*D:=by ac_rfl
   have d:at0 ms s*(D*cnt ds t)=(at0 ms s*cnt ds t)*D:=by ac_rfl
   rw[f,d]
   exact⟨λz=>gK z (fq hD),λz=>f6 z hD⟩
  show Ew (if Ez (ED D ds ms t) (ED D ds ms s)=true then ED D ds ms t else ED D ds ms s) (r.map (ED D ds ms))=ED D ds ms (Fa ds ms (if at0 ms t*cnt ds s<at0 ms s*cnt ds t then t else s) r)
  rw[e]
  by_cases c:at0 ms t*cnt ds s<at0 ms s*cnt ds t
  ·rw[if_pos (decide_eq_true c),if_pos c]
   exact t5 hD r t b a
  ·rw[if_neg (by simpa using c),if_neg c]
   exact t5 hD r s hs a
theorem zH{D:Int}{ds ms:List Int}(hD:0<D)(hne:ds≠[]):GL (ds.map (ED D ds ms))=ED D ds ms (EM.pick ds ms):=by
 cases ds with
 | nil=>exact absurd rfl hne
 | cons a r=>exact t5 (ds:=a::r) hD (a::r) a cM λ_ h=>h
def Jg(K:cu):Sp:=λvs H Q _=>∃(w l:cG) (row ms:List Int) (D:Int) (gs:List V),vs=[.ref w,.ref l]/\SqT K H w (row.map V.int)/\SqL K H l gs/\dr (IsF K H) gs (fr D ms)/\0<D/\
 (∀t∈row,0<=t/\t<ms.length)/\row.length<=63/\(∃t∈row,EM.at0 ms t≠0)/\∀H',Same H H'->Q (.int (EM.best ms row)) H'
def Jc(K:cu):Sp:=λvs H Q _=>∃(d l:cG) (ds ms:List Int) (D:Int) (gs:List V),vs=[.ref d,.ref l]/\SqL K H d (ds.map V.int)/\SqL K H l gs/\dr (IsF K H) gs (fr D ms)/\0<D/\D<=262144/\ds≠[]/\ds.length<=6/\
 (∀t∈ds,0<=t/\t<ms.length)/\(∀m∈ms,0<=m/\m<=D)/\∀v H',Same H H'->IsF K H' v (ED D ds ms (EM.pick ds ms))->Q v H'
def Jf(K:cu):Sp:=λvs H Q _=>∃(d l p:cG) (ds ms:List Int) (D c m:Int) (gs:List V),vs=[.ref d,.ref l,.ref p]/\SqL K H d (ds.map V.int)/\SqL K H l gs/\dr (IsF K H) gs (fr D ms)/\IsF K H (.ref p) (FQ.red m (D*c))/\
 0<D/\D<=262144/\0<c/\c<=6/\0<=m/\m<=D/\ds.length<=6/\ms.length<=6/\(∀m∈ms,0<=m/\m<=D)/\
 ∀q gs' H',Same H H'->H q=none->H' q=some (.lst gs')->dr (IsF K H') gs' (fr (D*c) ((LM.rng ms.length).map λj=>EM.at0 ms j*c-EM.cnt ds j*m))->Q (.ref q) H'
def IsC(K:cu)(P:cG)(H:Hp)(v:V)(c:EM.Course):Prop:=∃a l d g,v = .ref a/\SqT K H a [.ref l,.ref d,.ref g]/\IsF K H (.ref l) (FQ.red c.m c.D)/\H d=some (.lst (c.ds.map V.int))/\SqT K H g (c.gone.map V.int)/\d≠P
theorem IsC.mono{K:cu}{P:cG}{H H':Hp}{v:V}{c:EM.Course}(e:Same H H')(h:IsC K P H v c):IsC K P H' v c:=by
 obtain⟨a,l,d,g,rfl,h1,h2,h3,h4,h5⟩:=h;exact⟨a,l,d,g,rfl,e.tup h1,h2.mono e,e _ _ h3,e.tup h4,h5⟩
theorem IsC.over{K:cu}{P:cG}{H:Hp}{v:V}{c:EM.Course}{ys zs:List V}(h:IsC K P H v c)(hp:H P=some (.lst ys)):IsC K P (upd H P (.lst zs)) v c:=by
 obtain⟨a,l,d,g,rfl,h1,h2,h3,h4,h5⟩:=h;exact⟨a,l,d,g,rfl,uJ h1 hp,h2.over hp,by rw[rH h5];exact h3,uJ h4 hp,h5⟩
def ET(W:List (List Int))(n N:Nat):List EM.Course:=(db N).map λi=>EM.cs W (EM.st W n i)
theorem zK{W:List (List Int)}{n N i:Nat}{c:EM.Course}(h:(ET W n N)[i]?=some c):i<N/\c=EM.cs W (EM.st W n i):=by
 unfold ET at h;rw[cH]at h;by_cases a:i<N
 ·rw[d9 a]at h;exact⟨a,(Option.some.inj h).symm⟩
 ·rw[gi (by rw[fb];omega)]at h
  cases h
def Hm(K:cu):Sp:=λvs H Q _=>∃(a:cG) (ws:List V) (W:List (List Int)) (n:Nat),vs=[.ref a]/\SqL K H a ws/\dr (IsR K H) ws W/\EM.Ws n W/\
 ∀p cs N H',Same H H'->H p=none->H' p=some (.lst cs)->EM.Stops W n N->dr (IsC K p H') cs (ET W n N)->Q (.ref p) H'
def Hi(K:cu):Sp:=λvs H Q _=>∃(c:cG) (cs:List V) (W:List (List Int)) (n N p:Nat) (t:Int),vs=[.ref c,.int p,.int t]/\H c=some (.lst cs)/\EM.Ws n W/\EM.Upto W n N/\dr (IsC K c H) cs (ET W n N)/\p<n/\
 ∀v H',Same H H'->IsF K H' v (FQ.red (EM.et W n N p t) (EM.st W n N).D)->Q v H'
def Fh(W:List (List Int))(n N p:Nat):List Int:=(LM.rng n).map (EM.et W n N p)
def EF(W:List (List Int))(n N:Nat):List (List Int):=(db n).map (Fh W n N)
def Hg(K:cu):Sp:=λvs H Q _=>∃(c:cG) (cs:List V) (W:List (List Int)) (n N p:Nat),vs=[.ref c,.int p,.int n]/\H c=some (.lst cs)/\EM.Ws n W/\EM.Upto W n N/\dr (IsC K c H) cs (ET W n N)/\p<n/\
 ∀v H',Same H H'->RwFT K H' (EM.st W n N).D v (Fh W n N p)->Q v H'
def Hv(K:cu):Sp:=λvs H Q _=>∃(a:cG) (ws:List V) (W:List (List Int)) (n:Nat),vs=[.ref a]/\SqL K H a ws/\dr (IsR K H) ws W/\EM.Ws n W/\
 ∀p us N H',Same H H'->H p=none->H' p=some (.lst us)->EM.Stops W n N->dr (RwFT K H' (EM.st W n N).D) us (EF W n N)->Q (.ref p) H'
theorem wJ(t:Int):∀G:List Int,JA (.int t) (G.map V.int)=decide (t∈G)
 | []=>by simp[JA]
 | x::G=>by
  have a:=wJ t G
  unfold JA at a ⊢
  rw[dN,gY,a]
  by_cases h1:x=t
  ·subst h1;simp[Ju]
  ·by_cases h2:t∈G
   ·simp[h2]
   ·have h3:t≠x:=λz=>h1 z.symm
    simp[Ju,h1,h2,h3]
theorem vF(G:List Int):(G.map V.int).all FI=true:=by
 rw[dZ];intro v a;obtain⟨i,_,rfl⟩:=dv.mp a;rfl
theorem v7{α β:Type}{F:α->β->Prop}{x:α}{y:β}:∀{xs:List α} {ys:List β} {k:Nat},dr F xs ys->F x y->dr F (xs.set k x) (ys.set k y)
 | _,_,_,.nil,_=> .nil
 | _,_,0,.cons _ t,h=> .cons h t
 | _,_,k+1,.cons r t,h=> .cons r (v7 t h)
theorem zS{D:Int}{m:List Int}{k:Nat}(h:k<m.length):(fr D m)[k]?=some (FQ.red (m.getD k 0) D):=by
 unfold fr;rw[cH,cC,cz h];rfl
abbrev Jz:=Int×List Int
def cw(Ls:List Jz)(i:Nat):Int:=((Ls.take i).map Prod.fst).sum
theorem cw_succ{Ls:List Jz}{i:Nat}{l:Jz}(h:Ls[i]?=some l):cw Ls (i+1)=cw Ls i+l.1:=by
 unfold cw;rw[cY,h,cS,oC];simp
structure LotsOk(n:Nat)(Ls:List Jz)(T:Int):Prop where
 tot:cw Ls Ls.length=T
 w1:∀l∈Ls,1<=l.1
 w2:∀l∈Ls,l.1<=1000000000000
 ne:1<=Ls.length
 le:Ls.length<=40
 dl:∀l∈Ls,l.2.length=n
section
variable{n:Nat}{Ls:List Jz}{T:Int}
theorem LotsOk.up(h:LotsOk n Ls T){i:Nat}(hi:i<Ls.length):cw Ls i<cw Ls (i+1)/\cw Ls (i+1)=cw Ls i+(Ls[i]).1:=by
 have e:=cw_succ (cz hi);have:=h.w1 _ (cW hi);omega
theorem LotsOk.mono(h:LotsOk n Ls T){i:Nat}:∀k,i+k<=Ls.length->cw Ls i<=cw Ls (i+k)
 | 0,_=>fE _
 | k+1,hk=>by
  have h1:=h.mono (i:=i) k (by omega)
  have h2:=(h.up (i:=i+k) (by omega)).1
  rw[<-mC]
  omega
theorem LotsOk.mono'(h:LotsOk n Ls T){i j:Nat}(hij:i<=j)(hj:j<=Ls.length):cw Ls i<=cw Ls j:=by
 have:=h.mono (i:=i) (j-i) (by omega);rw[show i+(j-i)=j by omega]at this;exact this
theorem cw_zero(Ls:List Jz):cw Ls 0=0:=rfl
theorem LotsOk.bd(h:LotsOk n Ls T){i:Nat}(hi:i<=Ls.length):0<=cw Ls i/\cw Ls i<=T:=by
 have h1:=h.mono' (du i) hi;have h2:=h.mono' hi (cI _);rw[cw_zero]at h1;rw[h.tot]at h2;exact⟨h1,h2⟩
theorem LotsOk.cwle(h:LotsOk n Ls T):∀i,i<=Ls.length->cw Ls i<=i*1000000000000
 | 0,_=>by rw[cw_zero];simp
 | i+1,hi=>by
  have h1:=h.cwle i (by omega)
  have h2:=(h.up (i:=i) (by omega)).2
  have h3:=h.w2 _ (cW (show i<Ls.length by omega))
  rw[h2]
  push_cast
  omega
theorem LotsOk.T0(h:LotsOk n Ls T):0<T/\T<2^80:=by
 have h1:=(h.up (i:=0) (by have:=h.ne;omega)).1;have h2:=h.bd (i:=1) h.ne;rw[cw_zero,nJ]at h1;have h3:=h.cwle Ls.length (cI _);rw[h.tot]at h3;have h4:=h.le;have:(Ls.length:Int)*1000000000000<=40*1000000000000:=e7 (by omega) (by decide);constructor <;> omega
end
structure First(Ls:List Jz)(T:Int)(p:Int×Int)(i:Nat):Prop where
 lt:i<Ls.length
 yes:Ez p (FQ.red (cw Ls (i+1)) T)=true
 no:∀j,j<i->Ez p (FQ.red (cw Ls (j+1)) T)=false
theorem First.uniq{Ls:List Jz}{T:Int}{p:Int×Int}{i j:Nat}(h:First Ls T p i)(h':First Ls T p j):i=j:=by
 rcases iE i j with z|z|z
 ·have:=h'.no i z;rw[h.yes]at this;cases this
 ·exact z
 ·have:=h.no j z;rw[h'.yes]at this;cases this
def IsLot(K:cu)(H:Hp)(T:Int)(v:V)(l:Jz):Prop:=∃a f g,v = .ref a/\SqT K H a [.ref f,.ref g]/\IsF K H (.ref f) (FQ.red l.1 T)/\SqT K H g (l.2.map V.int)
theorem IsLot.mono{K:cu}{H H':Hp}{T:Int}{v:V}{l:Jz}(e:Same H H')(h:IsLot K H T v l):IsLot K H' T v l:=by
 obtain⟨a,f,g,rfl,h1,h2,h3⟩:=h;exact⟨a,f,g,rfl,e.tup h1,h2.mono e,e.tup h3⟩
def ES(p:Int×Int):Prop:=Ez p (0,1)=true\/Ez p (1,1)=false
def G1(K:cu)(x:Xs):Sp:=λvs H Q E=>∃(L m:cG) (ls:List V) (Ls:List Jz) (T:Int) (n:Nat) (p:Int×Int),vs=[.ref L,.ref m]/\SqL K H L ls/\dr (IsLot K H T) ls Ls/\LotsOk n Ls T/\IsF K H (.ref m) p/\Sz 2000 p/\0<p.2/\
 (ES p->E (.ref x.NoPick) none H)/\(¬ES p->∀i v H',First Ls T p i->Same H H'->IsR K H' v (Ls.getD i (0,[])).2->Q v H')
theorem uQ{prog:cT}{w:dc}{A:dw}{E:cA->cD->Prop}{s:cD}{it l:cG}{i:Nat}{items:Array cA}{x:cA}{Q:cA->cD->Prop}(hit:s.heap.IsTupleIter it l i)(hl:s.heap.IsTuple l items)(hx:items[i]?=some x)
  (hQ:∀h':Heap,h'.IsTupleIter it l (i+1)->fK it s.heap h'->Q x {s with heap:=h'}):wpAny (model prog w) A (d4 (.ref it)) Q E s:=by
 obtain⟨o,b,e,a⟩:=id hit
 obtain⟨h,d,f,g,c⟩:=hl
 unfold d4
 refine cr (ef (h9 hit) gL (dR gL (h9 hit) j5 ?_ (jX _)))
 refine cr (cv ?_)
 refine cr (eF b a rfl ?_)
 refine cP rfl ?_
 refine cr (eF b a rfl ?_)
 refine cr (fR d c ?_)
 dsimp only
 rw[show items[((i:Nat):Int).toNat]?=some x from hx]
 refine cr (gt b a (by simp) ?_)
 refine cv ⟨x,rfl,cv (hQ _ ⟨_,eI _ b (Obj.isFreed_of_fields (mU a _)),(Obj.cls_mapFields o _).trans e,?_⟩ (eX _ _ _))⟩
 rw[mU a]
 rfl
theorem u6{prog:cT}{w:dc}{A:dw}{E:cA->cD->Prop}{s:cD}{it l:cG}{i:Nat}{items:Array cA}{Q:cA->cD->Prop}(hh:A.handled=none)(hit:s.heap.IsTupleIter it l i)(hl:s.heap.IsTuple l items)(hx:items[i]?=none)
  (hE:∀(h':Heap) (e:cG),qF it s.heap h'->(∃o,h'.get? e=some o/\o.cls = .type "StopIteration")->E (.ref e) {s with heap:=h'}):wpAny (model prog w) A (d4 (.ref it)) Q E s:=by
 obtain⟨o,b,g,a⟩:=id hit
 obtain⟨j,d,f,h,c⟩:=hl
 unfold d4
 refine cr (ef (h9 hit) gL (dR gL (h9 hit) j5 ?_ (jX _)))
 refine cr (cv ?_)
 refine cr (eF b a rfl ?_)
 refine cP rfl ?_
 refine cr (eF b a rfl ?_)
 refine cr (fR d c ?_)
 dsimp only
 rw[show items[((i:Nat):Int).toNat]?=none from hx]
 refine cr (iR (cr (gt b a (by simp) ?_)))
 unfold nK newExc raiseNew
 refine cr (cr (iU ?_ (by show(0:Nat)<=sizeLine;decide)))
 refine cr (fO rfl (e9 ?_ ?_))
 ·refine cr (kQ ?_)
  rw[show A.in1.handled=none from hh]
  refine md ?_
  exact hE _ _ (((eX _ _ _).extBut.push _).push _) ⟨_,cN _ rfl,rfl⟩
 ·exact lc _ _ _ _ _ _ _ _
theorem yl{prog:cT}{w:dc}{A:dw}(hh:A.handled=none)(it l:cG)(hl:l≠it)(items:Array cA):Draws prog w A it [it,l] items.size (λi v=>items[i]?=some v) (λi h=>h.IsTupleIter it l i/\h.IsTuple l items) where
 live:=λi h st=>by obtain⟨⟨o,g,_⟩,_⟩:=st;exact⟨o,g⟩
 frame:=λi h f st k=>by
  obtain⟨b,o,a,r⟩:=st
  exact⟨b.at λo q=>k it (by simp) o q,o,k l (by simp) o a,r⟩
 item:=λi s Q E d st h=>by
  obtain⟨b,a⟩:=st
  refine uQ b a (x:=items[i]) (by simp[d]) λf e c=>h _ _ s.toks (by simp[d]) ⟨e,?_⟩ c
  obtain⟨o,q,r⟩:=a
  exact⟨o,(c.2 l hl).trans q,r⟩
 done:=λs Q E st h=>by
  obtain⟨b,a⟩:=st
  exact u6 hh b a (by simp) h
structure J7(z TI TO i1 i2:cG)(fp1 fp2:List cG):Prop where
 TIz:TI≠z
 TOz:TO≠z
 i1z:i1≠z
 i2z:i2≠z
 TITO:TI≠TO
 TIi1:TI≠i1
 TIi2:TI≠i2
 TOi1:TO≠i1
 TOi2:TO≠i2
 i12:i1≠i2
 z1:z∉fp1
 T1:TO∉fp1
 i21:i2∉fp1
 z2:z∉fp2
 T2:TO∉fp2
 i12':i1∉fp2
theorem yV{prog:cT}{w:dc}{A:dw}{E:cA->cD->Prop}{s:cD}{z TI TO i1 i2:cG}{fp1 fp2:List cG}{n1 n2 k1 k2:Nat}{P1 P2:Nat->cA->Prop}{St1 St2:Nat->Heap->Prop}{a b:cA}{Q:cA->cD->Prop}
  (D1:Draws prog w A i1 fp1 n1 P1 St1)(D2:Draws prog w A i2 fp2 n2 P2 St2)(ap:J7 z TI TO i1 i2 fp1 fp2)(hz:IsZip s.heap z TI TO .none)(hTI:IsPair s.heap TI (.ref i1) (.ref i2))(hTO:IsPair s.heap TO a b)
  (s1:St1 k1 s.heap)(s2:St2 k2 s.heap)(hk1:k1<n1)(hk2:k2<n2)
  (hQ:∀(x y:cA) (h':Heap) (tk:Nat),P1 k1 x->P2 k2 y->IsZip h' z TI TO (rawInt s.heap.objs.size)->IsPair h' TO x y->St1 (k1+1) h'->St2 (k2+1) h'->IsPair h' s.heap.objs.size x y->h'.objs.size=s.heap.objs.size+1->
   (∀c o,c≠z->c≠TO->c≠i1->c≠i2->s.heap.get? c=some o->h'.get? c=some o)->Q (.ref s.heap.objs.size) {s with heap:=h',toks:=tk}):
  wpAny (model prog w) A (Builtin.«zip.__next__» {pos:=[.ref z]}) (λfin s'=>∃v,fin=qG (qH v)/\Q v s') E s:=by
 unfold Builtin.«zip.__next__»
 refine cr (cv ?_)
 refine cr (eF hz rfl rfl ?_)
 refine cr (eF hz rfl rfl ?_)
 refine cr (fR hTI rfl ?_)
 refine cP rfl ?_
 unfold fS
 refine cr (cr (eF hz rfl rfl (cv ?_)))
 refine cr (iR (cr (eF hz rfl rfl ?_)))
 refine cr (eS hz (by simp) λh1 O g=>?_)
 rw[show #[cR i1,cR i2].toList.zipIdx=[(cR i1,0),(cR i2,1)]from rfl,eg,bind_assoc]
 have G:IsPair h1 TO a b:=(g.2 TO ap.TOz).trans hTO
 have T:St1 k1 h1:=D1.frame _ _ _ s1 λc d o q=>(g.2 c (λe=>ap.z1 (e▸d))).trans q
 have W:St2 k2 h1:=D2.frame _ _ _ s2 λc d o q=>(g.2 c (λe=>ap.z2 (e▸d))).trans q
 refine cr (cr (mE ?_))
 refine(show wpAny (model prog w) A (if(er false==er true)=true then fC (.ref i1)else do let x<-d4 (.ref i1);pure (some x)) _ _ _ from cP rfl (cr (D1.item k1 _ _ _ hk1 T λx h2 aa Z R k=>cv ?_)))
 have n:IsPair h2 TO a b:=(k.2 TO ap.TOi1).trans G
 refine cr (fR n rfl ?_)
 refine cr (me n λh3 H l=>?_)
 refine cr (kE (cv ?_))
 dsimp only
 have u:IsPair h3 TO x b:=H
 have X:St1 (k1+1) h3:=D1.frame _ _ _ R λc d o q=>(l.2 c (λe=>ap.T1 (e▸d))).trans q
 have J:St2 k2 h3:=D2.frame _ _ _ W λc d o q=>(l.2 c (λe=>ap.T2 (e▸d))).trans ((k.2 c (λe=>ap.i12' (e▸d))).trans q)
 rw[eg,bind_assoc]
 refine cr (cr (mE ?_))
 refine(show wpAny (model prog w) A (if(er false==er true)=true then fC (.ref i2)else do let x<-d4 (.ref i2);pure (some x)) _ _ _ from cP rfl (cr (D2.item k2 _ _ _ hk2 J λy h4 S py N h=>cv ?_)))
 have r:IsPair h4 TO x b:=(h.2 TO ap.TOi2).trans u
 refine cr (fR r rfl ?_)
 refine cr (me r λh5 F j=>?_)
 refine cr (kE (cv ?_))
 dsimp only
 have m:IsPair h5 TO x y:=F
 rw[gr]
 refine cr (cv ?_)
 refine cr (fR m rfl ?_)
 refine cr (iU ?_ (by show 2<=sizeLine;decide))
 have C:h5.get? z=some {cls:=dL "zip",data:=lY #[Value.ellipsis,er false,er false,cR TI,cR TO]}:=
  (j.2 z (Ne.symm ap.TOz)).trans ((h.2 z (Ne.symm ap.i2z)).trans ((l.2 z (Ne.symm ap.TOz)).trans ((k.2 z (Ne.symm ap.i1z)).trans O)))
 unfold mq
 dsimp only
 have V:=cF (o:={cls:=dL "tuple",data:=iL [x,y].toArray}) C
 refine cr (cr (eS V (by simp) λh7 Y t=>?_))
 refine eS Y (by simp) λI U p=>?_
 have B:h5.objs.size=s.heap.objs.size:=by rw[j.1,h.1,l.1,k.1,g.1]
 have D:(h5.push {cls:=dL "tuple",data:=iL [x,y].toArray}).get? h5.objs.size=some {cls:=dL "tuple",data:=iL [x,y].toArray}:=cN _ rfl
 have nz:h5.objs.size≠z:=Ne.symm (df (cQ C))
 have L:St1 (k1+1) h5:=D1.frame _ _ _ X λc d o q=>(j.2 c (λe=>ap.T1 (e▸d))).trans ((h.2 c (λe=>ap.i21 (e▸d))).trans q)
 have P:St2 (k2+1) h5:=D2.frame _ _ _ N λc d o q=>(j.2 c (λe=>ap.T2 (e▸d))).trans q
 have f:∀c o,c≠z->h5.get? c=some o->I.get? c=some o:=λc o d q=>(p.2 c d).trans ((t.2 c d).trans (cF _ q))
 refine cv ⟨_,rfl,?_⟩
 dsimp only
 rw[B]
 refine hQ x y I S Z py ?_ (f TO _ ap.TOz m) (D1.frame _ _ _ L λc d o q=>f c o (λe=>ap.z1 (e▸d)) q) (D2.frame _ _ _ P λc d o q=>f c o (λe=>ap.z2 (e▸d)) q) ?_ ?_ (λc o M K c3 c4 q=>?_)
 ·rw[<-B];exact U
 ·rw[<-B];exact(p.2 _ nz).trans ((t.2 _ nz).trans D)
 ·rw[p.1,t.1]
  show(h5.push _).objs.size=_
  unfold la
  simp[B]
 ·exact f c o M ((j.2 c K).trans ((h.2 c c4).trans ((l.2 c K).trans ((k.2 c c3).trans ((g.2 c M).trans q)))))
theorem ub{prog:cT}{w:dc}{A:dw}{E:cA->cD->Prop}{s:cD}{z:cG}{Q:Option cA->cD->Prop}(ht:s.TypeIs (.ref z) "zip")
  (h:wpAny (model prog w) A.in1 (Builtin.«zip.__next__» {pos:=[.ref z]}) (λfin s'=>∃v,fin=qG (qH v)/\Q (some v) s') (λe s'=>(∃a o,e = .ref a/\s'.heap.get? a=some o/\o.cls = .type "StopIteration")/\Q none s') s):
  wpAny (model prog w) A (pyNext (.ref z)) Q E s:=by
 unfold pyNext
 refine cr (iy (ef ht oD (dR oD ht F.entry_zip_next ?_ (F.args_zip_next_1 _))))
 refine gj h (λfin s' b=>?_) (λe s' b=>?_)
 ·obtain⟨v,e,q⟩:=b
  exact⟨v,e,cv q⟩
 ·obtain⟨⟨a,o,rfl,d,c⟩,q⟩:=b
  refine cr (eH (T:="StopIteration") ⟨o,d,c⟩ kj ?_)
  exact cv q
theorem Be{prog:cT}{w:dc}{A:dw}{E:cA->cD->Prop}{s:cD}{z TI TO i1 i2:cG}{fp1:List cG}{n1:Nat}{P1:Nat->cA->Prop}{St1:Nat->Heap->Prop}{a b:cA}{Q:PySem.Fin->cD->Prop}
  (D1:Draws prog w A i1 fp1 n1 P1 St1)(i1z:i1≠z)(z1:z∉fp1)(hz:IsZip s.heap z TI TO .none)(hTI:IsPair s.heap TI (.ref i1) (.ref i2))(hTO:IsPair s.heap TO a b)(s1:St1 n1 s.heap)
  (hE:∀(h':Heap) (e:cG),(∀c o,c≠z->c≠i1->s.heap.get? c=some o->h'.get? c=some o)->(∃o,h'.get? e=some o/\o.cls = .type "StopIteration")->E (.ref e) {s with heap:=h'}):
  wpAny (model prog w) A (Builtin.«zip.__next__» {pos:=[.ref z]}) Q E s:=by
 unfold Builtin.«zip.__next__»
 refine cr (cv ?_)
 refine cr (eF hz rfl rfl ?_)
 refine cr (eF hz rfl rfl ?_)
 refine cr (fR hTI rfl ?_)
 refine cP rfl ?_
 unfold fS
 refine cr (cr (eF hz rfl rfl (cv ?_)))
 refine cr (iR (cr (eF hz rfl rfl ?_)))
 refine cr (eS hz (by simp) λh1 n g=>?_)
 rw[show #[cR i1,cR i2].toList.zipIdx=[(cR i1,0),(cR i2,1)]from rfl,eg,bind_assoc]
 have p:St1 n1 h1:=D1.frame _ _ _ s1 λc f o q=>(g.2 c (λe=>z1 (e▸f))).trans q
 refine cr (cr (mE ?_))
 refine(show wpAny (model prog w) A (if(er false==er true)=true then fC (.ref i1)else do let x<-d4 (.ref i1);pure (some x)) _ _ _ from cP rfl (cr (D1.done _ _ _ p λh2 e j d=>?_)))
 have h:h2.get? z=some _:=j z _ (Ne.symm i1z) n
 refine eS h (by simp) λh3 t k=>?_
 obtain⟨o,d,f⟩:=d
 have l:e≠z:=λq=>by
  rw[q,h]at d
  cases d
  exact absurd (dL.inj f) (by decide)
 exact hE h3 e (λc o m r q=>(k.2 c m).trans (j c o r ((g.2 c m).trans q))) ⟨o,(k.2 e l).trans d,f⟩
def Sqx(h:Heap)(tp:Bool)(l:cG)(items:Array cA):Prop:=if tp=true then h.IsTuple l items else h.IsList l items
def Itx(h:Heap)(tp:Bool)(it l:cG)(i:Nat):Prop:=if tp=true then h.IsTupleIter it l i else h.IsListIter it l i
def F4(tp:Bool)(l:cG):Obj:={cls:= .type (if tp=true then"tuple_iterator"else"list_iterator"),data:= .fields #[.ref l,.int 0 0]}
theorem wc{prog:cT}{w:dc}{A:dw}{E:cA->cD->Prop}{s:cD}{tp:Bool}{l:cG}{items:Array cA}{Q:cA->cD->Prop}(h:Sqx s.heap tp l items)(hQ:Q (.ref s.heap.objs.size) {s with heap:=s.heap.push (F4 tp l)}):wpAny (model prog w) A (pyIter (.ref l)) Q E s:=by
 cases tp with
 | true=>exact mK h hQ
 | false=>exact iC h hQ
theorem Sqx.keep{h h':Heap}{tp:Bool}{l:cG}{items:Array cA}(q:Sqx h tp l items)(k:∀o,h.get? l=some o->h'.get? l=some o):Sqx h' tp l items:=by
 cases tp with
 | true=>obtain⟨o,a,r⟩:=(show h.IsTuple l items from q);exact⟨o,k o a,r⟩
 | false=>obtain⟨o,a,r⟩:=(show h.IsList l items from q);exact⟨o,k o a,r⟩
theorem Sqx.lt{h:Heap}{tp:Bool}{l:cG}{items:Array cA}(q:Sqx h tp l items):l<h.objs.size:=by
 cases tp with
 | true=>obtain⟨o,a,r⟩:=(show h.IsTuple l items from q);exact cQ a
 | false=>obtain⟨o,a,r⟩:=(show h.IsList l items from q);exact cQ a
theorem Itx.new{h:Heap}{tp:Bool}{it l:cG}(e:h.get? it=some (F4 tp l)):Itx h tp it l 0:=by
 cases tp with
 | true=>exact⟨_,e,rfl,rfl⟩
 | false=>exact⟨_,e,rfl,rfl⟩
theorem Itx.keep{h h':Heap}{tp:Bool}{it l:cG}{i:Nat}(q:Itx h tp it l i)(k:∀o,h.get? it=some o->h'.get? it=some o):Itx h' tp it l i:=by
 cases tp with
 | true=>exact Heap.IsTupleIter.at q k
 | false=>exact Heap.IsListIter.at q k
theorem Itx.get{h:Heap}{tp:Bool}{it l:cG}{i:Nat}(q:Itx h tp it l i):∃vs n,h.get? it=some {cls:= .type n,data:= .fields vs}\/∃o,h.get? it=some o/\o.data = .fields vs:=by
 cases tp with
 | true=>obtain⟨o,e,c,d⟩:=(show h.IsTupleIter it l i from q);exact⟨_,"",.inr ⟨o,e,d⟩⟩
 | false=>obtain⟨o,e,c,d⟩:=(show h.IsListIter it l i from q);exact⟨_,"",.inr ⟨o,e,d⟩⟩
theorem tY{prog:cT}{w:dc}{A:dw}(hh:A.handled=none)(tp:Bool)(it l:cG)(hl:l≠it)(items:Array cA):Draws prog w A it [it,l] items.size (λi v=>items[i]?=some v) (λi h=>Itx h tp it l i/\Sqx h tp l items):=by
 cases tp with
 | true=>exact yl hh it l hl items
 | false=>exact Draws.list hh it l hl items
theorem zl(l1 l2:cG)(t1 t2:Bool)(xs ys:Array cA):Meets (Builtin.«zip.__new__» {pos:=[.type "zip",.ref l1,.ref l2]}) (λ_ R s=>Sqx s.heap t1 l1 xs/\Sqx s.heap t2 l2 ys/\
  R (.ok (.ret (.ref (s.heap.objs.size+4)))) {s with heap:=((((s.heap.push (F4 t1 l1)).push (F4 t2 l2)).push {cls:= .type "tuple",data:= .seq #[.ref s.heap.objs.size,.ref (s.heap.objs.size+1)]}).push {cls:= .type "tuple",data:= .seq #[.none,.none]}).push {cls:= .type "zip",data:= .fields #[.none,.bool false,.bool false,.ref (s.heap.objs.size+2),.ref (s.heap.objs.size+3)]}}):=by
 refine Meets.of_wp λe w A R s h=>?_
 obtain⟨h1,h2,c⟩:=h
 have a:=sub_zip
 unfold Builtin.«zip.__new__» oI
 refine cr (cr (cv ?_))
 refine cP rfl (cr (fO a (cP rfl (cv ?_))))
 refine cP rfl ?_
 unfold oY
 dsimp only
 rw[eg]
 refine cr (cr (cr (cr (dG (wc h1 (cv ?_))))))
 dsimp only
 rw[eg]
 have b:Sqx (s.heap.push (F4 t1 l1)) t2 l2 ys:=h2.keep λo q=>cF _ q
 refine cr (cr (dG (wc (s:={s with heap:=s.heap.push (F4 t1 l1)}) b (cv ?_))))
 dsimp only
 rw[gr]
 have d:∀(h:Heap) (o:Obj),(h.push o).objs.size=h.objs.size+1:=λh o=>by unfold la;simp
 refine cv (cv ?_)
 refine cr (iU ?_ (by show 2<=sizeLine;decide))
 refine cr (iU ?_ (by show 2<=sizeLine;decide))
 unfold oE
 refine cr (e9 ?_ (by show(5:Nat)<=sizeLine+2;decide))
 refine cv ⟨_,rfl,?_⟩
 simp only[d]
 exact c
def Jd(K:cu)(H:Hp)(tp:Bool)(a:cG)(xs:List V):Prop:=if tp=true then SqT K H a xs else SqL K H a xs
structure ZipB(z TI TO i1 i2 l1 l2:cG):Prop where
 TIz:TI≠z
 TOz:TO≠z
 i1z:i1≠z
 i2z:i2≠z
 TITO:TI≠TO
 TIi1:TI≠i1
 TIi2:TI≠i2
 TOi1:TO≠i1
 TOi2:TO≠i2
 i12:i1≠i2
 l1z:l1≠z
 l1T:l1≠TO
 l1i:l1≠i1
 l1j:l1≠i2
 l2z:l2≠z
 l2T:l2≠TO
 l2i:l2≠i1
 l2j:l2≠i2
theorem ZipB.a{z TI TO i1 i2 l1 l2:cG}(b:ZipB z TI TO i1 i2 l1 l2):J7 z TI TO i1 i2 [i1,l1] [i2,l2]:=
 ⟨b.TIz,b.TOz,b.i1z,b.i2z,b.TITO,b.TIi1,b.TIi2,b.TOi1,b.TOi2,b.i12,by simp[Ne.symm b.i1z,Ne.symm b.l1z],by simp[b.TOi1,Ne.symm b.l1T],by simp[Ne.symm b.i12,Ne.symm b.l1j],by simp[Ne.symm b.i2z,Ne.symm b.l2z],by simp[b.TOi2,Ne.symm b.l2T],by simp[b.i12,Ne.symm b.l2i]⟩
section
variable{X:Cx}{pins:List (cG×Obj)}{σ:St}{H:Hp}{s:cD}
theorem Inv.sqx(I:Inv X pins σ H s){tp:Bool}{a:cG}{xs:List V}(h:Jd X.K H tp a xs):∃its:List cA,Vals xs its/\Sqx s.heap tp a its.toArray:=by
 cases tp with
 | true=>obtain⟨its,r,p,_⟩:=I.tuple h;exact⟨its,r,p⟩
 | false=>obtain⟨its,r,p,_⟩:=I.list h;exact⟨its,r,p.isList⟩
theorem Inv.sqb_inj(I:Inv X pins σ H s){tp:Bool}{a:cG}{xs ys:List V}(h:Jd X.K H tp a xs)(h':Jd X.K H tp a ys):xs=ys:=by
 cases tp with
 | true=>exact I.tuple_inj h h'
 | false=>exact I.list_inj h h'
end
def My(K:cu)(t1 t2:Bool)(a b:cG):It:=
 ⟨λi H=>∃xs ys x y,Jd K H t1 a xs/\Jd K H t2 b ys/\xs[i]?=some x/\ys[i]?=some y,
  λi H v H'=>∃x y t,(∀xs,Jd K H t1 a xs->xs[i]?=some x)/\(∀ys,Jd K H t2 b ys->ys[i]?=some y)/\v = .ref t/\H t=none/\H'=upd H t (.tup [x,y]),
  λi H=>∃xs,Jd K H t1 a xs/\xs.length=i⟩
theorem BL{P:cT}{w:dc}{K:cu}{elts:List Expr}{x1:Nat}{pos:Pos}(t1 t2:Bool)(l1 l2 z TI TO i1 i2:cG)(ap:ZipB z TI TO i1 i2 l1 l2):
  HX P w K (.Tuple elts x1 pos) (My K t1 t2 l1 l2) [z,TI,TO,i1,i2] z (λi h=>IsZip h z TI TO .none/\IsPair h TI (.ref i1) (.ref i2)/\(∃a b,IsPair h TO a b)/\Itx h t1 i1 l1 i/\Itx h t2 i2 l2 i) where
 mem:=by simp
 obj:=λi h st b f=>by
  obtain⟨j,p,⟨a,c,r⟩,m,t⟩:=st
  simp only[cZ,hU,or_false]at f
  rcases f with rfl|rfl|rfl|rfl|rfl
  ·exact⟨_,j,λv z=>by cases z⟩
  ·exact⟨_,p,λv z=>by cases z⟩
  ·exact⟨_,r,λv z=>by cases z⟩
  ·cases t1 with
   | true=>obtain⟨o,e,_,d⟩:=(show h.IsTupleIter _ _ _ from m);exact⟨o,e,λv z=>by rw[d]at z;cases z⟩
   | false=>obtain⟨o,e,_,d⟩:=(show h.IsListIter _ _ _ from m);exact⟨o,e,λv z=>by rw[d]at z;cases z⟩
  ·cases t2 with
   | true=>obtain⟨o,e,_,d⟩:=(show h.IsTupleIter _ _ _ from t);exact⟨o,e,λv z=>by rw[d]at z;cases z⟩
   | false=>obtain⟨o,e,_,d⟩:=(show h.IsListIter _ _ _ from t);exact⟨o,e,λv z=>by rw[d]at z;cases z⟩
 keep:=λi h F st k=>by
  obtain⟨j,p,⟨a,c,r⟩,m,t⟩:=st
  exact⟨k z (by simp) _ j,k TI (by simp) _ p,⟨a,c,k TO (by simp) _ r⟩,m.keep λo q=>k i1 (by simp) o q,t.keep λo q=>k i2 (by simp) o q⟩
 item:=by
  intro X hP hw hK hc i l s R H E I U st hg
  subst hP hw hK
  obtain⟨xs,ys,x,y,D,S,hx,hy⟩:=hg
  obtain⟨g,L,Y⟩:=I.sqx D
  obtain⟨C,ai,p2⟩:=I.sqx S
  obtain⟨u,hu,ru⟩:=L.get hx
  obtain⟨v,hv,rv⟩:=ai.get hy
  obtain⟨j,p,⟨a,c,r⟩,m,t⟩:=st
  have O:=I.ok.hd hc
  have af:i<g.toArray.size:=by rw[cX];exact(cL.mp hu).1
  have ah:i<C.toArray.size:=by rw[cX];exact(cL.mp hv).1
  refine ub ⟨_,j,rfl⟩ (yV (tY (A:=X.A.in1) O t1 i1 l1 ap.l1i g.toArray) (tY (A:=X.A.in1) O t2 i2 l2 ap.l2j C.toArray) ap.a j p r ⟨m,Y⟩ ⟨t,p2⟩ af ah λM J F tk px py ag aa ad ac T ak Q=>?_)
  have ex:M=u:=by
   have:g.toArray[i]?=some M:=px
   rw[jD,hu]at this
   exact(Option.some.inj this).symm
  have ey:J=v:=by
   have:C.toArray[i]?=some J:=py
   rw[jD,hv]at this
   exact(Option.some.inj this).symm
  subst ex ey
  have B:∀b o,s.heap.get? b=some o->b≠s.heap.objs.size:=λb o q=>df (cQ q)
  have hn:H s.heap.objs.size=none:=I.hok.fresh (cI _)
  have aj:∀b∈[z,TI,TO,i1,i2],b≠s.heap.objs.size:=λb f=>by
   simp only[cZ,hU,or_false]at f
   rcases f with rfl|rfl|rfl|rfl|rfl
   ·exact B _ _ j
   ·exact B _ _ p
   ·exact B _ _ r
   ·obtain⟨vs,n,e|⟨o,e,_⟩⟩:=m.get
    ·exact B _ _ e
    ·exact B _ _ e
   ·obtain⟨vs,n,e|⟨o,e,_⟩⟩:=t.get
    ·exact B _ _ e
    ·exact B _ _ e
  have I0:Inv X l R (upd H s.heap.objs.size (.tup [x,y])) {s with heap:=s.heap.push {cls:= .type "tuple",data:= .seq #[M,J]},toks:=s.toks}:=
   I.laid (t':=s.toks) (λb o q=>cF _ q) (cI _) ⟨by show 2<=sizeLine;decide,[M,J],.cons ru (.cons rv .nil),⟨_,cN _ rfl,rfl,_,rfl⟩⟩
  have G:∀b∈[z,TI,TO,i1,i2],Gf X l (upd H s.heap.objs.size (.tup [x,y])) b:=λb f=>by
   have q:=U b f
   exact⟨by rw[rH (aj b f)];exact q.1,q.2⟩
  have I1:Inv X l R (upd H s.heap.objs.size (.tup [x,y])) {s with heap:=F,toks:=tk}:=
   Inv.turnedL (s:={s with heap:=s.heap.push {cls:= .type "tuple",data:= .seq #[M,J]},toks:=s.toks}) I0 (fp:=[z,TI,TO,i1,i2]) (t':=tk) (λb o f q=>by
    simp only[cZ,hU,or_false,not_or]at f
    rcases tF q rfl with q|⟨rfl,rfl⟩
    ·exact Q b o f.1 f.2.2.1 f.2.2.2.1 f.2.2.2.2 q
    ·exact T) G
  refine⟨_,rfl,wpAny_letOwnedTupleGo_zip (s:={s with heap:=F,toks:=tk}) ag λh2 ae N=>?_⟩
  have I2:Inv X l R (upd H s.heap.objs.size (.tup [x,y])) {s with heap:=h2,toks:=tk}:=
   Inv.turnedL (s:={s with heap:=F,toks:=tk}) I1 (fp:=[z,TI,TO,i1,i2]) (t':=tk) (λb o f q=>(N.2 b (λe=>f (by simp[e]))).trans q) G
  have V:IsPair F TI (.ref i1) (.ref i2):=Q TI _ ap.TIz ap.TITO ap.TIi1 ap.TIi2 p
  refine⟨.ref s.heap.objs.size,_,I2,rfl,⟨x,y,_,λal h=>by rw[I.sqb_inj h D];exact hx,λan h=>by rw[I.sqb_inj h S];exact hy,rfl,hn,rfl⟩,⟨ae,(N.2 TI ap.TIz).trans V,⟨_,_,(N.2 TO ap.TOz).trans aa⟩,ad.1.keep λo q=>(N.2 i1 ap.i1z).trans q,ac.1.keep λo q=>(N.2 i2 ap.i2z).trans q⟩,λb f=>(G b f).1⟩
 done:=by
  intro X hP hw hK hc i l s R H E I U st hg
  subst hP hw hK
  obtain⟨xs,D,am⟩:=hg
  obtain⟨g,L,Y⟩:=I.sqx D
  obtain⟨j,p,⟨a,c,r⟩,m,t⟩:=st
  have O:=I.ok.hd hc
  have hl:=L.length
  have en:i=g.toArray.size:=by rw[cX];omega
  subst en
  refine ub ⟨_,j,rfl⟩ (Be (tY (A:=X.A.in1) O t1 i1 l1 ap.l1i g.toArray) ap.i1z (by simp[Ne.symm ap.i1z,Ne.symm ap.l1z]) j p r ⟨m,Y⟩ λF e Q Z=>?_)
  obtain⟨o,Z,ab⟩:=Z
  exact⟨⟨e,o,rfl,Z,ab⟩,rfl,I.turnedL (fp:=[z,TI,TO,i1,i2]) (t':=s.toks) (λb o f q=>Q b o (λz=>f (by simp[z])) (λz=>f (by simp[z])) q) U⟩
 self:=λ_ _ _ _ _ st h=>by
  obtain⟨j,_⟩:=st
  exact ld j h
theorem xU{prog:cT}{w:dc}{A:dw}{E:cA->cD->Prop}{s:cD}{l1 l2:cG}{t1 t2:Bool}{xs ys:Array cA}{Q:cA->cD->Prop}(h1:Sqx s.heap t1 l1 xs)(h2:Sqx s.heap t2 l2 ys)
  (h:∀h':Heap,IsZip h' (s.heap.objs.size+4) (s.heap.objs.size+2) (s.heap.objs.size+3) .none->IsPair h' (s.heap.objs.size+2) (.ref s.heap.objs.size) (.ref (s.heap.objs.size+1))->IsPair h' (s.heap.objs.size+3) .none .none->
   Itx h' t1 s.heap.objs.size l1 0->Itx h' t2 (s.heap.objs.size+1) l2 0->h'.objs.size=s.heap.objs.size+5->(∀c o,s.heap.get? c=some o->h'.get? c=some o)->Q (.ref (s.heap.objs.size+4)) {s with heap:=h'}):
  wpAny (model prog w) A (call (.type "zip") [.ref l1,.ref l2]) Q E s:=by
 refine callType_new F.called_zip (by decide) (F.typeCall_zip_2 _ _) (F.newCall_zip_2 _ _) (λB=>F.args_object_init_3 B _ _) F.entry_zip_new (zl l1 l2 t1 t2 xs ys) ⟨h1,h2,?_⟩
 have b:∀(h:Heap) (o:Obj),(h.push o).objs.size=h.objs.size+1:=λh o=>by unfold la;simp
 have m:∀(h:Heap) (o:Obj) (n:Nat),h.objs.size=n->o.isFreed=false->(h.push o).get? n=some o:=λh o n e f=>by rw[<-e];exact cN _ f
 have fr:∀D l,(F4 D l).isFreed=false:=λD l=>rfl
 generalize ho1:F4 t1 l1=u
 generalize ho2:F4 t2 l2=v
 have K:u.isFreed=false:=by rw[<-ho1];rfl
 have H:v.isFreed=false:=by rw[<-ho2];rfl
 generalize hq1:s.heap.push u=j
 have G:j.objs.size=s.heap.objs.size+1:=by rw[<-hq1];exact b _ _
 have g1:j.get? s.heap.objs.size=some u:=by rw[<-hq1];exact cN _ K
 have J:∀c o,s.heap.get? c=some o->j.get? c=some o:=λc o q=>by rw[<-hq1];exact cF _ q
 generalize hq2:j.push v=k
 have y:k.objs.size=s.heap.objs.size+2:=by rw[<-hq2,b,G]
 have g2:k.get? (s.heap.objs.size+1)=some v:=by rw[<-hq2];exact m _ _ _ G H
 have x:∀c o,j.get? c=some o->k.get? c=some o:=λc o q=>by rw[<-hq2];exact cF _ q
 generalize hq3:k.push {cls:=dL "tuple",data:=iL #[cR s.heap.objs.size,cR (s.heap.objs.size+1)]}=g
 have z:g.objs.size=s.heap.objs.size+3:=by rw[<-hq3,b,y]
 have g3:g.get? (s.heap.objs.size+2)=some {cls:=dL "tuple",data:=iL #[cR s.heap.objs.size,cR (s.heap.objs.size+1)]}:=by rw[<-hq3];exact m _ _ _ y rfl
 have t:∀c o,k.get? c=some o->g.get? c=some o:=λc o q=>by rw[<-hq3];exact cF _ q
 generalize hq4:g.push {cls:=dL "tuple",data:=iL #[cA.none,cA.none]}=d
 have C:d.objs.size=s.heap.objs.size+4:=by rw[<-hq4,b,z]
 have g4:d.get? (s.heap.objs.size+3)=some {cls:=dL "tuple",data:=iL #[cA.none,cA.none]}:=by rw[<-hq4];exact m _ _ _ z rfl
 have p:∀c o,g.get? c=some o->d.get? c=some o:=λc o q=>by rw[<-hq4];exact cF _ q
 generalize hq5:d.push {cls:=dL "zip",data:=lY #[cA.none,er false,er false,cR (s.heap.objs.size+2),cR (s.heap.objs.size+3)]}=r
 have I:r.objs.size=s.heap.objs.size+5:=by rw[<-hq5,b,C]
 have g5:r.get? (s.heap.objs.size+4)=some {cls:=dL "zip",data:=lY #[cA.none,er false,er false,cR (s.heap.objs.size+2),cR (s.heap.objs.size+3)]}:=by rw[<-hq5];exact m _ _ _ C rfl
 have a:∀c o,d.get? c=some o->r.get? c=some o:=λc o q=>by rw[<-hq5];exact cF _ q
 exact⟨⟨_,g5,rfl⟩,h r g5 (a _ _ (p _ _ g3)) (a _ _ g4) (Itx.new (by rw[ho1];exact a _ _ (p _ _ (t _ _ (x _ _ g1))))) (Itx.new (by rw[ho2];exact a _ _ (p _ _ (t _ _ g2)))) I λc o q=>a _ _ (p _ _ (t _ _ (x _ _ (J _ _ q))))⟩
theorem yA{n l1 l2:Nat}(h1:l1<n)(h2:l2<n):ZipB (n+4) (n+2) (n+3) n (n+1) l1 l2:=by
 have d:∀a b:Nat,a<b->a≠b:=λa b h=>df h
 exact⟨d _ _ (by omega),d _ _ (by omega),d _ _ (by omega),d _ _ (by omega),d _ _ (by omega),(d _ _ (by omega)).symm,(d _ _ (by omega)).symm,(d _ _ (by omega)).symm,(d _ _ (by omega)).symm,d _ _ (by omega),
  d _ _ (by omega),d _ _ (by omega),d _ _ (by omega),d _ _ (by omega),d _ _ (by omega),d _ _ (by omega),d _ _ (by omega),d _ _ (by omega)⟩
def Mm(K:cu)(ta:TA):TI:=λσ H R=>ta σ H λvs H1=>∃(t1 t2:Bool) (a b:cG),vs=[.ref a,.ref b]/\(∃xs,Jd K H1 t1 a xs)/\(∃ys,Jd K H1 t2 b ys)/\R (My K t1 t2 a b) H1
section
variable{X:Cx}
theorem Cz{elts:List Expr}{x1:Nat}{tpos:Pos}{a b:Expr}{ta:TA}{p pos:Pos}(hg:Gl X "zip")(hm:X.mg "zip"=none)(ha:PA X [a,b] ta)(hs:dh [a,b] X.env=[(false,eval a X.env),(false,eval b X.env)]:=by rfl)(hs2:dh [b] X.env=[(false,eval b X.env)]:=by rfl):
  PI X (.Tuple elts x1 tpos) (.Call (.Name "zip" p) [a,b] [] pos) (Mm X.K ta):=by
 intro f s o H R I h
 refine rd (tP I hg hm lU (d7 (En (ha pos f s o H _ I h) λW c ⟨vs,y,d,B,P⟩=>?_) (by rw[hs,hs2]) (by rw[hs2];rfl)))
 obtain⟨G,N,D,M,e,⟨V,F⟩,⟨U,A⟩,q⟩:=P
 subst e
 obtain⟨u,v,rfl,C,z⟩:=Jh B
 cases C
 cases z
 obtain⟨O,Q,r⟩:=d.sqx F
 obtain⟨L,T,n⟩:=d.sqx A
 refine xU r n λl m j k w x S J=>?_
 refine ld (s:={c with heap:=l}) m ?_
 have E:Inv X f o y {c with heap:=l}:=d.kept (t':=c.toks) J
 refine⟨_,[c.heap.objs.size+4,c.heap.objs.size+2,c.heap.objs.size+3,c.heap.objs.size,c.heap.objs.size+1],_,_,y,rfl,E,BL G N D M _ _ _ _ _ (yA r.lt n.lt),⟨m,j,⟨_,_,k⟩,w,x⟩,λb t=>?_,q⟩
 have g:c.heap.objs.size<=b:=by
  simp only[cZ,hU,or_false]at t
  rcases t with rfl|rfl|rfl|rfl|rfl <;> omega
 exact d.fpOk g (d.hok.fresh g)
end
theorem xi{K:cu}{t1 t2:Bool}{a b:cG}{xs ys:List V}{caps:List (Option Nat)}{g:TG}{te:TE}{σ:St}{QQ:List V->Hp->Prop}{H:Hp}(Pv:Nat->List V->Hp->Prop)(he:xs.length=ys.length)(h0:Pv 0 [] H)
  (hl:∀i zs H,i<=xs.length->Pv i zs H->Jd K H t1 a xs/\Jd K H t2 b ys)
  (hs:∀i x y zs H t,xs[i]?=some x->ys[i]?=some y->H t=none->Pv i zs H->g (.ref t) (E8 caps σ) (upd H t (.tup [x,y])) λσ2 H2=>te σ2 H2 λv H4=>zs.length<sizeLine/\Pv (i+1) (zs++[v]) H4)
  (hd:∀zs H,Pv xs.length zs H->QQ zs H):EG caps g Gb te σ QQ (My K t1 t2 a b) H:=by
 refine⟨λi m zs H=>m=xs.length-i/\i<=xs.length/\Pv i zs H,⟨xs.length,by simp,du _,h0⟩,?_⟩
 rintro i m zs H ⟨rfl,n,p⟩
 obtain⟨d,f⟩:=hl i zs H n p
 by_cases c:i<xs.length
 ·refine .inr ⟨⟨xs,ys,xs[i],ys[i],d,f,by simp[c],by simp[show i<ys.length by omega]⟩,Pv (i+1),λo j l=>⟨xs.length-(i+1),by omega,rfl,c,l⟩,λx j y=>?_⟩
  obtain⟨h,k,t,h1,h2,rfl,h3,rfl⟩:=y
  simp only[tO]
  exact hs i h k zs H t (h1 xs d) (h2 ys f) h3 p
 ·have e:i=xs.length:=by omega
  subst e
  exact .inl ⟨⟨xs,d,rfl⟩,hd zs H p⟩
theorem Cb{M:Model}{A:dw}{E:cA->cD->Prop}{s:cD}{a:cG}{Q:Option Obj->cD->Prop}(h:Q (s.heap.get? a) s):wpAny M A (loadIfAlive a) Q E s:=λb p hA=>by
 show Sem.wp M b (Sem.loadIfAlive a Sem.pure) _ _ p s;rw[Sem.wp_loadIfAlive];exact cv h b p hA
def E6(h:Heap)(z TI TO T:cG):Prop:=∃(f1:Bool) (o:Obj),h.get? z=some {cls:= .type "zip",data:= .fields #[rawInt T,.bool f1,.bool false,.ref TI,.ref TO]}/\h.get? T=some o
theorem uF{prog:cT}{w:dc}{A:dw}{E:cA->cD->Prop}{s:cD}{z TI TO T:cG}{Q:Bool->cD->Prop}(hz:E6 s.heap z TI TO T)(hne:T≠z)(hQ:∀h':Heap,E6 h' z TI TO T->fK z s.heap h'->Q false {s with heap:=h'}):
  wpAny (model prog w) A (fS (.ref z)) Q E s:=by
 obtain⟨d,o,hz,a⟩:=hz
 unfold fS
 refine cr (eF hz rfl rfl ?_)
 refine cr (Cb ?_)
 rw[show s.heap.get? ((T:Int)).toNat=some o from a]
 refine cP rfl ?_
 refine cr (eF hz rfl rfl ?_)
 cases d with
 | false=>
  refine iT rfl (cr (eS hz (by simp) λh' b c=>cv (hQ h' ⟨true,o,b,(c.2 T hne).trans a⟩ c)))
 | true=>
  refine cP rfl (cv (hQ s.heap ⟨true,o,hz,a⟩ ⟨rfl,λ_ _=>rfl⟩))
theorem Bq{prog:cT}{w:dc}{A:dw}{E:cA->cD->Prop}{s:cD}{z TI TO i1 i2 T:cG}{fp1 fp2:List cG}{n1 n2 k1 k2:Nat}{P1 P2:Nat->cA->Prop}{St1 St2:Nat->Heap->Prop}{Q:cA->cD->Prop}
  (D1:Draws prog w A i1 fp1 n1 P1 St1)(D2:Draws prog w A i2 fp2 n2 P2 St2)(ap:J7 z TI TO i1 i2 fp1 fp2)(hz:E6 s.heap z TI TO T)(hne:T≠z)(hn1:T≠i1)(hn2:T≠i2)(hTI:IsPair s.heap TI (.ref i1) (.ref i2))
  (s1:St1 k1 s.heap)(s2:St2 k2 s.heap)(hk1:k1<n1)(hk2:k2<n2)
  (hQ:∀(x y:cA) (h':Heap) (tk:Nat),P1 k1 x->P2 k2 y->E6 h' z TI TO T->St1 (k1+1) h'->St2 (k2+1) h'->IsPair h' s.heap.objs.size x y->h'.objs.size=s.heap.objs.size+1->
   (∀c o,c≠z->c≠i1->c≠i2->s.heap.get? c=some o->h'.get? c=some o)->Q (.ref s.heap.objs.size) {s with heap:=h',toks:=tk}):
  wpAny (model prog w) A (Builtin.«zip.__next__» {pos:=[.ref z]}) (λfin s'=>∃v,fin=qG (qH v)/\Q v s') E s:=by
 have C:=hz
 obtain⟨P,o,g,O⟩:=C
 unfold Builtin.«zip.__next__»
 refine cr (cv ?_)
 refine cr (eF g rfl rfl ?_)
 refine cr (eF g rfl rfl ?_)
 refine cr (fR hTI rfl ?_)
 refine cP rfl ?_
 refine cr (uF hz hne λh1 u f=>?_)
 refine cP rfl ?_
 dsimp only
 rw[<-im]
 rw[show #[cR i1,cR i2].toList=[cR i1,cR i2]from rfl,eg,bind_assoc]
 have D:St1 k1 h1:=D1.frame _ _ _ s1 λc d o q=>(f.2 c (λe=>ap.z1 (e▸d))).trans q
 have F:St2 k2 h1:=D2.frame _ _ _ s2 λc d o q=>(f.2 c (λe=>ap.z2 (e▸d))).trans q
 refine cr (cr (dG ?_))
 refine(show wpAny (model prog w) A (if(er false==er true)=true then fC (.ref i1)else do let x<-d4 (.ref i1);pure (some x)) _ _ _ from cP rfl (cr (D1.item k1 _ _ _ hk1 D λx h2 N I B a=>cv (cv ?_))))
 dsimp only
 have p:St2 k2 h2:=D2.frame _ _ _ F λc d o q=>(a.2 c (λe=>ap.i12' (e▸d))).trans q
 rw[eg,bind_assoc]
 refine cr (cr (dG ?_))
 refine(show wpAny (model prog w) A (if(er false==er true)=true then fC (.ref i2)else do let x<-d4 (.ref i2);pure (some x)) _ _ _ from cP rfl (cr (D2.item k2 _ _ _ hk2 p λy h3 G M n b=>cv (cv ?_))))
 dsimp only
 rw[gr]
 refine cr (cv ?_)
 dsimp only
 refine cr (iU ?_ (by show 2<=sizeLine;decide))
 refine cv ⟨_,rfl,?_⟩
 have h:h3.objs.size=s.heap.objs.size:=by rw[b.1,a.1,f.1]
 have H:St1 (k1+1) h3:=D1.frame _ _ _ B λc d o q=>(b.2 c (λe=>ap.i21 (e▸d))).trans q
 have J:∀c o,c≠z->c≠i1->c≠i2->s.heap.get? c=some o->h3.get? c=some o:=λc o k j l q=>(b.2 c l).trans ((a.2 c j).trans ((f.2 c k).trans q))
 obtain⟨g1,r,m,t⟩:=u
 have L:h3.get? z=some _:=(b.2 z (Ne.symm ap.i2z)).trans ((a.2 z (Ne.symm ap.i1z)).trans m)
 have K:h3.get? T=some r:=(b.2 T hn2).trans ((a.2 T hn1).trans t)
 dsimp only
 rw[h]
 refine hQ x y _ G I M ⟨g1,r,cF _ L,cF _ K⟩ (D1.frame _ _ _ H λc _ o q=>cF _ q) (D2.frame _ _ _ n λc _ o q=>cF _ q) ?_ ?_ (λc o k j l q=>cF _ (J c o k j l q))
 ·rw[<-h];exact cN _ rfl
 ·show(h3.push _).objs.size=_
  unfold la
  simp[h]
theorem BR{prog:cT}{w:dc}{A:dw}{E:cA->cD->Prop}{s:cD}{z TI TO i1 i2 T:cG}{fp1:List cG}{n1:Nat}{P1:Nat->cA->Prop}{St1:Nat->Heap->Prop}{Q:PySem.Fin->cD->Prop}
  (D1:Draws prog w A i1 fp1 n1 P1 St1)(z1:z∉fp1)(hz:E6 s.heap z TI TO T)(hne:T≠z)(hTI:IsPair s.heap TI (.ref i1) (.ref i2))(s1:St1 n1 s.heap)
  (hE:∀(h':Heap) (e:cG),(∀c o,c≠z->c≠i1->s.heap.get? c=some o->h'.get? c=some o)->(∃o,h'.get? e=some o/\o.cls = .type "StopIteration")->E (.ref e) {s with heap:=h'}):
  wpAny (model prog w) A (Builtin.«zip.__next__» {pos:=[.ref z]}) Q E s:=by
 have d:=hz
 obtain⟨p,o,b,n⟩:=d
 unfold Builtin.«zip.__next__»
 refine cr (cv ?_)
 refine cr (eF b rfl rfl ?_)
 refine cr (eF b rfl rfl ?_)
 refine cr (fR hTI rfl ?_)
 refine cP rfl ?_
 refine cr (uF hz hne λh1 m a=>?_)
 refine cP rfl ?_
 dsimp only
 rw[<-im]
 rw[show #[cR i1,cR i2].toList=[cR i1,cR i2]from rfl,eg,bind_assoc]
 have f:St1 n1 h1:=D1.frame _ _ _ s1 λc j o q=>(a.2 c (λe=>z1 (e▸j))).trans q
 refine cr (cr (dG ?_))
 exact(show wpAny (model prog w) A (if(er false==er true)=true then fC (.ref i1)else do let x<-d4 (.ref i1);pure (some x)) _ _ _ from cP rfl (cr (D1.done _ _ _ f λh2 e g l=>hE h2 e (λc o k h q=>g c o h ((a.2 c k).trans q)) l)))
def Ln(h:Heap)(z TI TO T:cG):Prop:=(IsZip h z TI TO .none/\∃a b,IsPair h TO a b)\/E6 h z TI TO T
theorem tw{α β:Type}{R:α->β->Prop}:∀{l:List α} {m:List β},l.length=m.length->(∀(i:Nat) a b,l[i]?=some a->m[i]?=some b->R a b)->dr R l m
 | [],[],_,_=> .nil
 | a::l,b::m,hl,h=> .cons (h 0 a b rfl rfl) (tw (by simpa using hl) λi x y d c=>h (i+1) x y (by simpa using d) (by simpa using c))
def Kk(K:cu):R2:=λx y H Q=>∃(a b:cG) (xs ys:List V),x = .ref a/\y = .ref b/\SqT K H a xs/\SqT K H b ys/\xs.length+ys.length<=sizeLine/\
 ∀p H',Same H H'->SqT K H' p (xs++ys)->Q (.ref p) H'
theorem AK{X:Cx}:Fv X (binaryOp .Add) (Kk X.K):=by
 intro o s O H x y v u Q I z t h;obtain⟨a,b,B,M,rfl,rfl,l,m,J,q⟩:=h;by_cases j:B=[]
 ·cases z
  cases t;obtain⟨d,G,S,_⟩:=I.tuple l;obtain⟨k,Y,L,_⟩:=I.tuple m;have V:d=[]:=G.nil_iff.mpr j;obtain⟨⟨W,P,T,U⟩,C,w,n,A⟩:=id S;obtain⟨⟨R,r,E,D⟩,c,g,N,f⟩:=id L;simp only at w A g f;subst w A g f;refine ng ⟨_,C,rfl⟩ ⟨_,c,rfl⟩ kX mw jr jj (i9 _ _)
   (tuple_addW0 a b d.toArray k.toArray n N P r U D (by simp[V])) ⟨C,c,?_⟩
  exact⟨.ref b,H,I,rfl,q b H (Same.refl _) (by rw[j];exact m)⟩
 ·refine C6 o s O H (.ref a) (.ref b) v u Q I z t ⟨a,b,B,M,rfl,rfl,l,m,j,J,λe=>?_,λ_ p hp=>?_⟩
  ·exact q a H (Same.refl _) (by rw[e,fV];exact l)
  ·exact q p _ (rz hp _) (SqT.of rC)
def E7(w ts:List Int):List Int:=w.filter λt=>!decide (t∈ts)
def Ff(w ts:List Int):Int:=(E7 w ts).getD 0 0
theorem Ja:∀(row ts:List Int),row.Nodup->(∀t∈row,t∈ts)->row.length<=ts.length
 | [],_,_,_=>du _
 | a::r,ts,hn,h=>by
  have c:=h a cM
  have:=Ja r (ts.erase a) (fz.mp hn).2 λt b=>(mf (show t≠a from λz=>(fz.mp hn).1 (z▸b))).mpr (h t (cO _ b))
  rw[kS c]at this
  have:=List.length_pos_of_mem c
  rw[dQ]
  omega
theorem Az{n:Nat}{w ts:List Int}(h:LN.Pm n w)(hl:ts.length<n):∃t∈w,t∉ts:=by
 refine dM λz=>?_
 have:=Ja w ts h.nodup λt a=>dM λy=>z ⟨t,a,y⟩
 rw[h.len]at this;omega
theorem xN{w ts:List Int}(h:∃t∈w,t∉ts):(E7 w ts)[0]?=some (Ff w ts)/\Ff w ts∈w/\Ff w ts∉ts:=by
 obtain⟨t,h1,h2⟩:=h;have a:t∈E7 w ts:=d8.mpr ⟨h1,by simpa using h2⟩;unfold Ff
 cases c:E7 w ts with
 | nil=>rw[c]at a;cases a
 | cons b r=>
  have d:b∈E7 w ts:=by rw[c];exact cM
  obtain⟨h3,h4⟩:=d8.mp d;exact⟨rfl,h3,by simpa using h4⟩
def tk(W:List (List Int))(o:List Int):Nat->List Int
 | 0=>[]
 | k+1=>tk W o k++[Ff (W.getD (o.getD k 0).toNat []) (tk W o k)]
def bt(W:List (List Int))(o:List Int)(k:Nat):Int:=Ff (W.getD (o.getD k 0).toNat []) (tk W o k)
theorem CM(W:List (List Int))(o:List Int):∀k,tk W o k=(db k).map (bt W o)
 | 0=>rfl
 | k+1=>by
  rw[gf,cS,<-CM W o k]
  rfl
theorem AU(W:List (List Int))(o:List Int)(k:Nat):(tk W o k).length=k:=by rw[CM];simp
structure Fp(n:Nat)(W:List (List Int)):Prop where
 lo:1<=n
 hi:n<=6
 len:W.length=n
 pm:∀w∈W,LN.Pm n w
theorem DK{K:cu}{H:Hp}{a b:cG}{l m:List Int}{Q:VK}(h1:SqT K H a (l.map V.int))(h2:SqT K H b (m.map V.int))(hl:l.length+m.length<=1000)(q:∀p H',Same H H'->SqT K H' p ((l++m).map V.int)->Q (.ref p) H'):Kk K (.ref a) (.ref b) H Q:=
 ⟨a,b,_,_,rfl,rfl,h1,h2,by rw[cx,cx];exact dg hl (by decide),λp H' S h=>q p H' S (by rw[cS];exact h)⟩
end L2
namespace HM
open LM LN
def cnt(n:Nat)(S:Nat->Bool):Nat:=(db n).countP S
theorem sW(n:Nat)(S:Nat->Bool):cnt (n+1) S=cnt n S+if S n=true then 1 else 0:=by
 unfold cnt;rw[gf,List.countP_append];simp[List.countP_cons]
theorem sX{S S':Nat->Bool}:∀{n:Nat},(∀i,i<n->S i=true->S' i=true)->cnt n S<=cnt n S'
 | 0,_=>cI _
 | n+1,h=>by
  have b:=sX (n:=n) λi a=>h i (dz a)
  rw[sW,sW]
  by_cases e:S n=true
  ·rw[if_pos e,if_pos (h n (dH n) e)];omega
  ·rw[if_neg e];omega
theorem vv(S S':Nat->Bool):∀n:Nat,cnt n (λi=>S i||S' i)<=cnt n S+cnt n S'
 | 0=>cI _
 | n+1=>by
  have a:=vv S S' n
  rw[sW,sW,sW]
  cases S n <;> cases S' n <;> simp <;> omega
theorem uu{S S':Nat->Bool}(hd:∀i,S i=true->S' i=true->False):∀n:Nat,cnt n (λi=>S i||S' i)=cnt n S+cnt n S'
 | 0=>rfl
 | n+1=>by
  have a:=uu hd n
  rw[sW,sW,sW,a]
  cases h1:S n <;> cases h2:S' n <;> simp <;> try omega
  exact(hd n h1 h2).elim
theorem cnt_pos{S:Nat->Bool}:∀{n:Nat},0<cnt n S->∃i,i<n/\S i=true
 | 0,h=>absurd h (dt _)
 | n+1,h=>by
  rw[sW]at h
  by_cases e:S n=true
  ·exact⟨n,dH n,e⟩
  ·rw[if_neg e]at h
   obtain⟨i,h1,h2⟩:=cnt_pos (n:=n) (by omega)
   exact⟨i,dz h1,h2⟩
theorem cnt_one(c:Nat):∀n:Nat,cnt n (λi=>i==c)=if c<n then 1 else 0
 | 0=>rfl
 | n+1=>by
  rw[sW,cnt_one c n]
  by_cases e:n=c
  ·subst e;simp
  ·by_cases h:c<n
   ·simp[e,h,show c<n+1 by omega]
   ·simp[e,h,show ¬c<n+1 by omega]
theorem xR(n:Nat)(A S:Nat->Bool)(h:∀i,S i=true->A i=true):cnt n A=cnt n S+cnt n (λi=>A i && !S i):=by
 rw[<-uu (S:=S) (S':=λi=>A i && !S i) (λi h1 h2=>by simp[h1]at h2)]
 congr 1
 funext i
 cases h1:S i with
 | true=>simp[h i h1]
 | false=>simp
def nb(n:Nat)(E:Nat->Nat->Bool)(S:Nat->Bool)(c:Nat):Bool:=(db n).any λr=>S r&&E r c
theorem uV{n:Nat}{E:Nat->Nat->Bool}{S:Nat->Bool}{c:Nat}:nb n E S c=true↔∃r,r<n/\S r=true/\E r c=true:=by
 unfold nb;rw[i3];constructor
 ·rintro⟨r,h1,h2⟩;rw[dn]at h2;exact⟨r,dY.mp h1,h2⟩
 ·rintro⟨r,h1,h2,h3⟩;exact⟨r,dY.mpr h1,by rw[h2,h3];rfl⟩
theorem hall(n:Nat):∀(m:Nat) (A:Nat->Bool) (E:Nat->Nat->Bool),cnt n A=m->(∀S:Nat->Bool,(∀i,S i=true->A i=true)->cnt n S<=cnt n (nb n E S))->
  ∃f:Nat->Nat,(∀r,r<n->A r=true->f r<n/\E r (f r)=true)/\∀r r',r<n->r'<n->A r=true->A r'=true->f r=f r'->r=r':=by
 intro m
 induction m using Nat.strongRecOn with
 | _ m L=>
  intro A E hA K
  by_cases h0:m=0
  ·have O:∀r,r<n->A r=true->False:=λr b h=>by
    have:cnt n (λi=>i==r)<=cnt n A:=sX λi _ e=>by rw[eq_of_beq e];exact h
    rw[cnt_one,if_pos b,hA,h0]at this
    omega
   exact⟨λ_=>0,λr b h=>(O r b h).elim,λr _ b _ h=>(O r b h).elim⟩
  by_cases p:∃a:Nat->Bool,(∀i,a i=true->A i=true)/\0<cnt n a/\cnt n a<m/\cnt n (nb n E a)<=cnt n a
  ·obtain⟨a,H,hp,W,Y⟩:=p
   obtain⟨Q,g1,g2⟩:=L _ W a E rfl λS h=>K S λi k=>H i (h i k)
   have y:=xR n A a H
   obtain⟨M,q,F⟩:=L (cnt n λi=>A i && !a i) (by omega) (λi=>A i && !a i) (λr c=>E r c && !nb n E a c) rfl λS h=>by
    have I:∀i,S i=true->a i=true->False:=λi h1 h2=>by
     have:=h i h1
     simp[h2]at this
    have U:=K (λi=>S i||a i) λi k=>by
     rcases j4.mp k with z|z
     ·have:=h i z
      rw[dn]at this
      exact this.1
     ·exact H i z
    rw[uu I]at U
    have h2:cnt n (nb n E λi=>S i||a i)<=cnt n (λc=>nb n (λr c=>E r c && !nb n E a c) S c||nb n E a c):=sX λc _ p=>by
     obtain⟨r,b,D,v⟩:=uV.mp p
     cases u:nb n E a c with
     | true=>simp
     | false=>
      rw[kJ]
      rcases j4.mp D with z|z
      ·exact uV.mpr ⟨r,b,z,by simp[v,u]⟩
      ·exact absurd (uV.mpr ⟨r,b,z,v⟩) (by rw[u];exact de)
    have h3:=vv (nb n (λr c=>E r c && !nb n E a c) S) (nb n E a) n
    omega
   have B:∀r r',r<n->a r=true->r'<n->A r'=true->¬a r'=true->Q r=M r'->False:=λr r' b h1 g h2 h3 e=>by
    have s:=(g1 r b h1).2
    have l:=(q r' g (by simp[h2,h3])).2
    rw[<-e,dn]at l
    have:=uV.mpr ⟨r,b,h1,s⟩
    rw[this]at l
    exact absurd l.2 (by decide)
   refine⟨λr=>if a r=true then Q r else M r,λr b h=>?_,λr r' b g h t e=>?_⟩
   ·dsimp only
    by_cases z:a r=true
    ·rw[if_pos z];exact g1 r b z
    ·rw[if_neg z]
     obtain⟨s,l⟩:=q r b (by simp[h,z])
     rw[dn]at l
     exact⟨s,l.1⟩
   ·dsimp only at e
    by_cases z:a r=true
    ·rw[if_pos z]at e
     by_cases d:a r'=true
     ·rw[if_pos d]at e;exact g2 r r' b g z d e
     ·rw[if_neg d]at e;exact(B r r' b z g t d e).elim
    ·rw[if_neg z]at e
     by_cases d:a r'=true
     ·rw[if_pos d]at e;exact(B r' r g d b h z e.symm).elim
     ·rw[if_neg d]at e;exact F r r' b g (by simp[h,z]) (by simp[t,d]) e
  ·obtain⟨J,C,x⟩:=cnt_pos (n:=n) (S:=A) (by omega)
   have h1:=K (λi=>i==J) λi k=>by rw[eq_of_beq k];exact x
   rw[cnt_one,if_pos C]at h1
   obtain⟨o,w,R⟩:=cnt_pos (n:=n) (S:=nb n E λi=>i==J) (by omega)
   obtain⟨j,X,G,N⟩:=uV.mp R
   have G:j=J:=eq_of_beq G
   subst G
   have y:=xR n A (λi=>i==j) λi k=>by rw[eq_of_beq k];exact x
   rw[cnt_one,if_pos C]at y
   obtain⟨f,q,F⟩:=L (cnt n λi=>A i && !(i==j)) (by omega) (λi=>A i && !(i==j)) (λr c=>E r c && !(c==o)) rfl λS h=>by
    by_cases Z:cnt n S=0
    ·omega
    have T:∀i,S i=true->A i=true:=λi k=>by
     have:=h i k
     rw[dn]at this
     exact this.1
    have P:cnt n S<m:=by
     have:=sX (n:=n) λi _=>h i
     omega
    have V:cnt n S<cnt n (nb n E S):=dM λz=>p ⟨S,T,by omega,P,by omega⟩
    have h2:cnt n (nb n E S)<=cnt n (λc=>nb n (λr c=>E r c && !(c==o)) S c||c==o):=sX λc _ p=>by
     obtain⟨r,b,D,v⟩:=uV.mp p
     cases u:c==o with
     | true=>simp
     | false=>rw[kJ];exact uV.mpr ⟨r,b,D,by simp[v,u]⟩
    have h3:=vv (nb n (λr c=>E r c && !(c==o)) S) (λc=>c==o) n
    have h4:=cnt_one o n
    rw[if_pos w]at h4
    omega
   refine⟨λr=>if r=j then o else f r,λr b h=>?_,λr r' b g h t e=>?_⟩
   ·dsimp only
    by_cases z:r=j
    ·rw[if_pos z,z];exact⟨w,N⟩
    ·rw[if_neg z]
     obtain⟨s,l⟩:=q r b (by simp[h,z])
     rw[dn]at l
     exact⟨s,l.1⟩
   ·dsimp only at e
    by_cases z:r=j
    ·by_cases d:r'=j
     ·rw[z,d]
     ·rw[if_pos z,if_neg d]at e
      have:=(q r' g (by simp[t,d])).2
      rw[<-e]at this
      simp at this
    ·by_cases d:r'=j
     ·rw[if_neg z,if_pos d]at e
      have:=(q r b (by simp[h,z])).2
      rw[e]at this
      simp at this
     ·rw[if_neg z,if_neg d]at e
      exact F r r' b g (by simp[h,z]) (by simp[t,d]) e
def sm:Nat->(Nat->Int)->Int
 | 0,_=>0
 | n+1,f=>sm n f+f n
theorem sm_congr{f g:Nat->Int}:∀{n:Nat},(∀i,i<n->f i=g i)->sm n f=sm n g
 | 0,_=>rfl
 | n+1,h=>by
  show sm n f+f n=sm n g+g n
  rw[sm_congr λi a=>h i (dz a),h n (dH n)]
theorem sm_le{f g:Nat->Int}:∀{n:Nat},(∀i,i<n->f i<=g i)->sm n f<=sm n g
 | 0,_=>fE _
 | n+1,h=>by
  have h1:=sm_le λi a=>h i (dz a)
  have h2:=h n (dH n)
  show sm n f+f n<=sm n g+g n
  omega
theorem sm_add(f g:Nat->Int):∀n:Nat,sm n (λi=>f i+g i)=sm n f+sm n g
 | 0=>rfl
 | n+1=>by
  show sm n (λi=>f i+g i)+(f n+g n)=(sm n f+f n)+(sm n g+g n)
  rw[sm_add f g n]
  omega
theorem sm_zero:∀n:Nat,sm n (λ_=>0)=0
 | 0=>rfl
 | n+1=>by show sm n (λ_=>0)+0=0;rw[sm_zero n];rfl
theorem sm_swap(a:Nat->Nat->Int)(m:Nat):∀n:Nat,sm n (λi=>sm m (a i))=sm m (λj=>sm n λi=>a i j)
 | 0=>(sm_zero m).symm
 | n+1=>by
  show sm n (λi=>sm m (a i))+sm m (a n)=sm m (λj=>(sm n λi=>a i j)+a n j)
  rw[sm_swap a m n,sm_add]
theorem sm_cnt(S:Nat->Bool)(R:Int):∀n:Nat,sm n (λi=>if S i=true then R else 0)=R*cnt n S
 | 0=>by show(0:Int)=R*0;simp
 | n+1=>by
  show sm n _+(if S n=true then R else 0)=_
  rw[sm_cnt S R n,sW]
  by_cases e:S n=true
  ·rw[if_pos e,if_pos e];push_cast;rw[jl,ia]
  ·rw[if_neg e,if_neg e];simp
structure Lh(n:Nat)(M:Nat->Nat->Int)(R:Int):Prop where
 pos:0<R
 nn:∀i j,0<=M i j
 row:∀i,i<n->sm n (M i)=R
 col:∀j,j<n->sm n (λi=>M i j)=R
theorem Dq{n:Nat}{M:Nat->Nat->Int}{R:Int}(h:Lh n M R):∃f:Nat->Nat,(∀r,r<n->f r<n/\M r (f r)≠0)/\∀r r',r<n->r'<n->f r=f r'->r=r':=by
 obtain⟨f,h1,h2⟩:=hall n _ (λ_=>true) (λr c=>decide (M r c≠0)) rfl λS _=>by
  have k:sm n (λi=>if S i=true then R else 0)=sm n (λi=>sm n λj=>if S i=true then M i j else 0):=sm_congr λi b=>by
   by_cases e:S i=true
   ·rw[if_pos e,<-h.row i b];exact sm_congr λj _=>by rw[if_pos e]
   ·rw[if_neg e];exact(sm_zero n).symm.trans (sm_congr λj _=>by rw[if_neg e])
  have d:sm n (λj=>sm n λi=>if S i=true then M i j else 0)<=sm n (λj=>if nb n (λr c=>decide (M r c≠0)) S j=true then R else 0):=sm_le λj l=>by
   by_cases e:nb n (λr c=>decide (M r c≠0)) S j=true
   ·rw[if_pos e,<-h.col j l];exact sm_le λi _=>by
     by_cases z:S i=true
     ·rw[if_pos z];exact fE _
     ·rw[if_neg z];exact h.nn i j
   ·rw[if_neg e];exact Int.le_of_eq ((sm_congr λi b=>by
     by_cases z:S i=true
     ·rw[if_pos z];exact dM λy=>e (uV.mpr ⟨i,b,z,decide_eq_true y⟩)
     ·rw[if_neg z]).trans (sm_zero n))
  rw[<-sm_swap,<-k,sm_cnt,sm_cnt]at d;have:=Int.le_of_mul_le_mul_left d h.pos;omega
 exact⟨f,λr a=>⟨(h1 r a rfl).1,by simpa using(h1 r a rfl).2⟩,λr r' a g e=>h2 r r' a g rfl rfl e⟩
end HM
namespace HM
open LM LN
def ent(M:List (List Int))(p t:Nat):Int:=(M.getD p []).getD t 0
structure Reg(n:Nat)(M:List (List Int))(R:Int):Prop where
 len:M.length=n
 cols:∀r∈M,r.length=n
 nn:∀p t,0<=ent M p t
 row:∀i,i<n->sm n (ent M i)=R
 col:∀j,j<n->sm n (λi=>ent M i j)=R
theorem getD_lt{α:Type}{l:List α}{i:Nat}{d:α}(h:i<l.length):l.getD i d=l[i]:=by rw[cC,cz h];rfl
theorem addDeal_len{M:List (List Int)}{d:List Int}{w:Int}(h:M.length=d.length):(addDeal M d w).length=M.length:=by simp[addDeal,h]
theorem addDeal_get{M:List (List Int)}{d:List Int}{w:Int}{p:Nat}(h:M.length=d.length)(hp:p<M.length):(addDeal M d w)[p]?=some (addOne (M.getD p []) (d.getD p 0) w):=by
 unfold addDeal;rw[lV,cz hp,cz (show p<d.length by omega),getD_lt hp,getD_lt (show p<d.length by omega)]
theorem By{n:Nat}{M:List (List Int)}{R:Int}{d:List Int}{w:Int}(h:Reg n M R)(hd:d.length=n)(hb:∀t∈d,0<=t/\t<n){p:Nat}(hp:p<n)(t:Nat):
  ent (addDeal M d w) p t=ent M p t+if(d.getD p 0).toNat=t then w else 0:=by
 have f:M.length=d.length:=by rw[h.len,hd]
 have a:p<M.length:=by rw[h.len];exact hp
 have b:(M.getD p []).length=n:=by rw[getD_lt a];exact h.cols _ (cW a)
 have c:=hb (d.getD p 0) (by rw[getD_lt (show p<d.length by omega)];exact cW _)
 unfold ent
 rw[show(addDeal M d w).getD p []=addOne (M.getD p []) (d.getD p 0) w by rw[cC,addDeal_get f a];rfl]
 generalize M.getD p []=r at b
 generalize d.getD p 0=x at c
 unfold addOne
 rw[cC,jx]
 by_cases e:x.toNat=t
 ·subst e
  rw[if_pos rfl,if_pos rfl,if_pos (by omega)]
  rfl
 ·rw[if_neg e,if_neg e,<-cC]
  omega
theorem Bu{S S':Nat->Bool}{n:Nat}(h:∀i,i<n->S i=S' i):cnt n S=cnt n S':=
 Nat.le_antisymm (sX λi a e=>by rw[<-h i a];exact e) (sX λi a e=>by rw[h i a];exact e)
theorem pm_at{n:Nat}{d:List Int}(h:Pm n d){t:Nat}(ht:t<n):∃p,p<n/\d.getD p 0=(t:Int)/\∀q,q<n->(d.getD q 0).toNat=t->q=p:=by
 obtain⟨p,hp,e⟩:=eO.mp (h.mem.mpr (show(0:Int)<=(t:Int)/\(t:Int)<n by omega));have g:=h.len;refine⟨p,by omega,by rw[getD_lt hp,e],λq f c=>?_⟩;have a:q<d.length:=by omega
 have b:=h.mem.mp (cW a);rw[getD_lt a]at c;have:d[q]=d[p]:=by rw[e];omega
 exact(nL a h.nodup).mp (by rw[cz a,cz hp,this])
theorem uU{n:Nat}{p:Nat}(hp:p<n){S:Nat->Bool}(hS:∀q,q<n->(S q=true↔q=p))(w:Int):sm n (λq=>if S q=true then w else 0)=w:=by
 rw[sm_cnt,Bu (S':=λq=>q==p) λi a=>by
  rw[gx,hS i a];exact⟨λe=>by rw[e];exact beq_self_eq_true _,λe=>eq_of_beq e⟩,cnt_one,if_pos hp]
 simp
theorem CT{n:Nat}{M:List (List Int)}{r:List Int}(hl:M.length=n)(hr:r∈M):∃p,p<n/\M.getD p []=r:=by
 obtain⟨p,hp,e⟩:=eO.mp hr;exact⟨p,by omega,by rw[getD_lt hp,e]⟩
theorem Reg.add{n:Nat}{M:List (List Int)}{R:Int}{d:List Int}{w:Int}(h:Reg n M R)(hd:Pm n d)(hw:∀p,p<n->0<=ent M p (d.getD p 0).toNat+w):Reg n (addDeal M d w) (R+w):=by
 have b:=hd.len;have s:M.length=d.length:=by rw[h.len,b]
 have m:∀t∈d,0<=t/\t<n:=λt f=>hd.mem.mp f
 have k:=λ {p} (hp:p<n) t=>By (w:=w) h b m hp t
 have a:(addDeal M d w).length=n:=by rw[addDeal_len s,h.len]
 have bd:∀p,p<n->0<=d.getD p 0/\d.getD p 0<n:=λp hp=>m _ (by rw[getD_lt (show p<d.length by omega)];exact cW _)
 refine⟨a,λr v=>?_,λp t=>?_,λi l=>?_,λj o=>?_⟩
 ·obtain⟨p,hp,e⟩:=CT a v;rw[<-e,cC,addDeal_get s (by rw[h.len];exact hp)];show(addOne _ _ _).length=n;rw[zq];have c:p<M.length:=by rw[h.len];exact hp
  rw[getD_lt c];exact h.cols _ (cW c)
 ·by_cases hp:p<n
  ·rw[k hp];by_cases e:(d.getD p 0).toNat=t
   ·rw[if_pos e,<-e];exact hw p hp
   ·rw[if_neg e,gD];exact h.nn p t
  ·unfold ent;rw[show(addDeal M d w).getD p []=[]by rw[cC,gi (by omega)];rfl];exact fE 0
 ·rw[sm_congr (g:=λt=>ent M i t+if decide ((d.getD i 0).toNat=t)=true then w else 0) λt _=>by rw[k l];simp,sm_add,h.row i l,uU (p:=(d.getD i 0).toNat) (by have:=bd i l;omega) (λq _=>by rw[decide_eq_true_iff];exact eq_comm)]
 ·obtain⟨p,hp,e,x⟩:=pm_at hd o;rw[sm_congr (g:=λi=>ent M i j+if decide ((d.getD i 0).toNat=j)=true then w else 0) λt f=>by rw[k f];simp,sm_add,h.col j o,uU (p:=p) hp (λq u=>by
   rw[decide_eq_true_iff];exact⟨x q u,λz=>by rw[z,e];rfl⟩)]
theorem Reg.regF{n:Nat}{M:List (List Int)}{R:Int}(h:Reg n M R)(hR:0<R):Lh n (ent M) R:=⟨hR,h.nn,h.row,h.col⟩
def within(M:List (List Int)):Nat->List Int->Option (List Int)
 | 0,b=>some b
 | k+1,b=>(db M.length).findSome? λt=>if ent M b.length t≠0/\(t:Int)∉b then within M k (b++[(t:Int)])else none
theorem uX{M:List (List Int)}:∀{k:Nat} {b d:List Int},within M k b=some d->b.Nodup->d.Nodup/\d.length=b.length+k/\(∀j,j<b.length->d.getD j 0=b.getD j 0)/\∀j,b.length<=j->j<b.length+k->∃t:Nat,t<M.length/\d.getD j 0=(t:Int)/\ent M j t≠0
 | 0,b,d,h,hb=>by
  cases h
  exact⟨hb,rfl,λ_ _=>rfl,λj h1 h2=>by omega⟩
 | k+1,b,d,h,hb=>by
  obtain⟨t,g,e⟩:=List.exists_of_findSome?_eq_some h
  split at e
  ·rename_i hc
   have a:(b++[(t:Int)]).Nodup:=gv.mpr ⟨hb,by simp,λx m y f=>by rw[cK.mp f];intro z;exact hc.2 (z▸m)⟩
   obtain⟨h1,h2,h3,h4⟩:=uX e a
   rw[dq,eU]at h2 h3 h4
   have c:d.getD b.length 0=(t:Int):=by
    rw[h3 b.length (by omega),cC,eZ (cI _),il]
    rfl
   refine⟨h1,by omega,λj n=>?_,λj p o=>?_⟩
   ·rw[h3 j (by omega),cC,gO n,<-cC]
   ·by_cases l:j=b.length
    ·subst l
     exact⟨t,dY.mp g,c,hc.1⟩
    ·exact h4 j (by omega) (by omega)
  ·cases e
theorem vP{M:List (List Int)}{f:Nat->Nat}(hf:∀j,j<M.length->f j<M.length/\ent M j (f j)≠0)(hi:∀j j',j<M.length->j'<M.length->f j=f j'->j=j'):∀{k:Nat} {b:List Int},b.length+k<=M.length->(∀j,b.length<=j->j<b.length+k->(f j:Int)∉b)->(within M k b).isSome=true
 | 0,b,_,_=>rfl
 | k+1,b,hl,hb=>by
  unfold within
  rw[List.findSome?_isSome_iff]
  obtain⟨h1,h2⟩:=hf b.length (by omega)
  refine⟨f b.length,dY.mpr h1,?_⟩
  rw[if_pos ⟨h2,hb b.length (cI _) (by omega)⟩]
  refine vP hf hi (by rw[dq,eU];omega) λj c a z=>?_
  rw[dq,eU]at c a
  rcases dJ.mp z with z|z
  ·exact hb j (by omega) (by omega) z
  ·have:=cK.mp z
   have:=hi j b.length (by omega) (by omega) (by omega)
   omega
theorem D9{n:Nat}{d:List Int}(hl:d.length=n)(hn:d.Nodup)(hb:∀t∈d,0<=t/\t<n):Pm n d:=by
 unfold Pm;have e:∀(m:Nat) (l:List Int) (r:List Int),l.length=m->r.length=m->l.Nodup->(∀t∈l,t∈r)->l.Perm r:=by
  intro m
  induction m with
  | zero=>intro l r h1 h2 _ _;rw[jk.mp h1,jk.mp h2]
  | succ m f=>
   intro l r h1 h2 hn h
   cases l with
   | nil=>cases h1
   | cons a l=>
    have c:=h a cM;refine(p8.cons a (f l (r.erase a) (by simpa using h1) (by rw[kS c,h2];rfl) (fz.mp hn).2 λt b=>?_)).trans (List.perm_cons_erase c).symm;exact(mf (show t≠a from λz=>(fz.mp hn).1 (z▸b))).mpr (h t (cO _ b))
 exact e n d (rng n) hl (rng_len n) hn λt b=>mem_rng.mpr (hb t b)
def valsM(M:List (List Int))(d:List Int):List Int:=qe (λr t=>r.getD t.toNat 0) M d
def minGo(s:Int)(l:List Int):Int:=l.foldl (λs p=>if p<s then p else s) s
def minL(l:List Int):Int:=minGo (l.headD 0) l
theorem yw:∀(l:List Int) (s:Int),minGo s l<=s/\(∀x∈l,minGo s l<=x)/\(minGo s l=s\/minGo s l∈l)
 | [],s=>⟨fE _,(λ_ h=>nomatch h),.inl rfl⟩
 | a::l,s=>by
  obtain⟨h1,h2,h3⟩:=yw l (if a<s then a else s)
  have e:minGo s (a::l)=minGo (if a<s then a else s) l:=rfl
  rw[e]
  by_cases c:a<s
  ·rw[if_pos c]at h1 h2 h3 ⊢
   refine⟨by omega,λx b=>?_,.inr ?_⟩
   ·rcases cZ.mp b with z|z
    ·rw[z];exact h1
    ·exact h2 x z
   ·rcases h3 with z|z
    ·rw[z];exact cM
    ·exact cO _ z
  ·rw[if_neg c]at h1 h2 h3 ⊢
   refine⟨h1,λx b=>?_,?_⟩
   ·rcases cZ.mp b with z|z
    ·rw[z];omega
    ·exact h2 x z
   ·rcases h3 with z|z
    ·exact .inl z
    ·exact .inr (cO _ z)
theorem Du{l:List Int}(h:l≠[]):minL l∈l/\∀x∈l,minL l<=x:=by
 cases l with
 | nil=>exact absurd rfl h
 | cons a l=>
  obtain⟨h1,h2,h3⟩:=yw (a::l) a;refine⟨?_,h2⟩;rcases h3 with z|z
  ·show minGo a (a::l)∈_;rw[z];exact cM
  ·exact z
def dealOf(M:List (List Int)):List Int:=(within M M.length []).getD []
def wOf(M:List (List Int)):Int:=minL (valsM M (dealOf M))
theorem sm_one_le{n:Nat}{f:Nat->Int}(hf:∀i,0<=f i):∀{i:Nat},i<n->f i<=sm n f:=by
 have a:∀m,0<=sm m f:=λm=>by
  have:=sm_le (n:=m) (f:=λ_=>0) (g:=f) λi _=>hf i
  rw[sm_zero]at this;exact this
 induction n with
 | zero=>intro i h;exact absurd h (gz _)
 | succ n b=>
  intro i h;show f i<=sm n f+f n;by_cases e:i=n
  ·subst e;have:=a i;omega
  ·have:=b (i:=i) (by omega);have:=hf n;omega
structure JP(n:Nat)(M:List (List Int))(R:Int):Prop where
 some:within M n []=some (dealOf M)
 pm:Pm n (dealOf M)
 ne:∀p,p<n->ent M p ((dealOf M).getD p 0).toNat≠0
 le:∀p,p<n->wOf M<=ent M p ((dealOf M).getD p 0).toNat
 eq:∃p,p<n/\ent M p ((dealOf M).getD p 0).toNat=wOf M
 w1:1<=wOf M
 wR:wOf M<=R
 reg:Reg n (addDeal M (dealOf M) (-wOf M)) (R-wOf M)
theorem valsM_get{n:Nat}{M:List (List Int)}{d:List Int}(hM:M.length=n)(hd:d.length=n){p:Nat}(hp:p<n):(valsM M d)[p]?=some (ent M p (d.getD p 0).toNat):=by
 unfold valsM ent;rw[lV,cz (show p<M.length by omega),cz (show p<d.length by omega),getD_lt (show p<M.length by omega),getD_lt (show p<d.length by omega)]
theorem Reg.step{n:Nat}{M:List (List Int)}{R:Int}(h:Reg n M R)(hR:0<R)(hn:1<=n):JP n M R:=by
 have a:=h.len;obtain⟨f,N,F⟩:=Dq (h.regF hR);have D:=vP (M:=M) (f:=f) (by rw[a];exact N) (by rw[a];exact F) (k:=n) (b:=[]) (by simp[a]) λj _ _=>hU
 obtain⟨d,s⟩:=kI.mp D;have v:dealOf M=d:=by unfold dealOf;rw[a,s];rfl
 obtain⟨I,l,Q,o⟩:=uX s hX;rw[jU,nJ]at l o;have A:∀t∈d,0<=t/\t<n:=λt H=>by
  obtain⟨j,O,e⟩:=eO.mp H;obtain⟨J,h1,h2,_⟩:=o j (du _) (by omega);rw[getD_lt O,e]at h2;omega
 have r:=D9 l I A;have u:∀p,p<n->ent M p (d.getD p 0).toNat≠0:=λp hp=>by
  obtain⟨J,h1,h2,h3⟩:=o p (du _) hp;rw[h2];exact h3
 have y:valsM M d≠[]:=λz=>by
  have:=valsM_get a l (p:=0) (by omega);rw[z]at this
  cases this
 have P:(valsM M d).length=n:=by unfold valsM;simp[a,l]
 obtain⟨G,L⟩:=Du y;have x:wOf M=minL (valsM M d):=by unfold wOf;rw[v]
 obtain⟨c,B,K⟩:=eO.mp G;have g:c<n:=by omega
 have m:ent M c (d.getD c 0).toNat=wOf M:=by
  have:=valsM_get a l g;rw[cz B,K]at this;rw[x];exact(Option.some.inj this).symm
 have q:∀p,p<n->wOf M<=ent M p (d.getD p 0).toNat:=λp hp=>by
  rw[x];exact L _ (da (valsM_get a l hp))
 have E:1<=wOf M:=by
  have:=u c g;have:=h.nn c (d.getD c 0).toNat;omega
 have C:wOf M<=R:=by
  rw[<-m,<-h.row c g];refine sm_one_le (λi=>h.nn c i) ?_;have:=A (d.getD c 0) (by rw[getD_lt (show c<d.length by omega)];exact cW _);omega
 rw[<-v]at r u q m;refine⟨by rw[s,v],r,u,q,⟨c,g,m⟩,E,C,?_⟩;have:=h.add (w:= -wOf M) r λp hp=>by have:=q p hp;omega
 rw[mV];exact this
def it(Z:List (List Int))(T:Int):Nat->List (List Int)×Int
 | 0=>(Z,T)
 | k+1=>(addDeal (it Z T k).1 (dealOf (it Z T k).1) (-wOf (it Z T k).1),(it Z T k).2-wOf (it Z T k).1)
def lotAt(Z:List (List Int))(T:Int)(k:Nat):Int×List Int:=(wOf (it Z T k).1,dealOf (it Z T k).1)
def lotsL(Z:List (List Int))(T:Int)(k:Nat):List (Int×List Int):=(db k).map (lotAt Z T)
def pn(n:Nat)(M:List (List Int)):Int:=sm n λp=>(cnt n λt=>decide (ent M p t≠0):Nat)
structure L7(n:Nat)(Z:List (List Int))(T:Int)(k:Nat):Prop where
 reg:Reg n (it Z T k).1 (it Z T k).2
 r0:0<=(it Z T k).2
 rT:(it Z T k).2<=T
 lots:∀j,j<k->JP n (it Z T j).1 (it Z T j).2
 ent:∀p,p<n->∀t,ent Z p t=ent (it Z T k).1 p t+sm k λj=>if((lotAt Z T j).2.getD p 0).toNat=t then(lotAt Z T j).1 else 0
 wts:sm k (λj=>(lotAt Z T j).1)=T-(it Z T k).2
 kill:∀j,j<k->∃p,p<n/\HM.ent (it Z T k).1 p ((lotAt Z T j).2.getD p 0).toNat=0
 few:(it Z T k).2≠0->pn n (it Z T k).1+k<=pn n Z
 last:(it Z T k).2=0->(k:Int)+n<=pn n Z+1
 ap:∀i j,i<j->j<k->(lotAt Z T i).2≠(lotAt Z T j).2
theorem DG{S S':Nat->Bool}{c:Nat}:∀{n:Nat},(∀i,i<n->S i=true->S' i=true)->c<n->S' c=true->S c=false->cnt n S+1<=cnt n S':=by
 intro n h d h1 h2;have:cnt n (λi=>S i||i==c)=cnt n S+cnt n (λi=>i==c):=uu (λi a b=>by rw[eq_of_beq b,h2]at a;cases a) n;have h3:cnt n (λi=>S i||i==c)<=cnt n S':=sX λi e z=>by
  rcases j4.mp z with z|z
  ·exact h i e z
  ·rw[eq_of_beq z];exact h1
 have h4:=cnt_one c n;rw[if_pos d]at h4;omega
theorem D8{f g:Nat->Int}{c:Nat}:∀{n:Nat},(∀i,i<n->f i<=g i)->c<n->f c+1<=g c->sm n f+1<=sm n g:=by
 intro n
 induction n with
 | zero=>intro _ h _;exact absurd h (gz _)
 | succ n b=>
  intro h d h1;show sm n f+f n+1<=sm n g+g n;by_cases e:c=n
  ·subst e;have:=sm_le (n:=c) λi a=>h i (dz a)
   omega
  ·have:=b (λi a=>h i (dz a)) (by omega) h1;have:=h n (dH n);omega
theorem it_ok{n:Nat}{Z:List (List Int)}{T:Int}(hZ:Reg n Z T)(hT:0<T)(hn:1<=n):∀k,(∀j,j<k->(it Z T j).2≠0)->L7 n Z T k
 | 0,_=>by
  refine⟨hZ,fq hT,fE _,(λj h=>absurd h (gz _)),(λp _ t=>?_),?_,(λj h=>absurd h (gz _)),(λ_=>?_),(λh=>?_),(λi j _ h=>absurd h (gz _))⟩
  ·show ent Z p t=ent Z p t+0
   omega
  ·show(0:Int)=T-T
   omega
  ·show pn n Z+0<=pn n Z
   omega
  ·exact absurd h (by show T≠0;omega)
 | k+1,hk=>by
  have I:=it_ok hZ hT hn k λj d=>hk j (dz d)
  have v:=hk k (dH k)
  have S:=I.reg.step (by have:=I.r0;omega) hn
  have o:=λ {p} (hp:p<n) t=>By (w:= -wOf (it Z T k).1) I.reg S.pm.len (λt m=>S.pm.mem.mp m) hp t
  have bd:∀p,p<n->((dealOf (it Z T k).1).getD p 0).toNat<n:=λp hp=>by
   have y:=S.pm.len
   have:=S.pm.mem.mp (show(dealOf (it Z T k).1).getD p 0∈_ by rw[getD_lt (show p<_ by omega)];exact cW _)
   omega
  have s:∀p,p<n->∀t,ent (it Z T (k+1)).1 p t<=ent (it Z T k).1 p t:=λp hp t=>by
   show ent (addDeal (it Z T k).1 (dealOf (it Z T k).1) (-wOf (it Z T k).1)) p t<=_
   rw[o hp]
   have:=S.w1
   split <;> omega
  have q:=S.reg.nn
  have x:pn n (it Z T (k+1)).1+1<=pn n (it Z T k).1:=by
   have u:∀p,p<n->∀t,t<n->decide (ent (it Z T (k+1)).1 p t≠0)=true->decide (ent (it Z T k).1 p t≠0)=true:=λp hp t _ h=>by
    have h1:=s p hp t
    have h2:0<=ent (it Z T (k+1)).1 p t:=q p t
    have h3:=of_decide_eq_true h
    exact decide_eq_true (by omega)
   obtain⟨b,a,l⟩:=S.eq
   refine D8 (c:=b) (λp hp=>?_) a ?_
   ·have:=sX (n:=n) λt m=>u p hp t m
    exact qm.mpr this
   ·have:=DG (n:=n) (c:=((dealOf (it Z T k).1).getD b 0).toNat) (λt m=>u b a t m) (bd b a) (decide_eq_true (S.ne b a)) (by
     refine decide_eq_false λz=>z ?_
     show ent (addDeal (it Z T k).1 (dealOf (it Z T k).1) (-wOf (it Z T k).1)) b _=0
     rw[o a,if_pos rfl,l]
     omega)
    omega
  refine⟨S.reg,?_,?_,λj d=>?_,λp hp t=>?_,?_,λj d=>?_,λh=>?_,λh=>?_,λi j r d=>?_⟩
  ·show 0<=(it Z T k).2-wOf (it Z T k).1
   have:=S.wR
   omega
  ·show(it Z T k).2-wOf (it Z T k).1<=T
   have:=S.w1
   have:=I.rT
   omega
  ·rcases fP.mp d with z|z
   ·exact I.lots j z
   ·rw[z];exact S
  ·rw[I.ent p hp t]
   show _=ent (addDeal (it Z T k).1 (dealOf (it Z T k).1) (-wOf (it Z T k).1)) p t+(sm k _+if((dealOf (it Z T k).1).getD p 0).toNat=t then wOf (it Z T k).1 else 0)
   rw[o hp]
   split <;> omega
  ·show sm k _+wOf (it Z T k).1=T-((it Z T k).2-wOf (it Z T k).1)
   have:=I.wts
   omega
  ·rcases fP.mp d with z|z
   ·obtain⟨p,hp,e⟩:=I.kill j z
    refine⟨p,hp,?_⟩
    have h1:=s p hp ((lotAt Z T j).2.getD p 0).toNat
    have h2:0<=HM.ent (it Z T (k+1)).1 p ((lotAt Z T j).2.getD p 0).toNat:=q _ _
    omega
   ·subst z
    obtain⟨b,a,l⟩:=S.eq
    refine⟨b,a,?_⟩
    show HM.ent (addDeal (it Z T j).1 (dealOf (it Z T j).1) (-wOf (it Z T j).1)) b ((dealOf (it Z T j).1).getD b 0).toNat=0
    rw[o a,if_pos rfl,l]
    omega
  ·have:=I.few v
   push_cast
   omega
  ·have h1:=I.few v
   have h2:(n:Int)<=pn n (it Z T k).1:=by
    have:=sm_le (n:=n) (f:=λ_=>if(true:Bool)=true then 1 else 0) (g:=λp=>(cnt n λt=>decide (HM.ent (it Z T k).1 p t≠0):Nat)) λp hp=>by
     have h3:cnt n (λi=>i==((dealOf (it Z T k).1).getD p 0).toNat)<=cnt n λt=>decide (HM.ent (it Z T k).1 p t≠0):=sX λi _ e=>by
      rw[eq_of_beq e]
      exact decide_eq_true (S.ne p hp)
     rw[cnt_one,if_pos (bd p hp)]at h3
     rw[if_pos rfl]
     omega
    rw[sm_cnt (λ_=>true) 1 n]at this
    have e:cnt n (λ_=>true)=n:=by unfold cnt;simp
    rw[e]at this
    show(n:Int)<=sm n _
    omega
   push_cast
   omega
  ·rcases fP.mp d with z|z
   ·exact I.ap i j r z
   ·subst z
    intro e
    obtain⟨p,hp,l⟩:=I.kill i r
    rw[e]at l
    exact S.ne p hp l
def Fin(Z:List (List Int))(T:Int)(k:Nat):Prop:=(it Z T k).2=0/\∀j,j<k->(it Z T j).2≠0
theorem Fin.uniq{Z:List (List Int)}{T:Int}{k k':Nat}(h:Fin Z T k)(h':Fin Z T k'):k=k':=by
 rcases iE k k' with z|z|z
 ·exact absurd h.1 (h'.2 k z)
 ·exact z
 ·exact absurd h'.1 (h.2 k' z)
theorem pn_le{n:Nat}(hn:n<=6)(M:List (List Int)):pn n M<=36:=by
 have cn:∀S:Nat->Bool,cnt n S<=n:=λS=>by
  have:=sX (n:=n) (S:=S) (S':=λ_=>true) λ_ _ _=>rfl
  have e:cnt n (λ_=>true)=n:=by unfold cnt;simp
  omega
 have:=sm_le (n:=n) (f:=λp=>(cnt n λt=>decide (ent M p t≠0):Nat)) (g:=λ_=>if(true:Bool)=true then 6 else 0) λp _=>by
  have:=cn λt=>decide (ent M p t≠0)
  rw[if_pos rfl];omega
 rw[sm_cnt (λ_=>true) 6 n]at this;have:=cn λ_=>true
 show sm n _<=36;omega
end HM
namespace L2
open PySem PySem.Spec PyProof.Rows
section
variable{prog:cT}{w:dc}{A:dw}{E:cA->cD->Prop}{s:cD}
def Mb(prog:cT)(w:dc)(h:Heap)(k:List Int)(v:cA):Prop:=∃b,v = .ref b/\IsTupleKey (intKind prog w) h k b
end
theorem wW:entryFor table "set.__len__"=some Builtin.«frozenset.__len__»:=ki (id':="frozenset.__len__") rfl rfl (by decide +kernel) rfl
theorem uI{prog:cT}{w:dc}:∀{r:List Int} {its:List cA},Vals (r.map V.int) its->ItemsAre (intKind prog w) r its
 | [],[],_=> .nil
 | i::r,v::its,h=>by
  cases h with
  | cons h1 h2=>
   obtain⟨t,rfl⟩:=h1
   exact .cons (beq_self_eq_true _) (uI h2)
theorem Inv.tupV{X:Cx}{pins:List (cG×Obj)}{σ:St}{H:Hp}{s:cD}(I:Inv X pins σ H s){v:V}{u:cA}{r:List Int}(h:IsR X.K H v r)(rv:RelV v u):Mb X.prog X.w s.heap r u:=by
 obtain⟨a,rfl,c⟩:=h
 cases(show u=cR a from rv);obtain⟨b,d,⟨o,h1,h2,n,h3⟩,_⟩:=I.tuple c;exact⟨a,rfl,o,b.toArray,n,h1,h2,h3,uI d⟩
def RwFL(K:cu)(H:Hp)(T:Int)(v:V)(m:List Int):Prop:=∃a gs,v = .ref a/\SqL K H a gs/\dr (IsF K H) gs (fr T m)
theorem RwFL.mono{K:cu}{H H':Hp}{T:Int}{v:V}{m:List Int}(e:Same H H')(h:RwFL K H T v m):RwFL K H' T v m:=by
 obtain⟨a,b,rfl,h1,h2⟩:=h;exact⟨a,b,rfl,e.seq h1,rQ e h2⟩
def RwFX(K:cu)(H:Hp)(T:Int)(lo:cG)(v:V)(m:List Int):Prop:=∃a gs,v = .ref a/\a≠lo/\H a=some (.lst gs)/\dr (IsF K H) gs (fr T m)
theorem RwFX.fl{K:cu}{H:Hp}{T:Int}{lo:cG}{v:V}{m:List Int}(h:RwFX K H T lo v m):RwFL K H T v m:=by
 obtain⟨a,b,rfl,_,h1,h2⟩:=h;exact⟨a,b,rfl,SqL.of h1,h2⟩
theorem RwFX.mono{K:cu}{H H':Hp}{T:Int}{lo:cG}{v:V}{m:List Int}(e:Same H H')(h:RwFX K H T lo v m):RwFX K H' T lo v m:=by
 obtain⟨a,b,rfl,h0,h1,h2⟩:=h;exact⟨a,b,rfl,h0,e _ _ h1,rQ e h2⟩
theorem RwFX.over{K:cu}{H:Hp}{T:Int}{lo:cG}{ys zs:List V}{v:V}{m:List Int}(h:RwFX K H T lo v m)(hp:H lo=some (.lst ys)):RwFX K (upd H lo (.lst zs)) T lo v m:=by
 obtain⟨a,b,rfl,h0,h1,h2⟩:=h;exact⟨a,b,rfl,h0,by rw[rH h0];exact h1,Paired.mapP h2 λ_ _ q=>q.over hp⟩
theorem IsLot.over{K:cu}{H:Hp}{T:Int}{v:V}{l:Jz}{p:cG}{ys zs:List V}(h:IsLot K H T v l)(hp:H p=some (.lst ys)):IsLot K (upd H p (.lst zs)) T v l:=by
 obtain⟨a,f,g,rfl,h1,h2,h3⟩:=h;exact⟨a,f,g,rfl,uJ h1 hp,h2.over hp,uJ h3 hp⟩
theorem Cm{a b T:Int}(hT:T≠0):IR (FQ.red a T) (FQ.red b T)=FQ.red (a-b) T:=by
 have:=xr (a:=a) (b:=b) (c:=1) hT (by decide);rw[ia,ia]at this;exact this
theorem yZ(T:Int)(m:List Int):(fr T m).length=m.length:=by unfold fr;rw[cx]
structure Ly(n:Nat)(T:Int)(M:List (List Int)):Prop where
 lo:1<=n
 hi:n<=6
 t0:0<T
 t1:T<2^80
 len:M.length=n
 cols:∀r∈M,r.length=n
def GH(K:cu)(m:Nat):Sp:=λvs H Q _=>∃(l b:cG) (rs:List V) (M:List (List Int)) (T:Int) (n k:Nat) (bs:List Int),vs=[.ref l,.ref b]/\SqL K H l rs/\dr (RwFL K H T) rs M/\Ly n T M/\SqT K H b (bs.map V.int)/\bs.length+k=n/\k<=m/\
 (HM.within M k bs=none->∀H',Same H H'->Q .non H')/\(∀d,HM.within M k bs=some d->∀p H',Same H H'->SqT K H' p (d.map V.int)->Q (.ref p) H')
def JH(K:cu):Sp:=λvs H Q _=>∃(r w:cG) (gs:List V) (m:List Int) (t T x:Int),vs=[.ref r,.int t,.ref w]/\SqL K H r gs/\dr (IsF K H) gs (fr T m)/\IsF K H (.ref w) (FQ.red x T)/\(0<T/\T<2^80)/\(0<=t/\t<m.length)/\m.length<=6/\(0<=m.getD t.toNat 0/\m.getD t.toNat 0<=T)/\(0<=x/\x<=T)/\
 ∀p gs' H',Same H H'->H p=none->H' p=some (.lst gs')->dr (IsF K H') gs' (fr T (LM.addOne m t (-x)))->Q (.ref p) H'
structure Jx(n:Nat)(T:Int)(Z:List (List Int)):Prop where
 lo:1<=n
 hi:n<=6
 t0:0<T
 t1:T<2^80
 reg:HM.Reg n Z T
def GT(K:cu):Sp:=λvs H Q _=>∃(a:cG) (us:List V) (Z:List (List Int)) (T:Int) (n:Nat),vs=[.ref a]/\SqL K H a us/\dr (RwFT K H T) us Z/\Jx n T Z/\
 ∀k p ls H',HM.Fin Z T k->Same H H'->H p=none->H' p=some (.lst ls)->dr (IsLot K H' T) ls (HM.lotsL Z T k)->Q (.ref p) H'
theorem ur{T:Int}(hT:0<T):∀(l:List Int) (s:Int),Ew (FQ.red s T) (l.map λx=>FQ.red x T)=FQ.red (HM.minGo s l) T
 | [],s=>rfl
 | a::l,s=>by
  show Ew (if Ez (FQ.red a T) (FQ.red s T)=true then FQ.red a T else FQ.red s T) (l.map λx=>FQ.red x T)=FQ.red (HM.minGo (if a<s then a else s) l) T
  rw[xl hT hT]
  by_cases h:a<s
  ·rw[if_pos (decide_eq_true (f6 h hT)),if_pos h]
   exact ur hT l a
  ·rw[if_neg (by rw[decide_eq_true_iff];exact λz=>h (gK z (fq hT))),if_neg h]
   exact ur hT l s
theorem zn{T:Int}(hT:0<T){l:List Int}(h:l≠[]):GL (l.map λx=>FQ.red x T)=FQ.red (HM.minL l) T:=by
 cases l with
 | nil=>exact absurd rfl h
 | cons a l=>exact ur hT (a::l) a
abbrev EA:=List Int×List Int
def IsPK(prog:cT)(w:dc)(h:Heap)(k:EA)(a:cG):Prop:=
 ∃o n x y,h.get? a=some o/\o.cls = .type "tuple"/\o.data = .seq #[.ref x,.ref y] n/\IsTupleKey (intKind prog w) h k.1 x/\IsTupleKey (intKind prog w) h k.2 y
section
variable{prog:cT}{w:dc}{A:dw}{E:cA->cD->Prop}{s:cD}
theorem IsPK.typeIs{k:EA}{a:cG}(x:IsPK prog w s.heap k a):s.TypeIs (.ref a) "tuple":=let⟨o,_,_,_,b,c,_⟩:=x;⟨o,b,c⟩
def IO(prog:cT)(w:dc)(k:EA):Int:=reduceHash (i5 [tupleKeyHash (intKind prog w) k.1,tupleKeyHash (intKind prog w) k.2])
theorem AL{k:EA}{a:cG}{Q:Int->cD->Prop}(hu:A.units+2<cLine)(hk:IsPK prog w s.heap k a)(h:Q (IO prog w k) {s with toks:=s.toks+((k.1.length+1)+(k.2.length+1)+1)}):wpAny (model prog w) A (pyHash (.ref a)) Q E s:=by
 have b:=hk.typeIs;obtain⟨o,n,x,y,d,_,c,h1,h2⟩:=hk;unfold pyHash pyHashByItsType;refine cr (wpAny_cRoomFor_or (.inr (by omega)) ?_);refine cr (gg b jy.lookup ?_);show wpAny _ _ (if(some (Value.builtin "tuple.__hash__")==some cA.none)=true then _ else _) Q E s;rw[if_neg (by rw[beq_builtin_none];exact de)];refine cr (gg b jy.lookup ?_);show wpAny _ _ (callSpecialIfBoundUnlessNone? (.ref a) "__hash__" _ >>= _) Q E s;refine cr (wpAny_callSpecialIfBoundUnlessNone?_slot b jy (dR jy b F.entry_tuple_hash ?_ (F.args_tuple_hash_1 _)));show wpAny _ _ (oZ (.ref a) >>= _) _ _ s;refine cr (kl d c ?_);rw[<-im,show #[cR x,cR y].toList=[cR x,cR y]from rfl];rw[eg,bind_assoc];refine cr (cr (mW (show A.units+1<cLine by omega) h1 ?_));refine cv ?_;dsimp only;rw[eg,bind_assoc];refine cr (cr (mW (s:={s with toks:=s.toks+(k.1.length+1)}) (show A.units+1<cLine by omega) h2 ?_));refine cv ?_;dsimp only;rw[gr];refine cr (cv ?_);refine wpAny_ret_mkInt ?_;show wpAny _ _ (if(decide (-(2:Int)^63<=i5 [tupleKeyHash (intKind prog w) k.1,tupleKeyHash (intKind prog w) k.2])&&decide (i5 [tupleKeyHash (intKind prog w) k.1,tupleKeyHash (intKind prog w) k.2]<2^63))=true then _ else _) Q E _;unfold IO reduceHash at h;split at h
 ·rename_i hr
  rw[if_pos hr];exact cv (by simpa [mC]using h)
 ·rename_i hr
  rw[if_neg hr];exact cr (iR (cv (by simpa [mC]using h)))
theorem IsPK.inj{h:Heap}{a:cG}{k k':EA}(hx:IsPK prog w h k a)(hy:IsPK prog w h k' a):k=k':=by
 obtain⟨o,n,x,y,p,_,m,h1,h2⟩:=hx;obtain⟨r,s,q,t,c,_,b,f,g⟩:=hy;rw[p]at c
 cases c;rw[m]at b;injection b with e _
 have d:=congrArg m5 e;simp only[List.cons.injEq,cR.injEq,and_true]at d;obtain⟨j,l⟩:=d;subst j l;exact Prod.ext (h1.inj f) (h2.inj g)
theorem IsPK.keeps{h h':Heap}{k:EA}{a d:cG}{o:Obj}{es ep}(hx:IsPK prog w h k a)(ho:h.get? d=some o)(hd:o.data = .dict es ep)(hs:fK d h h'):IsPK prog w h' k a:=by
 obtain⟨f,n,x,y,h0,e,b,h1,h2⟩:=hx;have c:a≠d:=by
  rintro rfl;rw[ho]at h0
  cases h0;rw[hd]at b
  cases b
 exact⟨f,n,x,y,(hs.2 a c).trans h0,e,b,h1.keeps ho hd hs,h2.keeps ho hd hs⟩
theorem AF{k k':EA}{a b:cG}{Q:Bool->cD->Prop}(hu:A.units+2<cLine)(hx:IsPK prog w s.heap k a)(hy:IsPK prog w s.heap k' b)(h:Q (decide (k=k')) s):wpAny (model prog w) A (eqBool (.ref a) (.ref b)) Q E s:=by
 unfold eqBool
 try with_reducible refine dG ?_
 show wpAny _ _ (if(cR a==cR b)=true then _ else _) Q E s;by_cases c:(cR a==cR b)=true
 ·rw[if_pos c];have e:a=b:=by have:=eq_of_beq c;injection this
  subst e;have e:=hx.inj hy;subst e;exact cr (iR (cv (by simpa using h)))
 ·rw[if_neg c];have g:=hx.typeIs;have j:=hy.typeIs;obtain⟨o,n,x,y,v,_,u,h1,h2⟩:=hx;obtain⟨B,C,l,r,q,_,m,p,t⟩:=hy;refine cr (wpAny_richCompare_same_room (op:= .Eq) g j jY (dR jY g F.entry_tuple_eq ?_ (F.args_tuple_eq_2 _ _)) (by omega));show wpAny _ _ (isInstance (.ref b) (.type "tuple") >>= _) _ _ s;refine cr (eH j jE ?_);simp only[g7,fX,if_false];refine cr (kl v u ?_);refine cr (kl q m ?_);rw[show List.zip #[cR x,cR y].toList #[cR l,cR r].toList=[(cR x,cR l),(cR y,cR r)]from rfl];rw[eg,bind_assoc];refine cr (cr (mX (show A.units+1<cLine by omega) h1 p ?_));by_cases d:k.1=k'.1
  ·rw[decide_eq_true d];simp only[g7,fX,if_false];refine cv ?_;dsimp only;rw[eg,bind_assoc];refine cr (cr (mX (show A.units+1<cLine by omega) h2 t ?_));by_cases f:k.2=k'.2
   ·rw[decide_eq_true f];simp only[g7,fX,if_false];refine cv ?_;dsimp only;rw[gr];refine cr (cv (cv ⟨_,rfl,(λe=>nomatch e),eJ ?_⟩));rw[decide_eq_true (Prod.ext d f)]at h;exact h
   ·rw[decide_eq_false f];simp only[o0,if_true];rw[decide_eq_false (λz=>f (by rw[z]))]at h;exact cr (cv (cv (cr (cv (cv ⟨_,rfl,(λe=>nomatch e),eJ h⟩)))))
  ·rw[decide_eq_false d];simp only[o0,if_true];rw[decide_eq_false (λz=>d (by rw[z]))]at h;exact cr (cv (cv (cr (cv (cv ⟨_,rfl,(λe=>nomatch e),eJ h⟩)))))
theorem yN{f:Nat}{ks:List Int}{a:cG}{Q:Bool->cD->Prop}(hk:IsTupleKey (intKind prog w) s.heap ks a)(h:Q true s):wpAny (model prog w) A (eqIsQuiet (f+1) (.ref a)) Q E s:=by
 have d:=hk.typeIs;obtain⟨o,b,n,l,_,k,m⟩:=hk;unfold eqIsQuiet;refine cr (gg d jY.lookup ?_);show wpAny _ _ (isInstance (.ref a) (.type "tuple") >>= _) _ _ s;refine cr (eH d jE ?_);simp only[g7,fX,if_false];refine cr (fR l k ?_);refine cr ?_;show wpAny _ _ (forIn b _ _) _ _ s;rw[<-im];refine lg _ (λrest r c=>r.1=none/\c=s/\∀v∈rest,carriedByValue v=true) _ ?_ ?_ _ _ ⟨rfl,rfl,m.byValue⟩
 ·rintro v rest r c ⟨_,rfl,j⟩;rw[eqIsQuiet_byValue _ (j v cM)];refine cr (cv ?_);simp only[g7,fX,if_false];exact cv ⟨rfl,rfl,λu e=>j u (cO _ e)⟩
 ·rintro⟨q,p⟩ c ⟨g,rfl,_⟩;simp only at g;subst g;exact cv h
theorem Ck{k:EA}{a:cG}{Q:Bool->cD->Prop}(hk:IsPK prog w s.heap k a)(h:Q true s):wpAny (model prog w) A (eqIsQuiet 8 (.ref a)) Q E s:=by
 have b:=hk.typeIs;obtain⟨o,n,x,y,d,_,c,h1,h2⟩:=hk;unfold eqIsQuiet;refine cr (gg b jY.lookup ?_);show wpAny _ _ (isInstance (.ref a) (.type "tuple") >>= _) _ _ s;refine cr (eH b jE ?_);simp only[g7,fX,if_false];refine cr (fR d c ?_);show wpAny _ _ (forIn #[cR x,cR y] _ _ >>= _) _ _ s;rw[<-im,show #[cR x,cR y].toList=[cR x,cR y]from rfl,eg,bind_assoc];refine cr (cr (yN h1 ?_));simp only[g7,fX,if_false];refine cv ?_;dsimp only;rw[eg,bind_assoc];refine cr (cr (yN h2 ?_));simp only[g7,fX,if_false];refine cv ?_;dsimp only;rw[gr];exact cr (cv (cv h))
end
def JM(prog:cT)(w:dc):HeapKind prog w EA where
 is:=IsPK prog w
 hash:=IO prog w
 draws:=λk=>(k.1.length+1)+(k.2.length+1)+1
 room:=λA=>A.units+2<cLine
 inj:=λhx hy=>hx.inj hy
 keeps:=λx ho hd hs=>x.keeps ho hd hs
 pyHash:=λhu hk h=>AL hu hk h
 eqBool:=λhu hx hy h=>AF hu hx hy h
 quiet:=λhk h=>Ck hk h
structure KW(κ:Type)[DecidableEq κ] where
 knd:(prog:cT)->(w:dc)->HeapKind prog w κ
 at':cu->Hp->κ->cG->Prop
 ok:∀{X:Cx} {pins:List (cG×Obj)} {σ:St} {H:Hp} {s:cD} {k:κ} {a:cG},Inv X pins σ H s->at' X.K H k a->(knd X.prog X.w).is s.heap k a
 map:∀{K:cu} {H H':Hp} {k:κ} {a:cG},(∀b xs,SqT K H b xs->SqT K H' b xs)->at' K H k a->at' K H' k a
 room:∀{prog:cT} {w:dc} {A:dw},A.units+3<cLine->(knd prog w).room A.in1
 room':∀{prog:cT} {w:dc} {A:dw},A.units+3<cLine->(knd prog w).room A
def DXe{P:cT}{w:dc}{κ:Type}[DecidableEq κ](knd:HeapKind P w κ)(xs:List (κ×cG×cA))(ep:Nat)(d:cG)(h:Heap):Prop:=
 (d==sysModules)=false/\∃o es,h.get? d=some o/\o.ExactDict/\o.data = .dict es ep/\es.toList=xs.map (entryOfKey knd)/\(xs.map (·.1)).Nodup
def DictE{κ:Type}[DecidableEq κ](W:KW κ)(P:cT)(w:dc)(K:cu)(H:Hp)(d:cG)(ep:Nat)(kvs:List (κ×Int)):Prop:=
 ∃xs,H d=some (.ext (DXe (W.knd P w) xs ep d))/\dr (λ(p:κ×Int) (q:κ×cG×cA)=>p.1=q.1/\(∃t,q.2.2=dX p.2 t)/\W.at' K H p.1 q.2.1) kvs xs
def DictI{κ:Type}[DecidableEq κ](W:KW κ)(P:cT)(w:dc)(K:cu)(H:Hp)(d:cG)(kvs:List (κ×Int)):Prop:=∃ep,DictE W P w K H d ep kvs
section
variable{κ:Type}[DecidableEq κ]{W:KW κ}{P:cT}{w:dc}{K:cu}{H H':Hp}{d:cG}{ep:Nat}{kvs:List (κ×Int)}
theorem DictE.mono(e:Same H H')(h:DictE W P w K H d ep kvs):DictE W P w K H' d ep kvs:=by
 obtain⟨f,h1,h2⟩:=h;exact⟨f,e _ _ h1,Paired.mapP h2 λ_ _ ⟨a,b,c⟩=>⟨a,b,W.map (λ_ _ q=>e.tup q) c⟩⟩
theorem DictI.mono(e:Same H H')(h:DictI W P w K H d kvs):DictI W P w K H' d kvs:=by
 obtain⟨a,h⟩:=h;exact⟨a,h.mono e⟩
theorem vJ{p a:cG}{φ:Heap->Prop}{o:HO}{xs:List V}(h:SqT K H a xs)(hp:H p=some (.ext φ)):SqT K (upd H p o) a xs:=by
 rcases h with(h|⟨u,h⟩)|h
 ·exact .inl (.inl (by rw[rH (λz=>by rw[z,hp]at h;cases h)];exact h))
 ·exact .inl (.inr ⟨u,by rw[rH (λz=>by rw[z,hp]at h;cases h)];exact h⟩)
 ·exact .inr h
theorem DictE.overX{p:cG}{φ:Heap->Prop}{o:HO}(h:DictE W P w K H d ep kvs)(hp:H p=some (.ext φ))(hne:d≠p):DictE W P w K (upd H p o) d ep kvs:=by
 obtain⟨e,h1,h2⟩:=h;exact⟨e,by rw[rH hne];exact h1,Paired.mapP h2 λ_ _ ⟨a,b,c⟩=>⟨a,b,W.map (λ_ _ q=>vJ q hp) c⟩⟩
theorem DXe.frame{knd:HeapKind P w κ}{xs:List (κ×cG×cA)}{h1 h2:Heap}(h:DXe knd xs ep d h1)(k:∀o,h1.get? d=some o->h2.get? d=some o):DXe knd xs ep d h2:=by
 obtain⟨a,o,e,b,c⟩:=h;exact⟨a,o,e,k o b,c⟩
theorem wQ{knd:HeapKind P w κ}{xs:List (κ×cG×cA)}{h:Heap}(hx:DXe knd xs ep d h):ObjOk P w H h d (.ext (DXe knd xs ep d)):=
 ⟨hx,let⟨_,o,_,b,_⟩:=hx;⟨o,b⟩,λ_ _ a b=>a.frame b⟩
end
section
variable{κ:Type}[DecidableEq κ]{W:KW κ}{X:Cx}{pins:List (cG×Obj)}{σ:St}{H:Hp}{s:cD}{d:cG}{ep:Nat}{kvs:List (κ×Int)}{A:dw}{E:cA->cD->Prop}
theorem Inv.dx(I:Inv X pins σ H s)(h:DictE W X.prog X.w X.K H d ep kvs):∃xs,DXe (W.knd X.prog X.w) xs ep d s.heap/\s.heap.DictOfH (W.knd X.prog X.w) d xs/\dr (λ(p:κ×Int) (q:κ×cG×cA)=>p.1=q.1/\(∃t,q.2.2=dX p.2 t)/\W.at' X.K H p.1 q.2.1) kvs xs:=by
 obtain⟨xs,h1,h2⟩:=h;obtain⟨k,_,_⟩:=I.hok d _ h1;obtain⟨h3,o,n,a,b,c,e,f⟩:=id k;refine⟨xs,k,⟨o,n,ep,a,b,c,e,λq l=>?_,f⟩,h2⟩;obtain⟨i,r,m⟩:=eO.mp l;obtain⟨p,hp,j,_,g⟩:=Paired.get h2 (cz r);rw[m]at j g;rw[<-j];exact W.ok I g
theorem vm{xs:List (κ×cG×cA)}{K:cu}{H:Hp}(k:κ):∀{kvs:List (κ×Int)},dr (λ(p:κ×Int) (q:κ×cG×cA)=>p.1=q.1/\(∃t,q.2.2=dX p.2 t)/\W.at' K H p.1 q.2.1) kvs xs->(kvs.lookup k=none/\atKey xs k=none)\/∃n a t,kvs.lookup k=some n/\atKey xs k=some (a,dX n t):=by
 induction xs with
 | nil=>
  intro kvs h
  cases h;exact .inl ⟨rfl,rfl⟩
 | cons q xs f=>
  intro kvs h
  cases h with
  | @cons p _ ps _ hp hr=>
   obtain⟨d,⟨t,b⟩,_⟩:=hp;obtain⟨pk,pn⟩:=p;obtain⟨j,c,g⟩:=q;dsimp only at d b;subst d b;by_cases e:pk=k
   ·subst e;refine .inr ⟨pn,c,t,?_,?_⟩
    ·simp[gR]
    ·simp[atKey]
   ·have h1:((pk,pn)::ps).lookup k=ps.lookup k:=by
     rw[dW,show(k==pk)=false from beq_false_of_ne (Ne.symm e)]
    have h2:atKey ((pk,c,dX pn t)::xs) k=atKey xs k:=by
     unfold atKey;rw[List.find?_cons_of_neg (by simpa using e)]
    rw[h1,h2];exact f hr
def La(W:KW κ)(P:cT)(w:dc)(K:cu)(td ty tx:TE):TE:=λσ H Q=>td σ H λx H1=>∃(d:cG),x = .ref d/\(∃kvs,DictI W P w K H1 d kvs)/\ty σ H1 λy H2=>tx σ H2 λz H3=>∃(a:cG) (k:κ) (n:Int) (kvs:List (κ×Int)),y = .ref a/\z = .int n/\DictI W P w K H3 d kvs/\W.at' K H3 k a/\Q (.int ((kvs.lookup k).getD n)) H3
theorem yh{P:cT}{w:dc}{K:cu}{o e f:Expr}{apos cpos:Pos}{td ty tx:TE}{j:Nat}(hP:X.prog=P)(hw:X.w=w)(hK:X.K=K)(hr:Room j X.A)(ho:PE X o td)(he:PE X e ty)(hf:PE X f tx)(hbase:attributeBase o "get" X.env (eval o X.env)=eval o X.env:=by rfl)
  (hfew:((backTo cpos (dh [e,f] X.env)).all (λx=>!x.1)&&(backToKw cpos (keywordEach [] X.env)).all (λx=>x.1.isSome)&&decide (([e,f]:List Expr).length+([]:List Keyword).length+(if([]:List Keyword).isEmpty then 0 else 1)<30))=true:=by rfl)
  (hline:(apos.endLine==cpos.line)=true:=by rfl)(htrees:backTo cpos (dh [e,f] X.env)=[(false,eval e X.env),(false,eval f X.env)]:=by rfl):PE X (.Call (.Attribute o "get" apos) [e,f] [] cpos) (La W P w K td ty tx):=by
 subst hP hw hK
 intro c s r H Q I h
 refine nM hbase hfew hline lh lW PySem.F.type_dict_get (En (ho c s r H _ I h) λu U ⟨x,H1,D,V,d,ex,⟨J,ab,B⟩,q1⟩=>?_)
 subst ex
 obtain rfl:u=cR d:=V
 obtain⟨ae,⟨aa,O,ac,g1,g2,_⟩,E,_⟩:=D.dx B
 refine⟨E.typeIs,λb z=>?_,?_⟩
 ·cases z
  exact⟨O,g1,g2.2.1⟩
 rw[htrees]
 refine gB rfl (iK (fH (En (he c U r H1 _ D q1) λS Y ⟨y,H2,T,R,q2⟩=>fH (En (hf c Y r H2 _ T q2) λfv s3 ⟨z,N,v,M,a,k,n,af,L,Z,⟨ad,G⟩,hk,q3⟩=>kB ?_))))
 subst L Z
 cases(show S=cR a from R)
 obtain⟨tn,rfl⟩:=M
 obtain⟨xs,⟨g,_⟩,l,C⟩:=v.dx G
 refine qo lW l.typeIs PySem.F.entry_dict_get (PySem.F.args_dict_get_3 _ _ _) (meetsH_dict_get_default (W.knd X.prog X.w) d a g (.int n tn)) ⟨W.room (by have:=hr.units;omega),k,xs,W.ok v hk,l,?_⟩
 refine⟨_,N,v.tok _,?_,q3⟩
 rcases vm k C with⟨p,q⟩|⟨m,b,t,p,q⟩
 ·rw[p,q];exact⟨_,rfl⟩
 ·rw[p,q];exact⟨_,rfl⟩
def Gx(kvs:List (κ×Int))(k:κ)(n:Int):List (κ×Int):=if(kvs.lookup k).isSome=true then kvs.map (λp=>if p.1=k then(p.1,n)else p)else kvs++[(k,n)]
theorem zi{K:cu}{H H':Hp}{xs:List (κ×cG×cA)}{kvs:List (κ×Int)}{k:κ}{a:cG}{n:Int}{t:Tok}(rel:dr (λ(p:κ×Int) (q:κ×cG×cA)=>p.1=q.1/\(∃t,q.2.2=dX p.2 t)/\W.at' K H p.1 q.2.1) kvs xs)
  (up:∀(k':κ) (b:cG),W.at' K H k' b->W.at' K H' k' b)(hk:W.at' K H k a):dr (λ(p:κ×Int) (q:κ×cG×cA)=>p.1=q.1/\(∃t,q.2.2=dX p.2 t)/\W.at' K H' p.1 q.2.1) (Gx kvs k n) (storedH xs k a (.int n t)):=by
 unfold Gx
 rcases vm k rel with⟨f,d⟩|⟨m,b,l,f,d⟩
 ·rw[f,storedH_new d]
  exact Paired.app (Paired.mapP rel λ_ _ ⟨c,j,g⟩=>⟨c,j,up _ _ g⟩) (.cons ⟨rfl,⟨t,rfl⟩,up _ _ hk⟩ .nil)
 ·rw[f,storedH_old d]
  show dr _ (kvs.map λp=>if p.1=k then(p.1,n)else p) (xs.map (putAt k (.int n t)))
  clear f d
  induction rel with
  | nil=>exact .nil
  | @cons p q ps qs h _ ih=>
   obtain⟨c,j,g⟩:=h
   refine .cons ?_ ih
   unfold putAt
   dsimp only
   by_cases e:p.1=k
   ·rw[if_pos e,if_pos (c▸e)]
    exact⟨c,⟨t,rfl⟩,up _ _ g⟩
   ·rw[if_neg e,if_neg (λz=>e (c.trans z))]
    exact⟨c,j,up _ _ g⟩
def LP(W:KW κ)(P:cT)(w:dc)(K:cu):V->V->V->Hp->(Hp->Prop)->Prop:=λo i v H Q=>∃(d a:cG) (k:κ) (n:Int) (kvs:List (κ×Int)),o = .ref d/\i = .ref a/\v = .int n/\DictI W P w K H d kvs/\W.at' K H k a/\kvs.length<=1000000/\
 ∀H',(∃φ φ',H d=some (.ext φ)/\H'=upd H d (.ext φ'))->DictI W P w K H' d (Gx kvs k n)->Q H'
theorem D0{P:cT}{w:dc}{K:cu}{j:Nat}(hP:X.prog=P)(hw:X.w=w)(hK:X.K=K)(hr:Room j X.A):J1 X (LP W P w K):=by
 subst hP hw hK;intro V s σ H o i v ov iv u Q I Y M F h;obtain⟨d,a,k,n,ac,rfl,rfl,rfl,⟨ep,D⟩,hk,hl,q⟩:=h
 cases Y
 cases M;obtain⟨t,rfl⟩:=F;obtain⟨f,⟨p,o1,aa,g1,g2,g3,_⟩,N,g⟩:=I.dx D;have ab:=Paired.len g;refine wpAny_setItem_heap (W.room (by have:=hr.units;omega)) (W.ok I hk) N (λJ y T=>?_) (dg (show f.length<=1000000 by omega) (by decide));obtain⟨C,E,c,z,U,R,O,a5,G⟩:=y;obtain⟨Z,h1,h2⟩:=D;have S:DXe (W.knd X.prog X.w) (storedH f k a (.int n t)) c d J:=⟨p,C,E,z,U,R,O,G⟩;have L:=I.write (t':=s.toks+(W.knd X.prog X.w).draws k) (x:=d) (e:=d) (o:= .ext (DXe (W.knd X.prog X.w) (storedH f k a (.int n t)) c d)) (by rw[h1];trivial) (.inl rfl) (λb ob r m=>(T.2 b r).trans m) ⟨C,z⟩ (wQ S);refine⟨_,L,q _ ⟨_,_,h1,rfl⟩ ⟨c,storedH f k a (.int n t),rC,?_⟩⟩;have B:∀(l:κ) (b:cG),W.at' X.K H l b->W.at' X.K (upd H d (.ext (DXe (W.knd X.prog X.w) (storedH f k a (.int n t)) c d))) l b:=λl b r=>W.map (λ_ _ m=>vJ m h1) r
 generalize upd H d (.ext (DXe (W.knd X.prog X.w) (storedH f k a (.int n t)) c d))=Hn at B;exact zi g B hk
end
section
variable{κ:Type}[DecidableEq κ]{W:KW κ}{X:Cx}
theorem Inv.bigS{pins:List (cG×Obj)}{σ:St}{H:Hp}{s:cD}(I:Inv X pins σ H s):sysModules<s.heap.objs.size:=lB (by decide) ((I.mod.glob.keeps I.bk).lt)
theorem Ao{P:cT}{w:dc}(knd:HeapKind P w κ)(h:Heap)(hb:sysModules<h.objs.size):DXe knd [] 0 h.objs.size (h.push {cls:= .type "dict",data:= .dict #[]}):=
 ⟨beq_eq_false_iff_ne.mpr (Ne.symm (df hb)),_,#[],cN _ rfl,⟨rfl,rfl,rfl⟩,rfl,rfl,hX⟩
def Ld(W:KW κ)(P:cT)(w:dc)(K:cu):TE:=λ_ H Q=>∀d H',H d=none->(∃φ,H'=upd H d (.ext φ))->DictI W P w K H' d []->Q (.ref d) H'
theorem z7{P:cT}{w:dc}{K:cu}{pos:Pos}(hP:X.prog=P)(hw:X.w=w)(hK:X.K=K):PE X (.Dict [] [] pos) (Ld W P w K):=by
 subst hP hw hK;exact λb s c H Q I h=>oa ⟨.ref s.heap.objs.size,_,I.laid (a:=s.heap.objs.size) (o:= .ext (DXe (W.knd X.prog X.w) [] 0 s.heap.objs.size)) (t':=s.toks) (λ_ _ q=>cF _ q) (cI _) (wQ (Ao _ s.heap I.bigS)),rfl,
  h _ _ (I.hok.fresh (cI _)) ⟨_,rfl⟩ ⟨0,[],rC,.nil⟩⟩
def Ky(W:KW κ)(P:cT)(w:dc)(K:cu)(tk tv:TE):TE:=λσ H Q=>∀d H1,H d=none->(∃φ,H1=upd H d (.ext φ))->DictI W P w K H1 d []->tk σ H1 λx H2=>tv σ H2 λy H3=>∃(a:cG) (k:κ) (n:Int),x = .ref a/\y = .int n/\W.at' K H3 k a/\DictI W P w K H3 d []/\
 ∀H',(∃φ φ',H3 d=some (.ext φ)/\H'=upd H3 d (.ext φ'))->DictI W P w K H' d [(k,n)]->Q (.ref d) H'
theorem B3{P:cT}{w:dc}{K:cu}{j:Nat}{ke ve:Expr}{pos:Pos}{tk tv:TE}(hP:X.prog=P)(hw:X.w=w)(hK:X.K=K)(hr:Room j X.A)(hk:PE X ke tk)(hv:PE X ve tv):PE X (.Dict [some ke] [ve] pos) (Ky W P w K tk tv):=by
 subst hP hw hK;intro d s B H Q I h;have R:=I.laid (a:=s.heap.objs.size) (o:= .ext (DXe (W.knd X.prog X.w) [] 0 s.heap.objs.size)) (t':=s.toks) (h':=s.heap.push {cls:= .type "dict",data:= .dict #[]}) (λ_ _ q=>cF _ q) (cI _) (wQ (Ao _ s.heap I.bigS));have Y:=h s.heap.objs.size _ (I.hok.fresh (cI _)) ⟨_,rfl⟩ ⟨0,[],rC,.nil⟩;refine wpAny_Dict_any rfl rfl (by simp) (by show 1<=15;decide) ?_;refine pairTrees_cons_walk (En (hk d _ B _ _ R Y) λu M ⟨x,Z,L,N,q2⟩=>En (hv d M B Z _ L q2) λv O ⟨y,H3,f,J,a,k,n,ex,F,D,⟨ep,C⟩,V⟩=>pairTrees_nil_walk ?_);subst ex F
 cases(show u=cR a from N);obtain⟨t,rfl⟩:=J;obtain⟨xs,⟨l,_⟩,S,r⟩:=f.dx C
 cases r;unfold storeAll;rw[eg];refine cr (cr (wpAny_dictSet_heap (hsz:=du _) (W.room' (by have:=hr.units;omega)) (W.ok f D) S λh' m sb=>cv ?_));dsimp only;rw[gr];refine cv ?_;obtain⟨z,E,c,p,a2,U,T,a5,G⟩:=m;obtain⟨aa,h1,h2⟩:=C;have nx:DXe (W.knd X.prog X.w) (storedH [] k a (.int n t)) c s.heap.objs.size h':=⟨l,z,E,p,a2,U,T,G⟩;have I4:=f.write (t':=O.toks+(W.knd X.prog X.w).draws k) (x:=s.heap.objs.size) (e:=s.heap.objs.size) (o:= .ext (DXe (W.knd X.prog X.w) (storedH [] k a (.int n t)) c s.heap.objs.size)) (by rw[h1];trivial) (.inl rfl) (λb ob hb g=>(sb.2 b hb).trans g) ⟨z,p⟩ (wQ nx);refine⟨.ref s.heap.objs.size,_,I4,rfl,V _ ⟨_,_,h1,rfl⟩ ⟨c,storedH [] k a (.int n t),rC,?_⟩⟩;exact .cons ⟨rfl,⟨t,rfl⟩,W.map (λ_ _ g=>vJ g h1) D⟩ .nil
end
def RawD(h:Heap)(d:cG)(es:Array DictEntry)(ep:Nat):Prop:=∃o,h.get? d=some o/\o.ExactDict/\o.data = .dict es ep
section
variable{prog:cT}{w:dc}{A:dw}{E:cA->cD->Prop}{s:cD}
theorem RawD.ty{d:cG}{es:Array DictEntry}{ep:Nat}(r:RawD s.heap d es ep):s.TypeIs (.ref d) "dict":=let⟨o,a,b,_⟩:=r;⟨o,a,b.1⟩
theorem xm(d:cG)(hs:(d==sysModules)=false):MeetsIn prog w (Builtin.«dict.items» ⟨[.ref d],[]⟩) (λ_ R s=>(∃es ep,RawD s.heap d es ep)/\R (.ok (.ret (.ref s.heap.objs.size))) {s with heap:=s.heap.push {cls:= .type "dict_items",data:= .fields #[.ref d]}}):=
 .of_wp λA R s ⟨⟨es,ep,r⟩,h⟩=>by
  unfold Builtin.«dict.items» qY qx
  refine cr (cr (wpAny_notOrdered_dict r.ty (cv ?_)))
  rw[if_neg (by rw[hs];exact de)]
  exact cr (cv (cr (e9 (cv ⟨_,rfl,h⟩))))
theorem ya{v d:cG}{es:Array DictEntry}{ep:Nat}{Q:cA->cD->Prop}(hv:s.heap.IsItemsView v d)(r:RawD s.heap d es ep)
  (hQ:Q (.ref s.heap.objs.size) {s with heap:=s.heap.push {cls:= .type "dict_itemiterator",data:= .fields #[.none,.bool false,.ref d,.int 0 0,.int es.size 0,.int ep 0,.none,.none]}}):wpAny (model prog w) A (pyIter (.ref v)) Q E s:=by
 obtain⟨h,e,j,f⟩:=id hv
 obtain⟨o,b,g,c⟩:=id r
 refine jw hv.typeIs lC (dR lC hv.typeIs F.entry_dict_items_iter ?_ (F.args_dict_items_iter_1 _))
 unfold Builtin.«dict_items.__iter__» pq og
 refine cr (cv (cr (cr (eF e f (x:= .ref d) rfl (cv ?_)))))
 refine cr (cr (kF b c (cr (lM b c ?_))))
 have a:iu "dict_itemiterator"=true:=by decide
 simp only[a,if_true]
 refine e9 (cv ⟨_,rfl,"dict_itemiterator",_,⟨_,cN _ rfl,rfl⟩,fe.lookup,?_⟩) (by simp only[sizeOk,jc,cX,dq,dQ,jU,lZ];omega)
 simpa [rawInt,jc]using hQ
theorem ye{it d:cG}{i ep:Nat}{es:Array DictEntry}{ok ov:cA}{Q:Option cA->cD->Prop}(hit:IsItemIter s.heap it d i es.size ep ok ov)(r:RawD s.heap d es ep)(hlt:i<es.size)
  (hQ:∀h',IsItemIterOut h' it d (i+1) es.size ep es[i].key es[i].val s.heap.objs.size->h'.get? s.heap.objs.size=some {cls:= .type "tuple",data:= .seq #[es[i].key,es[i].val]}->h'.objs.size=s.heap.objs.size+1->
   (∀b o,b≠it->s.heap.get? b=some o->h'.get? b=some o)->Q (some (.ref s.heap.objs.size)) {s with heap:=h'}):wpAny (model prog w) A (pyNext (.ref it)) Q E s:=by
 obtain⟨hp,g,k,tk,j⟩:=s
 obtain⟨o,J,O,M⟩:=id r
 have h:kO ⟨hp,g,k,tk,j⟩ (.ref it) "dict_itemiterator":=⟨_,hit,rfl⟩
 unfold pyNext
 refine cr (iy (ef (name:=fM "__next__") h fe (dR fe h jI ?_ (jC _))))
 refine cr (cv (cr (cr ?_)))
 first|refine cr (gl h (cv ?_))|refine cr (wpAny_typeNameOf_itemiter h (cv ?_))
 refine cr (iS hit rfl ?_)
 have z:iu "dict_itemiterator"=true:=by decide
 simp only[z,if_true]
 show wpAny _ _ (if(cR d==cA.none)=true then _ else _) _ _ _
 rw[if_neg (show ¬((cR d==cA.none)=true)from de)]
 refine cr (cv (cr (kF J M ?_)))
 rw[if_neg (by simp)]
 refine cr (cv (cr (lM J M ?_)))
 rw[if_neg (by simp)]
 refine cv ?_
 simp only[show ¬((i:Int)<0)from by omega,if_false,gb,fi hlt]
 refine cr ?_
 first|refine cr (gl h (cv ?_))|refine cr (wpAny_typeNameOf_itemiter h (cv ?_))
 refine cr (jz h ?_)
 show wpAny _ _ (setField (.ref it) 3 (rawInt ((i:Int)+1)) >>= _) _ _ ⟨hp,g,k,tk,j⟩
 refine cr (eS hit (by simp) λh1 l n=>?_)
 replace n:fK it hp h1:=n
 replace l:IsItemIter h1 it d (i+1) es.size ep ok ov:=by
  have e:((i+1:Nat):Int)=(i:Int)+1:=by omega
  unfold IsItemIter;rw[e];simpa [rawInt]using l
 have p:kO ⟨h1,g,k,tk,j⟩ (.ref it) "dict_itemiterator":=⟨_,l,rfl⟩
 refine cr (dG (cr (jz p (cr (jz p ?_)))))
 show wpAny _ _ (jA (.ref it) 6 es[i].key es[i].val) _ _ ⟨h1,g,k,tk,j⟩
 generalize es[i].key=a at *
 generalize es[i].val=c at *
 unfold jA mF
 refine cr (iU ?_)
 have m:IsItemIter (h1.push {cls:= .type "tuple",data:= .seq #[a,c]}) it d (i+1) es.size ep ok ov:=cF _ l
 have v:h1.objs.size=hp.objs.size:=n.1
 have L:(h1.push {cls:= .type "tuple",data:= .seq #[a,c]}).get? hp.objs.size=some {cls:= .type "tuple",data:= .seq #[a,c]}:=by rw[<-v];exact cN _ rfl
 have I:(h1.push {cls:= .type "tuple",data:= .seq #[a,c]}).objs.size=hp.objs.size+1:=by rw[gq,v]
 have H:∀b o,b≠it->hp.get? b=some o->(h1.push {cls:= .type "tuple",data:= .seq #[a,c]}).get? b=some o:=λb o f e=>cF _ (n.extBut b o f e)
 have N:it≠hp.objs.size:=df (cQ hit)
 show wpAny _ _ _ _ _ ⟨h1.push {cls:= .type "tuple",data:= .seq #[a,c]},g,k,tk,j⟩
 rw[v]
 generalize h1.push {cls:= .type "tuple",data:= .seq #[a,c]}=h2 at m L I H
 clear l n p v
 refine cr (cr (eF m rfl (x:= .none) rfl (cv ?_)))
 simp only[if_true]
 refine cr (eF m rfl (x:=ok) rfl (cr (eF m rfl (x:=ov) rfl ?_)))
 refine cr (eS m (by simp) λh3 B y=>?_)
 replace y:fK it h2 h3:=y
 replace B:IsItemIter h3 it d (i+1) es.size ep a ov:=B
 refine cr (eS B (by simp) λh4 C q=>?_)
 replace q:fK it h3 h4:=q
 replace C:IsItemIter h4 it d (i+1) es.size ep a c:=C
 refine cr (eS C (by simp) λh5 D u=>?_)
 replace u:fK it h4 h5:=u
 replace D:IsItemIterOut h5 it d (i+1) es.size ep a c hp.objs.size:=D
 refine cr (eS D (by simp) λh6 G t=>?_)
 replace t:fK it h5 h6:=t
 replace G:IsItemIterOut h6 it d (i+1) es.size ep a c hp.objs.size:=G
 have K:∀b o,b≠it->h2.get? b=some o->h6.get? b=some o:=λb o f e=>t.extBut b o f (u.extBut b o f (q.extBut b o f (y.extBut b o f e)))
 refine cr (kE (cv (cv ⟨_,rfl,cv (hQ h6 G (K _ _ (Ne.symm N) L) ?_ λb o f e=>K b o f (H b o f e))⟩)))
 show h6.objs.size=hp.objs.size+1
 rw[t.1,u.1,q.1,y.1,I]
theorem zm{it d:cG}{i ep:Nat}{es:Array DictEntry}{ok ov:cA}{Q:Option cA->cD->Prop}(hh:A.handled=none)(hit:IsItemIter s.heap it d i es.size ep ok ov)(r:RawD s.heap d es ep)(hge:es.size<=i)
  (hQ:∀h',qF it s.heap h'->Q none {s with heap:=h'}):wpAny (model prog w) A (pyNext (.ref it)) Q E s:=by
 obtain⟨o,f,h,g⟩:=id r
 have c:s.TypeIs (.ref it) "dict_itemiterator":=⟨_,hit,rfl⟩
 unfold pyNext
 refine cr (iy (ef (name:=fM "__next__") c fe (dR fe c jI ?_ (jC _))))
 refine cr (cv (cr (cr ?_)))
 first|refine cr (gl c (cv ?_))|refine cr (wpAny_typeNameOf_itemiter c (cv ?_))
 refine cr (iS hit rfl ?_)
 have e:iu "dict_itemiterator"=true:=by decide
 simp only[e,if_true]
 show wpAny _ _ (if(cR d==cA.none)=true then _ else _) _ _ s
 rw[if_neg (show ¬((cR d==cA.none)=true)from de)]
 refine cr (cv (cr (kF f g ?_)))
 rw[if_neg (by simp)]
 refine cr (cv (cr (lM f g ?_)))
 rw[if_neg (by simp)]
 refine cv ?_
 simp only[show ¬((i:Int)<0)from by omega,if_false,gb,gC hge]
 refine cr ?_
 first|refine cr (gl c (cv ?_))|refine cr (wpAny_typeNameOf_itemiter c (cv ?_))
 show wpAny _ _ (setField (.ref it) 2 .none >>= _) _ _ s
 refine cr (gt hit rfl (by simp) ?_)
 show wpAny _ _ (newExc (.type "StopIteration") [] >>= _) _ _ _
 refine cr ?_
 simp only[newExc,newTuple]
 refine cr (e9 ?_ (by size_fits))
 refine cr (m:=firstArgMember _ _) (fO (a:=cA.none) (by first|rfl|(simp only[firstArgMember];rfl)) ?_)
 refine e9 ?_ (by size_fits)
 simp only[raiseNew]
 refine cr (kQ ?_)
 rw[show A.in1.handled=none from hh]
 refine cr (cv (md ?_))
 refine cr (eH (T:="StopIteration") (b:=true) ⟨_,cN _ rfl,rfl⟩ kj ?_)
 exact cv (hQ _ (((eX ..).extBut.push _).push _))
end
section
variable{κ:Type}[DecidableEq κ]
def K7(W:KW κ)(P:cT)(w:dc)(K:cu)(d:cG)(ep n:Nat):It:=
 ⟨λi H=>∃kvs k m,DictE W P w K H d ep kvs/\kvs.length=n/\kvs[i]?=some (k,m),
  λi H v H'=>∃a k m t,(∀kvs,DictE W P w K H d ep kvs->kvs[i]?=some (k,m))/\W.at' K H k a/\v = .ref t/\H t=none/\H'=upd H t (.tup [.ref a,.int m]),
  λi H=>∃kvs,DictE W P w K H d ep kvs/\kvs.length=n/\n<=i⟩
theorem Inv.dx_inj{W:KW κ}{X:Cx}{pins:List (cG×Obj)}{σ:St}{H:Hp}{s:cD}{d:cG}{ep:Nat}{kvs kvs':List (κ×Int)}(I:Inv X pins σ H s)(h:DictE W X.prog X.w X.K H d ep kvs)(h':DictE W X.prog X.w X.K H d ep kvs'):kvs=kvs':=by
 obtain⟨Q,⟨_,o,S,r,T,z,y,_⟩,P,b⟩:=I.dx h;obtain⟨E,⟨_,G,F,g,N,f,c,_⟩,C,a⟩:=I.dx h';rw[r]at g
 cases g;rw[z]at f;injection f with e1 _
 subst e1;rw[y]at c;have L:=Paired.len b;have R:=Paired.len a;have u:=congrArg ji c;rw[cx,cx]at u;refine k9 (by omega) λi h1 h2=>?_
 obtain⟨q,x,J,⟨M,p⟩,A⟩:=Paired.get' (i:=i) b (cz h1);obtain⟨O,n,D,⟨B,m⟩,j⟩:=Paired.get' (i:=i) a (cz h2);have e:=congrArg (λl:List DictEntry=>l[i]?) c;simp only[cH,x,n,oF]at e;have e:=Option.some.inj e;unfold entryOfKey at e;injection e with _ e2 e3
 injection e2 with e2
 have k:=W.ok I A;have t:=W.ok I j;rw[e2]at k;have v:=(W.knd X.prog X.w).inj k t;rw[p,m]at e3;injection e3 with e4 _
 exact Prod.ext v e4
theorem u4:entryFor table "dict_itemiterator.__iter__"=some Builtin.«dict_keyiterator.__iter__»:=ki (id':="dict_keyiterator.__iter__") rfl rfl (by decide +kernel) rfl
theorem zk{P:cT}{w:dc}{A:dw}{E:cA->cD->Prop}{s:cD}{it d:cG}{i n ep:Nat}{ok ov:cA}{Q:cA->cD->Prop}(hit:IsItemIter s.heap it d i n ep ok ov)(h:Q (.ref it) s):wpAny (model P w) A (pyIter (.ref it)) Q E s:=by
 have a:s.TypeIs (.ref it) "dict_itemiterator":=⟨_,hit,rfl⟩;refine jw a jP (dR jP a u4 ?_ (F.args_dict_itemiterator_iter_1 _));exact cr (cv (cv ⟨_,rfl,"dict_itemiterator",_,a,fe.lookup,h⟩))
theorem zp{W:KW κ}{P:cT}{w:dc}{K:cu}{elts:List Expr}{x1:Nat}{pos:Pos}(d it:cG)(ep n:Nat):HX P w K (.Tuple elts x1 pos) (K7 W P w K d ep n) [it] it (λi h=>∃ok ov,IsItemIter h it d i n ep ok ov) where
 mem:=by simp
 obj:=λi h st b a=>by
  obtain⟨ok,ov,q⟩:=st
  rw[cK.mp a]
  exact⟨_,q,λv z=>by cases z⟩
 keep:=λi h r st k=>by
  obtain⟨ok,ov,q⟩:=st
  exact⟨ok,ov,k it (by simp) _ q⟩
 item:=by
  intro X N B D U i c s y H E I J st Q
  subst N B D
  obtain⟨Y,k,m,A,S,hk⟩:=Q
  obtain⟨xs,⟨_,o,u,C,O,M,x,_⟩,hd,j⟩:=I.dx A
  obtain⟨ok,ov,f⟩:=st
  have p:u.size=n:=by
   have:=congrArg ji x
   have:=Paired.len j
   simp at *
   omega
  subst p
  have Z:i<u.size:=by have:=(cL.mp hk).1;omega
  obtain⟨q,hq,T,⟨G,R⟩,r3⟩:=Paired.get' j hk
  have ee:u[i]=entryOfKey (W.knd X.prog X.w) q:=by
   have e:=congrArg (λl:List DictEntry=>l[i]?) x
   simp only[cH,hq,oF,gh,fi Z]at e
   exact Option.some.inj e
  refine ye f ⟨o,C,O,M⟩ Z λr L F ab kk=>?_
  rw[ee]at L F
  obtain⟨qk,g,qv⟩:=q
  dsimp only at T R r3
  subst T R
  dsimp only[entryOfKey]at L F
  have li:it≠s.heap.objs.size:=df (cQ f)
  have hn:H s.heap.objs.size=none:=I.hok.fresh (cI _)
  have I0:Inv X c y (upd H s.heap.objs.size (.tup [.ref g,.int m])) {s with heap:=s.heap.push {cls:= .type "tuple",data:= .seq #[.ref g,.int m G]},toks:=s.toks}:=
   I.laid (t':=s.toks) (λb o q=>cF _ q) (cI _) ⟨by show 2<=sizeLine;decide,[.ref g,.int m G],.cons rfl (.cons ⟨_,rfl⟩ .nil),⟨_,cN _ rfl,rfl,_,rfl⟩⟩
  have t:∀b∈[it],Gf X c (upd H s.heap.objs.size (.tup [.ref g,.int m])) b:=λb a=>by
   have q:=J b a
   refine⟨?_,q.2⟩
   rw[rH (by rw[cK.mp a];exact li)]
   exact q.1
  have I1:Inv X c y (upd H s.heap.objs.size (.tup [.ref g,.int m])) {s with heap:=r,toks:=s.toks}:=
   Inv.turnedL (s:={s with heap:=s.heap.push {cls:= .type "tuple",data:= .seq #[.ref g,.int m G]},toks:=s.toks}) I0 (fp:=[it]) (t':=s.toks) (λb o a q=>by
    rcases tF q rfl with q|⟨rfl,rfl⟩
    ·exact kk b o (λz=>a (by simp[z])) q
    ·exact F) t
  refine⟨_,rfl,wpAny_letOwnedTupleGo_items (s:={s with heap:=r}) L λh2 se sb=>?_⟩
  have I2:Inv X c y (upd H s.heap.objs.size (.tup [.ref g,.int m])) {s with heap:=h2,toks:=s.toks}:=
   Inv.turnedL (s:={s with heap:=r,toks:=s.toks}) I1 (fp:=[it]) (t':=s.toks) (λb o a q=>(sb.2 b (λz=>a (by simp[z]))).trans q) t
  exact⟨.ref s.heap.objs.size,_,I2,rfl,⟨g,k,m,_,λaa h=>by rw[I.dx_inj h A];exact hk,r3,rfl,hn,rfl⟩,⟨_,_,se⟩,λb a=>(t b a).1⟩
 done:=by
  intro X N B D U i c s y H E I J st Q
  subst N B D
  obtain⟨Y,A,S,V⟩:=Q
  obtain⟨xs,⟨_,o,u,C,O,M,x,_⟩,hd,j⟩:=I.dx A
  obtain⟨ok,ov,f⟩:=st
  have p:u.size=n:=by
   have:=congrArg ji x
   have:=Paired.len j
   simp at *
   omega
  subst p
  exact zm (I.ok.hd U) f ⟨o,C,O,M⟩ V λr eb=>⟨rfl,I.turnedL (fp:=[it]) (t':=s.toks) (λb o a q=>eb b o (λz=>a (by simp[z])) q) J⟩
 self:=λ_ _ _ _ _ st h=>by
  obtain⟨ok,ov,f⟩:=st
  exact zk f h
def KF(W:KW κ)(P:cT)(w:dc)(K:cu)(td:TE):TI:=λσ H R=>td σ H λx H1=>∃(d:cG) (ep:Nat) (kvs:List (κ×Int)),x = .ref d/\DictE W P w K H1 d ep kvs/\R (K7 W P w K d ep kvs.length) H1
theorem BY{W:KW κ}{X:Cx}{P:cT}{w:dc}{K:cu}{elts:List Expr}{x1:Nat}{tpos apos cpos:Pos}{o:Expr}{td:TE}(hP:X.prog=P)(hw:X.w=w)(hK:X.K=K)(ho:PE X o td)(hbase:attributeBase o "items" X.env (eval o X.env)=eval o X.env:=by rfl)(hline:(apos.endLine==cpos.line)=true:=by rfl):
  PI X (.Tuple elts x1 tpos) (.Call (.Attribute o "items" apos) [] [] cpos) (KF W P w K td):=by
 subst hP hw hK
 intro e s y H R I h
 refine kZ hbase hline (En (ho e s y H _ I h) λv a ⟨x,C,t,D,d,g,c,M,J,q⟩=>?_)
 subst M
 obtain rfl:v=cR d:=D
 obtain⟨N,⟨l,k,B,f,m,A,E,_⟩,u,p⟩:=t.dx J
 have n:B.size=c.length:=by
  have:=congrArg ji E
  have:=Paired.len p
  simp at *
  omega
 refine⟨"dict",_,lh,lj,PySem.F.type_dict_items,u.typeIs,λb z=>by cases z;exact⟨k,f,m.2.1⟩,gB rfl (ml ?_)⟩
 refine qo lj u.typeIs PySem.F.entry_dict_items (PySem.F.args_dict_items_1 _) (xm d l) ⟨⟨B,g,k,f,m,A⟩,?_⟩
 have r:∀b o,a.heap.get? b=some o->(a.heap.push {cls:= .type "dict_items",data:= .fields #[.ref d]}).get? b=some o:=λb o z=>cF _ z
 have j:Inv X e y C {a with heap:=a.heap.push {cls:= .type "dict_items",data:= .fields #[.ref d]}}:=t.kept (t':=a.toks) r
 refine ya (s:={a with heap:=a.heap.push {cls:= .type "dict_items",data:= .fields #[.ref d]}}) ⟨_,cN _ rfl,rfl,rfl⟩ ⟨k,r _ _ f,m,A⟩ ?_
 rw[n]
 have G:=j.kept (t':=a.toks) (h':=(a.heap.push {cls:= .type "dict_items",data:= .fields #[.ref d]}).push {cls:= .type "dict_itemiterator",data:= .fields #[.none,.bool false,.ref d,.int 0 0,.int c.length 0,.int g 0,.none,.none]}) λb o z=>cF _ z
 refine⟨_,[(a.heap.push {cls:= .type "dict_items",data:= .fields #[.ref d]}).objs.size],_,_,C,rfl,G,zp d _ g c.length,⟨_,_,cN _ rfl⟩,λb L=>?_,q⟩
 rw[cK.mp L]
 exact j.fpOk (cI _) (j.hok.fresh (cI _))
theorem Ae{W:KW κ}{P:cT}{w:dc}{K:cu}{d:cG}{ep:Nat}{kvs:List (κ×Int)}{g:TG}{tb:TS}{D:GC}{σ:St}{H:Hp}(Pv:Nat->St->Hp->Prop)(h0:Pv 0 σ H)(hl:∀i σ H,i<=kvs.length->Pv i σ H->DictE W P w K H d ep kvs)
  (hs:∀i k m a σ H t,kvs[i]?=some (k,m)->W.at' K H k a->H t=none->Pv i σ H->g (.ref t) σ (upd H t (.tup [.ref a,.int m])) λσ2 H2=>tb {D with nx:=Pv (i+1),ct:=Pv (i+1),bk:=D.nx} σ2 H2)(hd:∀σ H,Pv kvs.length σ H->D.nx σ H):
  ∃Wv:Nat->Nat->St->Hp->Prop,(∃m,Wv 0 m σ H)/\∀i m σ H,Wv i m σ H->((K7 W P w K d ep kvs.length).stop i H/\D.nx σ H)\/
   ((K7 W P w K d ep kvs.length).go i H/\∃N:St->Hp->Prop,(∀σ' H',N σ' H'->∃m',m'<m/\Wv (i+1) m' σ' H')/\∀x H',(K7 W P w K d ep kvs.length).yld i H x H'->g x σ H' λσ2 H2=>tb {D with nx:=N,ct:=N,bk:=D.nx} σ2 H2):=by
 refine⟨λi m σ H=>m=kvs.length-i/\i<=kvs.length/\Pv i σ H,⟨kvs.length,by simp,du _,h0⟩,?_⟩
 rintro i m σ H ⟨rfl,f,p⟩
 have q:=hl i σ H f p
 by_cases b:i<kvs.length
 ·refine .inr ⟨⟨kvs,_,_,q,rfl,cz b⟩,Pv (i+1),λσ' H' c=>⟨kvs.length-(i+1),by omega,rfl,b,c⟩,λx H' y=>?_⟩
  obtain⟨a,k,m,t,h1,h2,rfl,h3,rfl⟩:=y
  exact hs i k m a σ H t (h1 kvs q) h2 h3 p
 ·have e:i=kvs.length:=by omega
  subst e
  exact .inl ⟨⟨kvs,q,rfl,cI _⟩,hd σ H p⟩
end
def GB:KW (List Int) where
 knd:=λprog w=>tupleKind (intKind prog w)
 at':=λK H k a=>SqT K H a (k.map V.int)
 ok:=λ {X pins σ H s k a} I h=>by
  obtain⟨b,e,hb⟩:=I.tupV (v:= .ref a) (u:= .ref a) ⟨a,rfl,h⟩ rfl
  cases e
  exact hb
 map:=λf h=>f _ _ h
 room:=λh=>by show _+1<cLine;omega
 room':=λh=>by show _<cLine;omega
def Gz:KW EA where
 knd:=JM
 at':=λK H k a=>∃x y,SqT K H a [.ref x,.ref y]/\SqT K H x (k.1.map V.int)/\SqT K H y (k.2.map V.int)
 ok:=λ {X pins σ H s k a} I h=>by
  obtain⟨x,y,h1,h2,h3⟩:=h
  obtain⟨b1,e1,k1⟩:=I.tupV (v:= .ref x) (u:= .ref x) ⟨x,rfl,h2⟩ rfl
  obtain⟨b2,e2,k2⟩:=I.tupV (v:= .ref y) (u:= .ref y) ⟨y,rfl,h3⟩ rfl
  cases e1
  cases e2
  obtain⟨its,rs,⟨o,q1,q2,n,q3⟩,_⟩:=I.tuple h1
  cases rs with
  | cons r1 rs=>
   cases rs with
   | cons r2 rs=>
    cases rs
    cases r1
    cases r2
    exact⟨o,n,x,y,q1,q2,q3,k1,k2⟩
 map:=λf h=>by
  obtain⟨x,y,h1,h2,h3⟩:=h
  exact⟨x,y,f _ _ h1,f _ _ h2,f _ _ h3⟩
 room:=λh=>by show _+1+2<cLine;omega
 room':=λh=>by show _+2<cLine;omega
end L2
namespace TM
open LM LN
def K2(l:List Int):Prop:=l.Pairwise (· <= ·)
theorem yR:∀{l m:List Int},l.Perm m->K2 l->K2 m->l=m
 | [],m,h,_,_=>(List.nil_perm.mp h).symm
 | a::l,[],h,_,_=>by have:=h.length_eq;simp at this
 | a::l,b::m,h,h1,h2=>by
  have e:a=b:=by
   have f:=cZ.mp (h.mem_iff.mp (cM (a:=a)))
   have g:=cZ.mp (h.mem_iff.mpr (cM (a:=b)))
   obtain⟨d,_⟩:=fw.mp h1
   obtain⟨c,_⟩:=fw.mp h2
   rcases f with z|z
   ·exact z
   ·rcases g with y|y
    ·exact y.symm
    ·have:=d b y
     have:=c a z
     omega
  subst e
  rw[yR (List.perm_cons a |>.mp h) (fw.mp h1).2 (fw.mp h2).2]
def Jp(x:Int):List Int->List Int
 | []=>[x]
 | a::l=>if x<=a then x::a::l else a::Jp x l
def srt:List Int->List Int
 | []=>[]
 | a::l=>Jp a (srt l)
theorem vS(x:Int):∀l,(Jp x l).Perm (x::l)
 | []=>iN _
 | a::l=>by
  unfold Jp
  split
  ·exact iN _
  ·exact((vS x l).cons a).trans (p8.swap x a l)
theorem yX(x:Int):∀{l},K2 l->K2 (Jp x l)
 | [],_=>fw.mpr ⟨(λ_ h=>nomatch h),my.nil⟩
 | a::l,h=>by
  unfold Jp
  obtain⟨h1,h2⟩:=fw.mp h
  split
  ·rename_i c
   exact fw.mpr ⟨λb d=>by
    rcases cZ.mp d with z|z
    ·omega
    ·have:=h1 b z;omega,h⟩
  ·rename_i c
   refine fw.mpr ⟨λb d=>?_,yX x h2⟩
   rcases cZ.mp ((vS x l).mem_iff.mp d)with z|z
   ·omega
   ·exact h1 b z
theorem srt_perm:∀l,(srt l).Perm l
 | []=>iN _
 | a::l=>(vS a (srt l)).trans ((srt_perm l).cons a)
theorem xW:∀l,K2 (srt l)
 | []=>my.nil
 | a::l=>yX a (xW l)
theorem srt_eq{l m:List Int}(h:m.Perm l)(hs:K2 m):m=srt l:=yR (h.trans (srt_perm l).symm) hs (xW l)
theorem yW(l:List Int)(x:Int):srt (srt l++[x])=srt (l++[x]):=srt_eq ((srt_perm _).trans ((srt_perm l).append_right [x])) (xW _)
theorem Af{l:List Int}{x:Int}:x∈srt l↔x∈l:=(srt_perm l).mem_iff
def freeP(n:Nat)(π:List Int):List Int:=(rng n).filter λp=>!decide (p∈π)
def exts(n:Nat)(π:List Int):List (List Int):=(freeP n π).map λp=>π++[p]
def pre(n:Nat):Nat->List (List Int)
 | 0=>[[]]
 | k+1=>(pre n k).flatMap (exts n)
structure Kh(n k:Nat)(π:List Int):Prop where
 len:π.length=k
 nd:π.Nodup
 bd:∀p∈π,0<=p/\p<n
theorem pre_ok{n:Nat}:∀{k:Nat} {π:List Int},π∈pre n k->Kh n k π
 | 0,π,h=>by
  rw[cK.mp h]
  exact⟨rfl,hX,λ_ h=>nomatch h⟩
 | k+1,π,h=>by
  obtain⟨c,h1,h2⟩:=oh.mp h
  obtain⟨p,h3,rfl⟩:=dv.mp h2
  obtain⟨h4,h5⟩:=d8.mp h3
  have I:=pre_ok h1
  have h6:p∉c:=by simpa using h5
  refine⟨by rw[dq,I.len];rfl,gv.mpr ⟨I.nd,by simp,λx b y a z=>h6 (by rw[cK.mp a]at z;rw[<-z];exact b)⟩,λq d=>?_⟩
  rcases dJ.mp d with z|z
  ·exact I.bd q z
  ·rw[cK.mp z];exact mem_rng.mp h4
theorem free_len{n k:Nat}{π:List Int}(h:Kh n k π):(freeP n π).length+k=n:=by
 have b:∀(l m:List Int),l.Nodup->m.Nodup->(∀x∈m,x∈l)->(l.filter λp=>!decide (p∈m)).length+m.length=l.length:=by
  intro l m g c f;have hp:(l.filter λp=>decide (p∈m)).Perm m:=by
   refine(gc (g.filter _) c).mpr λx=>?_
   rw[d8];exact⟨λz=>of_decide_eq_true z.2,λz=>⟨f x z,decide_eq_true z⟩⟩
  have h1:=List.length_eq_countP_add_countP (p:=λp=>decide (p∈m)) (l:=l);rw[jZ,jZ,hp.length_eq]at h1;have e:(l.filter λa=>decide (¬decide (a∈m)=true))=l.filter λp=>!decide (p∈m):=gV λx _=>by by_cases z:x∈m <;> simp[z]
  rw[e]at h1;omega
 have:=b (rng n) π (rng_nodup n) h.nd λx d=>mem_rng.mpr (h.bd x d)
 rw[rng_len,h.len]at this;exact this
def smL{α:Type}(l:List α)(f:α->Int):Int:=(l.map f).sum
theorem sM{α:Type}(f:α->Int):smL [] f=0:=rfl
theorem sq{α:Type}(a:α)(l:List α)(f:α->Int):smL (a::l) f=f a+smL l f:=by unfold smL;simp
theorem uO{α:Type}(l m:List α)(f:α->Int):smL (l++m) f=smL l f+smL m f:=by unfold smL;simp
theorem smL_congr{α:Type}{l:List α}{f g:α->Int}(h:∀x∈l,f x=g x):smL l f=smL l g:=by unfold smL;rw[fF h]
theorem u9{α β:Type}(g:α->List β)(f:β->Int):∀l:List α,smL (l.flatMap g) f=smL l λx=>smL (g x) f
 | []=>rfl
 | a::l=>by rw[List.flatMap_cons,uO,sq,u9 g f l]
theorem vi{α β:Type}(g:α->β)(f:β->Int)(l:List α):smL (l.map g) f=smL l λx=>f (g x):=by unfold smL;rw[ik];rfl
theorem Aq{α:Type}(f g:α->Int):∀l:List α,smL l (λx=>f x+g x)=smL l f+smL l g
 | []=>rfl
 | a::l=>by rw[sq,sq,sq,Aq f g l];omega
theorem Bx{α:Type}(c:Int)(f:α->Int):∀l:List α,smL l (λx=>c*f x)=c*smL l f
 | []=>by show(0:Int)=c*0;rw[gE]
 | a::l=>by rw[sq,sq,Bx c f l,jl]
theorem tL{α:Type}(c:Int):∀l:List α,smL l (λ_=>c)=c*l.length
 | []=>by show(0:Int)=c*0;rw[gE]
 | a::l=>by rw[sq,tL c l,dQ];push_cast;rw[jl,ia,qp]
theorem yt{α:Type}(l:List α):smL l (λ_=>0)=0:=by rw[tL,ju]
def fct:Nat->Int
 | 0=>1
 | k+1=>fct k*((k:Int)+1)
theorem yS{n:Nat}(g:List Int->Int){j:Nat}:∀d,j+d<=n->fct (n-(j+d))*smL (pre n (j+d)) (λo=>g (o.take j))=fct (n-j)*smL (pre n j) λo=>g (o.take j)
 | 0,_=>rfl
 | d+1,h=>by
  have f:=yS (n:=n) g (j:=j) d (by omega)
  rw[<-f]
  have e:smL (pre n (j+(d+1))) (λo=>g (o.take j))=((n-(j+d):Nat):Int)*smL (pre n (j+d)) λo=>g (o.take j):=by
   show smL ((pre n (j+d)).flatMap (exts n)) _=_
   rw[u9,<-Bx]
   refine smL_congr λa b=>?_
   have I:=pre_ok b
   have k:=free_len I
   unfold exts
   rw[vi,smL_congr (g:=λ_=>g (a.take j)) λp _=>by rw[ic (by rw[I.len];omega)],tL,gn,show((freeP n a).length:Int)=((n-(j+d):Nat):Int)by omega]
  rw[e,<-pP]
  congr 1
  obtain⟨m,c⟩:∃m,n-(j+d)=m+1:=⟨n-(j+d)-1,by omega⟩
  rw[c,show n-(j+(d+1))=m by omega]
  show fct m*((m+1:Nat):Int)=fct m*((m:Int)+1)
  push_cast
  rfl
theorem Br{n:Nat}(g:List Int->Int){j:Nat}(hj:j<=n):smL (pre n n) (λo=>g (o.take j))=fct (n-j)*smL (pre n j) g:=by
 have:=yS (n:=n) g (j:=j) (n-j) (by omega);rw[show j+(n-j)=n by omega,il]at this;rw[show fct 0=1 from rfl,jQ]at this;rw[this,smL_congr (g:=g) λo a=>by rw[eK (by rw[(pre_ok a).len];exact cI _)]]
theorem Bf(n:Nat):((pre n n).length:Int)=fct n:=by
 have:=Br (n:=n) (λ_=>1) (j:=0) (du _);rw[tL,tL]at this;rw[jQ,Nat.sub_zero]at this;rw[this];show fct n*(1*(([[]]:List (List Int)).length:Int))=fct n;simp
end TM
namespace L2
open PySem PySem.Spec PyProof.Rows
open TM
theorem x4{w ts us:List Int}(h:∀t,t∈ts↔t∈us):Ff w ts=Ff w us:=by
 unfold Ff E7;rw[gV (q:=λt=>!decide (t∈us)) λt _=>by simp only[decide_eq_decide.mpr (h t)]]
theorem wN(W:List (List Int))(o:List Int){j:Nat}:∀k,k<=j->tk W (o.take j) k=tk W o k
 | 0,_=>rfl
 | k+1,h=>by
  show tk W (o.take j) k++[_]=tk W o k++[_]
  rw[wN W o k (by omega),show(o.take j).getD k 0=o.getD k 0 by rw[cC,cC,gX (by omega)]]
theorem C7(W:List (List Int))(o:List Int){j k:Nat}(h:k<j):bt W (o.take j) k=bt W o k:=by
 unfold bt;rw[wN W o k (by omega),show(o.take j).getD k 0=o.getD k 0 by rw[cC,cC,gX h]]
def Jm(W:List (List Int))(π:List Int):List Int:=tk W π π.length
def Fe(W:List (List Int))(p:Int)(ts:List Int):Int:=Ff (W.getD p.toNat []) ts
theorem Cp(W:List (List Int))(π:List Int)(p:Int):Jm W (π++[p])=Jm W π++[Fe W p (Jm W π)]:=by
 unfold Jm Fe;rw[dq,show π.length+([p]:List Int).length=π.length+1 from rfl];have e:tk W (π++[p]) π.length=tk W π π.length:=by
  have:=wN W (π++[p]) (j:=π.length) π.length (cI _);rw[ic (cI _),dj]at this;exact this.symm
 show tk W (π++[p]) π.length++[Ff (W.getD ((π++[p]).getD π.length 0).toNat []) (tk W (π++[p]) π.length)]=_;rw[e,show(π++[p]).getD π.length 0=p by rw[cC,eZ (cI _),il];rfl]
def EI(W:List (List Int))(π:List Int):EA:=(srt π,srt (Jm W π))
def Ex(n:Nat)(W:List (List Int))(k:EA):List (Int×Int):=(freeP n k.1).map λp=>(p,Fe W p k.2)
def FA(k:EA)(pt:Int×Int):EA:=(srt (k.1++[pt.1]),srt (k.2++[pt.2]))
theorem uN(n:Nat)(W:List (List Int))(π:List Int):Ex n W (EI W π)=(freeP n π).map λp=>(p,Fe W p (Jm W π)):=by
 unfold Ex EI freeP;rw[gV (q:=λp=>!decide (p∈π)) λp _=>by simp only[decide_eq_decide.mpr (Af (l:=π) (x:=p))]];exact fF λp _=>by unfold Fe;rw[x4 λt=>Af]
theorem xT(W:List (List Int))(π:List Int)(p:Int):FA (EI W π) (p,Fe W p (Jm W π))=EI W (π++[p]):=by
 unfold FA EI;rw[yW,yW,Cp]
section
variable{κ:Type}[DecidableEq κ]
def Fw(F:κ->Int)(kvs:List (κ×Int)):Int:=smL kvs λp=>p.2*F p.1
def KN(kvs:List (κ×Int)):Prop:=(kvs.map Prod.fst).Nodup
theorem vq{k:κ}:∀{kvs:List (κ×Int)},kvs.lookup k=none↔k∉kvs.map Prod.fst
 | []=>by simp[gR]
 | (a,m)::kvs=>by
  rw[dW]
  by_cases e:k=a
  ·subst e;simp
  ·rw[show(k==a)=false from beq_false_of_ne e]
   show kvs.lookup k=none↔_
   rw[vq,dN,cZ]
   simp[e]
theorem A1{kvs:List (κ×Int)}{k:κ}(h:kvs.lookup k=none)(x:Int):Gx kvs k x=kvs++[(k,x)]:=by unfold Gx;rw[h];rfl
theorem A2{kvs:List (κ×Int)}{k:κ}{m:Int}(h:kvs.lookup k=some m)(x:Int):Gx kvs k x=kvs.map λp=>if p.1=k then(p.1,x)else p:=by unfold Gx;rw[h];rfl
theorem Cr{kvs:List (κ×Int)}(h:KN kvs)(k:κ)(x:Int):KN (Gx kvs k x):=by
 cases e:kvs.lookup k with
 | none=>
  rw[A1 e];unfold KN;rw[cS];exact gv.mpr ⟨h,by simp,λa d b f z=>vq.mp e (by have c:b=k:=cK.mp f;rw[<-c,<-z];exact d)⟩
 | some m=>
  rw[A2 e];unfold KN;rw[ik,show(Prod.fst∘λp:κ×Int=>if p.1=k then(p.1,x)else p)=Prod.fst from funext λp=>by show(if p.1=k then(p.1,x)else p).1=p.1;split <;> rfl];exact h
theorem A7(kvs:List (κ×Int))(k:κ)(x:Int):(Gx kvs k x).length<=kvs.length+1:=by
 unfold Gx;split
 ·rw[cx];omega
 ·rw[dq];exact cI _
theorem yr(F:κ->Int){k:κ}{m x:Int}:∀{kvs:List (κ×Int)},KN kvs->kvs.lookup k=some m->Fw F (kvs.map λp=>if p.1=k then(p.1,x)else p)=Fw F kvs+(x-m)*F k
 | [],_,h=>by simp[gR]at h
 | (a,y)::kvs,hn,h=>by
  have b:=fz.mp (show((a::kvs.map Prod.fst):List κ).Nodup from hn)
  rw[dW]at h
  unfold Fw
  rw[dN,sq,sq]
  by_cases e:k=a
  ·subst e
   rw[beq_self_eq_true]at h
   have h:y=m:=Option.some.inj h
   subst h
   have c:kvs.map (λp:κ×Int=>if p.1=k then(p.1,x)else p)=kvs:=by
    have:∀p∈kvs,(if p.1=k then(p.1,x)else p)=p:=λp hp=>if_neg (show ¬p.1=k from λz=>b.1 (z▸dv.mpr ⟨p,hp,rfl⟩))
    rw[fF this]
    simp
   rw[c]
   show(if k=k then(k,x)else(k,y)).2*F (if k=k then(k,x)else(k,y)).1+_=_
   rw[if_pos rfl]
   show x*F k+_=y*F k+_+_
   rw[jN]
   omega
  ·rw[show(k==a)=false from beq_false_of_ne e]at h
   have d:=yr F (x:=x) b.2 h
   unfold Fw at d
   rw[d]
   show(if a=k then(a,x)else(a,y)).2*F (if a=k then(a,x)else(a,y)).1+_=_
   rw[if_neg (Ne.symm e)]
   omega
def Io(kvs:List (κ×Int))(k:κ)(x:Int):List (κ×Int):=Gx kvs k ((kvs.lookup k).getD 0+x)
theorem yJ(F:κ->Int){kvs:List (κ×Int)}(h:KN kvs)(k:κ)(x:Int):Fw F (Io kvs k x)=Fw F kvs+x*F k:=by
 unfold Io
 cases e:kvs.lookup k with
 | none=>
  rw[A1 e];unfold Fw;rw[uO,sq,sM];show _+((0+x)*F k+0)=_;rw[d3];omega
 | some m=>
  rw[A2 e,yr F h e];show Fw F kvs+(m+x-m)*F k=_;rw[show m+x-m=x by omega]
theorem Da{kvs:List (κ×Int)}(h:KN kvs)(k:κ):(kvs.lookup k).getD 0=Fw (λa=>if a=k then 1 else 0) kvs:=by
 induction kvs with
 | nil=>rfl
 | cons p kvs c=>
  obtain⟨a,m⟩:=p;have b:=fz.mp (show((a::kvs.map Prod.fst):List κ).Nodup from h);unfold Fw at c ⊢;rw[sq,dW];by_cases e:k=a
  ·subst e;rw[beq_self_eq_true];have z:smL kvs (λp=>p.2*if p.1=k then 1 else 0)=0:=(smL_congr (g:=λ_=>0) λp hp=>by rw[if_neg (show ¬p.1=k from λz=>b.1 (z▸dv.mpr ⟨p,hp,rfl⟩)),gE]).trans (yt _);rw[z];show m=m*(if k=k then 1 else 0)+0;rw[if_pos rfl];omega
  ·rw[show(k==a)=false from beq_false_of_ne e];show(kvs.lookup k).getD 0=m*(if a=k then 1 else 0)+_;rw[if_neg (Ne.symm e),c b.2];omega
end
def GD(p t:Int)(q u:Int):Int:=if q=p/\u=t then 1 else 0
def EL(n:Nat)(W:List (List Int))(F:List Int->Int):Nat->Int
 | 0=>0
 | k+1=>EL n W F k+fct (n-(k+1))*smL (pre n k) λπ=>smL (freeP n π) λp=>F [p,Fe W p (Jm W π)]
def F1(W:List (List Int))(n:Nat)(o:List Int)(p t:Int):Int:=HM.sm n λj=>GD p t (o.getD j 0) (bt W o j)
theorem yx{α:Type}(f:α->Nat->Int)(l:List α):∀n,smL l (λx=>HM.sm n (f x))=HM.sm n λj=>smL l λx=>f x j
 | 0=>yt l
 | n+1=>by
  show smL l (λx=>HM.sm n (f x)+f x n)=HM.sm n _+_
  rw[Aq,yx f l n]
theorem xv{n:Nat}(W:List (List Int))(p t:Int):∀k,k<=n->EL n W (λl=>GD p t (l.getD 0 0) (l.getD 1 0)) k=HM.sm k λj=>smL (pre n n) λo=>GD p t (o.getD j 0) (bt W o j)
 | 0,_=>rfl
 | k+1,hk=>by
  show EL n W _ k+_=HM.sm k _+_
  rw[xv W p t k (by omega)]
  congr 1
  have e:smL (pre n n) (λo=>GD p t (o.getD k 0) (bt W o k))=smL (pre n n) λo=>(λo=>GD p t (o.getD k 0) (bt W o k)) (o.take (k+1)):=smL_congr λo _=>by
   show _=GD p t ((o.take (k+1)).getD k 0) (bt W (o.take (k+1)) k)
   rw[C7 W o (dH k),show(o.take (k+1)).getD k 0=o.getD k 0 by rw[cC,cC,gX (dH k)]]
  show _=smL (pre n n) λo=>GD p t (o.getD k 0) (bt W o k)
  rw[e,Br (λo=>GD p t (o.getD k 0) (bt W o k)) hk]
  congr 1
  show _=smL ((pre n k).flatMap (exts n)) _
  rw[u9]
  refine smL_congr λa c=>?_
  have I:=pre_ok c
  unfold exts
  rw[vi]
  refine smL_congr λq _=>?_
  have b:(a++[q]).getD k 0=q:=by rw[<-I.len,cC,eZ (cI _),il];rfl
  have d:bt W (a++[q]) k=Fe W q (Jm W a):=by
   unfold bt Fe Jm
   rw[b,<-I.len]
   have:=wN W (a++[q]) (j:=a.length) a.length (cI _)
   rw[ic (cI _),dj]at this
   rw[this]
  rw[b,d]
  rfl
theorem AW{n:Nat}(W:List (List Int))(p t:Int):EL n W (λl=>GD p t (l.getD 0 0) (l.getD 1 0)) n=smL (pre n n) λo=>F1 W n o p t:=by
 rw[xv W p t n (cI _)];unfold F1;rw[yx]
theorem CL(W:List (List Int))(n:Nat)(o:List Int)(p t:Int):0<=F1 W n o p t/\F1 W n o p t<=n:=by
 unfold F1;have h:∀j,0<=GD p t (o.getD j 0) (bt W o j)/\GD p t (o.getD j 0) (bt W o j)<=1:=λj=>by unfold GD;split <;> omega
 constructor
 ·have:=HM.sm_le (n:=n) (f:=λ_=>0) (g:=λj=>GD p t (o.getD j 0) (bt W o j)) λj _=>(h j).1
  rw[HM.sm_zero]at this;exact this
 ·have:=HM.sm_le (n:=n) (f:=λj=>GD p t (o.getD j 0) (bt W o j)) (g:=λ_=>if(true:Bool)=true then 1 else 0) λj _=>by rw[if_pos rfl];exact(h j).2
  rw[HM.sm_cnt (λ_=>true) 1 n]at this;have e:HM.cnt n (λ_=>true)=n:=by unfold HM.cnt;simp
  rw[e]at this;omega
structure CI(n:Nat)(W:List (List Int))(k:Nat)(C:List (List Int×Int)):Prop where
 kn:KN C
 sum:∀F,Fw F C=EL n W F k
 len:C.length<=k*46656
structure BI(n:Nat)(W:List (List Int))(k:Nat)(B:List (EA×Int)):Prop where
 kn:KN B
 sum:∀F,Fw F B=smL (pre n k) λπ=>F (EI W π)
 len:B.length<=6^k
 key:∀p∈B,∃π∈pre n k,p.1=EI W π
def Kx(n:Nat)(W:List (List Int))(F:List Int->Int)(key:EA):Int:=smL (Ex n W key) λpt=>F [pt.1,pt.2]
def KP(n:Nat)(W:List (List Int))(G:EA->Int)(key:EA):Int:=smL (Ex n W key) λpt=>G (FA key pt)
structure TJ(n:Nat)(W:List (List Int))(k:Nat)(B:List (EA×Int))(i:Nat)(key:EA)(num:Int)(j:Nat)(C:List (List Int×Int))(L:List (EA×Int)):Prop where
 ck:KN C
 lk:KN L
 cs:∀F,Fw F C=EL n W F k+fct (n-(k+1))*(smL (B.take i) (λe=>e.2*Kx n W F e.1)+num*smL ((Ex n W key).take j) λpt=>F [pt.1,pt.2])
 ls:∀G,Fw G L=smL (B.take i) (λe=>e.2*KP n W G e.1)+num*smL ((Ex n W key).take j) λpt=>G (FA key pt)
 cl:C.length<=k*46656+i*6+j
 ll:L.length<=i*6+j
 lv:∀p∈L,∃π∈pre n (k+1),p.1=EI W π
abbrev TI0(n:Nat)(W:List (List Int))(k:Nat)(B:List (EA×Int))(i:Nat)(C:List (List Int×Int))(L:List (EA×Int)):Prop:=∀key num,TJ n W k B i key num 0 C L
section
variable{n:Nat}{W:List (List Int)}{k:Nat}{B:List (EA×Int)}{C:List (List Int×Int)}{L:List (EA×Int)}
theorem CI.zero:CI n W 0 []:=⟨hX,λ_=>rfl,du _⟩
theorem BI.zero:BI n W 0 [(([],[]),1)]:=⟨by unfold KN;simp,λF=>by
  show smL [(([],[]),1)] (λp:EA×Int=>p.2*F p.1)=smL [[]] _;rw[sq,sM,sq,sM];show 1*F ([],[])+0=F (EI W [])+0;rw[jQ];rfl,cI _,λp hp=>⟨[],cK.mpr rfl,by rw[cK.mp hp];rfl⟩⟩
theorem TI0.start(h:CI n W k C):TI0 n W k B 0 C []:=λa b=>⟨h.kn,hX,λF=>by
  rw[h.sum F,eP,eP,sM,sM,gE];omega,λG=>by
  rw[eP,eP,sM,sM,gE];rfl,by have:=h.len;omega,du _,λ_ h=>nomatch h⟩
theorem TJ.step{i j:Nat}{key:EA}{num:Int}{pt:Int×Int}(h:TJ n W k B i key num j C L)(hp:(Ex n W key)[j]?=some pt)(hv:∃π∈pre n (k+1),FA key pt=EI W π):
  TJ n W k B i key num (j+1) (Io C [pt.1,pt.2] (num*fct (n-(k+1)))) (Io L (FA key pt) num):=by
 refine⟨Cr h.ck _ _,Cr h.lk _ _,λF=>?_,λG=>?_,?_,?_,λp a=>?_⟩
 ·rw[yJ F h.ck,h.cs F,cY,hp,uO]
  show _+num*fct (n-(k+1))*F [pt.1,pt.2]=_+_*(_+num*(_+smL [pt] _))
  rw[sq,sM,gD,show num*fct (n-(k+1))*F [pt.1,pt.2]=fct (n-(k+1))*(num*F [pt.1,pt.2])by ac_rfl,mB,<-jl,mB,<-jl]
 ·rw[yJ G h.lk,h.ls G,cY,hp,uO]
  show _+num*G (FA key pt)=_+num*(_+smL [pt] _)
  rw[sq,sM,jl,jl,gE,gD]
  omega
 ·unfold Io
  exact dg (A7 _ _ _) (by have:=h.cl;omega)
 ·unfold Io
  exact dg (A7 _ _ _) (by have:=h.ll;omega)
 ·unfold Io Gx at a
  split at a
  ·obtain⟨q,b,e⟩:=dv.mp a
   obtain⟨π,h1,h2⟩:=h.lv q b
   refine⟨π,h1,?_⟩
   rw[<-e,<-h2]
   split <;> rfl
  ·rcases dJ.mp a with z|z
   ·exact h.lv p z
   ·rw[cK.mp z]
    exact hv
theorem TJ.done{i:Nat}{key:EA}{num:Int}(hB:B[i]?=some (key,num))(hl:(Ex n W key).length<=6)(h:TJ n W k B i key num (Ex n W key).length C L):TI0 n W k B (i+1) C L:=λa b=>by
 refine⟨h.ck,h.lk,λF=>?_,λG=>?_,?_,?_,h.lv⟩
 ·rw[h.cs F,dj,eP,sM,gE,gD,cY,hB,uO];show _+_*(_+_)=_+_*(_+smL [(key,num)] _);rw[sq,sM,gD];rfl
 ·rw[h.ls G,dj,eP,sM,gE,gD,cY,hB,uO];show _+_=_+smL [(key,num)] _;rw[sq,sM,gD];rfl
 ·have:=h.cl;omega
 ·have:=h.ll;omega
theorem TI0.finish(hB:BI n W k B)(hk:k<6)(h:TI0 n W k B B.length C L):CI n W (k+1) C/\BI n W (k+1) L:=by
 have h0:=h ([],[]) 0;have b:B.length<=7776:=dg hB.len (by
  have:6^k<=6^5:=eB (by decide) (by omega);simpa using this)
 refine⟨⟨h0.ck,λF=>?_,by have:=h0.cl;omega⟩,⟨h0.lk,λG=>?_,?_,h0.lv⟩⟩
 ·rw[h0.cs F,dj,eP,sM,gE,gD];show _+_*Fw (Kx n W F) B=EL n W F k+_;rw[hB.sum]
  congr 2
  refine smL_congr λa _=>?_
  unfold Kx;rw[uN,vi]
 ·rw[h0.ls G,dj,eP,sM,gE,gD];show Fw (KP n W G) B=smL ((pre n k).flatMap (exts n)) _;rw[hB.sum,u9];refine smL_congr λa _=>?_
  unfold KP exts;rw[uN,vi,vi];exact smL_congr λp _=>by rw[xT]
 ·have:=h0.ll;have:=hB.len;rw[qf];omega
end
def Im(K:cu):Sp:=λvs H Q _=>∃(w l:cG) (row ts:List Int),vs=[.ref w,.ref l]/\SqT K H w (row.map V.int)/\(SqL K H l (ts.map V.int)\/SqT K H l (ts.map V.int))/\row.length<=63/\(∃t∈row,t∉ts)/\∀H',Same H H'->Q (.int (Ff row ts)) H'
def Hh(K:cu):Sp:=λvs H Q _=>∃(a:cG) (ns:List Int) (x:Int),vs=[.ref a,.int x]/\SqT K H a (ns.map V.int)/\ns.length<=60/\∀p H',Same H H'->SqT K H' p ((srt (ns++[x])).map V.int)->Q (.ref p) H'
def II(K:cu):Sp:=λvs H Q _=>∃(a g t:cG) (ws:List V) (W:List (List Int)) (n:Nat) (key:EA),vs=[.ref a,.ref g,.ref t]/\SqL K H a ws/\dr (IsR K H) ws W/\Fp n W/\SqT K H g (key.1.map V.int)/\SqT K H t (key.2.map V.int)/\key.2.length<n/\
 ∀p ls H',Same H H'->H p=none->H' p=some (.lst ls)->dr (IsF K H') ls (Ex n W key)->Q (.ref p) H'
def FT:Sp:=λvs H Q _=>∃k:Nat,vs=[.int k]/\k<=6/\Q (.int (fct k)) H
def Ii(P:cT)(w:dc)(K:cu):Sp:=λvs H Q _=>∃(a:cG) (ws:List V) (W:List (List Int)) (n:Nat),vs=[.ref a]/\SqL K H a ws/\dr (IsR K H) ws W/\Fp n W/\
 ∀d C H',Same H H'->DictI GB P w K H' d C->CI n W n C->Q (.ref d) H'
def E9(n:Nat)(W:List (List Int))(p:Int):List (Int×Int):=(db n).map λ(t:Nat)=>FQ.red (EL n W (λl=>GD p t (l.getD 0 0) (l.getD 1 0)) n) (fct n)
def IE(P:cT)(w:dc)(K:cu):Sp:=λvs H Q _=>∃(d:cG) (C:List (List Int×Int)) (W:List (List Int)) (n:Nat) (p:Int),vs=[.ref d,.int p,.int n]/\DictI GB P w K H d C/\CI n W n C/\n<=6/\
 ∀q gs H',Same H H'->H q=none->H' q=some (.tup gs)->dr (IsF K H') gs (E9 n W p)->Q (.ref q) H'
def RwG(K:cu)(H:Hp)(v:V)(r:List (Int×Int)):Prop:=∃a gs,v = .ref a/\SqT K H a gs/\dr (IsF K H) gs r
theorem RwG.mono{K:cu}{H H':Hp}{v:V}{r:List (Int×Int)}(e:Same H H')(h:RwG K H v r):RwG K H' v r:=by
 obtain⟨a,b,rfl,h1,h2⟩:=h;exact⟨a,b,rfl,e.tup h1,rQ e h2⟩
def Ih(n:Nat)(W:List (List Int)):List (List (Int×Int)):=(db n).map λ(p:Nat)=>E9 n W p
def Ge(K:cu):Sp:=λvs H Q _=>∃(a:cG) (ws:List V) (W:List (List Int)) (n:Nat),vs=[.ref a]/\SqL K H a ws/\dr (IsR K H) ws W/\Fp n W/\
 ∀q us H',Same H H'->H q=none->H' q=some (.lst us)->dr (RwG K H') us (Ih n W)->Q (.ref q) H'
structure KX(bad:List cG)(H H':Hp):Prop where
 keep:∀b o,b∉bad->H b=some o->H' b=some o
 was:∀b∈bad,∃φ,H b=some (.ext φ)
 is:∀b∈bad,∃φ,H' b=some (.ext φ)
section
variable{bad:List cG}{H H' H'':Hp}{K:cu}
theorem KX.refl(h:∀b∈bad,∃φ,H b=some (.ext φ)):KX bad H H:=⟨λ_ _ _ e=>e,h,h⟩
theorem KX.trans(a:KX bad H H')(b:KX bad H' H''):KX bad H H'':=⟨λc o d e=>b.keep c o d (a.keep c o d e),a.was,b.is⟩
theorem KX.of(e:Same H H')(h:∀b∈bad,∃φ,H b=some (.ext φ)):KX bad H H':=⟨λ_ _ _ q=>e _ _ q,h,λb a=>by obtain⟨φ,q⟩:=h b a;exact⟨φ,e _ _ q⟩⟩
theorem KX.put{d:cG}(h:∀b∈bad,∃φ,H b=some (.ext φ))(hd:d∈bad)(e:∃φ φ',H d=some (.ext φ)/\H'=upd H d (.ext φ')):KX bad H H':=by
 obtain⟨φ,φ',h1,rfl⟩:=e;refine⟨λb o a q=>by rw[rH (show b≠d from λz=>a (by rw[z];exact hd))];exact q,h,λb a=>?_⟩;by_cases z:b=d
 ·subst z;exact⟨φ',rC⟩
 ·rw[rH z];exact h b a
theorem KX.get(a:KX bad H H'){b:cG}{o:HO}(h:H b=some o)(hn:∀φ,o≠ .ext φ):H' b=some o:=a.keep b o (λz=>by obtain⟨φ,q⟩:=a.was b z;rw[h]at q;exact hn φ (Option.some.inj q)) h
theorem KX.tup(a:KX bad H H'){b:cG}{xs:List V}(h:SqT K H b xs):SqT K H' b xs:=by
 rcases h with(h|⟨u,h⟩)|h
 ·exact .inl (.inl (a.get h λ_ z=>by cases z))
 ·exact .inl (.inr ⟨u,a.get h λ_ z=>by cases z⟩)
 ·exact .inr h
theorem KX.lst(a:KX bad H H'){b:cG}{xs:List V}(h:H b=some (.lst xs)):H' b=some (.lst xs):=a.get h λ_ z=>by cases z
theorem KX.same{H0:Hp}(a:KX bad H H')(e:Same H0 H)(hf:∀b∈bad,H0 b=none):Same H0 H':=λb o q=>a.keep b o (λz=>by rw[hf b z]at q;cases q) (e b o q)
theorem KX.dict{κ:Type}[DecidableEq κ]{W:KW κ}{P:cT}{w:dc}{d:cG}{ep:Nat}{kvs:List (κ×Int)}(a:KX bad H H')(h:DictE W P w K H d ep kvs)(hd:d∉bad):DictE W P w K H' d ep kvs:=by
 obtain⟨c,h1,h2⟩:=h;exact⟨c,a.keep _ _ hd h1,Paired.mapP h2 λ_ _ ⟨b,f,e⟩=>⟨b,f,W.map (λ_ _ q=>a.tup q) e⟩⟩
theorem DictI.ext{κ:Type}[DecidableEq κ]{W:KW κ}{P:cT}{w:dc}{d:cG}{kvs:List (κ×Int)}(h:DictI W P w K H d kvs):∃φ,H d=some (.ext φ):=by
 obtain⟨b,a,h1,_⟩:=h;exact⟨_,h1⟩
end
theorem yK{m:Nat}(h:m<=6):0<TM.fct m/\TM.fct m<=720:=
 (show ∀m∈db 7,0<TM.fct m/\TM.fct m<=720 by decide) m (dY.mpr (by omega))
theorem Bp(l:List Int):(TM.srt l).length=l.length:=(TM.srt_perm l).length_eq
theorem BN{n k:Nat}{W:List (List Int)}{π:List Int}{pt:Int×Int}(hπ:π∈TM.pre n k)(hp:pt∈Ex n W (EI W π)):∃ρ∈TM.pre n (k+1),FA (EI W π) pt=EI W ρ:=by
 rw[uN]at hp;obtain⟨p,h1,rfl⟩:=dv.mp hp;exact⟨π++[p],oh.mpr ⟨π,hπ,dv.mpr ⟨p,h1,rfl⟩⟩,xT W π p⟩
def Gw(n:Nat)(f:Nat->Nat->Int):List (List Int):=(db n).map λp=>(db n).map λt=>f p t
theorem y2(n:Nat)(f:Nat->Nat->Int):(Gw n f).length=n:=by unfold Gw;simp
theorem yu{n:Nat}{f:Nat->Nat->Int}{p:Nat}(hp:p<n):(Gw n f)[p]?=some ((db n).map λt=>f p t):=by unfold Gw;rw[cH,d9 hp];rfl
theorem DP{n:Nat}{g:Nat->Int}{t:Nat}(ht:t<n):((db n).map g)[t]?=some (g t):=by rw[cH,d9 ht];rfl
theorem B6(n:Nat)(W:List (List Int)):(Ih n W).length=n:=by unfold Ih;simp
theorem zo(n:Nat)(W:List (List Int))(p:Int):(E9 n W p).length=n:=by unfold E9;simp
def FE(n:Nat)(W:List (List Int))(p t:Nat):Int:=TM.smL (TM.pre n n) λo=>F1 W n o p t
theorem zT{n:Nat}{W:List (List Int)}{p:Nat}:E9 n W p=(db n).map λ(t:Nat)=>FQ.red (FE n W p t) (TM.fct n):=by
 unfold E9 FE;exact fF λt _=>by rw[AW]
def Kn{κ:Type}[DecidableEq κ](kvs:List (κ×Int))(k:κ):Int:=(kvs.lookup k).getD 0
theorem BG(C:List (List Int×Int))(h:KN C)(n:Nat)(W:List (List Int))(hs:∀F,Fw F C=EL n W F n)(p t:Int):Kn C [p,t]=EL n W (λl=>GD p t (l.getD 0 0) (l.getD 1 0)) n:=by
 have e:=Da h [p,t];have d:EL n W (λa=>if a=[p,t]then 1 else 0) n=EL n W (λl=>GD p t (l.getD 0 0) (l.getD 1 0)) n:=by
  have b:∀k,EL n W (λa=>if a=[p,t]then 1 else 0) k=EL n W (λl=>GD p t (l.getD 0 0) (l.getD 1 0)) k:=by
   intro k
   induction k with
   | zero=>rfl
   | succ k f=>
    show EL n W _ k+_=EL n W _ k+_;rw[f]
    congr 2
    exact TM.smL_congr λc _=>TM.smL_congr λq _=>by
     show(if[q,Fe W q (Jm W c)]=[p,t]then(1:Int)else 0)=GD p t q (Fe W q (Jm W c));unfold GD;simp
  exact b n
 rw[<-d,<-hs];exact e
theorem Cu{n:Nat}{o:List Int}(h:o∈TM.pre n n):LN.Pm n o:=by
 have I:=TM.pre_ok h;have c:=TM.free_len I;have b:TM.freeP n o=[]:=ib (by omega);refine(gc I.nd (LM.rng_nodup n)).mpr λx=>⟨λa=>LM.mem_rng.mpr (I.bd x a),λa=>?_⟩
 refine dM λz=>?_
 have:x∈TM.freeP n o:=d8.mpr ⟨a,by simpa using z⟩;rw[b]at this
 cases this
end L2
namespace L2
open TM
theorem uU{n c:Nat}(hc:c<n)(x:Int):HM.sm n (λi=>if i=c then x else 0)=x:=by
 have h:=HM.sm_cnt (λi=>i==c) x n;rw[HM.cnt_one,if_pos hc]at h;rw[HM.sm_congr (g:=λi=>if(i==c)=true then x else 0) λi _=>by by_cases e:i=c <;> simp[e],h];simp
theorem CJ{α:Type}(l:List α):smL l (λ_=>(1:Int))=l.length:=by rw[tL,jQ]
theorem DC{n:Nat}{W:List (List Int)}{o:List Int}(ok:Fp n W)(ho:LN.Pm n o){k:Nat}(hk:k<n):0<=bt W o k/\bt W o k<n/\bt W o k∉tk W o k:=by
 have e:=ho.len;have d:=ho.mem.mp (show o.getD k 0∈o by rw[HM.getD_lt (by omega)];exact cW _);have b:(o.getD k 0).toNat<W.length:=by have:=ok.len;omega
 have a:=ok.pm _ (cW b);unfold bt;rw[HM.getD_lt b];have c:=xN (Az (ts:=tk W o k) a (by rw[AU];exact hk));have:=a.mem.mp c.2.1;exact⟨this.1,this.2,c.2.2⟩
theorem Ea{n:Nat}{W:List (List Int)}{o:List Int}(ok:Fp n W)(ho:LN.Pm n o):LN.Pm n (tk W o n):=by
 have c:∀k,k<=n->(tk W o k).Nodup/\∀t∈tk W o k,0<=t/\t<n:=by
  intro k
  induction k with
  | zero=>exact λ_=>⟨hX,λ_ h=>nomatch h⟩
  | succ k m=>
   intro hk;obtain⟨h1,h2⟩:=m (by omega);obtain⟨l,g,j⟩:=DC ok ho (k:=k) (by omega);have e:tk W o (k+1)=tk W o k++[bt W o k]:=rfl;rw[e];refine⟨gv.mpr ⟨h1,by simp,λx a y f z=>j (by rw[cK.mp f]at z;rw[<-z];exact a)⟩,λt b=>?_⟩;rcases dJ.mp b with z|z
   ·exact h2 t z
   ·rw[cK.mp z];exact⟨l,g⟩
 obtain⟨h1,h2⟩:=c n (cI _);refine(gc h1 (LM.rng_nodup n)).mpr λx=>⟨λa=>LM.mem_rng.mpr (h2 x a),λa=>?_⟩
 refine dM λz=>?_
 have d:=LM.mem_rng.mp a;have:=Ja (x::tk W o n) (LM.rng n) (fz.mpr ⟨z,h1⟩) λt b=>LM.mem_rng.mpr (by
  rcases cZ.mp b with e|e
  ·rw[e];exact d
  ·exact h2 t e)
 rw[dQ,AU,LM.rng_len]at this;omega
theorem DD(W:List (List Int))(o:List Int){n j:Nat}(hj:j<n):(tk W o n).getD j 0=bt W o j:=by
 rw[CM,cC,cH,d9 hj];rfl
theorem Dw{n:Nat}(W:List (List Int)){o:List Int}(ho:LN.Pm n o){p:Nat}(hp:p<n):∃j,j<n/\o.getD j 0=(p:Int)/\(∀i,i<n->o.getD i 0=(p:Int)->i=j)/\∀V t,F1 V n o p t=if bt V o j=t then 1 else 0:=by
 obtain⟨j,d,e,f⟩:=HM.pm_at ho hp;refine⟨j,d,e,λi b h=>f i b (by rw[h];rfl),λV t=>?_⟩;unfold F1;rw[HM.sm_congr (g:=λi=>if i=j then(if bt V o j=t then 1 else 0)else 0) λi b=>?_,uU d];unfold GD;by_cases c:i=j
 ·subst c;rw[if_pos rfl];by_cases a:bt V o i=t
  ·rw[if_pos a,if_pos ⟨e,a⟩]
  ·rw[if_neg a,if_neg λz=>a z.2]
 ·rw[if_neg c,if_neg λz=>c (f i b (by rw[z.1];rfl))]
theorem B4{n:Nat}{W:List (List Int)}{o:List Int}(ok:Fp n W)(ho:LN.Pm n o){p:Nat}(hp:p<n):HM.sm n (λt=>F1 W n o p t)=1:=by
 obtain⟨j,a,_,_,h⟩:=Dw W ho hp;obtain⟨b,d,_⟩:=DC ok ho a;rw[HM.sm_congr (g:=λt=>if t=(bt W o j).toNat then 1 else 0) λt _=>?_,uU (by omega)];show F1 W n o p t=_;rw[h];by_cases c:bt W o j=t
 ·rw[if_pos c,if_pos (by omega)]
 ·rw[if_neg c,if_neg (by omega)]
theorem BF{n:Nat}{W:List (List Int)}{o:List Int}(ok:Fp n W)(ho:LN.Pm n o){t:Nat}(ht:t<n):HM.sm n (λp=>F1 W n o p t)=1:=by
 unfold F1;rw[HM.sm_swap];obtain⟨j,b,e,f⟩:=HM.pm_at (Ea ok ho) ht;rw[HM.sm_congr (g:=λi=>if i=j then 1 else 0) λi d=>?_,uU b];have k:=ho.len;have h:=ho.mem.mp (show o.getD i 0∈o by rw[HM.getD_lt (by omega)];exact cW _);rw[DD W o b]at e;by_cases c:i=j
 ·subst c;rw[if_pos rfl,HM.sm_congr (g:=λp=>if p=(o.getD i 0).toNat then 1 else 0) λp _=>?_,uU (by omega)];unfold GD;by_cases a:p=(o.getD i 0).toNat
  ·rw[if_pos a,if_pos ⟨by omega,e⟩]
  ·rw[if_neg a,if_neg λz=>a (by omega)]
 ·rw[if_neg c,HM.sm_congr (g:=λ_=>0) λp _=>?_,HM.sm_zero];unfold GD;rw[if_neg λz=>c (f i d (by rw[DD W o d,z.2];rfl))]
theorem B7{n:Nat}{W:List (List Int)}(ok:Fp n W){p:Nat}(hp:p<n):HM.sm n (λt=>FE n W p t)=fct n:=by
 unfold FE;rw[<-yx (λo t=>F1 W n o p t),smL_congr (g:=λ_=>1) λo a=>B4 ok (Cu a) hp,CJ,Bf]
theorem Cc{n:Nat}{W:List (List Int)}(ok:Fp n W){t:Nat}(ht:t<n):HM.sm n (λp=>FE n W p t)=fct n:=by
 unfold FE;rw[<-yx (λo p=>F1 W n o p t),smL_congr (g:=λ_=>1) λo a=>BF ok (Cu a) ht,CJ,Bf]
theorem DR{α:Type}{l:List α}{f:α->Int}(h:∀x∈l,0<=f x):0<=smL l f:=by
 induction l with
 | nil=>exact fE _
 | cons a l c=>
  rw[sq];have:=h a cM;have:=c λx b=>h x (cO _ b)
  omega
theorem Dt(n:Nat)(W:List (List Int))(p t:Nat):0<=FE n W p t:=DR λo _=>(CL W n o p t).1
theorem wD{n:Nat}{f:Nat->Nat->Int}{p t:Nat}(hp:p<n)(ht:t<n):HM.ent (Gw n f) p t=f p t:=by
 unfold HM.ent;rw[cC,cC,yu hp];show(((db n).map λt=>f p t)[t]?).getD 0=_;rw[DP ht];rfl
theorem Bz{n:Nat}{W:List (List Int)}(ok:Fp n W):HM.Reg n (Gw n (FE n W)) (fct n):=by
 refine⟨y2 _ _,λr b=>?_,λp t=>?_,λi d=>?_,λj c=>?_⟩
 ·unfold Gw at b;obtain⟨q,_,rfl⟩:=dv.mp b;simp
 ·by_cases hp:p<n
  ·by_cases a:t<n
   ·rw[wD hp a];exact Dt n W p t
   ·unfold HM.ent;rw[cC,cC,yu hp];show 0<=(((db n).map λt=>FE n W p t)[t]?).getD 0;rw[gi (by simpa using a)];exact fE _
  ·unfold HM.ent;have e:(Gw n (FE n W))[p]?=none:=gi (by rw[y2];omega);rw[cC,cC,e];exact fE _
 ·rw[HM.sm_congr (g:=λt=>FE n W i t) λt a=>wD d a];exact B7 ok d
 ·rw[HM.sm_congr (g:=λp=>FE n W p j) λp hp=>wD hp c];exact Cc ok c
end L2
namespace L2
open TM
section
variable{n:Nat}{W V:List (List Int)}{P X:List Int}
theorem DV{n:Nat}{t:Int}(h0:0<=t)(h1:t<n):EM.at0 (fA n (1:Int)) t=1:=by
 unfold EM.at0;rw[HM.getD_lt (by rw[eT];omega),List.getElem_replicate]
end
end L2
namespace L2
open PySem PySem.Spec PyProof.Rows
section
variable{X:Cx}
theorem AC:∀{vs:List cA} {ns:List Int} (hi:IntsAre vs ns) {i:Nat} (h:i<vs.length),∃t,vs[i]=dX (ns[i]'(by rw[<-hi.length];exact h)) t
 | _,_,.cons n t r,0,_=>⟨t,rfl⟩
 | _,_,.cons n t r,i+1,h=>AC r (i:=i) (by simpa using h)
theorem index_tup_ints{prog:cT}{w:dc}{A:dw}{E:cA->cD->Prop}{s:cD}{a:cG}{vs:List cA}{ns:List Int}{k:Int}{t:Tok}{Q:cA->cD->Prop}(ht:IsTup s.heap a vs.toArray)(hi:IntsAre vs ns)
  (hk:k∈ns)(h:Q (.int (ns.idxOf k:Nat) s.toks) {s with toks:=s.toks+1}):wpAny (model prog w) A (call (.builtin "tuple.index") [.ref a,.int k t]) Q E s:=by
 have q:=hi.length
 have r:ns.idxOf k<ns.length:=g8.mpr hk
 refine gZ jd ht.typeIs kt (km _ _) (S:=λA R s=>IsTup s.heap a vs.toArray/\R (.ok (.ret (.int (ns.idxOf k:Nat) s.toks))) {s with toks:=s.toks+1}) ?_ ⟨ht,h⟩
 intro prog w A R s ⟨ht,h⟩
 show wpAny _ _ _ _ _ _
 unfold Builtin.«tuple.index»
 simp only[iV]
 wp_walk using pW ht
 have p:([:min vs.toArray.size vs.toArray.size]:oi).size=vs.length:=by simp[lX]
 rw[p]
 refine lg (M:=model prog w) (A:=A.in1) _ (λl b o=>b=((none:Option PySem.Fin),())/\o=s/\∃i,l=kD i (vs.length-i)/\i<=ns.idxOf k) _ (λx rest b o g=>?_) (λb o g=>?_) _ _ ⟨rfl,rfl,0,rfl,du _⟩
 ·obtain⟨rfl,rfl,i,e,d⟩:=g
  have f:i<vs.length:=by omega
  rw[show vs.length-i=(vs.length-(i+1))+1 by omega,lb]at e
  injection e with m hrest
  subst m
  obtain⟨n,u⟩:∃n,vs[x]=dX (ns[x]'(by omega)) n:=AC hi f
  have j:vs.toArray[x]?=some (dX (ns[x]'(by omega)) n):=by simp[f,u]
  rw[j]
  refine cr (nP ?_)
  by_cases c:ns[x]'(by omega)=k
  ·have m:ns.idxOf k=x:=by
    have h1:ns.idxOf k<=x:=by
     refine k6 λz=>?_
     exact absurd c (by simpa using lD z)
    omega
   rw[show(ns[x]'(by omega)==k)=true by simp[c],if_pos rfl]
   wp_walk
   rw[m]at h
   exact h
  ·rw[show(ns[x]'(by omega)==k)=false by simp[c],if_neg (by decide)]
   refine cv ⟨rfl,rfl,x+1,hrest,?_⟩
   refine mY d λz=>c ?_
   have:=jh r
   simp only[<-z]at this
   exact this
 ·obtain⟨_,_,i,e,d⟩:=g
  have:=congrArg ji e
  simp at this
  omega
theorem SqT.frz{K:cu}{H:Hp}{a:cG}{o:Obj}{xs:List V}(h:H a=some (.frz o (.tup xs))):SqT K H a xs:= .inl (.inr ⟨o,h⟩)
theorem um:EQ X (.type "tuple") (λxs H Q=>∃p ys,xs=[.ref p]/\SqL X.K H p ys/\∀l o,H l=none->o.dict=none->Q (.ref l) (upd H l (.frz o (.tup ys)))):=by
 intro c s g H xs z Q I r h;obtain⟨p,ys,rfl,y,q⟩:=h;obtain⟨u,rfl,v⟩:=E5 r
 cases v;obtain⟨a,j,x,t⟩:=I.list y;have k:=j.length;refine ou x.isList (λd m=>?_) (by simp only[cX] <;> omega);have f:Inv X c g H {s with heap:=d}:=I.kept (t':=s.toks) m;have n:Inv X c g (upd H d.objs.size (.frz {cls:= .type "tuple",data:= .seq a.toArray} (.tup ys))) {s with heap:=d.push {cls:= .type "tuple",data:= .seq a.toArray}}:=
  f.laid (t':=s.toks) (λb o e=>cF _ e) (cI _) (show ObjOk X.prog X.w _ _ _ (.frz _ (.tup ys))from⟨cN _ rfl,t,a,j,p7 _ _⟩)
 exact⟨.ref d.objs.size,_,n,rfl,q _ _ (f.hok.fresh (cI _)) rfl⟩
end
theorem tV{K:cu}{H:Hp}{T:Int}:∀{Z:List (List Int)} {us:List V},dr (RwG K H) us (Z.map (fr T))->dr (RwFT K H T) us Z
 | [],_,.nil=> .nil
 | _::_,_,.cons h t=> .cons h (tV t)
theorem A9(n:Nat)(W:List (List Int)):Ih n W=(Gw n (FE n W)).map (fr (TM.fct n)):=by
 unfold Ih Gw;rw[ik];refine fF λp _=>?_
 rw[zT];show _=fr (TM.fct n) ((db n).map λt=>FE n W p t);unfold fr;rw[ik];rfl
theorem C8{n:Nat}{W:List (List Int)}(ok:Fp n W):Jx n (TM.fct n) (Gw n (FE n W)):=by
 have h:=yK ok.hi;exact⟨ok.lo,ok.hi,h.1,by omega,Bz ok⟩
end L2
namespace L2
open TM
section
variable{n:Nat}{W:List (List Int)}
theorem yz(h:EM.Ws n W)(ms:List Int):(EM.dishes W ms).length=n:=by unfold EM.dishes;rw[cx];exact h.len
theorem C9(h:EM.Ws n W){i:Nat}(hu:EM.Upto W n (i+1)){p:Nat}(hp:p<n):0<=(EM.dishes W (EM.st W n i).ms).getD p 0/\(EM.dishes W (EM.st W n i).ms).getD p 0<n/\EM.at0 (EM.st W n i).ms ((EM.dishes W (EM.st W n i).ms).getD p 0)≠0:=by
 have S:=(EM.st_ok h i (hu.mono (ec i))).1;have a:p<(EM.dishes W (EM.st W n i).ms).length:=by rw[yz h];exact hp
 rw[HM.getD_lt a];have:=EM.dish_ok S h.pm (hu i (dH i)) (cW a);exact⟨this.1.1,this.1.2,this.2⟩
theorem z8(c:Int)(f:Nat->Int):∀n,HM.sm n (λi=>f i*c)=HM.sm n f*c
 | 0=>by show(0:Int)=0*c;rw[ju]
 | n+1=>by
  show HM.sm n (λi=>f i*c)+f n*c=(HM.sm n f+f n)*c
  rw[z8 c f n,gT]
theorem CB(h:EM.Ws n W){p:Nat}(hp:p<n):∀i,EM.Upto W n i->HM.sm n (λt=>EM.et W n i p t)=(EM.st W n i).T
 | 0,_=>HM.sm_zero n
 | i+1,hu=>by
  have a:=CB h hp i (hu.mono (ec i))
  obtain⟨d,b,_⟩:=C9 h hu hp
  show HM.sm n (λt=>EM.et W n i p t*EM.cn W (EM.st W n i)+if(EM.dishes W (EM.st W n i).ms).getD p 0=(t:Int)then(EM.cs W (EM.st W n i)).m else 0)=(EM.st W n i).T*EM.cn W (EM.st W n i)+(EM.cs W (EM.st W n i)).m
  rw[HM.sm_add (λt=>EM.et W n i p t*EM.cn W (EM.st W n i)),z8 _ (λt=>EM.et W n i p t),a]
  congr 1
  rw[HM.sm_congr (g:=λt=>if t=((EM.dishes W (EM.st W n i).ms).getD p 0).toNat then(EM.cs W (EM.st W n i)).m else 0) λt _=>?_,uU (by omega)]
  by_cases c:(EM.dishes W (EM.st W n i).ms).getD p 0=(t:Int)
  ·rw[if_pos c,if_pos (by omega)]
  ·rw[if_neg c,if_neg (by omega)]
theorem B8{l:List Int}{t m:Int}:∀{n:Nat},l.length=n->HM.sm n (λp=>if l.getD p 0=t then m else 0)=EM.cnt l t*m:=by
 intro n
 induction n generalizing l with
 | zero=>
  intro b;rw[ib b];show(0:Int)=EM.cnt [] t*m;unfold EM.cnt;simp
 | succ n j=>
  intro b;have a:l≠[]:=λz=>by rw[z]at b;cases b
  have e:l.dropLast++[l.getLast a]=l:=jW a;have d:l.dropLast.length=n:=by rw[gS,b];rfl
  show HM.sm n (λp=>if l.getD p 0=t then m else 0)+(if l.getD n 0=t then m else 0)=_;rw[HM.sm_congr (g:=λp=>if l.dropLast.getD p 0=t then m else 0) λp hp=>?_,j d]
  ·have f:l.getD n 0=l.getLast a:=by
    conv=>lhs;rw[<-e]
    rw[cC,eZ (by omega),d,il];simp
   rw[f];have h:EM.cnt l t=EM.cnt l.dropLast t+if l.getLast a=t then 1 else 0:=by
    unfold EM.cnt
    conv=>lhs;rw[<-e]
    rw[List.count_append];by_cases c:l.getLast a=t
    ·rw[if_pos c,c];simp
    ·rw[if_neg c,mQ.mpr (λz=>c (cK.mp z).symm)];simp
   rw[h,gT];by_cases c:l.getLast a=t
   ·rw[if_pos c,if_pos c,jQ]
   ·rw[if_neg c,if_neg c,ju]
  ·show(if l.getD p 0=t then m else 0)=if l.dropLast.getD p 0=t then m else 0
   have:l.getD p 0=l.dropLast.getD p 0:=by
    conv=>lhs;rw[<-e]
    rw[cC,gO (by omega),cC]
   rw[this]
theorem Cs(h:EM.Ws n W){t:Int}(h0:0<=t)(h1:t<n):∀i,EM.Upto W n i->HM.sm n (λp=>EM.et W n i p t)=(EM.st W n i).D-EM.at0 (EM.st W n i).ms t
 | 0,_=>by
  show HM.sm n (λ_=>0)=1-EM.at0 (fA n 1) t
  rw[HM.sm_zero,DV h0 h1]
  rfl
 | i+1,hu=>by
  have a:=Cs h h0 h1 i (hu.mono (ec i))
  have S:=(EM.st_ok h i (hu.mono (ec i))).1
  show HM.sm n (λp=>EM.et W n i p t*EM.cn W (EM.st W n i)+if(EM.dishes W (EM.st W n i).ms).getD p 0=t then(EM.cs W (EM.st W n i)).m else 0)=(EM.st W n i).D*EM.cn W (EM.st W n i)-EM.at0 (EM.nextMs (EM.dishes W (EM.st W n i).ms) (EM.st W n i).ms) t
  rw[HM.sm_add (λp=>EM.et W n i p t*EM.cn W (EM.st W n i)),z8 _ (λp=>EM.et W n i p t),a,B8 (yz h _),EM.at0_next h0 (by rw[S.len];exact h1)]
  show((EM.st W n i).D-EM.at0 (EM.st W n i).ms t)*EM.cn W (EM.st W n i)+EM.cnt (EM.dishes W (EM.st W n i).ms) t*(EM.cs W (EM.st W n i)).m=(EM.st W n i).D*EM.cn W (EM.st W n i)-(EM.at0 (EM.st W n i).ms t*EM.cn W (EM.st W n i)-EM.cnt (EM.dishes W (EM.st W n i).ms) t*(EM.cs W (EM.st W n i)).m)
  grind
theorem D6(h:EM.Ws n W){i:Nat}(hu:EM.Upto W n i)(p:Nat)(t:Int):0<=EM.et W n i p t:=(EM.et_bd h p t i hu).1
end
end L2
namespace L2
open PySem PySem.Spec PyProof.Rows TM
section
variable{n N:Nat}{W:List (List Int)}
theorem AB:(EF W n N).length=n:=by unfold EF;simp
theorem C4{p:Nat}(hp:p<n):(EF W n N)[p]?=some (Fh W n N p):=by
 unfold EF;rw[cH,d9 hp];rfl
theorem y3{p:Nat}(hp:p<n):(EF W n N).getD p []=Fh W n N p:=by
 rw[cC,C4 hp];rfl
theorem wf(p:Nat):(Fh W n N p).length=n:=by unfold Fh;rw[cx,LM.rng_len]
theorem zP{p t:Nat}(ht:t<n):(Fh W n N p).getD t 0=EM.et W n N p t:=by
 unfold Fh;rw[cC,cH,EM.rng_get ht];rfl
theorem yf{p t:Nat}(hp:p<n)(ht:t<n):HM.ent (EF W n N) p t=EM.et W n N p t:=by
 unfold HM.ent;rw[y3 hp,zP ht]
theorem DZ(h:EM.Ws n W)(hN:EM.Stops W n N):Jx n (EM.st W n N).D (EF W n N):=by
 have S:=(EM.st_ok h N hN.up).1;have f:=EM.D_le S h.n6;have d:=(EM.all_gone h hN).1;have z:=EM.sum_zero S.nn hN.last;refine⟨h.n1,h.n6,S.pos,by omega,⟨AB,λr b=>?_,λp t=>?_,λi c=>?_,λj e=>?_⟩⟩
 ·unfold EF at b;obtain⟨p,_,rfl⟩:=dv.mp b;exact wf p
 ·by_cases hp:p<n
  ·by_cases a:t<n
   ·rw[yf hp a];exact D6 h hN.up p t
   ·unfold HM.ent;rw[y3 hp,cC,gi (by rw[wf];omega)];exact fE 0
  ·unfold HM.ent;rw[cC (l:=EF W n N),gi (by rw[AB];omega)];exact fE 0
 ·rw[HM.sm_congr (g:=λt=>EM.et W n N i t) λt a=>yf c a,CB h c N hN.up,d]
 ·rw[HM.sm_congr (g:=λp=>EM.et W n N p j) λp hp=>yf hp e,Cs h (by omega) (by omega) N hN.up,z _ (EM.at0_mem (by omega) (by rw[S.len];omega))];omega
end
theorem Ag{n k j:Nat}{T:Int}{Z:List (List Int)}(tb:Jx n T Z)(hf:HM.Fin Z T k)(hj:j<k):LN.Pm n (HM.lotAt Z T j).2/\∀p,p<n->0<HM.ent Z p ((HM.lotAt Z T j).2.getD p 0).toNat:=by
 have I:=HM.it_ok tb.reg tb.t0 tb.lo k hf.2;have S:=I.lots j hj;have J:=HM.it_ok tb.reg tb.t0 tb.lo j λi a=>hf.2 i (by omega)
 refine⟨S.pm,λp hp=>?_⟩;have h1:=S.le p hp;have h2:=S.w1;have h3:0<=HM.sm j λi=>if((HM.lotAt Z T i).2.getD p 0).toNat=((HM.lotAt Z T j).2.getD p 0).toNat then(HM.lotAt Z T i).1 else 0:=by
  have:=HM.sm_le (n:=j) (f:=λ_=>0) (g:=λi=>if((HM.lotAt Z T i).2.getD p 0).toNat=((HM.lotAt Z T j).2.getD p 0).toNat then(HM.lotAt Z T i).1 else 0) λi a=>by
   have:=(J.lots i a).w1;show(0:Int)<=if _ then HM.wOf (HM.it Z T i).1 else 0
   split <;> omega
  rwa[HM.sm_zero]at this
 rw[J.ent p hp];show 0<HM.ent (HM.it Z T j).1 p ((HM.dealOf (HM.it Z T j).1).getD p 0).toNat+_;omega
def JG(K:cu):Sp:=λvs H Q _=>∃(a:cG) (gs:List V) (ps:List (Int×Int)),vs=[.ref a]/\(SqL K H a gs\/SqT K H a gs)/\dr (IsF K H) gs ps/\(∀i,Sz 4000 (Fo (ps.take i)))/\(∀p∈ps,Sz 4000 p)/\∀v H',Same H H'->IsF K H' v (Fo ps)->Q v H'
theorem DB{K:cu}{vs:List V}{H:Hp}{Q:VK}{E:XK}(h:IT K vs H Q E):JG K vs H Q E:=by
 obtain⟨a,e,f,rfl,c,d,b,g,q⟩:=h;exact⟨a,e,f,rfl,.inl c,d,λi=>Dl (by rw[cV];omega) λp hp=>b p (gu hp),λp hp=>(b p hp).up (by decide),q⟩
end L2
namespace L2
open PySem PySem.Spec PyProof.Rows
section
variable{X:Cx}
def Mf:V->Option Int->Option Int->Hp->VK->Prop:=λx lo hi H Q=>∃z,x = .str z/\z.length<=sizeLine/\Q (.str (j6 z lo hi)) H
def Fy:cA->Option (Int×Tok)
 | .int i t=>some (i,t)
 | _=>none
theorem Bh:L9 X Mf:=by
 intro w s A H x v c d a b y Q I r m j g h;obtain⟨z,rfl,p,q⟩:=h;obtain⟨t,rfl⟩:=r;refine⟨"str",_,nS.lookup,mL s z t,?_⟩;have f:s.heap.IsSlice y (Fy c) (Fy d) none:=by
  obtain⟨o,h1,h2,h3⟩:=m;refine⟨o,h1,h2,?_⟩;rw[h3]
  cases j <;> cases g <;> rfl
 have l:(Fy c).map (·.1)=a:=by cases j <;> rfl
 have n:(Fy d).map (·.1)=b:=by cases g <;> rfl
 refine wpAny_getItem_str_slice f (by rfl) ?_;have u:(sliceMade z t (Fy c) (Fy d) none) = .val (.str z t)/\j6 z a b=z\/sliceMade z t (Fy c) (Fy d) none = .str (j6 z a b):=by
  unfold sliceMade j6 slicePicked;rw[l,n];simp only[Option.map_none,kY];split
  ·exact .inl ⟨rfl,rfl⟩
  ·exact .inr rfl
 rcases u with⟨e,k⟩|e
 ·rw[e];exact⟨.str z,H,I,⟨_,rfl⟩,by rw[k]at q;exact q⟩
 ·rw[e];exact⟨dg (Txt.slice_le z a b) p,.str (j6 z a b),H,I.tok _,⟨_,rfl⟩,q⟩
theorem xo:Fv X (compareOp .LtE) (λx y H Q=>∃i j,x = .str i/\y = .str j/\Q (.bl (!decide (j.cps.toList<i.cps.toList))) H):=by
 intro c s d H x y v u Q I b a h;obtain⟨i,j,rfl,rfl,q⟩:=h;obtain⟨t,rfl⟩:=b;obtain⟨e,rfl⟩:=a;exact P.le_str ⟨.bl _,H,I,rfl,q⟩
def Lq:V->List V->Hp->VK->Prop:=λx vs H Q=>∃z y,x = .str z/\vs=[.str y]/\Q (.int (qI z y)) H
theorem Ds:KZ X "str.find" Lq:=by
 intro c s d H x f v g Q I a b h;obtain⟨z,y,rfl,rfl,q⟩:=h;obtain⟨t,rfl⟩:=a;obtain⟨u,rfl,e,rfl⟩:=E5 b;exact SC.find ⟨.int _,H,I.tok _,⟨_,rfl⟩,q⟩
theorem ui:∀{ys:List Str} {its:List cA},Vals (ys.map V.str) its->StrsAre its ys
 | [],_,.nil=> .nil
 | y::_,_,.cons ⟨t,e⟩ r=>e▸ .cons y t (ui r)
theorem xE:∀{its:List cA} {ys:List Str},StrsAre its ys->Vals (ys.map V.str) its
 | _,_,.nil=> .nil
 | _,_,.cons _ _ r=> .cons ⟨_,rfl⟩ (xE r)
def LV(K:cu):V->List V->Hp->VK->Prop:=λx vs H Q=>∃z p ys,x = .str z/\vs=[.ref p]/\SqL K H p (ys.map V.str)/\z.length<=16/\(ys.map fJ).sum+ys.length<=1048576/\Q (.str (fh z ys)) H
theorem xZ:KZ X "str.join" (LV X.K):=by
 intro f s m H x o v r Q I c d h;obtain⟨z,p,l,rfl,rfl,hp,h1,h2,q⟩:=h;obtain⟨t,rfl⟩:=c;obtain⟨u,rfl,b⟩:=E5 d
 cases(show u=cR p from b);obtain⟨g,a,e,j⟩:=I.list hp;exact join_listW e.isList (by simpa using ui a) h1 h2 λn k=>⟨.str _,H,I.tok _,⟨_,rfl⟩,q⟩
def KI:V->List V->Hp->VK->Prop:=λx vs H Q=>∃z y,x = .str z/\vs=[.str y]/\y.length≠0/\z.length+2<=sizeLine/\∀p,H p=none->Q (.ref p) (upd H p (.lst ((Txt.split z y).map V.str)))
theorem xF:∀(l:List Str) (k:Nat),Vals (l.map V.str) (strsFrom k l)
 | [],_=> .nil
 | _::l,k=> .cons ⟨_,rfl⟩ (xF l (k+1))
theorem BW:KZ X "str.split" KI:=by
 intro k s C H x K v L Q I o p h;obtain⟨z,y,rfl,rfl,m,E,q⟩:=h;obtain⟨t,rfl⟩:=o;obtain⟨u,rfl,t',rfl⟩:=E5 p;have g:(y.length==0)=false:=beq_eq_false_iff_ne.mpr m;have j:s.TypeIs (.str z t) "str":=mL s z t;have f:∀(e:Txt.split z y=[z]),EP X k C Q (.ref s.heap.objs.size) {s with heap:=s.heap.push {cls:= .type "list",data:= .seq #[.str z t]}}:=λe=>by
  have b:=q _ (I.hok.fresh (cI _));rw[e]at b;exact⟨.ref s.heap.objs.size,_,I.lnew (ys:=[.str z]) (its:=[.str z t]) (t':=s.toks) (.cons ⟨_,rfl⟩ .nil) (show 1<=sizeLine by decide),rfl,b⟩
 have J:=fact_split z y;by_cases a:(decide (z.length<y.length)||decide (i7 z<i7 y))=true
 ·have e:Txt.split z y=[z]:=by unfold Txt.split;rw[if_pos a]
  have r:Meets (Builtin.«str.split» {pos:=[.str z t,.str y t']}) (listOfItself z t):=by
   intro D w A R G n;obtain⟨M,B⟩:=split_sep_tree z y t t';rw[B,if_pos a];refine cr (iR ?_);refine cr (ja ?_);exact cv n
  exact gZ lm j kG (ko _ _) r (f e)
 ·have d:(decide (z.length<y.length)||decide (i7 z<i7 y))=false:=by simpa using a
  by_cases c:(jm z y 0 z.length (z.length+1)).isEmpty=true
  ·have e:Txt.split z y=[z]:=by unfold Txt.split;rw[if_neg a,if_pos c]
   exact gZ lm j kG (ko _ _) (meets_str_split_not_found z y t t' d g c) (f e)
  ·have e:Txt.split z y=kT z (jm z y 0 z.length (z.length+1)) y.length:=by unfold Txt.split;rw[if_neg a,if_neg c]
   have l:(kT z (jm z y 0 z.length (z.length+1)) y.length).length<=sizeLine:=by rw[<-e];omega
   refine gZ lm j kG (ko _ _) (meets_str_split_sep z y t t' d g (by simpa using c) (by omega) l) ?_;have b:=q _ (I.hok.fresh (cI _));rw[e]at b;exact⟨.ref s.heap.objs.size,_,I.lnew (xF _ _) (by rw[cx];exact l),rfl,b⟩
end
def Lw(a b:Str):Prop:=a.cps.toList<=b.cps.toList
theorem xB:∀(x y:List Nat),ltCps x y=true↔x<y
 | [],[]=>by unfold ltCps;simp
 | [],_::_=>by unfold ltCps;simp
 | _::_,[]=>by unfold ltCps;simp
 | a::r,b::t=>by
  unfold ltCps
  rw[gN,<-xB r t]
  simp
theorem Ce{a b:Str}:ltCps b.cps.toList a.cps.toList=false↔Lw a b:=by
 unfold Lw;rw[<-List.not_lt,<-Bool.not_eq_true];exact not_congr (xB _ _)
theorem wT{a b:Str}(h:a.cps.toList=b.cps.toList):a=b:=by
 cases a;cases b;exact congrArg Str.mk (Array.toList_inj.mp h)
theorem wx:∀{l:List Str} {x:Str},risingS x l=true->(x::l).Pairwise Lw
 | [],_,_=>List.pairwise_singleton _ _
 | y::l,x,h=>by
  rw[risingS.eq_2,dn]at h
  have b:=wx h.2
  have h1:Lw x y:=Ce.mp (by simpa using h.1)
  refine fw.mpr ⟨λz a=>?_,b⟩
  rcases cZ.mp a with rfl|a
  ·exact h1
  ·exact List.le_trans h1 ((fw.mp b).1 z a)
theorem we{l:List Str}(h:sortedS l=true):l.Pairwise Lw:=by
 cases l with
 | nil=>exact .nil
 | cons x l=>exact wx h
theorem xn{a b:List Str}(ha:sortedS a=true)(hb:sortedS b=true)(h:a.Perm b):a=b:=
 kN (λ_ _ _ _ h1 h2=>wT (List.le_antisymm h1 h2)) (we ha) (we hb) h
section
variable{X:Cx}
theorem x0{prog:cT}{w:dc}{A:dw}{E:cA->cD->Prop}{s:cD}{l:cG}{vs:List cA}{ss:List Str}{Q:cA->cD->Prop}(ht:IsTup s.heap l vs.toArray)(hI:StrsAre vs ss)(h64:vs.length<64)
  (h:∀(out:Array cA) (ss':List Str),StrsAre out.toList ss'->ss'.Perm ss->sortedS ss'=true->Q (.ref (s.heap.objs.size+1)) {s with heap:=sortedAll s.heap vs out}):
  wpAny (model prog w) A (call (.builtin "sorted") [.ref l]) Q E s:=by
 have b:((s.heap.push (seqObj "list" #[] 0)).update s.heap.objs.size (d2 (· ++ vs.toArray))).objs.size=s.heap.objs.size+1:=by rw[nX,lx]
 have a:(((s.heap.push (seqObj "list" #[] 0)).update s.heap.objs.size (d2 (· ++ vs.toArray))).push (seqObj "list" vs.toArray 0)).get? (s.heap.objs.size+1)=some (seqObj "list" vs.toArray 0):=by
  rw[<-b];exact cN _ rfl
 refine gP oo nA nB (nC _) ?_
 unfold Builtin.«sorted»
 refine cr (m:=checkCount "sorted" 1 1 _) (cv ?_)
 have j:vs.length<=sizeLine:=dB (Ed (by omega))
 refine cr (vD ht j (cr (ja ?_)))
 change wpAny _ _ _ _ _ {s with heap:=((s.heap.push (seqObj "list" #[] 0)).update s.heap.objs.size (d2 (· ++ vs.toArray))).push (seqObj "list" vs.toArray 0)}
 rw[b]
 refine cr (dG (dR l8 ⟨_,a,rfl⟩ lJ (list_sort_treeK strKind_oneLt a (StrsAre.keysOf hI) (λc n rest e=>keyKind_strs (by rw[<-e];exact hI)) h64 λo hp k=>⟨_,rfl,?_⟩) (l9 _)))
 obtain⟨ss',d,f,g⟩:=sorted_out_str hI hp k
 exact cv ⟨_,rfl,h _ ss' d f g⟩
theorem uW:EQ X (.builtin "sorted") (λxs H Q=>∃(p:cG) (ss:List Str),xs=[.ref p]/\(SqL X.K H p (ss.map V.str)\/SqT X.K H p (ss.map V.str))/\ss.length<64/\∀(l:cG) (ss':List Str),H l=none->ss'.Perm ss->sortedS ss'=true->Q (.ref l) (upd H l (.lst (ss'.map V.str)))):=by
 intro j s y H xs C Q I r h;obtain⟨p,ss,rfl,f,B,q⟩:=h;obtain⟨u,rfl,v⟩:=E5 r
 cases(show u=cR p from v);have fin:∀(a:List cA),Vals (ss.map V.str) a->∀(d:Array cA) (ss':List Str),StrsAre d.toList ss'->ss'.Perm ss->sortedS ss'=true->EP X j y Q (.ref (s.heap.objs.size+1)) {s with heap:=sortedAll s.heap a d}:=λa c d ss' n m z=>by
  obtain⟨e,x⟩:=qh s.heap a d;refine⟨.ref (s.heap.objs.size+1),_,I.laid (t':=s.toks) (λb o A=>pO A) (ec _) (show ObjOk X.prog X.w _ _ _ (.lst (ss'.map V.str))from⟨?_,d.toList,e,xE n,by rw[x]⟩),rfl,q _ ss' (I.hok.fresh (ec _)) m z⟩;rw[cx,m.length_eq];exact dB (Ed (by omega))
 rcases f with f|f
 ·obtain⟨a,c,g,t⟩:=I.list f;have k:=c.length;rw[cx]at k;exact sorted_strs g.isList (ui c) (by omega) (fin a c)
 ·obtain⟨a,c,g,t⟩:=I.tuple f;have k:=c.length;rw[cx]at k;exact x0 g (ui c) (by omega) (fin a c)
end
def Mh(z:Str):It:=⟨λi _=>i<z.cps.size,λi H x H'=>H'=H/\∃c,z.cps[i]?=some c/\x = .str ⟨#[c]⟩,λi _=>z.cps.size<=i⟩
theorem BE{P:cT}{w:dc}{K:cu}{tg:Expr}(it:cG)(z:Str)(t:Tok):HX P w K tg (Mh z) [it] it (λi h=>h.IsStrIter it "str_ascii_iterator" z t i) where
 mem:=by simp
 obj:=λi h st b a=>by
  have e:b=it:=by simpa using a
  subst e
  obtain⟨o,e,c,d⟩:=st
  exact⟨o,e,λv z=>by rw[d]at z;cases z⟩
 keep:=λi h g st k=>by
  obtain⟨o,e,c,d⟩:=st
  exact⟨o,k it (by simp) o e,c,d⟩
 item:=by
  intro X B n q C i f s D H E I j st A
  subst B n q
  have l:i<z.cps.size:=A
  obtain⟨u,y,F,x,p,r⟩:=j it (by simp)
  refine wpAny_pyNext_ascii_item st (c:=z.cps[i]) (fi l) λg m L=>?_
  have G:Inv X f D H {s with heap:=g,toks:=s.toks+1}:=I.turned (λb o a e=>(L.2 b a).trans e) u y x p r
  obtain⟨o,e,c,d⟩:=id m
  exact⟨_,rfl,Ca (s:={s with heap:=g,toks:=s.toks+1}) e c d (by decide) ⟨.str ⟨#[z.cps[i]]⟩,H,G,⟨_,rfl⟩,⟨rfl,_,fi l,rfl⟩,m,λb a=>(j b a).1⟩⟩
 done:=by
  intro X B n q C i f s D H E I j st A
  subst B n q
  have l:z.cps.size<=i:=A
  obtain⟨u,y,F,x,p,r⟩:=j it (by simp)
  exact wpAny_pyNext_ascii_end (I.ok.hd C) st (gC l) λg J=>⟨rfl,I.turned (t':=s.toks) (λb o a e=>J b o a e) u y x p r⟩
 self:=λ_ _ _ _ _ st h=>wpAny_pyIter_striter_ascii st h
theorem DJ{X:Cx}{tg l:Expr}{tl:TE}(hl:PE X l tl):PI X tg l (λσ H R=>tl σ H λx H1=>∃z:Str,x = .str z/\(∀c∈z.cps.toList,c<128)/\R (Mh z) H1):=by
 intro f s σ H R I h;refine En (hl f s σ H _ I h) λv a ⟨x,H1,d,g,m⟩=>?_
 obtain⟨z,e,k,q⟩:=m;subst e;obtain⟨t,rfl⟩:=g;refine wpAny_pyIter_ascii (by rw[Array.all_eq_true'];exact λc j=>decide_eq_true (k c (by simpa using j))) ?_;refine⟨a.heap.objs.size,[a.heap.objs.size],_,_,H1,rfl,d.kept (t':=a.toks) λb o e=>cF _ e,BE _ z t,⟨_,cN _ rfl,rfl,rfl⟩,λb n=>?_,q⟩;have e:b=a.heap.objs.size:=by simpa using n
 subst e;exact d.fpOk (cI _) (d.hok.fresh (cI _))
theorem Bs{z:Str}{caps:List (Option Nat)}{g:TG}{te:TE}{σ:St}{QQ:List V->Hp->Prop}{H:Hp}(Pv:Nat->List V->Hp->Prop)(h0:Pv 0 [] H)
  (hs:∀i c ys H,z.cps[i]?=some c->Pv i ys H->g (.str ⟨#[c]⟩) (E8 caps σ) H λσ2 H2=>te σ2 H2 λy H4=>ys.length<sizeLine/\Pv (i+1) (ys++[y]) H4)
  (hd:∀ys H,Pv z.cps.size ys H->QQ ys H):EG caps g Gb te σ QQ (Mh z) H:=by
 refine⟨λi m ys H=>m=z.cps.size-i/\i<=z.cps.size/\Pv i ys H,⟨z.cps.size,by simp,du _,h0⟩,?_⟩
 rintro i m ys H ⟨rfl,j,p⟩
 by_cases a:i<z.cps.size
 ·refine .inr ⟨a,Pv (i+1),λh d f=>⟨z.cps.size-(i+1),by omega,rfl,a,f⟩,λx d y=>?_⟩
  obtain⟨e,c,b,rfl⟩:=y
  subst e
  simp only[tO]
  exact hs i c ys _ b p
 ·have e:i=z.cps.size:=by omega
  subst e
  exact .inl ⟨cI _,hd ys H p⟩
def Fb(ws:List Str):Nat->Nat
 | 0=>0
 | i+1=>if ws.getD i ea∈ws.take i then Fb ws i else Fb ws i+1
theorem xY(ws:List Str):∀i,Fb ws i<=i
 | 0=>cI _
 | i+1=>by
  have:=xY ws i
  unfold Fb
  split <;> omega
theorem v9{ws:List Str}(h:ws.Nodup):∀i,i<=ws.length->Fb ws i=i
 | 0,_=>rfl
 | i+1,hi=>by
  have b:=v9 h i (by omega)
  unfold Fb
  rw[if_neg,b]
  intro z
  obtain⟨j,a,e⟩:=eO.mp z
  rw[cV]at a
  rw[List.getElem_take,HM.getD_lt (show i<ws.length by omega)]at e
  have:=(nL (j:=i) (show j<ws.length by omega) h).mp (by rw[cz (show j<ws.length by omega),e];exact(cz _).symm)
  omega
theorem Bw{ws:List Str}:∀{i:Nat},i<=ws.length->¬(ws.take i).Nodup->Fb ws i<i
 | 0,_,h=>absurd (by simp) h
 | i+1,hi,h=>by
  have d:i<ws.length:=by omega
  have e:ws.take (i+1)=ws.take i++[ws.getD i ea]:=by rw[cY,cz d,HM.getD_lt d];rfl
  have h1:=xY ws i
  unfold Fb
  split
  ·omega
  ·next c=>
   have:=Bw (ws:=ws) (i:=i) (by omega) λz=>h (by
    rw[e]
    refine gv.mpr ⟨z,by simp,λa f b g=>?_⟩
    rw[cK.mp g]
    exact λq=>c (q▸f))
   omega
theorem Ba{prog:cT}{w:dc}{A:dw}{R:Result->cD->Prop}{I:cG}{fp wr:List cG}{G:Array GenState->Array GenState->Prop}{n:Nat}{P:Nat->cA->Prop}{St:Nat->cD->Prop}
  (W:WalksS prog w A.in1 I fp wr G n P St)(S:cG)(hS:S∉fp)(ws:List Str)(hw:ws.length=n)(hv:∀i v,P i v->∃t,v=iw (ws.getD i ea) t)(hn:n+1<scanBound):
  ∀(k i:Nat) (s:cD),n-i=k->i<=n->St i s->lE (strKind prog w) s.heap S (λx=>decide (x∈ws.take i)) (Fb ws i)->
   (∀s',Moved (S::wr) G s s'->lE (strKind prog w) s'.heap S (λx=>decide (x∈ws.take n)) (Fb ws n)->R (.ok (.ret .none)) s')->
   codeAny (model prog w) A (.builtin "set.update.loop" ⟨[.ref S,.ref I],[]⟩) R s:=by
 have q:S∉wr:=λz=>hS (W.sub S z)
 intro k
 induction k with
 | zero=>
  intro i s hk M f b h
  have e:i=n:=by omega
  subst e
  refine eY h8 ?_
  rw[fY fZ _]
  unfold Builtin.«set.update.loop»
  refine cr (W.done s _ _ f λs' m=>?_)
  obtain⟨o,C,y,t,d,r⟩:=b
  exact cv (h s' ⟨λc o a=>m.heap c o λz=>a (cO _ z),m.gens,m.drawn,m.os,m.toks⟩ ⟨o,C,y,t,m.heap S o q d,r⟩)
 | succ k N=>
  intro i s hk M f b h
  refine eY h8 ?_
  rw[fY fZ _]
  unfold Builtin.«set.update.loop»
  refine cr (W.item i s _ _ (by omega) f λv s' O B m=>?_)
  have j:lE (strKind prog w) s'.heap S (λx=>decide (x∈ws.take i)) (Fb ws i):=by
   obtain⟨o,C,y,t,d,r⟩:=b
   exact⟨o,C,y,t,m.heap S o q d,r⟩
  obtain⟨t,rfl⟩:=hv i v O
  have u:i<ws.length:=by omega
  have et:ws.take (i+1)=ws.take i++[ws.getD i ea]:=by rw[cY,cz u,HM.getD_lt u];rfl
  dsimp only
  refine cr (dG ?_)
  unfold setAdd
  refine dG (cr (nO ?_))
  have a:=xY ws i
  refine wpAny_setAddHashed_of (knd:=strKind prog w) (k:=ws.getD i ea) (show(ws.getD i ea==ws.getD i ea)=true from beq_self_eq_true _) rfl j (by omega) λE J p=>?_
  have K:(λH=>decide (H∈ws.take i)||decide (H=ws.getD i ea))=λx=>decide (x∈ws.take (i+1)):=by
   funext x
   rw[et]
   simp[dJ,Bool.decide_or]
  have L:(if decide (ws.getD i ea∈ws.take i)=true then Fb ws i else Fb ws i+1)=Fb ws (i+1):=by
   conv=>rhs;unfold Fb
   simp
  rw[K,L]at p
  refine cv ⟨jK fZ _,N (i+1) _ (by omega) (by omega) (W.frame (i+1) s' E (s'.toks+1) B (gG _ _) λc a o d=>by rw[J.2 c λz=>hS (z▸a)];exact d) p λD g l=>h D ?_ l⟩
  refine⟨λc o a d=>g.heap c o a ?_,W.gtrans _ _ _ m.gens g.gens,g.drawn.trans m.drawn,g.os.trans m.os,dg m.toks (dg (gG _ _) g.toks)⟩
  show E.get? c=some o
  rw[J.2 c λz=>a (by rw[z];exact cM)]
  exact m.heap c o (λz=>a (cO _ z)) d
theorem vY{prog:cT}{w:dc}{A:dw}{E:cA->cD->Prop}{s:cD}{l:cG}{items:Array cA}{Q:cA->cD->Prop}(hh:A.handled=none)(hl:s.heap.IsList l items)(ws:List Str)(hw:StrsAre items.toList ws)(hn:items.size<=60)
  (h:∀(h':Heap) (tk:Nat),lE (pX prog w) h' s.heap.objs.size (λx=>decide (x∈ws.take ws.length)) (Fb ws ws.length)->(∀b o,s.heap.get? b=some o->h'.get? b=some o)->Q (.ref s.heap.objs.size) {s with heap:=h',toks:=tk}):
  wpAny (model prog w) A (call (.type "set") [.ref l]) Q E s:=by
 obtain⟨c,tl,G⟩:=fu.mro
 have g:=fu.made
 have B:=fu.sub
 have q:ws.length=items.size:=by
  have:∀{vs:List cA} {ss:List Str},StrsAre vs ss->ss.length=vs.length:=λh=>by
   induction h with
   | nil=>rfl
   | cons _ _ _ J=>simp[J]
  simpa using this hw
 have C:∀{vs:List cA} {ss:List Str},StrsAre vs ss->∀(i:Nat) (v:cA),vs[i]?=some v->∃t,v=iw (ss.getD i ea) t:=λh=>by
  induction h with
  | nil=>intro i v j;simp at j
  | cons y t _ J=>
   intro i v j
   cases i with
   | zero=>exact⟨t,by simpa using j.symm⟩
   | succ i=>
    obtain⟨u,e⟩:=J i v (by simpa using j)
    exact⟨u,by simpa using e⟩
 refine iJ (lL (cv ⟨ii _ (by decide +kernel),eY nH ?_⟩))
 rw[mT (lS "set" [.ref l] []) rfl]
 have h1:=fu.notType
 have h2:=fu.canCreate
 have N:=nZ (.ref l)
 unfold Builtin.«type.__call__»
 refine cP (by rw[h1];rfl) (cP (by rw[h2];rfl) (cr (fO N (cr (fO G (cP rfl (cr (fO g (cr (cv ?_))))))))))
 refine cr (dG (iJ (iX (zZ (E:=E) (.ref l) (Q₁:=λv W=>v = .ref s.heap.objs.size/\W=_) ⟨rfl,rfl⟩) λr H I=>?_)))
 cases r with
 | error e=>exact I
 | ok fl=>
  cases fl with
  | ret v=>
   obtain⟨rfl,rfl⟩:=(show v=_/\H=_ from I)
   have a:(s.heap.push {cls:=dL "set",data:=Data.set #[] 0 (fQ 0 0 (El w))}).get? s.heap.objs.size=some {cls:=dL "set",data:=Data.set #[] 0 (fQ 0 0 (El w))}:=cN _ rfl
   refine cr (eH (T:="set") ⟨_,a,rfl⟩ B (cP rfl (cr (dG ?_))))
   unfold callSpecial?
   refine cr (gg (T:="set") ⟨_,a,rfl⟩ fu.init.lookup ?_)
   refine dG (cr (fO (fu.init.bind _) (cr (iJ (ma fu.init.plain n5 (n7 ⟨_,a,rfl⟩ ?_))))))
   unfold Builtin.«set.__init__»
   refine cr (cv ?_)
   dsimp only[n8,oy]
   unfold typeNameOfCut
   unfold shownTypeOf
   refine cr (cr ?_)
   refine cr (ij (T:="set") ⟨_,a,rfl⟩ (cP rfl (cv (cv (cr (cv (cr (cv ?_))))))))
   unfold setUsed
   refine cr (cr (dU a rfl (by cases El w <;> rfl) (cv (cP rfl ?_))))
   have d:=hl.push {cls:=dL "set",data:=Data.set #[] 0 (fQ 0 0 (El w))}
   have D:kO {s with heap:=s.heap.push {cls:=dL "set",data:=Data.set #[] 0 (fQ 0 0 (El w))}} (.ref l) "list":=by
    obtain⟨o,h1,h2,_⟩:=d
    exact⟨o,h1,h2⟩
   unfold jV kh orM
   refine cr (cr (cr (eH D oW (eH D mc ?_))))
   refine cP rfl (cr (ij D (cP rfl (cr (iC d ?_)))))
   refine cr (kf ?_)
   have p:s.heap.get? s.heap.objs.size=none:=by
    cases e:s.heap.get? s.heap.objs.size with
    | none=>rfl
    | some o=>exact absurd (cQ e) (dt _)
   have L:l≠s.heap.objs.size:=λz=>by
    obtain⟨o,h1,_⟩:=hl
    rw[z,p]at h1;cases h1
   have n:(s.heap.push {cls:=dL "set",data:=Data.set #[] 0 (fQ 0 0 (El w))}).objs.size=s.heap.objs.size+1:=lx ..
   have M:l≠s.heap.objs.size+1:=λz=>by
    obtain⟨o,h1,_⟩:=hl
    rw[z]at h1
    exact absurd (gW (cQ h1)) (dt _)
   dsimp only
   rw[n]
   refine Ba (rj (oP (A:=A.in1.in1.in1) hh (s.heap.objs.size+1) l M items)) s.heap.objs.size (λz=>?_) ws q (λi v hi=>?_) (by show items.size+1<4096;omega) items.size 0 _ rfl (du _) ?_ ?_ (λZ m K=>?_)
   ·rcases cZ.mp z with z|z
    ·exact absurd z (df (dH _))
    ·exact L (cK.mp z).symm
   ·exact C hw i v (by simpa using hi)
   ·exact⟨⟨_,(by rw[<-n];exact cN _ rfl),rfl,rfl⟩,(d.push _)⟩
   ·refine⟨_,#[],0,_,cF _ a,⟨rfl,rfl,rfl⟩,rfl,?_,λk=>?_,by decide,by cases El w <;> rfl,rfl⟩
    ·exact λe X=>(nomatch (show e∈([]:List (Int×cA))from X))
    ·simp
   ·refine cv (cv (cv (cP rfl (cv ?_))))
    obtain⟨h',S,V,Y,O⟩:=Z
    have R:S=s.gens:=m.gens
    have U:V=s.drawn:=m.drawn
    have P:O=s.os:=m.os
    subst R U P
    rw[<-q]at K
    refine h h' Y K λb o f=>m.heap b o (λz=>?_) (cF _ (cF _ f))
    rcases cZ.mp z with z|z
    ·rw[z,p]at f;cases f
    ·rw[cK.mp z]at f
     exact absurd (gW (cQ f)) (dt _)
  | _=>exact I.elim
theorem Cf{prog:cT}{w:dc}{A:dw}{E:cA->cD->Prop}{s:cD}{a:cG}{S:Str->Bool}{n:Nat}{Q:cA->cD->Prop}(hS:lE (pX prog w) s.heap a S n)(h:Q (.int n (s.toks+1)) {s with toks:=s.toks+1+1}):
  wpAny (model prog w) A (call (.builtin "len") [.ref a]) Q E s:=by
 obtain⟨o,p,l,t,f,e,g,_,_,j,b,c⟩:=hS
 have k:n<4096:=by rw[<-c];exact j
 have d:s.TypeIs (.ref a) "set":=⟨o,f,e.1⟩
 refine gP kind_len plain_len entry_len (args_len1 _) ?_
 unfold Builtin.«len»
 refine cr (m:=oneArg "len" _) (cv ?_)
 refine cr (m:=callSpecial? (.ref a) (fM "__len__")) (ef (name:=fM "__len__") d mh (dR mh d wW ?_ (PySem.F.args_set_len_1 _)))
 unfold Builtin.«frozenset.__len__» kP setEntries
 refine cr (cv ?_)
 refine cr (cr (cr (dU f g b (cv (cv ?_)))))
 refine cr (wpAny_mkInt (cv ⟨_,rfl,?_⟩))
 refine cr (dG (cv ?_))
 refine cr (kE ?_)
 rw[c]
 show wpAny _ _ (if((n:Nat):Int)<0 then _ else _) _ _ _
 rw[if_neg (by omega)]
 show wpAny _ _ (if((n:Nat):Int)>=2^63 then _ else _) _ _ _
 rw[if_neg (by omega)]
 exact cr (wpAny_mkInt (cv ⟨_,rfl,h⟩))
def JW(K:cu)(te:TE):TE:=λσ H Q=>te σ H λx H1=>∃(l:cG) (ws:List Str),x = .ref l/\SqL K H1 l (ws.map V.str)/\ws.length<=60/\Q (.int (Fb ws ws.length:Nat)) H1
theorem zz{X:Cx}{e:Expr}{te:TE}{p p2 pos pos2:Pos}(hc:X.calm=true)(h1:Gl X "len")(m1:X.mg "len"=none)(h2:Gl X "set")(m2:X.mg "set"=none)(ha:PE X e te)
  (he:dh [e] X.env=(false,eval e X.env)::dh [] X.env:=by rfl):PE X (.Call (.Name "len" p) [.Call (.Name "set" p2) [e] [] pos2] [] pos) (JW X.K te):=by
 intro d s r H Q I h
 refine fI (tP I h1 m1 dD ?_)
 refine g9 ?_ rfl rfl
 show wpAny _ _ (spliced ((false,eval (.Call (.Name "set" p2) [e] [] pos2) X.env)::[])) _ _ s
 refine fH ?_
 refine fI (tP I h2 m2 Boot.set ?_)
 refine d7 ?_ he rfl
 rw[he]
 show wpAny _ _ (spliced ((false,eval e X.env)::[])) _ _ s
 refine fH (En (ha d s r H _ I h) λu m ⟨x,v,b,j,t⟩=>?_)
 obtain⟨l,c,rfl,o,w,q⟩:=t
 cases(show u=cR l from j)
 obtain⟨y,f,n,z⟩:=b.list o
 have g:=f.length
 rw[cx]at g
 refine cv (vY (b.ok.hd hc) n.isList c (by simpa using ui f) (by simp;omega) λk tk a hk=>cv (Cf (s:={m with heap:=k,toks:=tk}) a ?_))
 exact⟨.int (Fb c c.length:Nat),v,b.kept hk,⟨_,rfl⟩,q⟩
section
variable{X:Cx}
theorem StrsAre.len:∀{vs:List cA} {ss:List Str},StrsAre vs ss->vs.length=ss.length
 | _,_,.nil=>rfl
 | _,_,.cons _ _ r=>by rw[dQ,dQ,StrsAre.len r]
theorem zX:∀{vs:List cA} {ss:List Str} (hi:StrsAre vs ss) {i:Nat} (h:i<vs.length),∃t,vs[i]=iw (ss[i]'(by rw[<-StrsAre.len hi];exact h)) t
 | _,_,.cons n t r,0,_=>⟨t,rfl⟩
 | _,_,.cons n t r,i+1,h=>zX r (i:=i) (by simpa using h)
theorem vV{prog:cT}{w:dc}{A:dw}{E:cA->cD->Prop}{s:cD}{a:cG}{vs:List cA}{ns:List Str}{k:Str}{t:Tok}{Q:cA->cD->Prop}(ht:IsTup s.heap a vs.toArray)(hi:StrsAre vs ns)
  (hk:k∈ns)(h:Q (.int (ns.idxOf k:Nat) s.toks) {s with toks:=s.toks+1}):wpAny (model prog w) A (call (.builtin "tuple.index") [.ref a,.str k t]) Q E s:=by
 have q:=StrsAre.len hi
 have r:ns.idxOf k<ns.length:=g8.mpr hk
 refine gZ jd ht.typeIs kt (km _ _) (S:=λA R s=>IsTup s.heap a vs.toArray/\R (.ok (.ret (.int (ns.idxOf k:Nat) s.toks))) {s with toks:=s.toks+1}) ?_ ⟨ht,h⟩
 intro prog w A R s ⟨ht,h⟩
 show wpAny _ _ _ _ _ _
 unfold Builtin.«tuple.index»
 simp only[iV]
 wp_walk using pW ht
 have p:([:min vs.toArray.size vs.toArray.size]:oi).size=vs.length:=by simp[lX]
 rw[p]
 refine lg (M:=model prog w) (A:=A.in1) _ (λl b o=>b=((none:Option PySem.Fin),())/\o=s/\∃i,l=kD i (vs.length-i)/\i<=ns.idxOf k) _ (λx rest b o g=>?_) (λb o g=>?_) _ _ ⟨rfl,rfl,0,rfl,du _⟩
 ·obtain⟨rfl,rfl,i,e,d⟩:=g
  have f:i<vs.length:=by omega
  rw[show vs.length-i=(vs.length-(i+1))+1 by omega,lb]at e
  injection e with m hrest
  subst m
  obtain⟨n,u⟩:∃n,vs[x]=iw (ns[x]'(by omega)) n:=zX hi f
  have j:vs.toArray[x]?=some (iw (ns[x]'(by omega)) n):=by simp[f,u]
  rw[j]
  refine cr (nQ ?_)
  by_cases c:ns[x]'(by omega)=k
  ·have m:ns.idxOf k=x:=by
    have h1:ns.idxOf k<=x:=by
     refine k6 λz=>?_
     exact absurd c (by simpa using lD z)
    omega
   rw[decide_eq_true c,if_pos rfl]
   wp_walk
   rw[m]at h
   exact h
  ·rw[decide_eq_false c,if_neg (by decide)]
   refine cv ⟨rfl,rfl,x+1,hrest,?_⟩
   refine mY d λz=>c ?_
   have:=jh r
   simp only[<-z]at this
   exact this
 ·obtain⟨_,_,i,e,d⟩:=g
  have:=congrArg ji e
  simp at this
  omega
def Lr(K:cu)(to te:TE):TE:=λσ H Q=>to σ H λx H1=>∃(l:cG) (o:Obj) (xs:List V),x = .ref l/\H1 l=some (.frz o (.tup xs))/\o.dict=none/\te σ H1 λy H2=>∃(ns:List Str) (k:Str),y = .str k/\SqT K H2 l (ns.map V.str)/\k∈ns/\Q (.int (ns.idxOf k:Nat)) H2
theorem A0{K:cu}{o e:Expr}{apos cpos:Pos}{to te:TE}(hK:X.K=K)(ho:PE X o to)(he:PE X e te)(hbase:attributeBase o "index" X.env (eval o X.env)=eval o X.env:=by rfl)
  (hfew:((backTo cpos (dh [e] X.env)).all (λx=>!x.1)&&(backToKw cpos (keywordEach [] X.env)).all (λx=>x.1.isSome)&&decide (([e]:List Expr).length+([]:List Keyword).length+(if([]:List Keyword).isEmpty then 0 else 1)<30))=true:=by rfl)
  (hline:(apos.endLine==cpos.line)=true:=by rfl)(htrees:backTo cpos (dh [e] X.env)=[(false,eval e X.env)]:=by rfl):PE X (.Call (.Attribute o "index" apos) [e] [] cpos) (Lr K to te):=by
 subst hK
 intro a s j H Q I h
 refine nM hbase hfew hline PySem.F.plainAttrs_tuple jd PySem.F.type_tuple_index (En (ho a s j H _ I h) λu d ⟨x,m,f,v,l,g,G,N,A,D,J⟩=>?_)
 subst N
 obtain rfl:u=cR l:=v
 obtain⟨g1,S,O,r,B⟩:=(show ObjOk X.prog X.w m d.heap l (.frz g (.tup G))from f.hok l _ A)
 refine⟨B.typeIs,λb z=>?_,?_⟩
 ·cases z
  exact⟨g,g1,D⟩
 rw[htrees]
 refine gB rfl (iK (fH (En (he a d j m _ f J) λR T ⟨y,L,c,t,P,k,q,C,hk,M⟩=>kB ?_)))
 subst q
 obtain⟨tk,rfl⟩:=t
 obtain⟨E,p,n,_⟩:=c.tuple C
 exact vV n (ui p) hk ⟨.int _,L,c.tok _,⟨_,rfl⟩,M⟩
end
def wK(R:List (Str×V)):List (Gc×V):=R.map λp=>(Sum.inr p.1,p.2)
def Ep(R:List (Str×V))(x:Str):Option V:=(R.find? λp=>decide (p.1=x)).map (·.2)
def Hc(R:List (Str×V))(x:Str)(v:V):List (Str×V):=if R.any (λp=>decide (p.1=x))=true then R.map (λp=>if p.1=x then(p.1,v)else p)else R++[(x,v)]
theorem vj:∀{R:List (Str×V)} {vs:List (Gc×cA)} (_:KV (wK R) vs) (x:Str),RelO (Ep R x) (valueAt vs (Sum.inr x))
 | [],[],_,_=>trivial
 | [],_::_,h,_=>nomatch h
 | _::_,[],h,_=>nomatch h
 | (a,v)::R,(k,u)::vs,h,x=>by
  obtain⟨h1,h2⟩:((Sum.inr a:Gc)=k/\RelV v u)/\KV (wK R) vs:=by cases h with|cons p q=>exact⟨p,q⟩
  obtain⟨rfl,f⟩:=h1
  have b:=vj h2 x
  unfold Ep valueAt at b ⊢
  rw[j2,j2]
  by_cases c:a=x
  ·subst c
   simp
   exact f
  ·have e:decide (a=x)=false:=decide_eq_false c
   have d:decide ((Sum.inr a:Gc)=Sum.inr x)=false:=decide_eq_false λz=>c (Sum.inr.inj z)
   simp only[e,d]
   exact b
theorem Bv:∀{R:List (Str×V)} {vs:List (Gc×cA)} (_:KV (wK R) vs) (x:Str),(vs.any λkv=>decide (kv.1=Sum.inr x))=R.any λp=>decide (p.1=x)
 | [],[],_,_=>rfl
 | [],_::_,h,_=>nomatch h
 | _::_,[],h,_=>nomatch h
 | (a,v)::R,(k,u)::vs,h,x=>by
  obtain⟨h1,h2⟩:((Sum.inr a:Gc)=k/\RelV v u)/\KV (wK R) vs:=by cases h with|cons p q=>exact⟨p,q⟩
  obtain⟨rfl,_⟩:=h1
  rw[gY,gY,Bv h2 x]
  congr 1
  exact decide_eq_decide.mpr ⟨λz=>Sum.inr.inj z,λz=>congrArg Sum.inr z⟩
theorem Av{v:V}{u:cA}(hv:RelV v u)(x:Str):∀{R:List (Str×V)} {vs:List (Gc×cA)} (_:KV (wK R) vs),KV (wK (R.map λp=>if p.1=x then(p.1,v)else p)) (vs.map λkv=>if kv.1=Sum.inr x then(kv.1,u)else kv)
 | [],[],_=> .nil
 | [],_::_,h=>nomatch h
 | _::_,[],h=>nomatch h
 | (a,v0)::R,(k,u0)::vs,h=>by
  obtain⟨h1,h2⟩:((Sum.inr a:Gc)=k/\RelV v0 u0)/\KV (wK R) vs:=by cases h with|cons p q=>exact⟨p,q⟩
  obtain⟨rfl,h0⟩:=h1
  refine .cons ?_ (Av hv x h2)
  by_cases c:a=x
  ·subst c
   simp
   exact hv
  ·have b:¬(Sum.inr a:Gc)=Sum.inr x:=λz=>c (Sum.inr.inj z)
   simp only[if_neg c,if_neg b,true_and]
   exact h0
theorem Dc{R:List (Str×V)}{vs:List (Gc×cA)}{x:Str}{v:V}{u:cA}(h:KV (wK R) vs)(hv:RelV v u):KV (wK (Hc R x v)) (stored vs (Sum.inr x) u):=by
 unfold Hc stored;rw[Bv h x];split
 ·exact Av hv x h
 ·unfold wK;rw[cS];exact Paired.app h (.cons ⟨rfl,hv⟩ .nil)
theorem yY(R:List (Str×V))(x:Str)(v:V):(Hc R x v).length<=R.length+1:=by
 unfold Hc;split
 ·rw[cx];omega
 ·rw[dq];exact cI _
theorem xH(R:List (Str×V))(x y:Str)(v:V):Ep (Hc R x v) y=if y=x then some v else Ep R y:=by
 unfold Hc;split
 ·next c=>
  induction R with
  | nil=>simp at c
  | cons p R f=>
   unfold Ep at f ⊢;rw[dN,j2,j2];by_cases e:p.1=x
   ·rw[if_pos e];by_cases d:y=x
    ·subst d;simp[e]
    ·have g:decide (p.1=y)=false:=decide_eq_false λz=>d (z.symm.trans e)
     simp only[g,if_neg d];by_cases a:R.any (λp=>decide (p.1=x))=true
     ·rw[f a,if_neg d]
     ·have:(R.map λp=>if p.1=x then(p.1,v)else p)=R:=by
       refine(fF λq b=>?_).trans (List.map_id R);rw[if_neg (λz=>a (i3.mpr ⟨q,b,decide_eq_true z⟩))];rfl
      rw[this]
   ·rw[if_neg e];have a:R.any (λp=>decide (p.1=x))=true:=by
     rw[gY,decide_eq_false e,pT]at c;exact c
    by_cases d:p.1=y
    ·have:¬y=x:=λz=>e (d.trans z)
     simp only[decide_eq_true d,if_neg this]
    ·simp only[decide_eq_false d];exact f a
 ·next c=>
  unfold Ep;rw[List.find?_append];by_cases d:y=x
  ·subst d;have:R.find? (λp=>decide (p.1=y))=none:=List.find?_eq_none.mpr λq b z=>c (i3.mpr ⟨q,b,z⟩)
   rw[this];simp
  ·rw[if_neg d]
   cases h:R.find? (λp=>decide (p.1=y))with
   | some q=>simp
   | none=>simp[Ne.symm d]
section
variable{X:Cx}
def LT:TE:=λ_ H Q=>∀p,H p=none->Q (.ref p) (upd H p (.dK (wK [])))
theorem CN{pos:Pos}:PE X (.Dict [] [] pos) LT:=λb s c H Q I h=>
 oa ⟨.ref s.heap.objs.size,_,I.laid (a:=s.heap.objs.size) (o:= .dK []) (t':=s.toks) (λ_ _ q=>cF _ q) (cI _)
  (show ObjOk X.prog X.w _ _ _ (.dK [])from⟨du _,beq_eq_false_iff_ne.mpr (Ne.symm (df I.bigS)),[],.nil,rm s.heap⟩),rfl,h _ (I.hok.fresh (cI _))⟩
theorem x6(P:cT)(w:dc)(x:Str)(t:Tok):(GE P w).is (Sum.inr x) (.str x t)=true:=show(x==x)=true from beq_self_eq_true _
def JZ:R2:=λx y H Q=>∃(d:cG) (R:List (Str×V)) (z:Str),x = .str z/\y = .ref d/\H d=some (.dK (wK R))/\Q (.bl (!(Ep R z).isSome)) H
theorem Bt{a:Option V}{b:Option cA}(h:RelO a b):b.isSome=a.isSome:=by
 cases a <;> cases b <;> first|rfl|cases h
theorem Bl:Fv X (compareOp .NotIn) JZ:=by
 intro j s k H x y v u Q I e c h;obtain⟨d,R,z,rfl,rfl,f,q⟩:=h;obtain⟨t,rfl⟩:=e
 cases c;obtain⟨_,a,vs,b,g⟩:=(show ObjOk X.prog X.w H s.heap d (.dK (wK R))from I.hok d _ f);refine wpAny_notIn_of (x6 X.prog X.w z t) a g.mapOf ?_;rw[Bt (vj b z)];exact⟨.bl _,H,I.tok _,rfl,q⟩
def Mz:R2:=λx y H Q=>∃(d:cG) (R:List (Str×V)) (z:Str) (v:V),x = .ref d/\y = .str z/\H d=some (.dK (wK R))/\Ep R z=some v/\Q v H
theorem Eb:IxR X Mz:=by
 intro e f p s B H x y v u Q I m k h j;obtain⟨d,R,z,r,rfl,rfl,n,A,q⟩:=h
 cases m;obtain⟨t,rfl⟩:=k;obtain⟨_,o,vs,b,c⟩:=(show ObjOk X.prog X.w H s.heap d (.dK (wK R))from I.hok d _ n);obtain⟨l,g,a⟩:=RelO.some_of (v:=r) (by rw[<-A];exact vj b z);refine js (x:=l) c.typeIs PySem.F.slot_dict_getitem.lookup ?_ j;exact wpAny_getItem_of (x6 X.prog X.w z t) c.mapOf g ⟨rfl,r,H,I.tok _,a,q⟩
def Li:V->V->V->Hp->(Hp->Prop)->Prop:=λo i v H Q=>∃(d:cG) (R:List (Str×V)) (x:Str),o = .ref d/\i = .str x/\H d=some (.dK (wK R))/\R.length<1000/\Q (upd H d (.dK (wK (Hc R x v))))
theorem D3:J1 X Li:=by
 intro B s K H o i v J F u Q I C n k h;obtain⟨d,R,x,rfl,rfl,j,L,q⟩:=h
 cases C;obtain⟨t,rfl⟩:=n;obtain⟨G,g,vs,c,y⟩:=(show ObjOk X.prog X.w H s.heap d (.dK (wK R))from I.hok d _ j);have E:=Paired.len c;have D:(wK R).length=R.length:=by unfold wK;rw[cx]
 refine wpAny_setItem_pairs (hsz:=by omega) (x6 X.prog X.w x t) y λm f l=>?_
 have r:∃a,m.get? d=some a:=let⟨a,_,_,p,_⟩:=f;⟨a,p⟩;refine⟨_,I.write (x:=d) (e:=d) (by rw[j];trivial) (.inl rfl) (λb a A z=>(l.2 b A).trans z) r (show ObjOk X.prog X.w _ _ _ (.dK (wK (Hc R x v)))from⟨?_,g,_,Dc c k,f⟩),q⟩;unfold wK;rw[cx];have:=yY R x v;exact dB (Ed (by omega))
end
structure Mn(P:cT)(w:dc)(K:cu)(mg:Str->Option cA)(base:Heap)(CX:Ho)(k:Nat)(C:cG)(m:Str)(ps:List Str)(sp:Sp):Prop where
 ex:∃f fd,FnOk P w K mg base CX k f fd ps sp/\Jw K C m f/\Binds K fd ps []
def MDef(K:cu)(C:cG)(m q:Str)(st:Stmt):Prop:=∃f fd,Fun K m q st f fd/\Jw K C m f
section
variable{X:Cx}{CX:Ho}{k j:Nat}{C:cG}{m:Str}{ps:List Str}{sp:Sp}{E:XK}{pos apos p:Pos}{o e:Expr}{es:List Expr}{ta:TE}{t:TA}
theorem vK{pl:Sem Bool}(he:PE X o ta)(c:Cls X.K C)(D:Mn X.prog X.w X.K X.mg X.base CX k C m ps sp)(hr:Room j X.A)(hk:k<=j)(hx:EH CX X E)(ha:PA X (e::es) t)
  (hst:dh (e::es) X.env=(false,eval e X.env)::dh es X.env:=by rfl)(hpl:(backTo pos (dh es X.env)).any (·.1)=false:=by rfl)
  (ht:eval (.Call (.Attribute o m apos) (e::es) [] pos) X.env=(do
   let ov<-eval o X.env
   standAt apos.atName
   let(f,first)<-holding [ov] (getMethod ov m pl)
   callWith pos f first (backTo pos (dh (e::es) X.env)) (backToKw pos (keywordEach [] X.env))):=by rfl):
  PE X (.Call (.Attribute o m apos) (e::es) [] pos) (IB C m sp [] E ta t):=by
 obtain⟨f,d,F,a,b⟩:=D.ex
 exact Dh (pl:=pl) he c a F (hr.mono hk) b .nil hx ha hst hpl ht
theorem CQ{pl:Sem Bool}(he:PE X o ta)(c:Cls X.K C)(D:Mn X.prog X.w X.K X.mg X.base CX k C m ps sp)(hr:Room j X.A)(hk:k<=j)(hx:EH CX X E)
  (ht:eval (.Call (.Attribute o m apos) [] [] pos) X.env=(do
   let ov<-eval o X.env
   standAt apos.atName
   let(f,first)<-holding [ov] (getMethod ov m pl)
   callWith pos f first (backTo pos (dh [] X.env)) (backToKw pos (keywordEach [] X.env))):=by rfl):
  PE X (.Call (.Attribute o m apos) [] [] pos) (IB C m sp [] E ta Kz):=by
 obtain⟨f,d,F,a,b⟩:=D.ex
 exact B9 (pl:=pl) he c a F (hr.mono hk) b .nil hx ht
theorem Dy{pl:Sem Bool}(he:PE X.nox o ta)(c:Cls X.K C)(D:Mn X.prog X.w X.K X.mg X.base (FH X.prog X.w) k C m ps sp)(hr:Room j X.A)(hk:k<=j)(ha:PA X.nox (e::es) t)
  (hst:dh (e::es) X.env=(false,eval e X.env)::dh es X.env:=by rfl)(hpl:(backTo pos (dh es X.env)).any (·.1)=false:=by rfl)
  (ht:eval (.Call (.Attribute o m apos) (e::es) [] pos) X.env=(do
   let ov<-eval o X.env
   standAt apos.atName
   let(f,first)<-holding [ov] (getMethod ov m pl)
   callWith pos f first (backTo pos (dh (e::es) X.env)) (backToKw pos (keywordEach [] X.env))):=by rfl):
  MH X (.Call (.Attribute o m apos) (e::es) [] pos) (λE=>IB C m sp [] E ta t):=by
 intro g s M H Q E xe I R h
 obtain⟨f,fd,F,G,V⟩:=D.ex
 refine iz (pl:=pl) (gj (he g s M H _ (I.wish _) h) (λu O h1=>?_) λ_ _ z=>fj z) ht
 obtain⟨x,Z,J,P,a,dx,fs,ex,S,l,q⟩:=h1
 have B:=J.unwish
 subst ex
 obtain rfl:u=cR a:=P
 refine uc B S c G l ?_
 refine jf (first:=[.ref a]) (h₀:=X.base) I.ok.mod.kin G.kp (gj (ha pos g O M Z _ J q) (λn v h2=>?_) λ_ _ z=>fj z) hst hpl
 obtain⟨vs,y,b,r,N⟩:=h2
 have b:=b.unwish
 refine⟨b.kIn,?_⟩
 have L:sp (.ref a::vs) y Q E:=by rw[fV]at N;exact N
 have Y:(cR a::n).length=ps.length:=by
  have:=F.len _ _ _ _ L
  rw[dQ]at this ⊢
  rw[<-r.length]
  exact this
 have p:=V v (.ref a::n) b.kIn (by rw[fV];exact Y)
 rw[fV]at p
 refine iJ (iX (F.run X.A X.stack v y ⟨.ref a::n,[]⟩ (.ref a::n) (.ref a::vs) Q E (hr.mono hk) b.env0 p (.cons rfl r) L) λr T d=>?_)
 cases r with
 | error e=>exact R y v e T b d
 | ok U=>
  cases U with
  | ret u=>exact b.after d
  | next=>exact fj d
  | brk=>exact fj d
  | cont=>exact fj d
end
section
variable{P:cT}{w:dc}{K:cu}{mg:Str->Option cA}{base:Heap}
theorem MDef.ok{C:cG}{x q:Str}{st:Stmt}{N ps:List Str}{k:Nat}{sp:Sp}(F:MDef K C x q st)(S:Ef N ps (Ec st))(len:∀vs H Q E,sp vs H Q E->vs.length=ps.length)
  (hb:∀(kV doc pm:cA) (an:Option cG) (cdv ct:cA) (us:List cA),us.length=ps.length->bindArgs (f9 x q (Eo st) (Ek st) (Ec st) .none kV doc pm an cdv ct) ⟨us,[]⟩=pure (ps.zip us))
  (hbody:∀(f:cG) (cdv:cA) (A:dw) (outer:List Env) (s:cD) (H:Hp) (vs:List V) (Q:VK) (E:XK),Room k (A.deeper (envOfC q (Ec st) s.heap.objs.size f cdv))->sp vs H Q E->
   ∃t,PSs (G7 Em P w K mg base N q (Ec st) f cdv A outer s H E).nox (Ek st) t/\t {nx:=λ_ H'=>Q .non H',rt:=Q} (start N vs) H):Mn P w K mg base Em (k+1) C x ps sp:=by
 obtain⟨f,a,F,m⟩:=F
 exact⟨f,a,F.ok S len (hbody f),m,F.binds hb⟩
theorem MDef.okE{C:cG}{x q:Str}{st:Stmt}{N ps:List Str}{k:Nat}{sp:Sp}(F:MDef K C x q st)(S:Ef N ps (Ec st))(len:∀vs H Q E,sp vs H Q E->vs.length=ps.length)
  (hb:∀(kV doc pm:cA) (an:Option cG) (cdv ct:cA) (us:List cA),us.length=ps.length->bindArgs (f9 x q (Eo st) (Ek st) (Ec st) .none kV doc pm an cdv ct) ⟨us,[]⟩=pure (ps.zip us))
  (hbody:∀(f:cG) (cdv:cA) (A:dw) (outer:List Env) (s:cD) (H:Hp) (vs:List V) (Q:VK) (E:XK),Room k (A.deeper (envOfC q (Ec st) s.heap.objs.size f cdv))->sp vs H Q E->
   ∃t,PSs (HY P w K mg base N q (Ec st) f cdv A outer s H E) (Ek st) t/\t {nx:=λ_ H'=>Q .non H',rt:=Q} (start N vs) H):Mn P w K mg base (FH P w) (k+1) C x ps sp:=by
 obtain⟨f,g,F,m⟩:=F
 have a:=F.binds hb
 obtain⟨h,j,kV,doc,pm,an,cdv,ct,e,rfl,lk,b⟩:=F.ex
 exact⟨f,_,B1 lk b S len λA outer s H vs Q E d c=>hbody f cdv A outer s H vs Q E d c,m,a⟩
end
section
variable{X:Cx}{K:cu}
theorem vE{e:Expr}{f:Str}{pos:Pos}{ta:TE}(h:X.K=K)(he:PE X e ta)(hb:attributeBase e f X.env (eval e X.env)=eval e X.env):PE X (.Attribute e f pos) (LH K ta f):=by subst h;exact uG he hb
end
structure Bn(P:cT)(w:dc)(K:cu)(mg:Str->Option cA)(base:Heap)(CX:Ho)(k:Nat)(C:cG)(x:Str)(ps:List Str)(sp:Sp):Prop where
 ex:∃f fd,FnOk P w K mg base CX k f fd ps sp/\Mk K C f/\Binds K fd ps []/\mg x=some (.ref C)
def BDef(K:cu)(mg:Str->Option cA)(C:cG)(x q:Str)(st:Stmt):Prop:=∃f fd,Fun K "__init__" q st f fd/\Mk K C f/\mg x=some (.ref C)
section
variable{X:Cx}{CX:Ho}{k j:Nat}{C:cG}{x:Str}{ps:List Str}{sp:Sp}{E:XK}{pos p:Pos}{e:Expr}{es:List Expr}{t:TA}
theorem DS(D:Bn X.prog X.w X.K X.mg X.base CX k C x ps sp)(hr:Room j X.A)(hk:k+1<=j)(hg:Gl X x)(hx:EH CX X E)(ha:PA X (e::es) t)
  (hdb:(x==("__debug__":Str))=false:=by decide)(he:dh (e::es) X.env=(false,eval e X.env)::dh es X.env:=by rfl)(hpl:(backTo pos (dh es X.env)).any (·.1)=false:=by rfl):
  PE X (.Call (.Name x p) (e::es) [] pos) (Kg C sp [] E t):=by
 obtain⟨f,a,F,M,b,m⟩:=D.ex
 exact CO M F (hr.mono hk) hg m b .nil hx ha hdb he hpl
end
section
variable{P:cT}{w:dc}{K:cu}{mg:Str->Option cA}{base:Heap}
theorem BDef.okE{C:cG}{x q:Str}{st:Stmt}{N ps:List Str}{k:Nat}{sp:Sp}(F:BDef K mg C x q st)(S:Ef N ps (Ec st))(len:∀vs H Q E,sp vs H Q E->vs.length=ps.length)
  (hb:∀(kV doc pm:cA) (an:Option cG) (cdv ct:cA) (us:List cA),us.length=ps.length->bindArgs (f9 "__init__" q (Eo st) (Ek st) (Ec st) .none kV doc pm an cdv ct) ⟨us,[]⟩=pure (ps.zip us))
  (hbody:∀(f:cG) (cdv:cA) (A:dw) (outer:List Env) (s:cD) (H:Hp) (vs:List V) (Q:VK) (E:XK),Room k (A.deeper (envOfC q (Ec st) s.heap.objs.size f cdv))->sp vs H Q E->
   ∃t,PSs (HY P w K mg base N q (Ec st) f cdv A outer s H E) (Ek st) t/\t {nx:=λ_ H'=>Q .non H',rt:=Q} (start N vs) H):Bn P w K mg base (FH P w) (k+1) C x ps sp:=by
 obtain⟨f,g,F,M,m⟩:=F
 have a:=F.binds hb
 obtain⟨h,j,kV,doc,pm,an,cdv,ct,e,rfl,lk,b⟩:=F.ex
 exact⟨f,_,B1 lk b S len λA outer s H vs Q E d c=>hbody f cdv A outer s H vs Q E d c,M,a,m⟩
end
theorem zA:typeLookup (.type "zip") (fM "__len__")=pure none:=by kernel_rfl
theorem yn:typeLookup (.type "zip") (fM "__length_hint__")=pure none:=by kernel_rfl
theorem wI{prog:cT}{w:dc}{A:dw}{R:Result->cD->Prop}{z TI TO i1 i2 d:cG}{fp1 fp2:List cG}{n:Nat}{P1 P2:Nat->cA->Prop}{St1 St2:Nat->Heap->Prop}{res:cA}{J:Nat->List cG->cD->Prop}
  (D1:Draws prog w A.in1.in1 i1 fp1 n P1 St1)(D2:Draws prog w A.in1.in1 i2 fp2 n P2 St2)(ap:J7 z TI TO i1 i2 fp1 fp2)(hdz:d≠z)(hdTI:d≠TI)(hdTO:d≠TO)(hd1:d≠i1)(hd2:d≠i2)(hdf1:d∉fp1)(hdf2:d∉fp2)(hn:n<=1000)
  (hJ:∀i bs (s:cD) (h':Heap) tk x y,J i bs s->P1 i x->P2 i y->IsPair h' s.heap.objs.size x y->(∀c o,c≠z->c≠TO->c≠i1->c≠i2->c≠d->s.heap.get? c=some o->h'.get? c=some o)->J (i+1) (bs++[s.heap.objs.size]) {s with heap:=h',toks:=tk})
  (hE:∀bs (s:cD) (h':Heap),J n bs s->(∀c o,c≠z->c≠i1->s.heap.get? c=some o->h'.get? c=some o)->J n bs {s with heap:=h'}):
  ∀(k i:Nat) (s:cD) (T:cG) (bs:List cG) (c:Nat),n-i=k->i<=n->Ln s.heap z TI TO T->T≠z->T≠i1->T≠i2->(IsZip s.heap z TI TO .none\/T≠d)->IsPair s.heap TI (.ref i1) (.ref i2)->St1 i s.heap->St2 i s.heap->
   s.heap.get? d=some {cls:= .type "list",data:= .seq (bs.map cR).toArray c}->bs.length=i->J i bs s->
   (∀(s':cD) (bs':List cG) (c':Nat),J n bs' s'->s'.heap.get? d=some {cls:= .type "list",data:= .seq (bs'.map cR).toArray c'}->bs'.length=n->R (.ok (.ret res)) s')->
   codeAny (model prog w) A (Code.builtin "list.extend.loop" {pos:=[.ref d,.ref z,res],kw:=[]}) R s:=by
 intro k
 induction k with
 | zero=>
  intro i s T bs c hk hi U Y P L aa p I X M W S hR
  have e:i=n:=by omega
  subst e
  have ht:s.TypeIs (.ref z) "zip":=by
   rcases U with⟨q,_⟩|⟨Z,o,q,_⟩
   ·exact⟨_,q,rfl⟩
   ·exact⟨_,q,rfl⟩
  refine eY mr ?_
  rw[fY i8]
  unfold Builtin.«list.extend.loop»
  have N:wpAny (model prog w) A.in1 (pyNext (.ref z)) (λr s'=>r=none/\∃h',s'={s with heap:=h'}/\∀c o,c≠z->c≠i1->s.heap.get? c=some o->h'.get? c=some o) (λ_ _=>False) s:=by
   refine ub ht ?_
   rcases U with⟨q,a,b,O⟩|q
   ·refine Be D1 ap.i1z ap.z1 q p O I λh' e g D=>⟨?_,rfl,h',rfl,g⟩
    obtain⟨o,D,G⟩:=D
    exact⟨e,o,rfl,D,G⟩
   ·refine BR D1 ap.z1 q Y p I λh' e g D=>⟨?_,rfl,h',rfl,g⟩
    obtain⟨o,D,G⟩:=D
    exact⟨e,o,rfl,D,G⟩
  refine cr (gj N (λr s' q=>?_) (λ_ _ z=>z.elim))
  obtain⟨rfl,h',rfl,g⟩:=q
  dsimp only
  exact cv (hR _ bs c (hE bs s h' S g) (g d _ hdz hd1 M) W)
 | succ k ih=>
  intro i s T bs c hk hi U Y P L aa p I X M W S hR
  have H:i<n:=by omega
  have ht:s.TypeIs (.ref z) "zip":=by
   rcases U with⟨q,_⟩|⟨Z,o,q,_⟩
   ·exact⟨_,q,rfl⟩
   ·exact⟨_,q,rfl⟩
  have K:∀b o,s.heap.get? b=some o->b≠s.heap.objs.size:=λb o q=>df (cQ q)
  refine eY mr ?_
  rw[fY i8]
  unfold Builtin.«list.extend.loop»
  have N:wpAny (model prog w) A.in1 (pyNext (.ref z)) (λr s'=>r=some (.ref s.heap.objs.size)/\∃h' tk C x y,s'={s with heap:=h',toks:=tk}/\P1 i x/\P2 i y/\E6 h' z TI TO C/\C≠z/\C≠i1/\C≠i2/\C≠d/\St1 (i+1) h'/\St2 (i+1) h'/\IsPair h' s.heap.objs.size x y/\
    ∀c o,c≠z->c≠TO->c≠i1->c≠i2->s.heap.get? c=some o->h'.get? c=some o) (λ_ _=>False) s:=by
   refine ub ht ?_
   rcases U with⟨q,a,b,O⟩|q
   ·refine gj (yV D1 D2 ap q p O I X H H (E:=λ_ _=>False) (Q:=λv s'=>v = .ref s.heap.objs.size/\∃h' tk x y,s'={s with heap:=h',toks:=tk}/\P1 i x/\P2 i y/\IsZip h' z TI TO (rawInt s.heap.objs.size)/\St1 (i+1) h'/\St2 (i+1) h'/\IsPair h' s.heap.objs.size x y/\∀c o,c≠z->c≠TO->c≠i1->c≠i2->s.heap.get? c=some o->h'.get? c=some o) λx y h' tk u B l ai j h f af g=>⟨rfl,h',tk,x,y,rfl,u,B,l,j,h,f,g⟩) (λfin s' hq=>?_) (λ_ _ z=>z.elim)
    obtain⟨v,e,rfl,h',tk,x,y,rfl,u,B,l,j,h,f,g⟩:=hq
    obtain⟨o1,V⟩:=D1.live _ _ I
    obtain⟨o2,ah⟩:=D2.live _ _ X
    exact⟨_,e,rfl,h',tk,s.heap.objs.size,x,y,rfl,u,B,⟨false,_,l,f⟩,Ne.symm (K _ _ q),Ne.symm (K _ _ V),Ne.symm (K _ _ ah),Ne.symm (K _ _ M),j,h,f,g⟩
   ·have ad:T≠d:=by
     rcases aa with z0|z0
     ·obtain⟨Z,o,V,_⟩:=q
      have z1:=V.symm.trans z0
      have:=congrArg (λo=>o.map Obj.data) z1
      simp[rawInt]at this
     ·exact z0
    refine gj (Bq D1 D2 ap q Y P L p I X H H (E:=λ_ _=>False) (Q:=λv s'=>v = .ref s.heap.objs.size/\∃h' tk x y,s'={s with heap:=h',toks:=tk}/\P1 i x/\P2 i y/\E6 h' z TI TO T/\St1 (i+1) h'/\St2 (i+1) h'/\IsPair h' s.heap.objs.size x y/\∀c o,c≠z->c≠i1->c≠i2->s.heap.get? c=some o->h'.get? c=some o) λx y h' tk u B l j h f af g=>⟨rfl,h',tk,x,y,rfl,u,B,l,j,h,f,g⟩) (λfin s' hq=>?_) (λ_ _ z=>z.elim)
    obtain⟨v,e,rfl,h',tk,x,y,rfl,u,B,l,j,h,f,g⟩:=hq
    exact⟨_,e,rfl,h',tk,T,x,y,rfl,u,B,l,Y,P,L,ad,j,h,f,λc o c1 _ c3 c4 q=>g c o c1 c3 c4 q⟩
  refine cr (gj N (λr s' q=>?_) (λ_ _ z=>z.elim))
  obtain⟨rfl,h',tk,C,x,y,rfl,u,B,l,t1,t2,t3,t4,j,h,f,g⟩:=q
  dsimp only
  have ab:h'.get? d=some {cls:= .type "list",data:= .seq (bs.map cR).toArray c}:=g d _ hdz hdTO hd1 hd2 M
  have ae:s.heap.objs.size≠d:=Ne.symm (K _ _ M)
  refine cr (ix (s:={s with heap:=h',toks:=tk}) ab rfl ?_ (by simp;exact dB (Ed (by omega))) (by simp;have:=Ed (n:=bs.length) (by omega);omega))
  refine cv ⟨jK i8 _,?_⟩
  have up:=hO (show IsL h' d (bs.map cR).toArray c from ab) (λt=>t.push (.ref s.heap.objs.size))
  have m:∀b,b≠d->(h'.update d (d2 λt=>t.push (.ref s.heap.objs.size))).get? b=h'.get? b:=λb hb=>fk h' _ (Ne.symm hb)
  have ac:IsPair (h'.update d (d2 λt=>t.push (.ref s.heap.objs.size))) TI (.ref i1) (.ref i2):=(m TI (Ne.symm hdTI)).trans (g TI _ ap.TIz ap.TITO ap.TIi1 ap.TIi2 p)
  obtain⟨Z,oT,V,O⟩:=l
  obtain⟨c',ag⟩:∃c',(h'.update d (d2 λt=>t.push (.ref s.heap.objs.size))).get? d=some {cls:= .type "list",data:= .seq ((bs++[s.heap.objs.size]).map cR).toArray c'}:=⟨_,up.trans (by rw[cS];simp only[List.push_toArray];rfl)⟩
  refine ih (i+1) {s with heap:=h'.update d (d2 λt=>t.push (.ref s.heap.objs.size)),toks:=tk} C (bs++[s.heap.objs.size]) c' (by omega) (by omega) (.inr ⟨Z,oT,(m z (Ne.symm hdz)).trans V,(m C t4).trans O⟩) t1 t2 t3 (.inr t4) ac (D1.frame _ _ _ j λc G o q=>(m c (λe=>hdf1 (e▸G))).trans q) (D2.frame _ _ _ h λc G o q=>(m c (λe=>hdf2 (e▸G))).trans q) ?_ (by rw[dq,W];rfl) ?_ hR
  ·exact ag
  ·exact hJ i bs s _ tk x y S u B ((m _ ae).trans f) λc o c1 c2 c3 c4 c5 q=>(m c c5).trans (g c o c1 c2 c3 c4 q)
theorem w4{prog:cT}{w:dc}{A:dw}{E:cA->cD->Prop}{s:cD}{z TI TO i1 i2 l1 l2:cG}{t1 t2:Bool}{xs ys:Array cA}{Q:cA->cD->Prop}{J:Nat->List cG->cD->Prop}(hh:A.handled=none)
  (ap:ZipB z TI TO i1 i2 l1 l2)(hz:IsZip s.heap z TI TO .none)(hTI:IsPair s.heap TI (.ref i1) (.ref i2))(hTO:IsPair s.heap TO .none .none)(s1:Itx s.heap t1 i1 l1 0)(s2:Itx s.heap t2 i2 l2 0)(h1:Sqx s.heap t1 l1 xs)(h2:Sqx s.heap t2 l2 ys)(hsz:xs.size=ys.size)(hn:xs.size<=1000)
  (hJ:∀i bs (s':cD) (h':Heap) tk x y,J i bs s'->xs[i]?=some x->ys[i]?=some y->IsPair h' s'.heap.objs.size x y->(∀c o,c≠z->c≠TO->c≠i1->c≠i2->c≠s.heap.objs.size->s'.heap.get? c=some o->h'.get? c=some o)->J (i+1) (bs++[s'.heap.objs.size]) {s' with heap:=h',toks:=tk})
  (hE:∀bs (s':cD) (h':Heap),J xs.size bs s'->(∀c o,c≠z->c≠i1->s'.heap.get? c=some o->h'.get? c=some o)->J xs.size bs {s' with heap:=h'})
  (hJ0:∀(h':Heap) (tk:Nat),(∀c o,c≠s.heap.objs.size->s.heap.get? c=some o->h'.get? c=some o)->s.heap.objs.size<h'.objs.size->J 0 [] {s with heap:=h',toks:=tk})
  (hQ:∀(s':cD) (bs:List cG) (c:Nat),J xs.size bs s'->s'.heap.get? s.heap.objs.size=some {cls:= .type "list",data:= .seq (bs.map cR).toArray c}->bs.length=xs.size->Q (.ref s.heap.objs.size) s'):
  wpAny (model prog w) A (call (.type "list") [.ref z]) Q E s:=by
 refine callType_codes F.called_list (F.typeCall_list_1 _) F.entry_list_init (code_list_new (.ref z) (Q₁:=λv s1=>v = .ref s.heap.objs.size/\s1=_) ⟨rfl,rfl⟩) λM H a=>?_
 obtain⟨rfl,rfl⟩:=a
 have f:(s.heap.push {cls:=dL "list",data:=iL #[]}).get? s.heap.objs.size=some {cls:=dL "list",data:=iL #[]}:=cN _ rfl
 have d:∀b o,s.heap.get? b=some o->b≠s.heap.objs.size:=λb o q=>df (cQ q)
 have G:∀b o,s.heap.get? b=some o->(s.heap.push {cls:=dL "list",data:=iL #[]}).get? b=some o:=λb o q=>cF _ q
 refine⟨⟨_,f,rfl⟩,F.args_list_init_2 _ _,?_⟩
 unfold Builtin.«list.__init__»
 dsimp only
 refine cP rfl (cP (by simp) ?_)
 refine cr (wpAny_listItems f rfl ?_)
 refine cr (ix f rfl ?_ (by simp) (by simp))
 have t:=hO (show IsL _ s.heap.objs.size #[] 0 from f) (λ_=> #[])
 generalize hh1:(s.heap.push {cls:=dL "list",data:=iL #[]}).update s.heap.objs.size (d2 λ_=> #[])=g1 at t
 have j:∀b o,s.heap.get? b=some o->g1.get? b=some o:=λb o q=>by rw[<-hh1];exact(fk _ _ (Ne.symm (d b o q))).trans (G b o q)
 refine cr (kE ?_)
 unfold f5
 refine cr (ij (T:="zip") ⟨_,j _ _ hz,rfl⟩ ?_)
 refine cP (by
  refine decide_eq_false ?_
  show ¬((s.heap.objs.size==z)||_||_)=true
  rw[beq_eq_false_iff_ne.mpr (Ne.symm (d _ _ hz))]
  decide) ?_
 refine cr (ld (j _ _ hz) ?_)
 refine cr (dG ?_)
 unfold iG
 refine cr (gg (T:="zip") ⟨_,j _ _ hz,rfl⟩ zA ?_)
 dsimp only
 refine cP rfl (cP rfl ?_)
 refine cr (gg (T:="zip") ⟨_,j _ _ hz,rfl⟩ yn ?_)
 refine cv ?_
 refine iT rfl (cr (iR ?_))
 unfold lA
 refine cr (cr (ix (s:={s with heap:=g1}) t rfl ?_ (by simp) (by simp)))
 have r:=hO t (λx=>x.push cA.none)
 generalize hh2:g1.update s.heap.objs.size (d2 λx=>x.push cA.none)=g2 at r
 have D:∀b o,s.heap.get? b=some o->g2.get? b=some o:=λb o q=>by rw[<-hh2];exact(fk _ _ (Ne.symm (d b o q))).trans (j b o q)
 refine ix (s:={s with heap:=g2}) r rfl ?_ (by show 1<=sizeLine;decide) (by simp)
 have p:=hO r (λx=>x.pop)
 generalize hh3:g2.update s.heap.objs.size (d2 λx=>x.pop)=g3 at p
 have g:∀b o,s.heap.get? b=some o->g3.get? b=some o:=λb o q=>by rw[<-hh3];exact(fk _ _ (Ne.symm (d b o q))).trans (D b o q)
 refine cv ⟨jK i8 _,?_⟩
 have u:∃o,s.heap.get? i1=some o:=by obtain⟨vs,n,e|⟨o,e,_⟩⟩:=s1.get <;> exact⟨_,e⟩
 have B:∃o,s.heap.get? i2=some o:=by obtain⟨vs,n,e|⟨o,e,_⟩⟩:=s2.get <;> exact⟨_,e⟩
 obtain⟨N,l⟩:=u
 obtain⟨O,m⟩:=B
 have k:∀b,b<s.heap.objs.size->s.heap.objs.size≠b:=λb h=>Ne.symm (df h)
 have I:Draws prog w A.in1.in1.in1 i2 [i2,l2] xs.size (λi v=>ys[i]?=some v) (λi h=>Itx h t2 i2 l2 i/\Sqx h t2 l2 ys):=by
  rw[hsz]
  exact tY (A:=A.in1.in1.in1) hh t2 i2 l2 ap.l2j ys
 refine wI (A:=A.in1) (J:=J) (tY (A:=A.in1.in1.in1) hh t1 i1 l1 ap.l1i xs) I ap.a (Ne.symm (d _ _ hz)) (Ne.symm (d _ _ hTI)) (Ne.symm (d _ _ hTO)) (Ne.symm (d _ _ l)) (Ne.symm (d _ _ m)) (by simp[Ne.symm (d _ _ l),k _ h1.lt]) (by simp[Ne.symm (d _ _ m),k _ h2.lt]) hn hJ hE
  xs.size 0 {s with heap:=g3} (s.heap.objs.size+1) [] _ (by simp) (du _) (.inl ⟨g _ _ hz,_,_,g _ _ hTO⟩) ?_ ?_ ?_ (.inl (g _ _ hz)) (g _ _ hTI) ⟨s1.keep λo q=>g _ _ q,h1.keep λo q=>g _ _ q⟩ ⟨s2.keep λo q=>g _ _ q,h2.keep λo q=>g _ _ q⟩ p rfl (hJ0 g3 s.toks (λc o _ q=>g c o q) (cQ p)) λs' bs c C L K=>⟨rfl,hQ s' bs c C L K⟩
 ·exact Ne.symm (df (dz (cQ hz)))
 ·exact Ne.symm (df (dz (cQ l)))
 ·exact Ne.symm (df (dz (cQ m)))
structure ZJ(xs ys:Array cA)(s1:cD)(d N:Nat)(z TO i1 i2:cG)(i:Nat)(bs:List cG)(s':cD):Prop where
 at':∀(j:Nat) (t:cG),bs[j]?=some t->∃x y,xs[j]?=some x/\ys[j]?=some y/\IsPair s'.heap t x y
 keep:∀b o,s1.heap.get? b=some o->s'.heap.get? b=some o
 ge:∀t∈bs,s1.heap.objs.size<=t
 ne:∀t∈bs,t≠z/\t≠TO/\t≠i1/\t≠i2/\t≠d
 nd:bs.Nodup
 sz:i<xs.size->N<s'.heap.objs.size
 gens:s'.gens=s1.gens
 drawn:s'.drawn=s1.drawn
 os:s'.os=s1.os
 len:bs.length=i
def G5(H:Hp)(d:cG)(bs:List cG)(xs ys:List V):Hp:=λa=>if a=d then some (.lst (bs.map V.ref))else
 if a∈bs then some (.tup [xs.getD (bs.idxOf a) .non,ys.getD (bs.idxOf a) .non])else H a
def JI(K:cu)(ta:TA):TE:=λσ H Q=>ta σ H λvs H1=>∃(t1 t2:Bool) (a b:cG) (xs ys:List V),vs=[.ref a,.ref b]/\Jd K H1 t1 a xs/\Jd K H1 t2 b ys/\xs.length=ys.length/\xs.length<=1000/\
 ∀(l:cG) (ts:List cG) (H':Hp),Same H1 H'->H1 l=none->H' l=some (.lst (ts.map V.ref))->ts.length=xs.length->(∀(i:Nat) (t:cG) (x y:V),ts[i]?=some t->xs[i]?=some x->ys[i]?=some y->H' t=some (.tup [x,y]))->Q (.ref l) H'
theorem y9{X:Cx}{a b:Expr}{ta:TA}{p p2 pos pos2:Pos}(hc:X.calm=true)(h1:Gl X "list")(m1:X.mg "list"=none)(h2:Gl X "zip")(m2:X.mg "zip"=none)(ha:PA X [a,b] ta)
  (hs:dh [a,b] X.env=[(false,eval a X.env),(false,eval b X.env)]:=by rfl)(hs2:dh [b] X.env=[(false,eval b X.env)]:=by rfl):PE X (.Call (.Name "list" p) [.Call (.Name "zip" p2) [a,b] [] pos2] [] pos) (JI X.K ta):=by
 intro ab s σ H Q I h
 refine fI (tP I h1 m1 Boot.list ?_)
 refine d7 ?_ rfl rfl
 show wpAny _ _ (spliced ((false,eval (.Call (.Name "zip" p2) [a,b] [] pos2) X.env)::[])) _ _ s
 refine fH ?_
 refine rd (tP I h2 m2 lU (d7 (En (ha pos2 ab s σ H _ I h) λus z ⟨vs,L,N,r1,q1⟩=>?_) (by rw[hs,hs2]) (by rw[hs2];rfl)))
 obtain⟨t1,t2,l1,l2,C,E,e,hx,hy,aD,aF,q⟩:=q1
 subst e
 obtain⟨u,v,rfl,ru,rv⟩:=Jh r1
 cases ru
 cases rv
 obtain⟨D,af,p1⟩:=N.sqx hx
 obtain⟨U,ak,p2⟩:=N.sqx hy
 have hA:X.A.handled=none:=N.ok.hd hc
 have aB:C.length=D.length:=af.length
 have aE:E.length=U.length:=ak.length
 refine xU p1 p2 λm hz ax aq ar au G kk=>?_
 refine cv ?_
 refine w4 (s:={z with heap:=m}) (J:=ZJ D.toArray U.toArray z m.objs.size m.objs.size (z.heap.objs.size+4) (z.heap.objs.size+3) z.heap.objs.size (z.heap.objs.size+1)) hA (yA p1.lt p2.lt) hz ax aq ar au (p1.keep λo q=>kk _ _ q) (p2.keep λo q=>kk _ _ q) (by simp;omega) (by simp;omega)
  (λi f O h2 tk x y J px py aa r=>?_) (λf O h2 J r=>?_) (λh2 tk r aA=>?_) (λO f c J hd ay=>?_)
 ·have aC:∀t∈f,t<O.heap.objs.size:=λt d=>by
   obtain⟨j,g⟩:=iA.mp d
   obtain⟨_,_,_,_,e⟩:=J.at' j t g
   exact cQ e
  have ao:i<D.toArray.size:=(kq.mp px).1
  have B:=J.sz ao
  have am:O.heap.objs.size<h2.objs.size:=cQ aa
  have W:∀k,k<=5->O.heap.objs.size≠z.heap.objs.size+k:=λk hk=>ie (eQ (by rw[G];exact Nat.add_le_add_left hk _) B)
  refine⟨λj t g=>?_,λb o e=>?_,λt d=>?_,λt d=>?_,?_,λ_=>lB B am,J.gens,J.drawn,J.os,by rw[dq,J.len];rfl⟩
  ·by_cases ag:j<f.length
   ·rw[gO ag]at g
    obtain⟨Z,Y,T,P,S⟩:=J.at' j t g
    have F:=J.ne t (da g)
    exact⟨Z,Y,T,P,r t _ F.1 F.2.1 F.2.2.1 F.2.2.2.1 F.2.2.2.2 S⟩
   ·have ac:j=f.length:=by
     have:=(cL.mp g).1
     rw[dq,eU]at this
     omega
    rw[ac,eZ (cI _),il]at g
    have e0:O.heap.objs.size=t:=Option.some.inj g
    rw[ac,J.len,<-e0]
    exact⟨x,y,px,py,aa⟩
  ·have hb:=cQ e
   have M:∀k,b≠z.heap.objs.size+k:=λk=>df (cU hb (gG _ _))
   exact r b o (M 4) (M 3) (M 0) (M 1) (by show b≠m.objs.size;rw[G];exact M 5) (J.keep b o e)
  ·rcases dJ.mp d with d|d
   ·exact J.ge t d
   ·rw[cK.mp d]
    exact dB (eQ (by rw[G];exact gG _ _) B)
  ·rcases dJ.mp d with d|d
   ·exact J.ne t d
   ·rw[cK.mp d]
    exact⟨W 4 (by decide),W 3 (by decide),W 0 (by decide),W 1 (by decide),ie B⟩
  ·refine gv.mpr ⟨J.nd,by simp,λa ha b hb e=>?_⟩
   rw[cK.mp hb]at e
   exact absurd e (df (aC a ha))
 ·refine⟨λj t g=>?_,λb o e=>?_,J.ge,J.ne,J.nd,λR=>absurd R (dt _),J.gens,J.drawn,J.os,J.len⟩
  ·obtain⟨Z,Y,T,P,S⟩:=J.at' j t g
   have F:=J.ne t (da g)
   exact⟨Z,Y,T,P,r t _ F.1 F.2.2.1 S⟩
  ·have hb:=cQ e
   have M:∀k,b≠z.heap.objs.size+k:=λk=>df (cU hb (gG _ _))
   exact r b o (M 4) (M 0) (J.keep b o e)
 ·refine⟨λj t g=>by simp at g,λb o e=>r b o ?_ (kk b o e),(λt d=>nomatch d),(λt d=>nomatch d),.nil,(λ_=>aA),rfl,rfl,rfl,rfl⟩
  show b≠m.objs.size
  rw[G]
  exact df (cU (cQ e) (gG _ _))
 ·obtain⟨ad,g2,az,aw,an⟩:=O
  have T:g2=z.gens:=J.gens
  have P:az=z.drawn:=J.drawn
  have S:an=z.os:=J.os
  subst T P S
  have ae:z.heap.objs.size<=m.objs.size:=by rw[G];exact gG _ _
  have ah:∀a,a<z.heap.objs.size->G5 L m.objs.size f C E a=L a:=λa ha=>by
   unfold G5
   rw[if_neg (df (cU ha ae)),if_neg (λR=>absurd (cU ha (J.ge a R)) (dt _))]
  have trk:∀a o,L a=some o->G5 L m.objs.size f C E a=some o:=λa o e=>by rw[ah a (N.hok.lt e)];exact e
  have al:f.length=D.length:=by rw[ay];simp
  have ap:m.objs.size∉f:=λR=>(J.ne _ R).2.2.2.2 rfl
  have tp:∀(i:Nat) (t:cG) (x y:V),f[i]?=some t->C[i]?=some x->E[i]?=some y->G5 L m.objs.size f C E t=some (.tup [x,y]):=λi t x y d hx hy=>by
   have hm:=da d
   have hi:i<f.length:=(cL.mp d).1
   have ei:f.idxOf t=i:=by
    have h3:=(cL.mp d).2
    rw[<-h3]
    exact J.nd.idxOf_getElem i hi
   unfold G5
   rw[if_neg (λ(R:t=m.objs.size)=>ap (by rw[<-R];exact hm)),if_pos hm,ei,cC,cC,hx,hy]
   rfl
  have vr:∀l:List cG,Vals (l.map V.ref) (l.map cR):=λl=>by
   induction l with
   | nil=>exact .nil
   | cons a l ih=>exact .cons rfl ih
  have av:HOk X.prog X.w (G5 L m.objs.size f C E) ad:=λa o e=>by
   by_cases c1:a=m.objs.size
   ·subst c1
    unfold G5 at e
    rw[if_pos rfl]at e
    cases e
    exact⟨by rw[cx];exact dB (Ed (by omega)),_,c,vr f,hd⟩
   ·by_cases c2:a∈f
    ·obtain⟨j,g⟩:=iA.mp c2
     obtain⟨Z,Y,T,P,S⟩:=J.at' j a g
     have ag:j<f.length:=(cL.mp g).1
     have ai:C[j]?=some C[j]:=cz (by omega)
     have aj:E[j]?=some E[j]:=cz (by omega)
     rw[tp j a _ _ g ai aj]at e
     cases e
     obtain⟨u,hu,ru⟩:=af.get ai
     obtain⟨v,hv,rv⟩:=ak.get aj
     have eu:u=Z:=by
      have:D[j]?=some Z:=by simpa using T
      rw[hu]at this
      exact Option.some.inj this
     have ev:v=Y:=by
      have:U[j]?=some Y:=by simpa using P
      rw[hv]at this
      exact Option.some.inj this
     subst eu ev
     exact⟨by show 2<=sizeLine;decide,[u,v],.cons ru (.cons rv .nil),⟨_,S,rfl,_,rfl⟩⟩
    ·have e':L a=some o:=by
      unfold G5 at e
      rw[if_neg c1,if_neg c2]at e
      exact e
     exact(N.hok a o e').stay (λb u _ q=>J.keep b u q) (λb q=>trk b _ q) λb C q=>trk b _ q
  have I2:Inv X ab σ (G5 L m.objs.size f C E) {z with heap:=ad,toks:=aw}:=N.un ⟨λb o e n _ _=>J.keep b o e,λb o e n _ _=>⟨o.slots,J.keep b o e⟩,λb o e n _=>by rw[ah b (cQ e)];exact n,λb o e _=>⟨o,J.keep b o e⟩,λb C e=>trk b _ e,λb o u e=>trk b _ e,λb ps e=>⟨#[],by rw[trk b _ e];simp⟩⟩ av
  refine⟨.ref m.objs.size,_,I2,rfl,q m.objs.size f _ (λb o e=>trk b o e) (N.hok.fresh ae) ?_ (by rw[al,aB]) tp⟩
  unfold G5
  rw[if_pos rfl]
structure Wd(z:Str):Prop where
 lo:1<=z.length
 hi:z.length<=12
 cs:∀c∈z.cps.toList,97<=c/\c<=122
structure Roll(ws:List Str):Prop where
 lo:1<=ws.length
 hi:ws.length<=6
 wd:∀w∈ws,Wd w
 nd:ws.Nodup
def GM(z:Str):Prop:=∀c∈z.cps.toList,c<128
def Ev(z:Str):Bool:=decide (1<=z.length/\z.length<=12)&&z.cps.toList.all λc=>decide (97<=c)&&decide (c<=122)
def EV(ws:List Str):Bool:=decide (1<=ws.length/\ws.length<=6)&&ws.all Ev&&decide ws.Nodup
theorem wn{z:Str}:Ev z=true↔Wd z:=by
 unfold Ev;rw[dn,decide_eq_true_iff,dZ];exact⟨λ⟨⟨a,b⟩,c⟩=>⟨a,b,λx d=>by simpa using c x d⟩,λw=>⟨⟨w.lo,w.hi⟩,λx d=>by have:=w.cs x d;simp[this]⟩⟩
theorem uj{ws:List Str}:EV ws=true↔Roll ws:=by
 unfold EV;rw[dn,dn,decide_eq_true_iff,decide_eq_true_iff,dZ];exact⟨λ⟨⟨⟨a,b⟩,c⟩,d⟩=>⟨a,b,λx e=>wn.mp (c x e),d⟩,λr=>⟨⟨⟨r.lo,r.hi⟩,λx e=>wn.mpr (r.wd x e)⟩,r.nd⟩⟩
def Iy:Sp:=λvs H Q _=>∃z:Str,vs=[.str z]/\z.length<=1000/\GM z/\∀H',Same H H'->Q (.bl (Ev z)) H'
def IH(K:cu):Sp:=λvs H Q _=>∃(a:cG) (ws:List Str),vs=[.ref a]/\SqL K H a (ws.map V.str)/\ws.length<=60/\(∀w∈ws,w.length<=1000/\GM w)/\∀H',Same H H'->Q (.bl (EV ws)) H'
theorem wz{z:Str}(h:¬(1<=z.length/\z.length<=12)):Ev z=false:=by
 unfold Ev;rw[decide_eq_false h,jq]
theorem zg{z:Str}(h:1<=z.length/\z.length<=12):Ev z=z.cps.toList.all λc=>decide (97<=c)&&decide (c<=122):=by
 unfold Ev;rw[decide_eq_true h,pY]
theorem zt{ws:List Str}(h:¬(1<=ws.length/\ws.length<=6)):EV ws=false:=by
 unfold EV;rw[decide_eq_false h,jq,jq]
theorem xV{ws:List Str}(h:ws.all Ev=false):EV ws=false:=by
 unfold EV;rw[h,o3,jq]
theorem zG{ws:List Str}(h1:1<=ws.length/\ws.length<=6)(h:ws.all Ev=true):EV ws=decide (V.int (Fb ws ws.length:Nat)=V.int (ws.length:Nat)):=by
 unfold EV;rw[h,decide_eq_true h1,Bool.and_true,pY,decide_eq_decide];constructor
 ·intro r;rw[v9 r _ (cI _)]
 ·intro e;have a:Fb ws ws.length=ws.length:=by injection e with e1;omega
  refine dM λz=>?_
  have:=Bw (ws:=ws) (i:=ws.length) (cI _) (by rw[dj];exact z);omega
theorem Aa(t:Str):∀G:List Str,JA (.str t) (G.map V.str)=decide (t∈G)
 | []=>by simp[JA]
 | x::G=>by
  have a:=Aa t G
  unfold JA at a ⊢
  rw[dN,gY,a]
  by_cases h1:x=t
  ·subst h1
   simp[Ju]
  ·have:Ju (.str x) (.str t)=false:=beq_eq_false_iff_ne.mpr h1
   simp[Ju,h1,Ne.symm h1]
theorem AA(G:List Str):(G.map V.str).all FI=true:=by
 rw[dZ];intro v a;obtain⟨i,_,rfl⟩:=dv.mp a;rfl
theorem Reps.strs{K:cu}{H:Hp}:∀ns:List Str,Reps K H (ns.map V.str) (ns.map gM)
 | []=> .nil
 | n::ns=> .cons (.str n) (Reps.strs ns)
theorem vz:∀a b:List Str,jb (a.map gM) (b.map gM)=decide (a=b)
 | [],[]=>by simp[jb]
 | [],_::_=>by simp[jb]
 | _::_,[]=>by simp[jb]
 | x::a,y::b=>by
  simp only[dN,jb,gy,vz a b]
  by_cases h1:x=y <;> by_cases h2:a=b <;> simp[h1,h2]
theorem BP(a b:List Str):gy (.list (a.map gM)) (.list (b.map gM))=decide (a=b):=by
 rw[gy,vz]
theorem yF{x:Str}(h:GM x)(n:Nat):Gd n (.str x)=true:=by
 have h2:ga (.str x)=true:=by
  unfold ga iP;simp[iZ,PyData.strOk];intro i a;have:=h x.cps[i] (by simp);omega
 cases n <;> simpa [Gd]using h2
theorem yv{l:List Str}(h:∀w∈l,GM w):Gd 1 (.list (l.map gM))=true:=by
 show(l.map gM).all (Gd 0)=true;rw[dZ];intro d a;obtain⟨i,b,rfl⟩:=dv.mp a;exact yF (h i b) 0
theorem Ay{t y:Str}(h:GM t):∀w∈Txt.split t y,GM w:=λw a c b=>h c (by
 rw[<-mZ t y];exact(o4 y c _).mpr (.inl ⟨w,a,b⟩))
structure BookAt(C:cG)(H:Hp)(x d:cG)(ps ts:List Str)(R:List (Str×V)):Prop where
 ex:∃(dx pp pt:cG) (op ot:Obj),H x=some (.ins C dx [("people",.ref pp),("things",.ref pt),("wishes_told",.ref d)])/\H pp=some (.frz op (.tup (ps.map V.str)))/\op.dict=none/\
  H pt=some (.frz ot (.tup (ts.map V.str)))/\ot.dict=none/\H d=some (.dK (wK R))
theorem BookAt.mono{C:cG}{H H':Hp}{x d:cG}{ps ts:List Str}{R:List (Str×V)}(e:Same H H')(h:BookAt C H x d ps ts R):BookAt C H' x d ps ts R:=by
 obtain⟨f,a,g,b,c,h1,h2,h3,h4,h5,h6⟩:=h.ex;exact⟨f,a,g,b,c,e _ _ h1,e _ _ h2,h3,e _ _ h4,h5,e _ _ h6⟩
def SameBut1(x:cG)(H H':Hp):Prop:=∀b o,b≠x->H b=some o->H' b=some o
theorem SqL.overI{K:cu}{H:Hp}{a p C dx:cG}{fs:List (Str×V)}{o:HO}{xs:List V}(h:SqL K H a xs)(hp:H p=some (.ins C dx fs)):SqL K (upd H p o) a xs:=by
 rcases h with(h|⟨u,h⟩)|h
 ·exact .inl (.inl (by rw[rH (λz=>by rw[z,hp]at h;cases h)];exact h))
 ·exact .inl (.inr ⟨u,by rw[rH (λz=>by rw[z,hp]at h;cases h)];exact h⟩)
 ·exact .inr h
theorem Ll{c A B:Prop}[Decidable c](hc:¬c)(h:A):if(!decide c)=true then A else B:=by
 rw[decide_eq_false hc];exact ER h
theorem SameBut1.of{x:cG}{H H':Hp}(h:Same H H'):SameBut1 x H H':=λb o _ e=>h b o e
theorem SameBut1.trans{x:cG}{H H1 H2:Hp}(h:SameBut1 x H H1)(h':SameBut1 x H1 H2):SameBut1 x H H2:=λb o a e=>h' b o a (h b o a e)
theorem SameBut1.upd{x:cG}{H:Hp}{o:HO}:SameBut1 x H (upd H x o):=λb u a e=>by rw[rH a];exact e
def JD(K:cu)(C:cG)(x:Xs):Sp:=λvs H Q E=>∃(s a b dx:cG) (ps ts:List Str),vs=[.ref s,.ref a,.ref b]/\H s=some (.ins C dx [])/\SqL K H a (ps.map V.str)/\SqL K H b (ts.map V.str)/\ps.length<=60/\ts.length<=60/\
 (∀w∈ps,w.length<=1000/\GM w)/\(∀w∈ts,w.length<=1000/\GM w)/\(¬(Roll ps/\Roll ts/\ps.length=ts.length)->∀H',Same H H'->E (.ref x.NoRoll) none H')/\
 (Roll ps->Roll ts->ps.length=ts.length->∀d H',SameBut1 s H H'->H d=none->BookAt C H' s d ps ts []->Q .non H')
def Hz(C:cG)(x:Xs):Sp:=λvs H Q E=>∃(s d:cG) (ps ts:List Str) (R:List (Str×V)) (p:Str),vs=[.ref s,.str p]/\BookAt C H s d ps ts R/\(p∉ps->E (.ref x.NoPerson) none H)/\(p∈ps->Q .non H)
def Hk(C:cG):Sp:=λvs H Q _=>∃(s d:cG) (ps ts:List Str) (R:List (Str×V)),vs=[.ref s]/\BookAt C H s d ps ts R/\ps.length<=60/\
 ∀l H',Same H H'->H l=none->H' l=some (.lst ((ps.filter λp=>!(Ep R p).isSome).map V.str))->Q (.ref l) H'
def wordsOf(t:Str):List Str:=Txt.split t " "
def Gp(ts ws:List Str):List Int:=ws.map λw=>(ts.idxOf w:Int)
def IL(K:cu)(C:cG)(x:Xs):Sp:=λvs H Q E=>∃(s d:cG) (ps ts:List Str) (R:List (Str×V)) (p t:Str),vs=[.ref s,.str p,.str t]/\BookAt C H s d ps ts R/\ts.length<=60/\(∀w∈ts,GM w)/\t.length<=500/\GM t/\(wordsOf t).length<64/\R.length<1000/\
 (p∉ps->∀H',Same H H'->E (.ref x.NoPerson) none H')/\(p∈ps->¬(wordsOf t).Perm ts->∀H',Same H H'->E (.ref x.NoWishes) none H')/\
 (p∈ps->(wordsOf t).Perm ts->∀r H',SameBut1 d H H'->H r=none->H' r=some (.tup ((Gp ts (wordsOf t)).map V.int))->BookAt C H' s d ps ts (Hc R p (.ref r))->Q .non H')
def TabBy(n:Nat)(W:List (List Int))(way:Str)(Z:List (List Int))(T:Int):Prop:=
 (way="eaten"/\∃N,EM.Stops W n N/\Z=EF W n N/\T=(EM.st W n N).D)\/(way="turns"/\Z=Gw n (FE n W)/\T=TM.fct n)
theorem TabBy.tb{n:Nat}{W:List (List Int)}{way:Str}{Z:List (List Int)}{T:Int}(hw:Fp n W)(h:TabBy n W way Z T):Jx n T Z:=by
 rcases h with⟨_,N,a,rfl,rfl⟩|⟨_,rfl,rfl⟩
 ·exact DZ ⟨hw.lo,hw.hi,hw.len,hw.pm⟩ a
 ·exact C8 hw
def ToldW(K:cu)(H:Hp)(R:List (Str×V))(ps:List Str)(W:List (List Int)):Prop:=dr (λp row=>∃v,Ep R p=some v/\IsR K H v row) ps W
theorem ToldW.mono{K:cu}{H H':Hp}{R:List (Str×V)}{ps:List Str}{W:List (List Int)}(e:Same H H')(h:ToldW K H R ps W):ToldW K H' R ps W:=
 Paired.mapP h λ_ _ ⟨v,h1,h2⟩=>⟨v,h1,h2.mono e⟩
def Gi(K:cu)(C:cG)(x:Xs):Sp:=λvs H Q E=>∃(s d:cG) (ps ts:List Str) (R:List (Str×V)) (way:Str),vs=[.ref s,.str way]/\BookAt C H s d ps ts R/\ps.length<=60/\
 ((∃p∈ps,Ep R p=none)->∀H',Same H H'->E (.ref x.Unready) none H')/\
 ((∀p∈ps,Ep R p≠none)->∃W,ToldW K H R ps W/\Fp ps.length W/\(way≠"eaten"->way≠"turns"->∀H',Same H H'->E (.ref x.NoWay) none H')/\
  ∀Z T q us H',TabBy ps.length W way Z T->Same H H'->H q=none->H' q=some (.lst us)->dr (RwFT K H' T) us Z->Q (.ref q) H')
theorem yy{R:List (Str×V)}{ps:List Str}:(ps.filter λp=>!(Ep R p).isSome)=[]↔∀p∈ps,Ep R p≠none:=by
 rw[List.filter_eq_nil_iff];refine forall_congr' λp=>forall_congr' λ_=>?_
 cases Ep R p <;> simp
def EB(ts:List Str)(row z:List Int):List (Str×Int):=(row.filter λt=>decide (EM.at0 z t≠0)).map λt=>(ts.getD t.toNat ea,EM.at0 z t)
def IsShr(K:cu)(H:Hp)(T:Int)(v:V)(x:Str×Int):Prop:=∃a g,v = .ref a/\SqT K H a [.str x.1,.ref g]/\IsF K H (.ref g) (FQ.red x.2 T)
theorem IsShr.mono{K:cu}{H H':Hp}{T:Int}{v:V}{x:Str×Int}(e:Same H H')(h:IsShr K H T v x):IsShr K H' T v x:=by
 obtain⟨a,g,rfl,h1,h2⟩:=h;exact⟨a,g,rfl,e.tup h1,h2.mono e⟩
def GP(K:cu)(C:cG)(x:Xs):Sp:=λvs H Q E=>∃(s d:cG) (ps ts:List Str) (R:List (Str×V)) (p way:Str),vs=[.ref s,.str p,.str way]/\BookAt C H s d ps ts R/\ps.length<=60/\ts.length=ps.length/\
 (p∉ps->∀H',Same H H'->E (.ref x.NoPerson) none H')/\(p∈ps->(∃p∈ps,Ep R p=none)->∀H',Same H H'->E (.ref x.Unready) none H')/\
 (p∈ps->(∀p∈ps,Ep R p≠none)->∃W,ToldW K H R ps W/\Fp ps.length W/\(way≠"eaten"->way≠"turns"->∀H',Same H H'->E (.ref x.NoWay) none H')/\
  ∀Z T l xs H',TabBy ps.length W way Z T->Same H H'->H l=none->H' l=some (.lst xs)->dr (IsShr K H' T) xs (EB ts (W.getD (ps.idxOf p) []) (Z.getD (ps.idxOf p) []))->Q (.ref l) H')
theorem cw_lots(Z:List (List Int))(T:Int)(k:Nat):∀i,i<=k->cw (HM.lotsL Z T k) i=HM.sm i λj=>(HM.lotAt Z T j).1
 | 0,_=>rfl
 | i+1,hi=>by
  have e:(HM.lotsL Z T k)[i]?=some (HM.lotAt Z T i):=by
   unfold HM.lotsL
   rw[cH,d9 (show i<k by omega)]
   rfl
  rw[cw_succ e,cw_lots Z T k i (by omega)]
  rfl
theorem TabBy.le{n:Nat}{W:List (List Int)}{way:Str}{Z:List (List Int)}{T:Int}(hw:Fp n W)(h:TabBy n W way Z T):T<=262144:=by
 rcases h with⟨_,N,b,rfl,rfl⟩|⟨_,rfl,rfl⟩
 ·have a:EM.Ws n W:=⟨hw.lo,hw.hi,hw.len,hw.pm⟩;exact EM.D_le (EM.st_ok a N b.up).1 a.n6
 ·have h:=yK hw.hi;omega
theorem Ax{n k:Nat}{T:Int}{Z:List (List Int)}(tb:Jx n T Z)(hT:T<=262144)(hf:HM.Fin Z T k):LotsOk n (HM.lotsL Z T k) T:=by
 have I:=HM.it_ok tb.reg tb.t0 tb.lo k hf.2;have b:(HM.lotsL Z T k).length=k:=by unfold HM.lotsL;rw[cx,fb]
 have c:∀l∈HM.lotsL Z T k,∃j,j<k/\l=HM.lotAt Z T j:=λl h=>by
  unfold HM.lotsL at h;obtain⟨j,a,rfl⟩:=dv.mp h;exact⟨j,dY.mp a,rfl⟩
 refine⟨?_,λl h=>?_,λl h=>?_,?_,?_,λl h=>?_⟩
 ·rw[b,cw_lots Z T k k (cI _),I.wts,hf.1];omega
 ·obtain⟨j,a,rfl⟩:=c l h;exact(I.lots j a).w1
 ·obtain⟨j,a,rfl⟩:=c l h;have h1:=(I.lots j a).wR;have h2:=(HM.it_ok tb.reg tb.t0 tb.lo j λi d=>hf.2 i (by omega)).rT;show HM.wOf (HM.it Z T j).1<=_;omega
 ·rw[b]
  cases k with
  | zero=>
   have:T=0:=hf.1;have:=tb.t0;omega
  | succ k=>omega
 ·rw[b];have h1:=I.last hf.1;have h2:=HM.pn_le tb.hi Z;omega
 ·obtain⟨j,a,rfl⟩:=c l h;exact(I.lots j a).pm.len
def JL(K:cu)(H:Hp)(v:V)(x:Str×Str):Prop:=∃a,v = .ref a/\SqT K H a [.str x.1,.str x.2]
def Ei(ts:List Str)(d:List Int):List Str:=d.map λt=>ts.getD t.toNat ea
def Ic(K:cu)(C:cG)(x:Xs):Sp:=λvs H Q E=>∃(s d m:cG) (ps ts:List Str) (R:List (Str×V)) (way:Str) (num:Int×Int),vs=[.ref s,.str way,.ref m]/\BookAt C H s d ps ts R/\ps.length<=60/\ts.length=ps.length/\IsF K H (.ref m) num/\Sz 2000 num/\0<num.2/\
 ((∃p∈ps,Ep R p=none)->∀H',Same H H'->E (.ref x.Unready) none H')/\
 ((∀p∈ps,Ep R p≠none)->∃W,ToldW K H R ps W/\Fp ps.length W/\(way≠"eaten"->way≠"turns"->∀H',Same H H'->E (.ref x.NoWay) none H')/\
  (way="eaten"\/way="turns"->ES num->∀H',Same H H'->E (.ref x.NoPick) none H')/\
  (¬ES num->∀Z T k i l xs H',TabBy ps.length W way Z T->HM.Fin Z T k->First (HM.lotsL Z T k) T num i->Same H H'->H l=none->H' l=some (.lst xs)->dr (JL K H') xs (ps.zip (Ei ts ((HM.lotsL Z T k).getD i (0,[])).2))->Q (.ref l) H'))
theorem TabBy.way{n:Nat}{W:List (List Int)}{way:Str}{Z:List (List Int)}{T:Int}(h:TabBy n W way Z T):way="eaten"\/way="turns":=by
 rcases h with⟨h,_⟩|⟨h,_⟩
 ·exact .inl h
 ·exact .inr h
def Ltr(z:Str):Prop:=∀c∈z.cps.toList,97<=c/\c<=122
def JS:Str:="abcdefghijklmnopqrstuvwxyz"
theorem Do:JS.cps.toList=(db 26).map λi=>97+i:=by decide +kernel
theorem CH{i:Int}(h0:0<=i)(h1:i<26):Hb JS.cps.toList i=some (97+i.toNat):=by
 refine sJ h0 ?_;rw[Do,cH,d9 (by omega)];rfl
theorem sQ(a b:Str):(a++b).cps.toList=a.cps.toList++b.cps.toList:=by
 show(a.cps++b.cps).toList=_;simp
theorem ua(a:Str):a.length=a.cps.toList.length:=by simp[fJ]
theorem tE(a b:Str):(a++b).length=a.length+b.length:=by rw[ua,ua,ua,sQ,dq]
theorem Ltr.app{a b:Str}(h1:Ltr a)(h2:Ltr b):Ltr (a++b):=λc d=>by
 rw[sQ]at d;rcases dJ.mp d with h|h
 ·exact h1 c h
 ·exact h2 c h
theorem Ltr.one{n:Nat}(h:n<26):Ltr ⟨#[97+n]⟩:=λc a=>by
 have:c=97+n:=by simpa using a
 omega
def JC:Sp:=λvs H Q _=>∃(c:Int) (n:Nat),vs=[.int c,.int n]/\n<=60/\∀z:Str,z.length=n->Ltr z->Q (.str z) H
theorem BJ{i:Nat}(h:i<26):qI JS ⟨#[97+i]⟩=(i:Int):=by
 have:∀i,i<26->qI JS ⟨#[97+i]⟩=(i:Int):=by decide +kernel
 exact this i h
def EW(b:List Nat)(p sz k:Nat):List Nat:=b.take p++([97+(b.getD p 97-97+3*k)%26]++(b.drop (p+1)).take (sz-(p+1)))
def Ir:Sp:=λvs H Q _=>∃(b:Str) (p sz k:Nat),vs=[.str b,.int p,.int sz,.int k]/\b.length=12/\Ltr b/\p<sz/\sz<=12/\k<=60/\Q (.str ⟨(EW b.cps.toList p sz k).toArray⟩) H
theorem y4{b:Str}{p:Nat}(h:p<=b.cps.toList.length):j6 b none (some (p:Int))=⟨(b.cps.toList.take p).toArray⟩:=by
 rw[eq_of_beq (slice_closes_to (x:=b) (j:=(p:Int)) ⟨by omega,by omega⟩)];rw[show((p:Int)-0).toNat=p by omega,show Int.toNat 0=0 from rfl,List.drop_zero]
theorem AY{b:Str}{i j:Nat}(h1:i<=j)(h2:j<=b.cps.toList.length):j6 b (some (i:Int)) (some (j:Int))=⟨((b.cps.toList.drop i).take (j-i)).toArray⟩:=by
 rw[eq_of_beq (slice_closes (x:=b) (i:=(i:Int)) (j:=(j:Int)) ⟨by omega,by omega,by omega⟩)];rw[show((j:Int)-(i:Int)).toNat=j-i by omega,show(i:Int).toNat=i by omega]
theorem uz(l:List Nat):(⟨l.toArray⟩:Str).length=l.length:=by rw[ua]
theorem xC{b:List Nat}{p sz k:Nat}(hb:b.length=12)(hp:p<sz)(hs:sz<=12):(EW b p sz k).length=sz:=by
 unfold EW;rw[dq,dq,cV,cV,iY,eU,hb];omega
theorem BC{b:List Nat}{p sz k:Nat}(hb:b.length=12)(hp:p<12):(EW b p sz k)[p]?=some (97+(b.getD p 97-97+3*k)%26):=by
 unfold EW;have a:(b.take p).length=p:=by rw[cV,hb];omega
 rw[eZ (by omega),a,il];rfl
theorem AX{b:List Nat}{p sz k k':Nat}(hb:b.length=12)(hp:p<12)(hk:k<6)(hk':k'<6)(h:EW b p sz k=EW b p sz k'):k=k':=by
 have e:=congrArg (λl:List Nat=>l[p]?) h;simp only[BC hb hp]at e;have:=Option.some.inj e;omega
theorem A4{b:List Nat}{p sz k:Nat}(hb:∀c∈b,97<=c/\c<=122):∀c∈EW b p sz k,97<=c/\c<=122:=λc a=>by
 unfold EW at a;rcases dJ.mp a with h|h
 ·exact hb c (gu h)
 ·rcases dJ.mp h with h|h
  ·rw[cK.mp h];omega
  ·exact hb c (mi (gu h))
theorem An{n:Nat}(h1:1<=n)(h6:n<=6){f:Nat->Str}(hw:∀k,k<n->Wd (f k))(hi:∀k k',k<n->k'<n->f k=f k'->k=k'):Roll ((db n).map f):=by
 refine⟨by simpa using h1,by simpa using h6,λw h=>?_,?_⟩
 ·obtain⟨k,hk,rfl⟩:=dv.mp h;exact hw k (dY.mp hk)
 ·refine jt.mpr (pZ (λ {i j} c b a e=>a ?_) n9);exact hi i j (dY.mp c) (dY.mp b) e
theorem yi{b:Str}{p sz n:Nat}(hb:b.length=12)(hl:Ltr b)(hp:p<sz)(hs:sz<=12)(h1:1<=n)(h6:n<=6):Roll ((db n).map λk=>(⟨(EW b.cps.toList p sz k).toArray⟩:Str)):=by
 have a:b.cps.toList.length=12:=by rw[<-ua];exact hb
 refine An h1 h6 (λk _=>⟨?_,?_,λc d=>A4 hl c (by simpa using d)⟩) λk g hk f e=>?_
 ·rw[uz,xC a hp hs];omega
 ·rw[uz,xC a hp hs];exact hs
 ·refine AX (sz:=sz) a (show p<12 by omega) (by omega) (by omega) ?_;have:=congrArg (λz:Str=>z.cps.toList) e;simpa using this
theorem zI{b:Str}{n:Nat}(hb:b.length=12)(hl:Ltr b)(h1:1<=n)(h6:n<=6):Roll ((db n).map λk=>(⟨(b.cps.toList.take (k+1)).toArray⟩:Str)):=by
 have a:b.cps.toList.length=12:=by rw[<-ua];exact hb
 refine An h1 h6 (λk hk=>⟨?_,?_,λc d=>hl c (gu (by simpa using d))⟩) λk g hk f e=>?_
 ·rw[uz,cV,a];omega
 ·rw[uz,cV,a];omega
 ·have:=congrArg fJ e;simp only[uz,cV,a]at this;omega
def Hj(K:cu):Sp:=λvs H Q _=>∃(a:cG) (ns:List Int) (at' n:Nat),vs=[.ref a,.int at',.int n]/\SqL K H a (ns.map V.int)/\1<=n/\n<=6/\∀p ws H',Same H H'->H p=none->H' p=some (.lst (ws.map V.str))->Roll ws->ws.length=n->Q (.ref p) H'
theorem zJ{b:Str}{p sz n:Nat}{c:Prop}[Decidable c](hb:b.length=12)(hl:Ltr b)(hp:p<sz)(hs:sz<=12)(h1:1<=n)(h6:n<=6):Roll ((db n).map λk=>if c then(⟨(b.cps.toList.take (k+1)).toArray⟩:Str)else⟨(EW b.cps.toList p sz k).toArray⟩):=by
 by_cases h:c
 ·simp only[if_pos h];exact zI hb hl h1 h6
 ·simp only[if_neg h];exact yi hb hl hp hs h1 h6
theorem Ltr.asc{z:Str}(h:Ltr z):GM z:=λc a=>by have:=h c a;omega
theorem Wd.asc{z:Str}(h:Wd z):GM z:=λc a=>by have:=h.cs c a;omega
theorem vO{ns:List Int}{i:Nat}(h:i<ns.length):Hb (ns.map V.int) (i:Int)=some (.int (ns.getD i 0)):=sr (tG h)
theorem Cn:(" ":Str)=⟨#[32]⟩:=by decide +kernel
def KM(w:Str):Prop:=32∉w.cps.toList
theorem yU:∀{a b r s:List Nat},32∉a->32∉b->a++32::r=b++32::s->a=b/\r=s
 | [],[],r,s,_,_,h=>by simpa using h
 | [],y::b,r,s,_,hb,h=>by
  have:32=y:=(List.cons.inj h).1
  exact absurd (this▸cM) hb
 | x::a,[],r,s,ha,_,h=>by
  have:x=32:=(List.cons.inj h).1
  exact absurd (this▸cM) ha
 | x::a,y::b,r,s,ha,hb,h=>by
  have h1:=List.cons.inj h
  have c:=yU (λz=>ha (cO _ z)) (λz=>hb (cO _ z)) h1.2
  exact⟨by rw[h1.1,c.1],c.2⟩
theorem Jl(x y:Str)(r:List Str):(iW " " (x::y::r)).cps.toList=x.cps.toList++32::(iW " " (y::r)).cps.toList:=by
 show(x++" "++iW " " (y::r)).cps.toList=_;rw[sQ,sQ,Cn];simp
theorem yD:∀{a b:List Str},a≠[]->b≠[]->(∀w∈a,KM w)->(∀w∈b,KM w)->iW " " a=iW " " b->a=b
 | [],_,h,_,_,_,_=>absurd rfl h
 | _::_,[],_,h,_,_,_=>absurd rfl h
 | [x],[y],_,_,_,_,h=>by rw[show x=y from h]
 | [x],y::z::b,_,_,ha,_,h=>by
  have e:=congrArg (λs:Str=>s.cps.toList) h
  rw[Jl]at e
  refine absurd ?_ (ha x cM)
  show 32∈(iW " " [x]).cps.toList
  rw[e]
  simp
 | x::z::a,[y],_,_,_,hb,h=>by
  have e:=congrArg (λs:Str=>s.cps.toList) h
  rw[Jl]at e
  refine absurd ?_ (hb y cM)
  show 32∈(iW " " [y]).cps.toList
  rw[<-e]
  simp
 | x::u::a,y::v::b,_,_,ha,hb,h=>by
  have e:=congrArg (λs:Str=>s.cps.toList) h
  rw[Jl,Jl]at e
  have c:=yU (ha x cM) (hb y cM) e
  have f:=yD (a:=u::a) (b:=v::b) (oj _ _) (oj _ _) (λw d=>ha w (cO _ d)) (λw d=>hb w (cO _ d)) (wT c.2)
  rw[f,wT c.1]
theorem tD{ws:List Str}(h0:ws≠[])(h:∀w∈ws,KM w):wordsOf (fh " " ws)=ws:=by
 unfold wordsOf;refine yD ?_ h0 ?_ h ?_
 ·have:=split_pos (fh " " ws) " ";intro z;rw[z]at this;exact absurd this (by decide)
 ·rw[Cn];exact StrLaws.split_free _ 32
 ·rw[mZ];exact iB " " ws
structure TxtOk(ws:List Str):Prop where
 len:ws.length<=7
 wd:∀w∈ws,w.length<=13
 cs:∀w∈ws,∀c∈w.cps.toList,c<128/\c≠32
theorem tU:∀{ws:List Str},(∀w∈ws,w.length<=13)->(ws.map (·.length)).sum<=13*ws.length
 | [],_=>cI _
 | x::ws,h=>by
  have b:=tU (ws:=ws) λw a=>h w (cO _ a)
  have:=h x cM
  simp only[dN,eR,dQ]
  omega
theorem TxtOk.out{ws:List Str}(h:TxtOk ws):(fh " " ws).length<=500/\GM (fh " " ws)/\(wordsOf (fh " " ws)).length<64:=by
 have d:=h.len;have f:=tU h.wd;have e:fh " " ws=iW " " ws:=iB " " ws;refine⟨?_,?_,?_⟩
 ·have:=jB " " ws;rw[show(" ":Str).length=1 by decide +kernel]at this;rw[e];omega
 ·rw[e];intro c a;rcases(o4 " " c ws).mp a with⟨w,b,a⟩|⟨_,a⟩
  ·exact(h.cs w b c a).1
  ·rw[Cn]at a;have:c=32:=by simpa using a
   omega
 ·by_cases h0:ws=[]
  ·subst h0;decide +kernel
  ·rw[tD h0 λw b a=>(h.cs w b 32 a).2 rfl];omega
theorem TxtOk.sumk{ws:List Str}(h:TxtOk ws):(ws.map fJ).sum+ws.length<=1048576:=by
 have a:=h.len;have b:(ws.map fJ).sum<=13*ws.length:=tU h.wd;omega
theorem v6{ts:List Str}{d:List Int}(h:∀t∈d,t.toNat<ts.length):∀w∈Ei ts d,w∈ts:=λw a=>by
 unfold Ei at a;obtain⟨t,b,rfl⟩:=dv.mp a;rw[cC,cz (h t b)];exact cW _
theorem yk{num:Int}{n:Nat}:∀t∈LM.perm num n,0<=t/\t.toNat<n:=λt a=>by
 have:=(LM.perm_succ_perm num n).mem_iff.mp a;obtain⟨i,b,rfl⟩:=dv.mp this;have:=dY.mp b;show 0<=(i:Int)/\(i:Int).toNat<n;omega
theorem wF{ts:List Str}{num:Int}(h:Roll ts):TxtOk (Ei ts (LM.perm num ts.length))/\(∀w∈Ei ts (LM.perm num ts.length),w∈ts)/\(Ei ts (LM.perm num ts.length)).length=ts.length:=by
 have b:=v6 (ts:=ts) (d:=LM.perm num ts.length) λt f=>(yk t f).2
 have e:(Ei ts (LM.perm num ts.length)).length=ts.length:=by unfold Ei;rw[cx,LM.perm_len]
 refine⟨⟨by rw[e];have:=h.hi;omega,λw a=>by have:=(h.wd w (b w a)).hi;omega,λw a c g=>?_⟩,b,e⟩;have:=(h.wd w (b w a)).cs c g;omega
theorem Dx{a b:Str}(h1:∀c∈a.cps.toList,c<128/\c≠32)(h2:∀c∈b.cps.toList,c<128/\c≠32):∀c∈(a++b).cps.toList,c<128/\c≠32:=λc d=>by
 rw[sQ]at d;rcases dJ.mp d with h|h
 ·exact h1 c h
 ·exact h2 c h
theorem DU{z:Str}(h:(z.cps.toList.all λc=>decide (c<128/\c≠32))=true):∀c∈z.cps.toList,c<128/\c≠32:=λc a=>of_decide_eq_true (dZ.mp h c a)
theorem ym{num:Int×Int}:¬ES num↔0<=num.1/\num.1<num.2:=by
 unfold ES Ez;simp
theorem yG{ts:List Str}(nd:ts.Nodup){i:Nat}(hi:i<ts.length):ts.idxOf ts[i]=i:=by
 have a:ts.idxOf ts[i]<ts.length:=g8.mpr (cW hi);have e:=jh a;have b:=List.pairwise_iff_getElem.mp nd;rcases iE (ts.idxOf ts[i]) i with c|c|c
 ·exact absurd e (b _ _ a hi c)
 ·exact c
 ·exact absurd e.symm (b _ _ hi a c)
theorem Roll.ok{ws:List Str}(h:Roll ws):∀w∈ws,w.length<=1000/\GM w:=λw a=>⟨dg (h.wd w a).hi (by decide),(h.wd w a).asc⟩
theorem BookAt.overL{C:cG}{H:Hp}{x d l:cG}{ps ts:List Str}{R:List (Str×V)}{ys:List V}{o:HO}(hl:H l=some (.lst ys))(h:BookAt C H x d ps ts R):BookAt C (upd H l o) x d ps ts R:=by
 obtain⟨e,a,f,b,c,h1,h2,h3,h4,h5,h6⟩:=h.ex;refine⟨e,a,f,b,c,?_,?_,h3,?_,h5,?_⟩
 ·rw[rH (sN h1 hl (λz=>nomatch z))];exact h1
 ·rw[rH (sN h2 hl (λz=>nomatch z))];exact h2
 ·rw[rH (sN h4 hl (λz=>nomatch z))];exact h4
 ·rw[rH (sN h6 hl (λz=>nomatch z))];exact h6
section
variable{K:cu}{C:cG}{H H':Hp}{pl tl c l s d:cG}{ps ts:List Str}{xs:List V}{L L':List Str}{R R':List (Str×V)}
theorem C2{ns:List Int}{lo hi:Option Int}{i:Nat}{v:V}(h:(Gv (ns.map V.int) lo hi)[i]?=some v):∃c:Int,v=V.int c:=by
 have h1:=da h;unfold Gv at h1;obtain⟨c,_,rfl⟩:=dv.mp (mi (gu h1));exact⟨c,rfl⟩
end
theorem sd{X:Cx}:X.nox.K=X.K:=rfl
theorem rS{X:Cx}{a:cG}:(X.hold a).K=X.K:=rfl
theorem rV{CX:Ho}{P:cT}{w:dc}{K:cu}{mg:Str->Option cA}{base:Heap}{N:List Str}{q:Str}{sc:Scope}{f:cG}{cdv:cA}{A:dw}{outer:List Env}{s:cD}{H:Hp}{E:XK}:(G7 CX P w K mg base N q sc f cdv A outer s H E).K=K:=rfl
def LO(K:cu)(CW:cG)(tb:XK->TS)(ts:TS):TS:=λD σ H=>
 tb (λc _ H1=>∃C,c = .ref C/\mz K C (.ref CW)=some true/\∀a,H1 a=none->ts D σ (upd H1 a (LE C a))) D σ H
section
variable{X:Cx}
theorem CY{W:Str}{CW:cG}{body suite:List Stmt}{b₀:Stmt}{np hpos pos:Pos}{tb:XK->TS}{ts:TS}(hst:X.stack=X.env::X.outer)(hfr:X.env.frame=some X.env.locals)
  (hW:G6 X.K X.mg W CW)(hg:Gl X W)(hb:MA X body tb)(hs:∀a,PSs (X.hold a) (b₀::suite) ts)(hd:(W==("__debug__":Str))=false:=by decide):
  PS X (.Try body [.ExceptHandler (some (.Name W np)) none (b₀::suite) hpos] [] [] pos) (LO X.K CW tb ts):=by
 intro c s T H D I h
 refine wpAny_Try_except (gj (hb c s T H D _ (λe o=>wpAny (model X.prog X.w) X.A (noteFrame e X.env) (λ_ t=>wpAny (model X.prog X.w) X.A (setFlight e none) (λ_ m=>wpAny (model X.prog X.w) X.A (handleBy e X.env [.ExceptHandler (some (.Name W np)) none (b₀::suite) hpos]) (SP X c D) X.xe m) X.xe t) X.xe o) I ?_ h) (λf R q=>?_) λ_ _ z=>z)
 ·rintro H1 R Y s' p ⟨a,C,B,L,j,rfl,F,Z,M,S,hk⟩
  cases M
  have N:=F.fly
  have b:=p.ok.frames
  rw[hst]at N b
  refine wpAny_looks_onW b hfr N λh4 E k=>?_
  refine wpAny_landsW E λh5 g l=>?_
  have n:lw B X.stack a (.ref C) L h5:=by rw[hst];exact g
  have y:=p.caught F n (k.trans l)
  obtain⟨oe,U,Q⟩:=g.there
  have O:h5.Ns X.env.globals X.mg:=by rw[I.ok.glob];exact y.mod.glob.keeps y.bk
  refine wpAny_handleBy_cons (codeAny_handlers_test (iH I.ok.kind hg (kU O hW.bound ?_) hd)) (by intro q;cases q)
  refine xh y.kIn hW.exc S U Q (codeAny_handlers_suite ?_)
  refine lands_againW g λh6 G P=>?_
  have x:lw B X.stack a (.ref C) L h6:=by rw[hst];exact G
  have V:=p.caught F x ((k.trans l).trans P)
  refine gj (hs a c _ _ _ _ (V.hold a) (hk a F.free)) (λf s8 q=>?_) λ_ _ z=>fj z
  cases f with
  | next=>obtain⟨d,j,J,q⟩:=q;exact⟨_,_,J.unhold I.ok,q⟩
  | brk=>obtain⟨d,j,J,q⟩:=q;exact⟨_,_,J.unhold I.ok,q⟩
  | cont=>obtain⟨d,j,J,q⟩:=q;exact⟨_,_,J.unhold I.ok,q⟩
  | ret u=>obtain⟨v,d,j,J,r,q⟩:=q;exact⟨v,_,_,J.unhold I.ok,r,q⟩
 ·cases f with
  | next=>exact io q
  | ret v=>exact q
  | brk=>exact q
  | cont=>exact q
end
theorem TabBy.uniq{n:Nat}{W:List (List Int)}{way:Str}{Z Z':List (List Int)}{T T':Int}(h:TabBy n W way Z T)(h':TabBy n W way Z' T'):Z'=Z/\T'=T:=by
 have b:¬(fM "eaten")=fM "turns":=by decide
 rcases h with⟨e,N,c,rfl,rfl⟩|⟨e,rfl,rfl⟩
 ·rcases h' with⟨_,M,d,rfl,rfl⟩|⟨a,_⟩
  ·cases c.uniq d;exact⟨rfl,rfl⟩
  ·exact absurd (e.symm.trans a) b
 ·rcases h' with⟨a,_⟩|⟨_,rfl,rfl⟩
  ·exact absurd (a.symm.trans e) b
  ·exact⟨rfl,rfl⟩
def HR(K:cu):Sp:=λvs H Q _=>∃(w:cG) (us:List V) (W:List (List Int)) (n:Nat) (way:Str),vs=[.str way,.ref w]/\(way="eaten"\/way="turns")/\SqL K H w us/\dr (IsR K H) us W/\Fp n W/\
 ∀Z T q xs H',TabBy n W way Z T->Same H H'->H q=none->H' q=some (.lst xs)->dr (RwFT K H' T) xs Z->Q (.ref q) H'
def SameBut2(x y:cG)(H H':Hp):Prop:=∀b o,b≠x->b≠y->H b=some o->H' b=some o
theorem SameBut2.of{x y:cG}{H H':Hp}(h:Same H H'):SameBut2 x y H H':=λb o _ _ e=>h b o e
theorem SameBut2.of1{x y:cG}{H H':Hp}(h:SameBut1 x H H'):SameBut2 x y H H':=λb o h1 _ e=>h b o h1 e
theorem SameBut2.of2{x y:cG}{H H':Hp}(h:SameBut1 y H H'):SameBut2 x y H H':=λb o _ h2 e=>h b o h2 e
theorem SameBut2.trans{x y:cG}{H H1 H2:Hp}(h:SameBut2 x y H H1)(h':SameBut2 x y H1 H2):SameBut2 x y H H2:=λb o a c e=>h' b o a c (h b o a c e)
section
variable{K:cu}{C:cG}{H H':Hp}{s d w e u:cG}{ps ts:List Str}{q:Nat->Prop}{m:Nat}{kvs:List (Gc×V)}{xs:List V}
theorem SqT.but2{a:cG}{ys:List V}(he:H e=some (.dK kvs))(hu:H u=some (.lst xs))(z:SameBut2 e u H H')(h:SqT K H a ys):SqT K H' a ys:=by
 rcases h with(h|⟨t,h⟩)|h
 ·exact .inl (.inl (z _ _ (sN h he (λz=>nomatch z)) (sN h hu (λz=>nomatch z)) h))
 ·exact .inl (.inr ⟨t,z _ _ (sN h he (λz=>nomatch z)) (sN h hu (λz=>nomatch z)) h⟩)
 ·exact .inr h
theorem IsR.but2{v:V}{row:List Int}(he:H e=some (.dK kvs))(hu:H u=some (.lst xs))(z:SameBut2 e u H H')(h:IsR K H v row):IsR K H' v row:=by
 obtain⟨a,rfl,h⟩:=h;exact⟨a,rfl,h.but2 he hu z⟩
theorem BookAt.but2{R:List (Str×V)}(he:H e=some (.dK kvs))(hu:H u=some (.lst xs))(z:SameBut2 e u H H')(hne:d≠e)(h:BookAt C H s d ps ts R):BookAt C H' s d ps ts R:=by
 obtain⟨f,a,g,b,c,h1,h2,h3,h4,h5,h6⟩:=h.ex;exact⟨f,a,g,b,c,z _ _ (sN h1 he (λz=>nomatch z)) (sN h1 hu (λz=>nomatch z)) h1,z _ _ (sN h2 he (λz=>nomatch z)) (sN h2 hu (λz=>nomatch z)) h2,h3,z _ _ (sN h4 he (λz=>nomatch z)) (sN h4 hu (λz=>nomatch z)) h4,h5,z _ _ hne (sN h6 hu (λz=>nomatch z)) h6⟩
def Kj(K:cu)(H:Hp)(R:List (Str×V))(ps:List Str)(W:List (List Int))(q:Nat->Prop):Prop:=∀i p row,q i->ps[i]?=some p->W[i]?=some row->LN.Pm ps.length row/\∃v,Ep R p=some v/\IsR K H v row
structure Bk52(K:cu)(C:cG)(H:Hp)(s d w:cG)(ps ts:List Str)(q:Nat->Prop)(m:Nat):Prop where
 ex:∃(us:List V) (W:List (List Int)) (R:List (Str×V)),BookAt C H s d ps ts R/\H w=some (.lst us)/\dr (IsR K H) us W/\W.length=ps.length/\R.length<=m/\Kj K H R ps W q
theorem Bk52.mono(z:Same H H')(h:Bk52 K C H s d w ps ts q m):Bk52 K C H' s d w ps ts q m:=by
 obtain⟨f,W,R,h1,h2,h3,h4,h5,h6⟩:=h.ex;refine⟨f,W,R,h1.mono z,z _ _ h2,Paired.mapP h3 λ_ _ h=>h.mono z,h4,h5,λi p e a b c=>?_⟩;obtain⟨g1,v,g2,g3⟩:=h6 i p e a b c;exact⟨g1,v,g2,g3.mono z⟩
theorem Bk52.but2(he:H e=some (.dK kvs))(hu:H u=some (.lst xs))(z:SameBut2 e u H H')(n1:d≠e)(n2:w≠u)(h:Bk52 K C H s d w ps ts q m):Bk52 K C H' s d w ps ts q m:=by
 obtain⟨g,W,R,h1,h2,h3,h4,h5,h6⟩:=h.ex;refine⟨g,W,R,h1.but2 he hu z n1,z _ _ (sN h2 he (λz=>nomatch z)) n2 h2,Paired.mapP h3 λ_ _ h=>h.but2 he hu z,h4,h5,λi p f a b c=>?_⟩;obtain⟨g1,v,g2,g3⟩:=h6 i p f a b c;exact⟨g1,v,g2,g3.but2 he hu z⟩
theorem Bk52.dk(h:Bk52 K C H s d w ps ts q m):∃kvs,H d=some (.dK kvs):=by
 obtain⟨c,W,R,h1,_⟩:=h.ex;obtain⟨f,a,g,b,e,_,_,_,_,_,h6⟩:=h1.ex;exact⟨_,h6⟩
theorem Bk52.wl(h:Bk52 K C H s d w ps ts q m):∃us,H w=some (.lst us):=by
 obtain⟨us,W,R,h1,h2,_⟩:=h.ex;exact⟨us,h2⟩
theorem Bk52.imp{q':Nat->Prop}{m':Nat}(hq:∀i,i<ps.length->q' i->q i)(hm:m<=m')(h:Bk52 K C H s d w ps ts q m):Bk52 K C H s d w ps ts q' m':=by
 obtain⟨f,W,R,h1,h2,h3,h4,h5,h6⟩:=h.ex;exact⟨f,W,R,h1,h2,h3,h4,dg h5 hm,λi p e a b c=>h6 i p e (hq i (cL.mp b).1 a) b c⟩
theorem Bk52.all(rp:Roll ps)(h:Bk52 K C H s d w ps ts (λ_=>True) m):∃(us:List V) (W:List (List Int)) (R:List (Str×V)),BookAt C H s d ps ts R/\H w=some (.lst us)/\dr (IsR K H) us W/\ToldW K H R ps W/\Fp ps.length W/\(∀p∈ps,Ep R p≠none)/\R.length<=m:=by
 obtain⟨us,W,R,h1,h2,h3,h4,h5,h6⟩:=h.ex;refine⟨us,W,R,h1,h2,h3,tw h4.symm λi p c hp b=>(h6 i p c trivial hp b).2,⟨rp.lo,rp.hi,h4,λr b=>?_⟩,λp hp e=>?_,h5⟩
 ·obtain⟨i,a⟩:=iA.mp b;have f:=(cL.mp a).1;exact(h6 i ps[i] r trivial (cz (by omega)) a).1
 ·obtain⟨i,a⟩:=iA.mp hp;have f:=(cL.mp a).1;obtain⟨_,v,g,_⟩:=h6 i p W[i] trivial a (cz (by omega));rw[e]at g
  cases g
theorem Bk52.put{us:List V}{W:List (List Int)}{R:List (Str×V)}{place:Nat}{p:Str}{row:List Int}{r r0:cG}(rp:Roll ps)(hd:H d=some (.dK kvs))(hw:H w=some (.lst us))(hu:dr (IsR K H) us W)(hW:W.length=ps.length)(hR:R.length<=m)(hq:Kj K H R ps W q)
  (U:SameBut2 d w H H')(hp:ps[place]?=some p)(hb:BookAt C H' s d ps ts (Hc R p (.ref r)))(hw':H' w=some (.lst (us.set place (.ref r0))))(hr:IsR K H' (.ref r) row)(hr0:IsR K H' (.ref r0) row)(hpm:LN.Pm ps.length row):Bk52 K C H' s d w ps ts (λi=>q i\/i=place) (m+1):=by
 have u:=(cL.mp hp).1
 have h:=Paired.len hu
 refine⟨_,W.set place row,_,hb,hw',tw (by rw[je,je];exact h) λi v x e a=>?_,by rw[je];exact hW,dg (yY ..) (by omega),λi y x b f a=>?_⟩
 ·rw[jx]at e a
  by_cases c:place=i
  ·rw[if_pos c,if_pos (by omega)]at e a
   cases e
   cases a
   exact hr0
  ·rw[if_neg c]at e a
   obtain⟨A,g,k⟩:=Paired.get' hu e
   rw[a]at g
   cases g
   exact k.but2 hd hw U
 ·rw[jx]at a
  by_cases c:place=i
  ·subst c
   rw[if_pos rfl,if_pos (by omega)]at a
   cases a
   rw[hp]at f
   cases f
   exact⟨hpm,_,by rw[xH,if_pos rfl],hr⟩
  ·rw[if_neg c]at a
   rcases b with b|b
   ·obtain⟨g1,v,g2,g3⟩:=hq i y x b f a
    have j:y≠p:=λz=>c (by
     subst z
     obtain⟨o,l⟩:=cL.mp hp
     obtain⟨t,n⟩:=cL.mp f
     rw[<-yG rp.nd o,<-yG rp.nd t,l,n])
    exact⟨g1,v,by rw[xH,if_neg j];exact g2,g3.but2 hd hw U⟩
   ·exact absurd b.symm c
end
theorem Al{ts:List Str}:(LM.rng ts.length).map (λt=>ts.getD t.toNat ea)=ts:=by
 unfold LM.rng;refine k9 (by simp) λi h1 h2=>?_
 simp[cC,cz h2]
theorem x5{ts:List Str}{row:List Int}(h:LN.Pm ts.length row):(Ei ts row).Perm ts:=by
 have:=h.map (λt=>ts.getD t.toNat ea);rw[Al]at this;exact this
theorem xx{ts:List Str}{row:List Int}(rt:Roll ts)(h:LN.Pm ts.length row):Gp ts (Ei ts row)=row:=by
 unfold Gp Ei;rw[ik];have:∀t∈row,((λw=>(ts.idxOf w:Int))∘λt=>ts.getD t.toNat ea) t=t:=λt b=>by
  have c:=h.mem.mp b;have a:t.toNat<ts.length:=by omega
  show(ts.idxOf (ts.getD t.toNat ea):Int)=t;rw[cC,cz a];show(ts.idxOf ts[t.toNat]:Int)=t;rw[yG rt.nd a];omega
 rw[fF this];exact List.map_id' row
theorem C3(num:Int)(n:Nat):LN.Pm n (LM.perm num n):=LM.perm_succ_perm num n
theorem wP{ts:List Str}{num:Int}(rt:Roll ts):wordsOf (fh " " (Ei ts (LM.perm num ts.length)))=Ei ts (LM.perm num ts.length):=by
 obtain⟨d,_,a⟩:=wF (num:=num) rt;have h1:=rt.lo;exact tD (λz=>by rw[z]at a;rw[<-a]at h1;exact absurd h1 (by decide)) λw b c=>(d.cs w b 32 c).2 rfl
def dS(T:Int)(x:Str×Int):iO:= .tuple [.str x.1,dF (FQ.red x.2 T)]
theorem Reps.of_shr{K:cu}{H:Hp}{T:Int}:∀{xs:List V} {L:List (Str×Int)},dr (IsShr K H T) xs L->Reps K H xs (L.map (dS T))
 | _,_,.nil=> .nil
 | _,_,.cons h t=>by
  obtain⟨a,g,rfl,h1,h2⟩:=h
  exact .cons (.tup h1 (.cons (.str _) (.cons h2.rep .nil)) (show(2:Nat)<=1000 by decide)) (Reps.of_shr t)
theorem Dr{T:Int}{L:List (Str×Int)}(h:∀x∈L,GM x.1):Gd 3 (.list (L.map (dS T)))=true:=by
 show(L.map (dS T)).all (Gd 2)=true;rw[dZ];intro d a;obtain⟨x,b,rfl⟩:=dv.mp a;show([gM x.1,dF (FQ.red x.2 T)]).all (Gd 1)=true;rw[jJ,yF (h x b) 1];simp[dF,Gd]
def dP(x:Str×Str):iO:= .tuple [.str x.1,.str x.2]
theorem Reps.of_pw{K:cu}{H:Hp}:∀{xs:List V} {L:List (Str×Str)},dr (JL K H) xs L->Reps K H xs (L.map dP)
 | _,_,.nil=> .nil
 | _,_,.cons h t=>by
  obtain⟨a,rfl,h1⟩:=h
  exact .cons (.tup h1 (.cons (.str _) (.cons (.str _) .nil)) (show(2:Nat)<=1000 by decide)) (Reps.of_pw t)
theorem DM{L:List (Str×Str)}(h:∀x∈L,GM x.1/\GM x.2):Gd 3 (.list (L.map dP))=true:=by
 show(L.map dP).all (Gd 2)=true;rw[dZ];intro d b;obtain⟨x,a,rfl⟩:=dv.mp b;show([gM x.1,gM x.2]).all (Gd 1)=true;rw[jJ,yF (h x a).1 1,jJ,yF (h x a).2 1];rfl
theorem Ab{x T:Int}(hT:0<T)(hx:0<=x):0<(FQ.red x T).1↔x≠0:=by
 have h1:=FQ.red_worth (t:=x) (b:=T) (by omega);have h2:=(FQ.red_low (t:=x) (b:=T) (by omega)).pos;constructor
 ·intro h z;rw[z,ju]at h1;have:=gU h hT;rw[z]at this;omega
 ·intro h;have h3:0<x*(FQ.red x T).2:=gU (by omega) h2;rw[<-h1]at h3;exact Int.pos_of_mul_pos_left h3 hT
structure TxtG(ws:List Str):Prop where
 len:ws.length<=8
 sum:(ws.map fJ).sum<=300
 cs:∀w∈ws,∀c∈w.cps.toList,c<128/\c≠32
theorem TxtOk.g{ws:List Str}(h:TxtOk ws):TxtG ws:=by
 have a:=h.len;have b:(ws.map fJ).sum<=13*ws.length:=tU h.wd;exact⟨by omega,by omega,h.cs⟩
theorem TxtG.out{ws:List Str}(h:TxtG ws):(fh " " ws).length<=500/\GM (fh " " ws)/\(wordsOf (fh " " ws)).length<64:=by
 have d:=h.len;have f:=h.sum;have e:fh " " ws=iW " " ws:=iB " " ws;refine⟨?_,?_,?_⟩
 ·have:(iW " " ws).length<=(ws.map fJ).sum+ws.length*(" ":Str).length:=jB " " ws;rw[show(" ":Str).length=1 by decide +kernel]at this;rw[e];omega
 ·rw[e];intro c a;rcases(o4 " " c ws).mp a with⟨w,b,a⟩|⟨_,a⟩
  ·exact(h.cs w b c a).1
  ·rw[Cn]at a;have:c=32:=by simpa using a
   omega
 ·by_cases h0:ws=[]
  ·subst h0;decide +kernel
  ·rw[tD h0 λw b a=>(h.cs w b 32 a).2 rfl];omega
theorem TxtG.sumk{ws:List Str}(h:TxtG ws):(ws.map fJ).sum+ws.length<=1048576:=by
 have a:=h.len;have b:=h.sum;omega
theorem Roll.sum{ts:List Str}(h:Roll ts):(ts.map fJ).sum<=78:=by
 have b:(ts.map fJ).sum<=13*ts.length:=tU λw a=>by have:=(h.wd w a).hi;omega
 have:=h.hi;omega
theorem Roll.sumk{ts:List Str}(h:Roll ts):(ts.map fJ).sum+ts.length<=1048576:=by
 have:=h.sum;have:=h.hi;omega
theorem AH(o:Str):∀(ws:List Str) (k:Nat),((ws.set k o).map fJ).sum<=(ws.map fJ).sum+o.length
 | [],_=>du _
 | x::ws,0=>by
  simp only[List.set_cons_zero,dN,eR]
  omega
 | x::ws,k+1=>by
  have:=AH o ws k
  simp only[List.set_cons_succ,dN,eR]
  omega
theorem TxtOk.gset{ws:List Str}{k:Nat}{o:Str}(h:TxtOk ws)(h1:o.length<=100)(h2:∀c∈o.cps.toList,c<128/\c≠32):TxtG (ws.set k o):=by
 have b:=h.len;have d:(ws.map fJ).sum<=13*ws.length:=tU h.wd;have:=AH o ws k;refine⟨by rw[je];omega,by omega,λw a=>?_⟩;rcases ku a with z|z
 ·exact h.cs w z
 ·rw[z];exact h2
theorem TxtOk.gapp{ws:List Str}{o:Str}(h:TxtOk ws)(ho:o∈ws):TxtG (ws++[o]):=by
 have b:=h.len;have c:(ws.map fJ).sum<=13*ws.length:=tU h.wd;have:=h.wd o ho;refine⟨by rw[dq,eU];omega,?_,λw a=>?_⟩
 ·rw[cS,oC,dN,qc,eR,List.sum_nil];omega
 ·rcases dJ.mp a with z|z
  ·exact h.cs w z
  ·rw[cK.mp z];exact h.cs o ho
theorem TxtOk.gdrop{ws:List Str}(h:TxtOk ws):TxtG ws.dropLast:=by
 have b:∀w∈ws.dropLast,w∈ws:=λw a=>jO _ a
 exact TxtOk.g ⟨dg (by rw[gS];omega) h.len,λw a=>h.wd w (b w a),λw a=>h.cs w (b w a)⟩
theorem Jy{ts:List Str}(h:Roll ts):fh "" ts++"q"∉ts/\(fh "" ts++"q").length<=100/\(∀c∈(fh "" ts++"q").cps.toList,c<128/\c≠32)/\(fh "" ts).length+("q":Str).length<=1000:=by
 have e:fh "" ts=iW "" ts:=iB "" ts;have b:("q":Str).length=1:=by decide +kernel
 have f:("":Str).length=0:=by decide +kernel
 have g:(iW "" ts).length<=(ts.map fJ).sum+ts.length*("":Str).length:=jB "" ts;rw[f]at g;have j:=h.sum;rw[e];refine⟨λz=>?_,?_,Dx (λc a=>?_) (DU (by decide +kernel)),by omega⟩
 ·have:=join_mem_le "" ts _ z;rw[tE,b]at this;omega
 ·rw[tE,b];omega
 ·rcases(o4 "" c ts).mp a with⟨w,d,a⟩|⟨_,a⟩
  ·have:=(h.wd w d).cs c a;omega
  ·exact absurd a (by rw[show("":Str).cps.toList=[]by decide +kernel];exact λz=>nomatch z)
theorem zR{ts ws:List Str}{k:Nat}{f:Str}(ok:TxtOk ws)(hk:k<ws.length)(h1:f∉ts)(h2:∀c∈f.cps.toList,c<128/\c≠32):¬(wordsOf (fh " " (ws.set k f))).Perm ts:=λz=>by
 have b:f∈ws.set k f:=List.mem_set hk f;rw[tD (λe=>by rw[e]at b;exact nomatch b) λw d a=>?_]at z
 ·exact h1 (z.mem_iff.mp b)
 ·rcases ku d with y|y
  ·exact(ok.cs w y 32 a).2 rfl
  ·rw[y]at a;exact(h2 32 a).2 rfl
theorem Bk{ts ws:List Str}{o:Str}(ok:TxtOk ws)(ho:o∈ws)(hl:ws.length=ts.length):¬(wordsOf (fh " " (ws++[o]))).Perm ts:=λz=>by
 rw[tD (by simp) λw b a=>?_]at z
 ·have:=z.length_eq;rw[dq,eU]at this;omega
 ·rcases dJ.mp b with y|y
  ·exact(ok.cs w y 32 a).2 rfl
  ·rw[cK.mp y]at a;exact(ok.cs o ho 32 a).2 rfl
theorem z5{ts ws:List Str}(ok:TxtOk ws)(rt:Roll ts)(hl:ws.length=ts.length):¬(wordsOf (fh " " ws.dropLast)).Perm ts:=λz=>by
 have h1:=rt.lo;by_cases h0:ws.dropLast=[]
 ·rw[h0,show wordsOf (fh " " [])=[ea]by decide +kernel]at z;have:=(rt.wd _ (z.mem_iff.mp cM)).lo;exact absurd this (by decide)
 ·rw[tD h0 λw a b=>(ok.cs w (jO _ a) 32 b).2 rfl]at z;have:=z.length_eq;rw[gS]at this;omega
theorem CA(n:Nat): -(2^62)<=(n:Int):=nF (by decide) (m3 n)
theorem Cw{n:Nat}(h:n<=1000):(n:Int)<2^62:=Int.lt_of_le_of_lt (qm.mpr h) (by decide)
theorem K4(b:Bool):∃way:Str,(way="eaten"\/way="turns")/\Hb [V.str "eaten",V.str "turns"] (if b=true then 1 else 0)=some (.str way):=by
 cases b with
 | true=>exact⟨_,.inr rfl,rfl⟩
 | false=>exact⟨_,.inl rfl,rfl⟩
theorem LF{c:Prop}{_:Decidable c}{A:Prop}{G:Hp->Prop}(P:Hp->Prop)(H:Hp)(hx:P H)(h:∀H,P H->G H)(hA:(∀H,P H->G H)->A):if decide c=true then A else G H:=by
 by_cases e:c
 ·exact Je e (hA h)
 ·exact Ht e (h H hx)
theorem Lp{t b:Int}(h0:0<=t)(h1:t<b)(hb:b<=1000000):Sz 2000 (FQ.red t b)/\0<(FQ.red t b).2/\¬ES (FQ.red t b):=by
 have a:=FQ.red_worth (t:=t) (b:=b) (by omega);have hp:=(FQ.red_low (t:=t) (b:=b) (by omega)).pos;refine⟨tQ (by omega) (cU (show t.natAbs<2^20 by omega) ?_) (cU (show b.natAbs<2^20 by omega) ?_),hp,ym.mpr ⟨?_,?_⟩⟩
 ·exact eB (by decide) (by decide)
 ·exact eB (by decide) (by decide)
 ·refine oO.mp λz=>?_
  have h2:(FQ.red t b).1*b<0:=Int.mul_neg_of_neg_of_pos z (by omega);have h3:0<=t*(FQ.red t b).2:=iQ h0 (by omega);omega
 ·refine Int.not_le.mp λz=>?_
  have h2:(FQ.red t b).2*b<=(FQ.red t b).1*b:=e7 z (by omega);have h3:t*(FQ.red t b).2<b*(FQ.red t b).2:=f6 h1 hp;rw[gn b]at h3;omega
def GR(K:cu)(C:cG):Sp:=λvs H Q _=>∃(s d w pl tl:cG) (ps ts:List Str) (q:Nat->Prop) (m place:Nat) (num:Int),vs=[.ref s,.ref pl,.ref tl,.ref w,.int place,.int num]/\Bk52 K C H s d w ps ts q m/\m<900/\Roll ps/\Roll ts/\ts.length=ps.length/\
 H pl=some (.lst (ps.map V.str))/\H tl=some (.lst (ts.map V.str))/\pl≠w/\tl≠w/\place<ps.length/\∀H',SameBut2 d w H H'->Bk52 K C H' s d w ps ts (λi=>q i\/i=place) (m+1)->Q .non H'
def Go(K:cu)(C:cG):Sp:=λvs H Q _=>∃(s d w pl tl xa:cG) (ps ts:List Str) (q:Nat->Prop) (m:Nat) (xs:List Int),vs=[.ref s,.ref pl,.ref tl,.ref xa]/\Bk52 K C H s d w ps ts q m/\m<900/\Roll ps/\Roll ts/\ts.length=ps.length/\
 SqL K H pl (ps.map V.str)/\SqL K H tl (ts.map V.str)/\SqL K H xa (xs.map V.int)/\xs.length=7/\∀H',Same H H'->Q (.bl true) H'
def FR(K:cu)(C:cG):Sp:=λvs H Q _=>∃(s d w pl tl:cG) (ps ts:List Str) (m place:Nat) (way:Str),vs=[.ref s,.ref pl,.ref tl,.ref w,.int place,.str way]/\Bk52 K C H s d w ps ts (λ_=>True) m/\Roll ps/\Roll ts/\ts.length=ps.length/\
 SqL K H pl (ps.map V.str)/\SqL K H tl (ts.map V.str)/\place<ps.length/\(way="eaten"\/way="turns")/\∀H',Same H H'->Q (.bl true) H'
def Hf(K:cu)(C:cG):Sp:=λvs H Q _=>∃(s d w pl tl g:cG) (ps ts:List Str) (m:Nat) (way:Str) (num:Int×Int),vs=[.ref s,.ref pl,.ref tl,.ref w,.str way,.ref g]/\Bk52 K C H s d w ps ts (λ_=>True) m/\Roll ps/\Roll ts/\ts.length=ps.length/\
 SqL K H pl (ps.map V.str)/\SqL K H tl (ts.map V.str)/\(way="eaten"\/way="turns")/\IsF K H (.ref g) num/\Sz 2000 num/\0<num.2/\¬ES num/\∀H',Same H H'->Q (.bl true) H'
def Iq(K:cu)(C:cG):Sp:=λvs H Q _=>∃(s d w pl tl xa:cG) (ps ts:List Str) (m:Nat) (xs:List Int),vs=[.ref s,.ref pl,.ref tl,.ref w,.ref xa]/\Bk52 K C H s d w ps ts (λ_=>True) m/\m<900/\Roll ps/\Roll ts/\ts.length=ps.length/\
 H pl=some (.lst (ps.map V.str))/\H tl=some (.lst (ts.map V.str))/\pl≠w/\tl≠w/\SqL K H xa (xs.map V.int)/\xs.length=7/\(∀x∈xs,0<=x/\x<2147483647)/\∀H',SameBut2 d w H H'->Bk52 K C H' s d w ps ts (λ_=>True) (m+1)->Q (.bl true) H'
def pk{α:Type}(x y:α):Nat->α
 | 0=>x
 | _=>y
theorem wS{x y:cG}{j:Nat}(hj:j<2):Hb [V.ref x,V.ref y] (j:Int)=some (.ref (pk x y j)):=by
 rcases(show j=0\/j=1 by omega)with rfl|rfl
 ·rfl
 ·rfl
theorem Bi{x y:cG}{j:Nat}(hj:j<2):Hb [V.ref x,V.ref y] (1-(j:Int))=some (.ref (pk x y (1-j))):=by
 rcases(show j=0\/j=1 by omega)with rfl|rfl
 ·rfl
 ·rfl
structure At52(K:cu)(C:cG)(H:Hp)(rl bl tl p0 p1 s0 s1 d0 d1 w0 w1:cG)(A B:List Str)(q:Nat->Nat->Prop)(m:Nat):Prop where
 rl:H rl=some (.lst [.ref p0,.ref p1])
 bl:H bl=some (.lst [.ref s0,.ref s1])
 tl:H tl=some (.lst [.ref w0,.ref w1])
 ro:∀j,H (pk p0 p1 j)=some (.lst ((pk A B j).map V.str))
 bk:∀j,j<2->Bk52 K C H (pk s0 s1 j) (pk d0 d1 j) (pk w0 w1 j) (pk A B j) (pk A B (1-j)) (q j) m
structure Le(rl bl tl p0 p1 d0 d1 w0 w1:cG):Prop where
 rl:∀j,rl≠pk w0 w1 j
 bl:∀j,bl≠pk w0 w1 j
 tl:∀j,tl≠pk w0 w1 j
 ro:∀i j,pk p0 p1 i≠pk w0 w1 j
 dd:d0≠d1
 ww:w0≠w1
theorem DA{x y:cG}{i j:Nat}(h:x≠y)(hi:i<2)(hj:j<2)(hij:i≠j):pk x y i≠pk x y j:=by
 rcases(show i=0\/i=1 by omega)with rfl|rfl
 ·obtain rfl:j=1:=by omega
  exact h
 ·obtain rfl:j=0:=by omega
  exact Ne.symm h
theorem ul{α:Type}{x y:α}{P:α->Prop}(h1:P x)(h2:P y):∀j,P (pk x y j)
 | 0=>h1
 | _+1=>h2
section
variable{K:cu}{C:cG}{H H':Hp}{rl bl tl p0 p1 s0 s1 d0 d1 w0 w1:cG}{A B:List Str}{q:Nat->Nat->Prop}{m m':Nat}
theorem At52.mono(z:Same H H')(h:At52 K C H rl bl tl p0 p1 s0 s1 d0 d1 w0 w1 A B q m):At52 K C H' rl bl tl p0 p1 s0 s1 d0 d1 w0 w1 A B q m:=
 ⟨z _ _ h.rl,z _ _ h.bl,z _ _ h.tl,λj=>z _ _ (h.ro j),λj a=>(h.bk j a).mono z⟩
theorem At52.imp{q':Nat->Nat->Prop}(hq:∀j,j<2->∀i,i<(pk A B j).length->q' j i->q j i)(hm:m<=m')(h:At52 K C H rl bl tl p0 p1 s0 s1 d0 d1 w0 w1 A B q m):At52 K C H rl bl tl p0 p1 s0 s1 d0 d1 w0 w1 A B q' m':=
 ⟨h.rl,h.bl,h.tl,h.ro,λj a=>(h.bk j a).imp (hq j a) hm⟩
theorem At52.step{j:Nat}{qj:Nat->Prop}(D:Le rl bl tl p0 p1 d0 d1 w0 w1)(hj:j<2)(h:At52 K C H rl bl tl p0 p1 s0 s1 d0 d1 w0 w1 A B q m)(U:SameBut2 (pk d0 d1 j) (pk w0 w1 j) H H')
  (hb:Bk52 K C H' (pk s0 s1 j) (pk d0 d1 j) (pk w0 w1 j) (pk A B j) (pk A B (1-j)) qj m')(hm:m<=m'):At52 K C H' rl bl tl p0 p1 s0 s1 d0 d1 w0 w1 A B (λi x=>if i=j then qj x else q i x) m':=by
 obtain⟨e,a⟩:=(h.bk j hj).dk
 obtain⟨f,d⟩:=(h.bk j hj).wl
 refine⟨U _ _ (sN h.rl a (λz=>nomatch z)) (D.rl j) h.rl,U _ _ (sN h.bl a (λz=>nomatch z)) (D.bl j) h.bl,U _ _ (sN h.tl a (λz=>nomatch z)) (D.tl j) h.tl,λi=>U _ _ (sN (h.ro i) a (λz=>nomatch z)) (D.ro i j) (h.ro i),λi b=>?_⟩
 by_cases c:i=j
 ·subst c
  exact hb.imp (λx _ z=>by simpa using z) (cI _)
 ·exact((h.bk i b).but2 a d U (DA D.dd b hj c) (DA D.ww b hj c)).imp (λx _ z=>by simpa [c]using z) hm
end
theorem SqL.free{K:cu}{H:Hp}{a b:cG}{xs:List V}(h:SqL K H a xs)(hb:H b=none):a≠b\/∀H',SqL K H' a xs:=by
 rcases h with(h|⟨u,h⟩)|h
 ·exact .inl (rF h hb)
 ·exact .inl (rF h hb)
 ·exact .inr λ_=> .inr h
theorem SqL.overF{K:cu}{H:Hp}{a b:cG}{xs:List V}{o:HO}(hf:a≠b\/∀H',SqL K H' a xs)(h:SqL K H a xs):SqL K (upd H b o) a xs:=by
 rcases hf with hf|hf
 ·rcases h with(h|⟨u,h⟩)|h
  ·exact .inl (.inl (by rw[rH hf];exact h))
  ·exact .inl (.inr ⟨u,by rw[rH hf];exact h⟩)
  ·exact .inr h
 ·exact hf _
theorem SqL.keep2{K:cu}{H H':Hp}{a d w:cG}{xs:List V}{kvs:List (Gc×V)}(hf:a≠w\/∀H',SqL K H' a xs)(hd:H d=some (.dK kvs))(U:SameBut2 d w H H')(h:SqL K H a xs):SqL K H' a xs:=by
 rcases hf with hf|hf
 ·rcases h with(h|⟨u,h⟩)|h
  ·exact .inl (.inl (U _ _ (sN h hd (λz=>nomatch z)) hf h))
  ·exact .inl (.inr ⟨u,U _ _ (sN h hd (λz=>nomatch z)) hf h⟩)
  ·exact .inr h
 ·exact hf _
theorem KR{i j x k:Nat}(z:i<j\/(i=j/\x<k+1)):if i=j then((j<j\/(j=j/\x<k))\/x=k)else(i<j\/(i=j/\x<k)):=by
 split <;> omega
theorem z6(c:Int){j:Nat}(hj:j<2):Hb ((LM.mixed c 2).map V.int) (j:Int)=some (.int ((LM.mixed c 2).getD j 0)):=vO (by rw[LM.mixed_len];exact hj)
end L2
namespace Nk52
open PySem PySem.Spec PyProof.Rows L2
def Eg(i:Nat):Stmt:=cJ.main.body.getD i (.Pass ⟨0,0,0,0⟩)
def He(i j:Nat):Stmt:=match Eg i with | .ClassDef _ _ _ b _ _ _ _ _ _ _=>b.getD j (.Pass ⟨0,0,0,0⟩)|s=>s
structure Md(K:cu)(mg:Str->Option cA)(x:Xs)(cB:cG):Prop where
 f_is_whole:Def K mg "is_whole" (Eg 12)
 f_common_divisor:Def K mg "common_divisor" (Eg 13)
 f_fraction:Def K mg "fraction" (Eg 14)
 f_plus:Def K mg "plus" (Eg 15)
 f_minus:Def K mg "minus" (Eg 16)
 f_times:Def K mg "times" (Eg 17)
 f_before:Def K mg "before" (Eg 18)
 f_total:Def K mg "total" (Eg 19)
 f_least:Def K mg "least" (Eg 20)
 f_best_left:Def K mg "best_left" (Eg 22)
 f_time_to_stop:Def K mg "time_to_stop" (Eg 23)
 f_left_behind:Def K mg "left_behind" (Eg 24)
 f_courses_of:Def K mg "courses_of" (Eg 25)
 f_eaten_of:Def K mg "eaten_of" (Eg 26)
 f_eaten_by:Def K mg "eaten_by" (Eg 27)
 f_eaten:Def K mg "eaten" (Eg 28)
 f_deal_within:Def K mg "deal_within" (Eg 30)
 f_row_without:Def K mg "row_without" (Eg 31)
 f_lots_of:Def K mg "lots_of" (Eg 32)
 f_picked:Def K mg "picked" (Eg 33)
 f_is_listing:Def K mg "is_listing" (Eg 36)
 f_has_people:Def K mg "has_people" (Eg 37)
 f_best_free:Def K mg "best_free" (Eg 39)
 f_with_one:Def K mg "with_one" (Eg 40)
 f_turns_from:Def K mg "turns_from" (Eg 41)
 f_orders_of:Def K mg "orders_of" (Eg 42)
 f_counts_of:Def K mg "counts_of" (Eg 43)
 f_shares_by_turns:Def K mg "shares_by_turns" (Eg 44)
 f_by_turns:Def K mg "by_turns" (Eg 45)
 f_is_word:Def K mg "is_word" (Eg 48)
 f_is_roll:Def K mg "is_roll" (Eg 49)
 k_Book:BDef K mg cB "Book" "Book.__init__" (He 50 0)
 cl:Cls K cB
 na_people:NoAttr K cB "people"
 na_things:NoAttr K cB "things"
 na_wishes_told:NoAttr K cB "wishes_told"
 m_check_person:MDef K cB "check_person" "Book.check_person" (He 50 1)
 m_wish:MDef K cB "wish" "Book.wish" (He 50 2)
 m_lacking:MDef K cB "lacking" "Book.lacking" (He 50 3)
 m_table_by:MDef K cB "table_by" "Book.table_by" (He 50 4)
 m_shares:MDef K cB "shares" "Book.shares" (He 50 5)
 m_deal:MDef K cB "deal" "Book.deal" (He 50 6)
 f__law_cell_at:Def K mg "_law_cell_at" (Eg 52)
 f__law_mixed:Def K mg "_law_mixed" (Eg 53)
 f__law_perm:Def K mg "_law_perm" (Eg 54)
 f__law_base:Def K mg "_law_base" (Eg 57)
 f__law_word:Def K mg "_law_word" (Eg 58)
 f__law_words:Def K mg "_law_words" (Eg 59)
 f__law_divisor:Def K mg "_law_divisor" (Eg 55)
 f__law_lowest:Def K mg "_law_lowest" (Eg 56)
 f__law_same:Def K mg "_law_same" (Eg 60)
 f__law_table_by:Def K mg "_law_table_by" (Eg 61)
 f__law_shares_well:Def K mg "_law_shares_well" (Eg 62)
 f__law_deal_well:Def K mg "_law_deal_well" (Eg 63)
 f__law_wish:Def K mg "_law_wish" (Eg 64)
 f__law_refused:Def K mg "_law_refused" (Eg 65)
 f__law_deed:Def K mg "_law_deed" (Eg 66)
 b_isinstance:mg "isinstance"=none
 b_int:mg "int"=none
 b_bool:mg "bool"=none
 b_str:mg "str"=none
 b_list:mg "list"=none
 b_tuple:mg "tuple"=none
 b_abs:mg "abs"=none
 b_len:mg "len"=none
 b_range:mg "range"=none
 b_sorted:mg "sorted"=none
 b_set:mg "set"=none
 b_enumerate:mg "enumerate"=none
 b_zip:mg "zip"=none
 b_any:mg "any"=none
 b_all:mg "all"=none
 b_min:mg "min"=none
 b_max:mg "max"=none
 b_sum:mg "sum"=none
 b_ValueError:mg "ValueError"=none
 c_NOTHING:JY K mg "NOTHING" [.int 0,.int 1]
 c_WHOLE:JY K mg "WHOLE" [.int 1,.int 1]
 c_MOST_PEOPLE:∃t,mg "MOST_PEOPLE"=some (.int 6 t)
 c_MOST_SIGNS:∃t,mg "MOST_SIGNS"=some (.int 12 t)
 x_WishError:G6 K mg "WishError" x.WishError
 x_NoFraction:G6 K mg "NoFraction" x.NoFraction
 x_NoWishes:G6 K mg "NoWishes" x.NoWishes
 x_NoPick:G6 K mg "NoPick" x.NoPick
 x_NoRoll:G6 K mg "NoRoll" x.NoRoll
 x_NoPerson:G6 K mg "NoPerson" x.NoPerson
 x_Unready:G6 K mg "Unready" x.Unready
 x_NoWay:G6 K mg "NoWay" x.NoWay
 e_NoWishes:mz K x.NoWishes (.ref x.NoWishes)=some true
section
variable{P:cT}{w:dc}{K:cu}{mg:Str->Option cA}{base:Heap}{x:Xs}{cB:cG}
theorem Gk:Ef ["value"] ["value"] (Ec (Eg 12)):=⟨rfl,rfl,rfl,by decide +kernel,rfl,by decide +kernel,by decide +kernel⟩
set_option maxHeartbeats 4000000
theorem IK(M:Md K mg x cB):Dn P w K mg base Em 1 "is_whole" ["value"] (Jk):=by
 have g:=(Gk).nd;refine M.f_is_whole.ok Gk (λvs H Q E h=>?_) (λ_ _ _ _ _ _ b c=>match b,c with|[_],_=>rfl) (λf d A a s H vs Q E e h=>?_)
 ·obtain⟨i,rfl,q⟩:=h;rfl
 obtain⟨i,rfl,q⟩:=h;refine⟨_,(rD (rM (uw (rJ sx rfl M.b_isinstance Boot.«isinstance» (mM (pv 0) (mM (tW rfl M.b_int Boot.«int») rr))) (vH (CC (rJ sx rfl M.b_isinstance Boot.«isinstance» (mM (pv 0) (mM (tW rfl M.b_bool Boot.«bool») rr)))))))),?_⟩
 try dsimp -proj only[sd,rS,rV]
 refine⟨_,rfl,.int i,"int","int",rfl,by decide,rfl,_,rfl,?_⟩;refine ER ⟨_,rfl,.int i,"bool","int",rfl,by decide,rfl,_,rfl,q⟩
theorem EY:Ef ["one","two","greater","smaller","rest"] ["one","two"] (Ec (Eg 13)):=⟨rfl,rfl,rfl,by decide +kernel,rfl,by decide +kernel,by decide +kernel⟩
theorem Gh(M:Md K mg x cB):Dn P w K mg base Em 1 "common_divisor" ["one","two"] (Kl):=by
 have g:=(EY).nd;refine M.f_common_divisor.ok EY (λvs H Q E h=>?_) (λ_ _ _ _ _ _ C D=>match C,D with|[_,_],_=>rfl) (λf G A p s H vs Q E L h=>?_)
 ·obtain⟨i,j,rfl,q⟩:=h;rfl
 obtain⟨i,j,rfl,q⟩:=h;refine⟨_,(rq (rG (i:=2) g rfl (Or.inl rfl) (rJ wM rfl M.b_abs Boot.«abs» (mM (pv 0) rr)))
   (rq (rG (i:=3) g rfl (Or.inl rfl) (rJ wM rfl M.b_abs Boot.«abs» (mM (pv 1) rr)))
   (rq (uA dA (rR zw (pv 3) rE (Ej _)) (rq (rG (i:=4) g rfl (Or.inl rfl) (rO sg (pv 2) (pv 3)))
   (rq (rG (i:=2) g rfl (Or.inl rfl) (pv 3))
   (rD (rG (i:=3) g rfl (Or.inl rfl) (pv 4))))))
   (rD (rM (pv 2)))))),?_⟩
 try dsimp -proj only[sd,rS,rV]
 refine⟨_,rfl,i,rfl,_,rfl,j,rfl,?_⟩;refine yQ (λm n l=>l=H/\∃(a b:Int) (r:Option V),n=[some (.int i),some (.int j),some (.int a),some (.int b),r]/\0<=a/\0<=b/\Int.gcd a b=Int.gcd i j/\m=b.toNat)
  ⟨_,rfl,_,_,_,rfl,?_,?_,?_,rfl⟩ (λm n l F=>?_) (λn l J I B h=>?_)
 ·split <;> omega
 ·split <;> omega
 ·split <;> split <;> simp
 ·obtain⟨rfl,a,b,r,rfl,N,y,o,rfl⟩:=F;refine⟨_,rfl,rfl,_,rfl,?_⟩;refine Jv (λc=>?_) (λc=>?_)
  ·have d:b≠0:=λz=>by subst z;simp at c
   refine⟨_,rfl,_,rfl,a,b,rfl,rfl,by show(0:Int)<b;omega,_,rfl,_,rfl,?_⟩;refine⟨(a%b).toNat,?_,rfl,b,a%b,_,rfl,y,dO _ d,?_,rfl⟩
   ·have:=dC a (show 0<b by omega);have:=dO a d;omega
   ·rw[FQ.gcd_turn,o]
  ·have d:b=0:=by
    by_cases z:b=0
    ·exact z
    ·exact absurd (by simpa using z) c
   subst d;refine⟨_,rfl,?_⟩;have e:(a:Int)=(Int.gcd i j:Int):=by rw[<-o];simp;omega
   rw[e];exact q
 ·obtain⟨v,e,u,k,t,q⟩:=h;exact⟨v,e,u,k,t,B _ _ q⟩
theorem Gj:Ef ["top","bottom","divisor"] ["top","bottom"] (Ec (Eg 14)):=⟨rfl,rfl,rfl,by decide +kernel,rfl,by decide +kernel,by decide +kernel⟩
theorem IW(M:Md K mg x cB)
  (Gis_whole:Dn P w K mg base Em 1 "is_whole" ["value"] (Jk))
  (Gcommon_divisor:Dn P w K mg base Em 1 "common_divisor" ["one","two"] (Kl)):Dn P w K mg base (FH P w) 2 "fraction" ["top","bottom"] (EN x):=by
 have l:=(Gj).nd
 refine M.f_fraction.okE Gj (λvs H Q E h=>?_) (λ_ _ _ _ _ _ r u=>match r,u with|[_,_],_=>rfl) (λf v A n s H vs Q E g h=>?_)
 ·obtain⟨t,b,rfl,k,q⟩:=h
  rfl
 obtain⟨t,b,rfl,k,q⟩:=h
 refine⟨_,(rq (sA (PW.pt (xA (tI (sS (rW Gis_whole g (by decide) rfl Eh (mM (pv 0) rr)))) (xA (tI (sS (rW Gis_whole g (by decide) rfl Eh (mM (pv 1) rr)))) (wk (rR tS (pv 1) rE (Ej _)))))) (rD (tR M.x_NoFraction rfl (mM sG rr))) rX)
   (rq (rG (i:=2) l rfl (Or.inl rfl) (rW Gcommon_divisor g (by decide) rfl Eh (mM (pv 0) (mM (pv 1) rr))))
   (rq (sA (rR zM (pv 1) rE (Ej _)) (rD (rG (i:=2) l rfl (Or.inl rfl) (D5 DX (pv 2)))) rX)
   (rD (rM (sI (mM (rO Ap (pv 0) (pv 2)) (mM (rO Ap (pv 1) (pv 2)) rr)))))))),?_⟩
 try dsimp -proj only[sd,rS,rV]
 refine⟨_,rfl,t,rfl,_,rfl,Eu ⟨_,rfl,b,rfl,_,rfl,Eu ⟨_,rfl,rfl,_,rfl,EE (λc=>?_) (λc=>?_)⟩⟩⟩
 ·exact⟨by show 1<=sizeLine;decide,k (Ki c)⟩
 have m:b≠0:=λz=>c (by rw[z])
 obtain⟨o,q⟩:=q m
 refine⟨_,rfl,_,rfl,t,b,rfl,?_⟩
 refine⟨_,rfl,b,0,rfl,rfl,_,rfl,?_⟩
 have j:=uY (t:=t) m o
 refine Jv (λc=>?_) (λc=>?_)
 ·have d:b<0:=of_decide_eq_true c
  have e:=j.1 d
  refine⟨_,rfl,_,rfl,?_⟩
  refine⟨_,rfl,_,rfl,t,_,rfl,rfl,e.1,_,rfl,_,rfl,b,_,rfl,rfl,e.1,by show 2<=sizeLine;decide,λp hp=>q p _ (rz hp _) ?_⟩
  rw[rC]
  show some (HO.tup [V.int (t.fdiv _),V.int (b.fdiv _)])=_
  rw[e.2.1,e.2.2]
  rfl
 ·have a:¬b<0:=of_decide_eq_false (Bool.eq_false_iff.mpr c)
  have e:=j.2 a
  refine⟨_,rfl,_,rfl,t,_,rfl,rfl,e.1,_,rfl,_,rfl,b,_,rfl,rfl,e.1,by show 2<=sizeLine;decide,λp hp=>q p _ (rz hp _) ?_⟩
  rw[rC]
  show some (HO.tup [V.int (t.fdiv _),V.int (b.fdiv _)])=_
  rw[e.2.1,e.2.2]
  rfl
theorem Jn:Ef ["one","two"] ["one","two"] (Ec (Eg 15)):=⟨rfl,rfl,rfl,by decide +kernel,rfl,by decide +kernel,by decide +kernel⟩
theorem KB(M:Md K mg x cB)
  (Gfraction:Dn P w K mg base (FH P w) 2 "fraction" ["top","bottom"] (EN x)):Dn P w K mg base Em 3 "plus" ["one","two"] (G8 FP K):=by
 have B:=(Jn).nd
 refine M.f_plus.ok Jn (λvs H Q E h=>?_) (λ_ _ _ _ _ _ t u=>match t,u with|[_,_],_=>rfl) (λf v A l s H vs Q E o h=>?_)
 ·obtain⟨a,b,x,y,rfl,c,d,k,e,q⟩:=h
  rfl
 obtain⟨a,b,x,y,rfl,c,d,k,e,q⟩:=h
 refine⟨_,(rD (rM (rW Gfraction o (by decide) rfl FG (mM (rO sH (rO sC (rN sv (pv 0) rE (λ_ _=>rfl)) (rN sv (pv 1) rE (λ_ _=>rfl))) (rO sC (rN sv (pv 1) rE (λ_ _=>rfl)) (rN sv (pv 0) rE (λ_ _=>rfl)))) (mM (rO sC (rN sv (pv 0) rE (λ_ _=>rfl)) (rN sv (pv 1) rE (λ_ _=>rfl))) rr))))),?_⟩
 try dsimp -proj only[sd,rS,rV]
 obtain⟨r,j,m⟩:=k
 obtain⟨p,g,n⟩:=e
 refine⟨_,rfl,a,_,0,_,rfl,rfl,c,rfl,?_⟩
 refine⟨_,rfl,b,_,1,_,rfl,rfl,d,rfl,?_⟩
 refine⟨_,_,rfl,rfl,Hd r g,?_⟩
 refine⟨_,rfl,b,_,0,_,rfl,rfl,d,rfl,?_⟩
 refine⟨_,rfl,a,_,1,_,rfl,rfl,c,rfl,?_⟩
 refine⟨_,_,rfl,rfl,Hd p j,?_⟩
 refine⟨_,_,rfl,rfl,?_⟩
 refine⟨_,rfl,a,_,1,_,rfl,rfl,c,rfl,?_⟩
 refine⟨_,rfl,b,_,1,_,rfl,rfl,d,rfl,?_⟩
 refine⟨_,_,rfl,rfl,Hd j g,?_⟩
 exact⟨_,_,rfl,λz=>absurd z (dE m n),λ_=>⟨Kw j g,q⟩⟩
theorem Ik:Ef ["one","two"] ["one","two"] (Ec (Eg 16)):=⟨rfl,rfl,rfl,by decide +kernel,rfl,by decide +kernel,by decide +kernel⟩
theorem Kb(M:Md K mg x cB)
  (Gfraction:Dn P w K mg base (FH P w) 2 "fraction" ["top","bottom"] (EN x)):Dn P w K mg base Em 3 "minus" ["one","two"] (G8 IR K):=by
 have B:=(Ik).nd
 refine M.f_minus.ok Ik (λvs H Q E h=>?_) (λ_ _ _ _ _ _ t u=>match t,u with|[_,_],_=>rfl) (λf v A l s H vs Q E o h=>?_)
 ·obtain⟨a,b,x,y,rfl,c,d,k,e,q⟩:=h
  rfl
 obtain⟨a,b,x,y,rfl,c,d,k,e,q⟩:=h
 refine⟨_,(rD (rM (rW Gfraction o (by decide) rfl FG (mM (rO wu (rO sC (rN sv (pv 0) rE (λ_ _=>rfl)) (rN sv (pv 1) rE (λ_ _=>rfl))) (rO sC (rN sv (pv 1) rE (λ_ _=>rfl)) (rN sv (pv 0) rE (λ_ _=>rfl)))) (mM (rO sC (rN sv (pv 0) rE (λ_ _=>rfl)) (rN sv (pv 1) rE (λ_ _=>rfl))) rr))))),?_⟩
 try dsimp -proj only[sd,rS,rV]
 obtain⟨r,j,m⟩:=k
 obtain⟨p,g,n⟩:=e
 refine⟨_,rfl,a,_,0,_,rfl,rfl,c,rfl,?_⟩
 refine⟨_,rfl,b,_,1,_,rfl,rfl,d,rfl,?_⟩
 refine⟨_,_,rfl,rfl,Hd r g,?_⟩
 refine⟨_,rfl,b,_,0,_,rfl,rfl,d,rfl,?_⟩
 refine⟨_,rfl,a,_,1,_,rfl,rfl,c,rfl,?_⟩
 refine⟨_,_,rfl,rfl,Hd p j,?_⟩
 refine⟨_,_,rfl,rfl,?_⟩
 refine⟨_,rfl,a,_,1,_,rfl,rfl,c,rfl,?_⟩
 refine⟨_,rfl,b,_,1,_,rfl,rfl,d,rfl,?_⟩
 refine⟨_,_,rfl,rfl,Hd j g,?_⟩
 exact⟨_,_,rfl,λz=>absurd z (dE m n),λ_=>⟨Kw j g,q⟩⟩
theorem Ij:Ef ["one","two"] ["one","two"] (Ec (Eg 17)):=⟨rfl,rfl,rfl,by decide +kernel,rfl,by decide +kernel,by decide +kernel⟩
theorem Ke(M:Md K mg x cB)
  (Gfraction:Dn P w K mg base (FH P w) 2 "fraction" ["top","bottom"] (EN x)):Dn P w K mg base Em 3 "times" ["one","two"] (G8 IY K):=by
 have B:=(Ij).nd
 refine M.f_times.ok Ij (λvs H Q E h=>?_) (λ_ _ _ _ _ _ t u=>match t,u with|[_,_],_=>rfl) (λf v A l s H vs Q E o h=>?_)
 ·obtain⟨a,b,x,y,rfl,d,e,j,c,q⟩:=h
  rfl
 obtain⟨a,b,x,y,rfl,d,e,j,c,q⟩:=h
 refine⟨_,(rD (rM (rW Gfraction o (by decide) rfl FG (mM (rO sC (rN sv (pv 0) rE (λ_ _=>rfl)) (rN sv (pv 1) rE (λ_ _=>rfl))) (mM (rO sC (rN sv (pv 0) rE (λ_ _=>rfl)) (rN sv (pv 1) rE (λ_ _=>rfl))) rr))))),?_⟩
 try dsimp -proj only[sd,rS,rV]
 obtain⟨r,k,m⟩:=j
 obtain⟨p,g,n⟩:=c
 refine⟨_,rfl,a,_,0,_,rfl,rfl,d,rfl,?_⟩
 refine⟨_,rfl,b,_,0,_,rfl,rfl,e,rfl,?_⟩
 refine⟨_,_,rfl,rfl,Hd r p,?_⟩
 refine⟨_,rfl,a,_,1,_,rfl,rfl,d,rfl,?_⟩
 refine⟨_,rfl,b,_,1,_,rfl,rfl,e,rfl,?_⟩
 refine⟨_,_,rfl,rfl,Hd k g,?_⟩
 exact⟨_,_,rfl,λz=>absurd z (dE m n),λ_=>⟨Kw k g,q⟩⟩
theorem Hl:Ef ["one","two"] ["one","two"] (Ec (Eg 18)):=⟨rfl,rfl,rfl,by decide +kernel,rfl,by decide +kernel,by decide +kernel⟩
theorem JT(M:Md K mg x cB):Dn P w K mg base Em 1 "before" ["one","two"] (GI K):=by
 have z:=(Hl).nd;refine M.f_before.ok Hl (λvs H Q E h=>?_) (λ_ _ _ _ _ _ o p=>match o,p with|[_,_],_=>rfl) (λf r A j s H vs Q E v h=>?_)
 ·obtain⟨a,b,x,y,rfl,d,e,g,c,q⟩:=h;rfl
 obtain⟨a,b,x,y,rfl,d,e,g,c,q⟩:=h;refine⟨_,(rD (rM (tK zM (rO sC (rN sv (pv 0) rE (λ_ _=>rfl)) (rN sv (pv 1) rE (λ_ _=>rfl))) (rO sC (rN sv (pv 1) rE (λ_ _=>rfl)) (rN sv (pv 0) rE (λ_ _=>rfl))) (Ej _)))),?_⟩
 try dsimp -proj only[sd,rS,rV]
 obtain⟨n,m,t⟩:=g;obtain⟨l,k,u⟩:=c;refine⟨_,rfl,a,_,0,_,rfl,rfl,d,rfl,?_⟩;refine⟨_,rfl,b,_,1,_,rfl,rfl,e,rfl,?_⟩;refine⟨_,_,rfl,rfl,Hd n k,?_⟩;refine⟨_,rfl,b,_,0,_,rfl,rfl,e,rfl,?_⟩;refine⟨_,rfl,a,_,1,_,rfl,rfl,d,rfl,?_⟩;exact⟨_,_,rfl,rfl,Hd l m,_,_,rfl,rfl,q⟩
theorem IF:Ef ["parts","so_far","part"] ["parts"] (Ec (Eg 19)):=⟨rfl,rfl,rfl,by decide +kernel,rfl,by decide +kernel,by decide +kernel⟩
theorem Kc(M:Md K mg x cB)
  (Gplus:Dn P w K mg base Em 3 "plus" ["one","two"] (G8 FP K)):Dn P w K mg base Em 4 "total" ["parts"] (JG K):=by
 have L:=(IF).nd
 refine M.f_total.ok IF (λvs H Q E h=>?_) (λ_ _ _ _ _ _ S T=>match S,T with|[_],_=>rfl) (λf U A O s H vs Q E R h=>?_)
 ·obtain⟨a,F,j,rfl,l,u,G,o,q⟩:=h
  rfl
 obtain⟨a,F,j,rfl,l,u,G,o,q⟩:=h
 refine⟨_,(rq (rG (i:=1) L rfl (Or.inl rfl) (t9 M.c_NOTHING))
   (rq (sT dA rfl (DH (pv 0)) (rK (i:=2) L rfl (Or.inl rfl)) (rD (rG (i:=1) L rfl (Or.inl rfl) (rW Gplus R (by decide) rfl Eh (mM (pv 1) (mM (pv 2) rr))))))
   (rD (rM (pv 1))))),?_⟩
 try dsimp -proj only[sd,rS,rV]
 refine λB C=>?_
 rcases l with l|l
 ·refine .inl ⟨_,rfl,a,rfl,⟨_,l⟩,?_⟩
  refine u7 (xs:=F) (λi k c=>Same H c/\∃d r,k=[some (.ref a),some d,r]/\IsF K c d (Fo (j.take i)))
   ⟨Same.refl _,.ref B,_,rfl,B,rfl,C _⟩ (λi k c _ e=>e.1.seq l) (λi v k c I e=>?_) (λk c e=>?_)
  ·obtain⟨g,d,r,rfl,b⟩:=e
   obtain⟨y,n,m⟩:=Paired.get' u I
   obtain⟨z,rfl,b⟩:=b
   obtain⟨J,rfl,m⟩:=m
   refine⟨_,rfl,_,rfl,z,J,Fo (j.take i),y,rfl,b,g.tup m,G i,o y (da n),λp N D hp=>?_⟩
   refine⟨g.trans D,.ref p,_,rfl,p,rfl,?_⟩
   rw[cY,n]
   show SqT K N p [.int (Fo (j.take i++[y])).1,.int (Fo (j.take i++[y])).2]
   rw[uE]
   exact SqT.of hp
  ·obtain⟨g,d,r,rfl,b⟩:=e
   have t:=Paired.len u
   rw[t,dj]at b
   exact⟨_,rfl,q d c g b⟩
 ·refine .inr ⟨_,rfl,a,rfl,⟨_,l⟩,?_⟩
  refine Dg (xs:=F) (λi k c=>Same H c/\∃d r,k=[some (.ref a),some d,r]/\IsF K c d (Fo (j.take i)))
   ⟨Same.refl _,.ref B,_,rfl,B,rfl,C _⟩ (λi k c _ e=>e.1.tup l) (λi v k c I e=>?_) (λk c e=>?_)
  ·obtain⟨g,d,r,rfl,b⟩:=e
   obtain⟨y,n,m⟩:=Paired.get' u I
   obtain⟨z,rfl,b⟩:=b
   obtain⟨J,rfl,m⟩:=m
   refine⟨_,rfl,_,rfl,z,J,Fo (j.take i),y,rfl,b,g.tup m,G i,o y (da n),λp N D hp=>?_⟩
   refine⟨g.trans D,.ref p,_,rfl,p,rfl,?_⟩
   rw[cY,n]
   show SqT K N p [.int (Fo (j.take i++[y])).1,.int (Fo (j.take i++[y])).2]
   rw[uE]
   exact SqT.of hp
  ·obtain⟨g,d,r,rfl,b⟩:=e
   have t:=Paired.len u
   rw[t,dj]at b
   exact⟨_,rfl,q d c g b⟩
theorem HW:Ef ["parts","smallest","part"] ["parts"] (Ec (Eg 20)):=⟨rfl,rfl,rfl,by decide +kernel,rfl,by decide +kernel,by decide +kernel⟩
theorem J3(M:Md K mg x cB)
  (Gbefore:Dn P w K mg base Em 1 "before" ["one","two"] (GI K)):Dn P w K mg base Em 2 "least" ["parts"] (HN K):=by
 have J:=(HW).nd
 refine M.f_least.ok HW (λvs H Q E h=>?_) (λ_ _ _ _ _ _ us j=>match us,j with|[_],_=>rfl) (λf aa A X s H vs Q E Z h=>?_)
 ·obtain⟨a,F,b,rfl,z,C,k,j,u,q⟩:=h
  rfl
 obtain⟨a,F,b,rfl,z,C,k,j,u,q⟩:=h
 refine⟨_,(rq (rG (i:=1) J rfl (Or.inl rfl) (rN rL (pv 0) rE (λ_ _=>rfl)))
   (rq (sT dA rfl (sZ (pv 0)) (rK (i:=2) J rfl (Or.inl rfl)) (rD (sA (sS (rW Gbefore Z (by decide) rfl Eh (mM (pv 2) (mM (pv 1) rr)))) (rD (rG (i:=1) J rfl (Or.inl rfl) (pv 2))) rX)))
   (rD (rM (pv 1))))),?_⟩
 try dsimp -proj only[sd,rS,rV]
 obtain⟨g,m⟩:∃p,b[0]?=some p:=by
  cases b with
  | nil=>exact absurd rfl k
  | cons p r=>exact⟨p,rfl⟩
 have R:b.headD (0,1)=g:=by
  cases b with
  | nil=>exact absurd rfl k
  | cons p r=>exact Option.some.inj m
 have sz:∀i,Sz 4000 (Ew g (b.take i)):=λi=>by
  have:∀(l:List (Int×Int)) (s:Int×Int),Sz 4000 s->(∀p∈l,Sz 4000 p)->Sz 4000 (Ew s l):=by
   intro l
   induction l with
   | nil=>intro s G _;exact G
   | cons x r ih=>
    intro s G j
    refine ih _ ?_ λp hp=>j p (cO _ hp)
    show Sz 4000 (if Ez x s=true then x else s)
    split
    ·exact j x cM
    ·exact G
  exact this _ _ (u _ (da m)) λp hp=>u p (gu hp)
 obtain⟨O,U,N⟩:=Paired.get C m
 refine⟨_,rfl,a,F,0,O,rfl,rfl,z,sr U,?_⟩
 refine⟨_,rfl,a,rfl,⟨_,z⟩,?_⟩
 refine u7 (xs:=F) (λi B t=>t=H/\∃n r,B=[some (.ref a),some n,r]/\IsF K H n (Ew g (b.take i)))
  ⟨rfl,O,_,rfl,N⟩ (λi B t _ o=>by rw[o.1];exact z) (λi v B t Y o=>?_) (λB t o=>?_)
 ·obtain⟨rfl,n,r,rfl,d⟩:=o
  obtain⟨y,L,W⟩:=Paired.get' C Y
  have e:Ew g (b.take (i+1))=if Ez y (Ew g (b.take i))=true then y else Ew g (b.take i):=by
   rw[cY,L]
   unfold Ew
   rw[nI]
   rfl
  obtain⟨D,rfl,I⟩:=id d
  obtain⟨S,rfl,V⟩:=id W
  refine⟨_,rfl,_,rfl,S,D,y,Ew g (b.take i),rfl,V,I,u y (da L),sz i,_,rfl,?_⟩
  rw[e]
  show if Ez y (Ew g (b.take i))=true then _ else _
  refine Jv (λc=>?_) (λc=>?_)
  ·refine⟨_,rfl,rfl,.ref S,_,rfl,?_⟩
   rw[if_pos c]
   exact W
  ·refine⟨rfl,.ref D,_,rfl,?_⟩
   rw[if_neg c]
   exact d
 ·obtain⟨rfl,n,r,rfl,d⟩:=o
  have T:=Paired.len C
  rw[T,dj]at d
  refine⟨_,rfl,q n ?_⟩
  unfold GL
  rw[R]
  exact d
theorem F0:Ef ["wish","left"] ["wish","left"] (Ec (Eg 22)):=⟨rfl,rfl,rfl,by decide +kernel,rfl,by decide +kernel,by decide +kernel⟩
theorem Ig(M:Md K mg x cB):Dn P w K mg base Em 1 "best_left" ["wish","left"] (Jg K):=by
 have nd:=(F0).nd;refine M.f_best_left.ok F0 (λvs H Q E h=>?_) (λ_ _ _ _ _ _ us p=>match us,p with|[_,_],_=>rfl) (λf aa A U s H vs Q E hr h=>?_)
 ·obtain⟨w,l,b,d,D,G,rfl,y,p,T,X,j,J,u,q⟩:=h;rfl
 obtain⟨w,l,b,d,D,G,rfl,y,p,T,X,j,J,u,q⟩:=h;refine⟨_,(rD (rM (rN rL (sy rfl (N:=["thing","left"]) (caps:=[none,some 1]) (CompOk.of (by kernel_rfl)) (rY rfl) (uy (pv 0)) (λ_ _ _ _=>(rK (i:=0) (show(["thing","left"]:List Str).Nodup by decide +kernel) rfl (Or.inl rfl) (Or.inr rfl))) (λ_ _ _ _=>(tZ (rR (AV (K:=K) rfl hr) (rN (sV (K:=K) rfl) (pv 1) (pv 0) (λ_ _=>rfl)) (vb (K:=K) rfl M.c_NOTHING) (Ej _)))) (λ_ _ _ _=>(pv 0))) rE (λ_ _=>rfl)))),?_⟩
 try dsimp -proj only[sd,rS,rV]
 refine⟨_,rfl,w,rfl,⟨_,y⟩,?_⟩;refine ug (xs:=b.map V.int) (λi o n=>n=H/\o=((b.take i).filter λt=>decide (EM.at0 d t≠0)).map V.int)
  ⟨rfl,rfl⟩ (λi o n _ m=>by rw[m.1];exact y) (λi x o n k m=>?_) (λo n m Dd I=>?_)
 ·obtain⟨rfl,rfl⟩:=m;rw[cH]at k
  cases e:b[i]? with
  | none=>rw[e]at k;cases k
  | some t=>
   rw[e]at k;have R:V.int t=x:=Option.some.inj k;subst R;have S:=j t (da e);have L:t.toNat<d.length:=by omega
   have C:(fr D d)[t.toNat]?=some (FQ.red (EM.at0 d t) D):=by
    unfold fr EM.at0;rw[cH,cC,cz L];rfl
   obtain⟨v,hv,hF⟩:=Paired.get T C;refine⟨_,rfl,_,rfl,l,G,t,v,rfl,rfl,p,sJ S.1 hv,λZ F=>?_⟩;refine⟨dF (FQ.red (EM.at0 d t) D),dF (0,1),hF.rep,IsF.rep ⟨Z,rfl,F _⟩,sE _,sE _,_,rfl,?_⟩;rw[uM,cY,e,gm,cS];have B:(((b.take i).filter λt=>decide (EM.at0 d t≠0)).map V.int).length<sizeLine:=by
    rw[cx];have h1:=d6 (λt=>decide (EM.at0 d t≠0)) (b.take i);rw[cV]at h1;exact Ed (by omega)
   refine GQ (λc=>?_) (λc=>?_)
   ·have g:EM.at0 d t≠0:=λz=>c ((sw (by omega)).mpr z)
    refine⟨_,rfl,B,rfl,?_⟩;simp[g]
   ·have g:EM.at0 d t=0:=(sw (by omega)).mp c;refine⟨rfl,?_⟩;simp[g]
 ·obtain⟨rfl,rfl⟩:=m;rw[cx,dj];obtain⟨t,W,g⟩:=u;have O:t∈b.filter λt=>decide (EM.at0 d t≠0):=d8.mpr ⟨W,decide_eq_true g⟩
  have hh:(b.filter λt=>decide (EM.at0 d t≠0))[0]?=some (EM.best d b):=by
   unfold EM.best
   cases Y:b.filter λt=>decide (EM.at0 d t≠0)with
   | nil=>rw[Y]at O;cases O
   | cons a r=>rfl
  refine⟨Dd,_,0,_,rfl,rfl,SqL.of rC,sr (by rw[cH,hh];rfl),q _ (rz I _)⟩
theorem Fj:Ef ["dishes","left"] ["dishes","left"] (Ec (Eg 23)):=⟨rfl,rfl,rfl,by decide +kernel,rfl,by decide +kernel,by decide +kernel⟩
theorem GS(M:Md K mg x cB)
  (Gtimes:Dn P w K mg base Em 3 "times" ["one","two"] (G8 IY K))
  (Gleast:Dn P w K mg base Em 2 "least" ["parts"] (HN K)):Dn P w K mg base Em 4 "time_to_stop" ["dishes","left"] (Jc K):=by
 have nd:=(Fj).nd
 refine M.f_time_to_stop.ok Fj (λvs H Q E h=>?_) (λ_ _ _ _ _ _ us L=>match us,L with|[_,_],_=>rfl) (λf ai A ah s H vs Q E hr h=>?_)
 ·obtain⟨d,l,b,ms,D,Z,rfl,C,L,hg,X,T,I,aa,r,G,q⟩:=h
  rfl
 obtain⟨d,l,b,ms,D,Z,rfl,C,L,hg,X,T,I,aa,r,G,q⟩:=h
 refine⟨_,(rD (rM (rW Gleast hr (by decide) rfl Eh (mM (sy rfl (N:=["thing","dishes","left"]) (caps:=[none,some 0,some 1]) (CompOk.of (by kernel_rfl)) (rY rfl) (sZ (pv 0)) (λ_ _ _ _=>(rK (i:=0) (show(["thing","dishes","left"]:List Str).Nodup by decide +kernel) rfl (Or.inl rfl) (Or.inr rfl))) (λ_ _ _ _=>su) (λ_ _ _ _=>(rW Gtimes hr (by decide) rfl Eh (mM (rN (sV (K:=K) rfl) (pv 2) (pv 0) (λ_ _=>rfl)) (mM (sI (mM rE (mM (CF (K:=K) rfl dI ln lp (xz (K:=K) rfl) (pv 1) (mM (pv 0) rr)) rr))) rr))))) rr)))),?_⟩
 try dsimp -proj only[sd,rS,rV]
 refine⟨_,rfl,d,rfl,⟨_,C⟩,?_⟩
 refine sU (xs:=b.map V.int) (λi y c=>Same H c/\dr (IsF K c) y ((b.take i).map (ED D b ms)))
  ⟨Same.refl _,.nil⟩ (λi y c _ J=>J.1.seq C) (λi x y c B J=>?_) (λy c J Dd ab=>?_)
 ·obtain⟨k,g⟩:=J
  rw[cH]at B
  cases u:b[i]? with
  | none=>rw[u]at B;cases B
  | some t=>
   rw[u]at B
   have ag:V.int t=x:=Option.some.inj B
   subst ag
   have W:=da u
   have j:=r t W
   have ad:t.toNat<ms.length:=by omega
   have Y:(fr D ms)[t.toNat]?=some (FQ.red (EM.at0 ms t) D):=by
    unfold fr EM.at0
    rw[cH,cC,cz ad]
    rfl
   have ae:=G _ (EM.at0_mem (ms:=ms) j.1 j.2)
   have S:=EM.cnt_pos W
   have af:=EM.cnt_le b t
   obtain⟨v,O,va,rfl,hF⟩:=Paired.get hg Y
   refine⟨_,rfl,_,rfl,l,Z,t,_,rfl,rfl,k.seq L,sJ j.1 O,?_⟩
   refine⟨_,rfl,.inl ⟨rfl,_,k.seq C⟩,_,rfl,d,b,t,rfl,rfl,k.seq C,by show 2<=sizeLine;decide,λp hp=>?_⟩
   have o:Same c (upd c p (.tup [.int 1,.int (b.count t:Nat)])):=rz hp _
   have R:upd c p (.tup [.int 1,.int (b.count t:Nat)]) p=some (.tup [.int 1,.int (b.count t:Nat)]):=rC
   generalize upd c p (.tup [.int 1,.int (b.count t:Nat)])=H2 at o R ⊢
   have z:=Paired.len g
   rw[cx,cV]at z
   have U:D≠0:=by omega
   have aj:EM.cnt b t=(b.count t:Nat):=rfl
   refine⟨va,p,FQ.red (EM.at0 ms t) D,(1,EM.cnt b t),rfl,(k.trans o).tup hF,SqT.of R,(tQ (n:=30) U (by omega) (by omega)).up (by decide),Sz.up (m:=30) ⟨by show(1:Int).natAbs<2^30;decide,by show(EM.cnt b t).natAbs<2^30;omega,by show EM.cnt b t≠0;omega⟩ (by decide),λpf H3 S3 ac=>⟨Ed (by omega),k.trans (o.trans S3),?_⟩⟩
   rw[cY,u,cS]
   refine Paired.app (rQ (o.trans S3) g) (.cons ⟨pf,rfl,?_⟩ .nil)
   have e:ED D b ms t=IY (FQ.red (EM.at0 ms t) D) (1,EM.cnt b t):=by
    unfold ED
    rw[Bm (uZ U) (Bj (a:=1) (D:=EM.cnt b t) (by omega)),ia]
   rw[e]
   exact SqT.of ac
 ·obtain⟨k,g⟩:=J
  rw[cx,dj]at g
  have z:=Paired.len g
  rw[cx]at z
  have o:Same c (upd c Dd (.lst y)):=rz ab _
  refine⟨Dd,y,b.map (ED D b ms),rfl,SqL.of rC,rQ o g,by simpa using I,by rw[cx];omega,λp hp=>?_,λv O=>?_⟩
  ·obtain⟨t,ht,rfl⟩:=dv.mp hp
   have j:=r t ht
   have ae:=G _ (EM.at0_mem (ms:=ms) j.1 j.2)
   have S:=EM.cnt_pos ht
   have af:=EM.cnt_le b t
   have h1:0<D*EM.cnt b t:=gU X S
   have h2:D*EM.cnt b t<=262144*6:=jv T (by omega) (by omega) (by decide)
   exact(tQ (n:=30) (by omega) (by omega) (by omega)).up (by decide)
  ·rw[zH X I]at O
   exact q v _ (k.trans o) O
theorem FB:Ef ["dishes","left","length"] ["dishes","left","length"] (Ec (Eg 24)):=⟨rfl,rfl,rfl,by decide +kernel,rfl,by decide +kernel,by decide +kernel⟩
theorem Ha(M:Md K mg x cB)
  (Gminus:Dn P w K mg base Em 3 "minus" ["one","two"] (G8 IR K))
  (Gtimes:Dn P w K mg base Em 3 "times" ["one","two"] (G8 IY K)):Dn P w K mg base Em 4 "left_behind" ["dishes","left","length"] (Jf K):=by
 have nd:=(FB).nd
 refine M.f_left_behind.ok FB (λvs H Q E h=>?_) (λ_ _ _ _ _ _ us v=>match us,v with|[_,_,_],_=>rfl) (λf aq A aj s H vs Q E hr h=>?_)
 ·obtain⟨d,l,p,b,ms,D,c,m,gs,rfl,hd,v,hg,hp,hD,U,X,ae,z,ah,ab,ai,R,q⟩:=h
  rfl
 obtain⟨d,l,p,b,ms,D,c,m,gs,rfl,hd,v,hg,hp,hD,U,X,ae,z,ah,ab,ai,R,q⟩:=h
 refine⟨_,(rD (rM (sy rfl (N:=["thing","part","dishes","length"]) (caps:=[none,none,some 0,some 2]) (CompOk.of (by kernel_rfl)) (yq (tm sL (rY rfl) (tm sL (rY rfl) wG))) (Aj rfl M.b_enumerate (mM (pv 1) rr)) (λ_ _ _ _=>(w6 (K:=K) rfl 2 rfl (sD (rK (i:=0) (show(["thing","part","dishes","length"]:List Str).Nodup by decide +kernel) rfl (Or.inl rfl) (Or.inr rfl)) (sD (rK (i:=1) (show(["thing","part","dishes","length"]:List Str).Nodup by decide +kernel) rfl (Or.inl rfl) (Or.inr rfl)) ut)))) (λ_ _ _ _=>su) (λ_ _ _ _=>(rW Gminus hr (by decide) rfl Eh (mM (pv 1) (mM (rW Gtimes hr (by decide) rfl Eh (mM (sI (mM (CF (K:=K) rfl dI ln lp (xz (K:=K) rfl) (pv 2) (mM (pv 0) rr)) (mM rE rr))) (mM (pv 3) rr))) rr))))))),?_⟩
 try dsimp -proj only[sd,rS,rV]
 have G:=Paired.len hg
 unfold fr at G
 rw[cx]at G
 have Z:D≠0:=by omega
 have ap:0<D*c:=gU hD X
 have ar:D*c<=262144*6:=jv U (by omega) (by omega) (by decide)
 refine⟨_,rfl,l,rfl,⟨_,v⟩,?_⟩
 refine za (xs:=gs) (λi C e=>Same H e/\dr (IsF K e) C (fr (D*c) (((LM.rng ms.length).take i).map λj=>EM.at0 ms j*c-EM.cnt b j*m)))
  ⟨Same.refl _,.nil⟩ (λi C e _ J=>J.1.seq v) (λi x C e t hx ht J=>?_) (λC e J Dd o=>?_)
 ·obtain⟨O,g⟩:=J
  have am:i<gs.length:=(cL.mp hx).1
  obtain⟨y,hy,u,rfl,hF⟩:=Paired.get' hg hx
  have ag:=EM.rng_get (n:=ms.length) (k:=i) (by omega)
  have ac:(fr D ms)[i]?=some (FQ.red (EM.at0 ms (i:Int)) D):=by
   unfold fr EM.at0
   rw[cH,cC,gb,cz (by omega)]
   rfl
  rw[ac]at hy
  cases hy
  have an:=R _ (EM.at0_mem (ms:=ms) (t:=(i:Int)) (by omega) (by omega))
  have af:=EM.cnt_nn b (i:Int)
  have al:=EM.cnt_le b (i:Int)
  have S2:Same e (upd e t (.tup [.int i,.ref u])):=rz ht _
  have S:upd e t (.tup [.int i,.ref u]) t=some (.tup [.int i,.ref u]):=rC
  generalize upd e t (.tup [.int i,.ref u])=L at S2 S ⊢
  have I:=O.trans S2
  refine⟨t,_,rfl,SqT.of S,rfl,_,_,rfl,_,_,rfl,rfl,?_⟩
  refine⟨_,rfl,_,rfl,.inl ⟨rfl,_,I.seq hd⟩,_,rfl,d,b,(i:Int),rfl,rfl,I.seq hd,by show 2<=sizeLine;decide,λr aa=>?_⟩
  have S3:Same L (upd L r (.tup [.int (b.count (i:Int):Nat),.int 1])):=rz aa _
  have T:upd L r (.tup [.int (b.count (i:Int):Nat),.int 1]) r=some (.tup [.int (b.count (i:Int):Nat),.int 1]):=rC
  generalize upd L r (.tup [.int (b.count (i:Int):Nat),.int 1])=H3 at S3 T ⊢
  have B:=I.trans S3
  obtain⟨_,e0,ad⟩:=hp
  cases e0
  refine⟨_,rfl,r,p,(EM.cnt b (i:Int),1),FQ.red m (D*c),rfl,SqT.of T,B.tup ad,Sz.up (m:=30) ⟨by show(EM.cnt b (i:Int)).natAbs<2^30;omega,by show(1:Int).natAbs<2^30;decide,by show(1:Int)≠0;decide⟩ (by decide),(tQ (n:=30) (by omega) (by omega) (by omega)).up (by decide),λpm H4 S4 W=>?_⟩
  have em:IY (EM.cnt b (i:Int),1) (FQ.red m (D*c))=FQ.red (EM.cnt b (i:Int)*m) (D*c):=by
   rw[Bm (Bj (a:=EM.cnt b (i:Int)) (D:=1) (by decide)) (uZ (by omega)),jQ]
  rw[em]at W
  have ak:0<=EM.cnt b (i:Int)*m:=iQ af z
  have ao:EM.cnt b (i:Int)*m<=6*262144:=jv (by omega) (by omega) z (by decide)
  have V:=Paired.len g
  unfold fr at V
  rw[cx,cx,cV,LM.rng_len]at V
  refine⟨u,pm,FQ.red (EM.at0 ms (i:Int)) D,FQ.red (EM.cnt b (i:Int)*m) (D*c),rfl,(B.trans S4).tup hF,SqT.of W,(tQ (n:=30) Z (by omega) (by omega)).up (by decide),(tQ (n:=30) (by omega) (by omega) (by omega)).up (by decide),λpf H5 S5 Y=>⟨Ed (by omega),B.trans (S4.trans S5),?_⟩⟩
  rw[xr Z (by omega)]at Y
  rw[cY,ag]
  unfold fr
  rw[cS,cS]
  exact Paired.app (rQ (S2.trans (S3.trans (S4.trans S5))) g) (.cons ⟨pf,rfl,SqT.of Y⟩ .nil)
 ·obtain⟨O,g⟩:=J
  rw[G,eK (by rw[LM.rng_len];exact cI _)]at g
  exact q Dd C _ (O.trans (rz o _)) (O.free o) rC (rQ (rz o _) g)
theorem FL:Ef ["wishes","left","courses","dishes","length","gone"] ["wishes"] (Ec (Eg 25)):=⟨rfl,rfl,rfl,by decide +kernel,rfl,by decide +kernel,by decide +kernel⟩
theorem HS(M:Md K mg x cB)
  (Gtotal:Dn P w K mg base Em 4 "total" ["parts"] (IT K))
  (Gbest_left:Dn P w K mg base Em 1 "best_left" ["wish","left"] (Jg K))
  (Gtime_to_stop:Dn P w K mg base Em 4 "time_to_stop" ["dishes","left"] (Jc K))
  (Gleft_behind:Dn P w K mg base Em 4 "left_behind" ["dishes","left","length"] (Jf K)):Dn P w K mg base Em 5 "courses_of" ["wishes"] (Hm K):=by
 have nd:=(FL).nd
 refine M.f_courses_of.ok FL (λvs H Q E h=>?_) (λ_ _ _ _ _ _ us hl=>match us,hl with|[_],_=>rfl) (λf bv A bm s H vs Q E u h=>?_)
 ·obtain⟨a,ws,W,n,rfl,hA,hW,G,q⟩:=h
  rfl
 obtain⟨a,ws,W,n,rfl,hA,hW,G,q⟩:=h
 refine⟨_,(rq (rG (i:=1) nd rfl (Or.inr rfl) (sy rfl (N:=["wish"]) (caps:=[none]) (CompOk.of (by kernel_rfl)) (rY rfl) (sZ (pv 0)) (λ_ _ _ _=>(rK (i:=0) (show(["wish"]:List Str).Nodup by decide +kernel) rfl (Or.inl rfl) (Or.inr rfl))) (λ_ _ _ _=>su) (λ_ _ _ _=>(vb (K:=K) rfl M.c_WHOLE))))
   (rq (rG (i:=2) nd rfl (Or.inl rfl) (t6 rr))
   (rq (uA dA (rR (xk u) (rW Gtotal u (by decide) rfl Eh (mM (pv 1) rr)) (t9 M.c_NOTHING) (Ej _)) (rq (sF (i:=3) nd rfl rfl rfl rfl (N:=["wish","left"]) (caps:=[none,some 1]) (CompOk.of (by kernel_rfl)) (rY rfl) (sZ (pv 0)) (λ_ _ _ _=>(rK (i:=0) (show(["wish","left"]:List Str).Nodup by decide +kernel) rfl (Or.inl rfl) (Or.inr rfl))) (λ_ _ _ _=>su) (λ_ _ _ _=>(rW Gbest_left u (by decide) rfl Eh (mM (pv 0) (mM (pv 1) rr)))))
   (rq (rG (i:=4) nd rfl (Or.inl rfl) (rW Gtime_to_stop u (by decide) rfl Eh (mM (pv 3) (mM (pv 1) rr))))
   (rq (rG (i:=1) nd rfl (Or.inr rfl) (rW Gleft_behind u (by decide) rfl Eh (mM (pv 3) (mM (pv 1) (mM (pv 4) rr)))))
   (rq (sF (i:=5) nd rfl rfl rfl rfl (N:=["thing","left"]) (caps:=[none,some 1]) (CompOk.of (by kernel_rfl)) (rY rfl) (sZ (xS rfl rfl M.b_sorted rfl M.b_set (pv 3))) (λ_ _ _ _=>(rK (i:=0) (show(["thing","left"]:List Str).Nodup by decide +kernel) rfl (Or.inl rfl) (Or.inr rfl))) (λ_ _ _ _=>(tZ (rR (Dj (K:=K) rfl u) (rN (sV (K:=K) rfl) (pv 1) (pv 0) (λ_ _=>rfl)) (vb (K:=K) rfl M.c_NOTHING) (Ej _)))) (λ_ _ _ _=>(pv 0)))
   (rD (sY (uP dI fT fU tM (pv 2) (mM (sI (mM (pv 4) (mM (pv 3) (mM (sh sK rfl M.b_tuple Boot.«tuple» (mM (pv 5) rr)) rr)))) rr)))))))))
   (rD (rM (pv 2)))))),?_⟩
 try dsimp -proj only[sd,rS,rV]
 have aL:=Paired.len hW
 have hn:=G.len
 have bu:=G.n1
 have bg:=G.n6
 have ao:(0:Nat)<=sizeLine:=by decide
 refine⟨_,rfl,a,rfl,⟨_,hA⟩,?_⟩
 refine sU (xs:=ws) (λi e H'=>H'=H/\dr (IsF K H) e (fr 1 (fA i 1)))
  ⟨rfl,.nil⟩ (λi e H' _ b=>by rw[b.1];exact hA) (λi x e H' k b=>?_) (λe H' b l0 aC=>?_)
 ·obtain⟨rfl,R⟩:=b
  have bq:i<ws.length:=(cL.mp k).1
  have aP:=Paired.len R
  unfold fr at aP
  rw[cx,eT]at aP
  refine λc hc=>⟨Ed (by omega),rfl,?_⟩
  rw[jR]
  unfold fr
  rw[cS]
  exact Paired.app R (.cons ⟨c,rfl,hc _⟩ .nil)
 obtain⟨rfl,R⟩:=b
 rw[aL,hn]at R
 refine⟨ao,λr B=>?_⟩
 have av:H' r=none:=(rz aC _).free B
 refine⟨λm σ Y=>∃(i:Nat) (l:cG) (S cs:List V) (r3 r4 r5:Option V),m=n-i/\σ=[some (.ref a),some (.ref l),some (.ref r),r3,r4,r5]/\Same H' Y/\EM.Upto W n i/\Y l=some (.lst S)/\dr (IsF K Y) S (fr (EM.st W n i).D (EM.st W n i).ms)/\l≠r/\
   Y r=some (.lst cs)/\dr (IsC K r Y) cs (ET W n i),
  ⟨_,0,l0,e,[],_,_,_,rfl,rfl,(rz aC _).trans (rz B _),(λi hi=>absurd hi (gz _)),rz B _ _ _ rC,rQ ((rz aC _).trans (rz B _)) R,(λz=>by rw[z,rC]at B;cases B),rC,.nil⟩,λm σ Y b=>?_⟩
 obtain⟨i,l,S,cs,r3,r4,r5,rfl,rfl,S1,up,hl,hg,bx,hc,ad⟩:=b
 obtain⟨St,_⟩:=EM.st_ok G i up
 have hD:=St.pos
 have aO:=EM.D_le St bg
 have ah:(EM.st W n i).D≠0:=by omega
 have aU:=St.len
 have ak:∀m∈(EM.st W n i).ms,0<=m/\m<=(EM.st W n i).D:=λm hm=>⟨St.nn m hm,St.le m hm⟩
 have aX:=Paired.len hg
 unfold fr at aX
 rw[cx]at aX
 have aK:=Paired.len ad
 unfold ET at aK
 rw[cx,fb]at aK
 have bo:=EM.upto_le G up
 refine⟨_,rfl,l,S,fr (EM.st W n i).D (EM.st W n i).ms,rfl,SqL.of hl,hg,λp hp=>?_,by unfold fr;rw[cx];omega,λv H2 J hv=>λc0 be=>?_⟩
 ·unfold fr at hp
  obtain⟨x,k,rfl⟩:=dv.mp hp
  have:=ak x k
  exact tQ ah (by omega) (by omega)
 refine⟨_,_,hv.rep,IsF.rep (p:=(0,1)) ⟨c0,rfl,be _⟩,sE _,sE _,_,rfl,?_⟩
 rw[uM,Dv ah]
 by_cases hs:(EM.st W n i).ms.sum=0
 ·rw[decide_eq_true ((sw ah).mpr hs)]
  exact⟨_,rfl,q r cs i H2 (S1.trans J) av (J _ _ hc) ⟨up,hs⟩ (Paired.mapP ad λ_ _ h=>h.mono J)⟩
 rw[decide_eq_false (λz=>hs ((sw ah).mp z))]
 refine⟨_,(λbw H' z=>z),?_⟩
 have sp:=EM.step_of G up hs
 have aj:=S1.trans J
 have ay:=J _ _ hl
 have az:=rQ J hg
 have ae:=J _ _ hc
 have aZ:=Paired.mapP ad λ_ _ (h:IsC K r Y _ _)=>h.mono J
 clear hl hg hc ad hv
 have eC:EM.cs W (EM.st W n i)=⟨EM.at0 (EM.st W n i).ms (EM.pick (EM.dishes W (EM.st W n i).ms) (EM.st W n i).ms),(EM.st W n i).D*EM.cnt (EM.dishes W (EM.st W n i).ms) (EM.pick (EM.dishes W (EM.st W n i).ms) (EM.st W n i).ms),EM.dishes W (EM.st W n i).ms,EM.goneOf (EM.dishes W (EM.st W n i).ms) (EM.nextMs (EM.dishes W (EM.st W n i).ms) (EM.st W n i).ms)⟩:=rfl
 have eN:EM.st W n (i+1)=EM.nxt W (EM.st W n i):=rfl
 -- the dishes
 refine⟨_,rfl,a,rfl,⟨_,aj.seq hA⟩,?_⟩
 refine sU (xs:=ws) (λj e T=>Same H2 T/\e=((W.take j).map (EM.best (EM.st W n i).ms)).map V.int)
  ⟨Same.refl _,rfl⟩ (λj e T _ b=>(aj.trans b.1).seq hA) (λj x e T k b=>?_) (λe T b g ax=>?_)
 ·obtain⟨U,rfl⟩:=b
  obtain⟨aT,u,wa,rfl,a9⟩:=Paired.get' hW k
  have bc:=da u
  have ap:=G.pm aT bc
  have bs:j<W.length:=(cL.mp u).1
  obtain⟨t,a4,br,aq⟩:=EM.some_left hs
  refine⟨_,rfl,_,rfl,wa,l,aT,(EM.st W n i).ms,(EM.st W n i).D,S,rfl,(aj.trans U).tup a9,SqL.of (U _ _ ay),rQ U az,hD,λt X=>by rw[aU];exact LM.mem_rng.mp (ap.mem_iff.mp X),by rw[ap.length_eq,LM.rng_len];omega,⟨t,ap.mem_iff.mpr (LM.mem_rng.mpr ⟨a4,by omega⟩),aq⟩,λH4 S4=>⟨Ed (by rw[cx,cx,cV];omega),U.trans S4,?_⟩⟩
  rw[cY,u,cS,cS]
  rfl
 obtain⟨U,rfl⟩:=b
 rw[aL,dj]
 have eD:W.map (EM.best (EM.st W n i).ms)=EM.dishes W (EM.st W n i).ms:=rfl
 rw[eD]
 have a2:g≠r:=λz=>by rw[z,U _ _ ae]at ax;cases ax
 have ag:Same H2 (upd T g (.lst ((EM.dishes W (EM.st W n i).ms).map V.int))):=U.trans (rz ax _)
 have ac:upd T g (.lst ((EM.dishes W (EM.st W n i).ms).map V.int)) g=some (.lst ((EM.dishes W (EM.st W n i).ms).map V.int)):=rC
 generalize upd T g (.lst ((EM.dishes W (EM.st W n i).ms).map V.int))=H4 at ag ac ⊢
 have aN:=sp.dl
 have I:=sp.dm
 have bj:0<EM.at0 (EM.st W n i).ms (EM.pick (EM.dishes W (EM.st W n i).ms) (EM.st W n i).ms):=sp.m0
 have bk:EM.at0 (EM.st W n i).ms (EM.pick (EM.dishes W (EM.st W n i).ms) (EM.st W n i).ms)<=(EM.st W n i).D:=sp.mD
 have a1:0<EM.cnt (EM.dishes W (EM.st W n i).ms) (EM.pick (EM.dishes W (EM.st W n i).ms) (EM.st W n i).ms):=sp.c0
 have a3:EM.cnt (EM.dishes W (EM.st W n i).ms) (EM.pick (EM.dishes W (EM.st W n i).ms) (EM.st W n i).ms)<=6:=sp.c6
 have bb:EM.dishes W (EM.st W n i).ms≠[]:=λz=>by rw[z]at aN;simp at aN;omega
 -- the time
 refine⟨_,rfl,_,rfl,g,l,EM.dishes W (EM.st W n i).ms,(EM.st W n i).ms,(EM.st W n i).D,S,rfl,SqL.of ac,SqL.of (ag _ _ ay),rQ ag az,hD,aO,bb,by omega,λt X=>by rw[aU];exact(I t X).1,ak,λv5 H5 S5 a8=>?_⟩
 obtain⟨C,rfl,aW⟩:=a8
 have ab:=ag.trans S5
 -- what is left
 refine⟨_,rfl,_,rfl,_,rfl,g,l,C,EM.dishes W (EM.st W n i).ms,(EM.st W n i).ms,(EM.st W n i).D,_,_,S,rfl,SqL.of (S5 _ _ ac),SqL.of (ab _ _ ay),rQ ab az,⟨C,rfl,aW⟩,hD,aO,a1,a3,fq bj,bk,by omega,by omega,ak,λl6 au H6 S6 an aJ aE=>?_⟩
 have bl:=ab.trans S6
 have ar:l6≠r:=λz=>by rw[z,ab _ _ ae]at an;cases an
 change dr (IsF K H6) au (fr (EM.st W n (i+1)).D (EM.st W n (i+1)).ms)at aE
 have aG:=sp.S'
 rw[<-eN]at aG
 have a0:(EM.st W n (i+1)).ms.length=n:=aG.len
 have aS:(EM.st W n (i+1)).D≠0:=by have:=aG.pos;omega
 have aI:=S6 _ _ (S5 _ _ ac)
 -- what is gone
 refine⟨_,rfl,g,EM.dishes W (EM.st W n i).ms,rfl,SqL.of aI,λt X=>by have:=(I t X).1;omega,λls y a5 Z aR aH=>⟨ls,rfl,⟨_,SqL.of rC⟩,?_⟩⟩
 have L:Same H6 (upd H6 ls (.lst (y.map V.int))):=rz a5 _
 have aD:upd H6 ls (.lst (y.map V.int)) ls=some (.lst (y.map V.int)):=rC
 generalize upd H6 ls (.lst (y.map V.int))=H7 at L aD ⊢
 have bp:y.length<=6:=EM.nodup_len 6 aR λt X=>by have:=(I t ((Z t).mp X)).1;omega
 refine vt (xs:=y.map V.int) (λj e O=>O=H7/\e=((y.take j).filter λt=>decide (EM.at0 (EM.st W n (i+1)).ms t=0)).map V.int)
  ⟨rfl,rfl⟩ (λj e O _ b=>by rw[b.1];exact SqL.of aD) (λj x e O k b=>?_) (λe O b pg bh=>?_)
 ·obtain⟨rfl,rfl⟩:=b
  rw[cH]at k
  cases ai:y[j]? with
  | none=>rw[ai]at k;cases k
  | some t=>
   rw[ai]at k
   have ba:V.int t=x:=Option.some.inj k
   subst ba
   have bi:=(I t ((Z t).mp (da ai))).1
   have aq:t.toNat<(EM.st W n (i+1)).ms.length:=by omega
   have a6:(fr (EM.st W n (i+1)).D (EM.st W n (i+1)).ms)[t.toNat]?=some (FQ.red (EM.at0 (EM.st W n (i+1)).ms t) (EM.st W n (i+1)).D):=by
    unfold fr EM.at0
    rw[cH,cC,cz aq]
    rfl
   obtain⟨v,hv,hF⟩:=Paired.get aE a6
   refine⟨_,rfl,_,rfl,l6,au,t,v,rfl,rfl,SqL.of (L _ _ aJ),sJ bi.1 hv,λc1 bf=>?_⟩
   refine⟨_,_,(hF.mono L).rep,IsF.rep (p:=(0,1)) ⟨c1,rfl,bf _⟩,sE _,sE _,_,rfl,?_⟩
   rw[uM,cY,ai,gm,cS]
   have aY:(((y.take j).filter λt=>decide (EM.at0 (EM.st W n (i+1)).ms t=0)).map V.int).length<sizeLine:=by
    rw[cx]
    have h1:=d6 (λt=>decide (EM.at0 (EM.st W n (i+1)).ms t=0)) (y.take j)
    rw[cV]at h1
    exact Ed (by omega)
   refine EE (λc=>?_) (λc=>?_)
   ·have hz:EM.at0 (EM.st W n (i+1)).ms t=0:=(sw aS).mp c
    refine⟨_,rfl,aY,rfl,?_⟩
    simp[hz]
   ·have hz:EM.at0 (EM.st W n (i+1)).ms t≠0:=λz=>c ((sw aS).mpr z)
    refine⟨rfl,?_⟩
    simp[hz]
 obtain⟨rfl,rfl⟩:=b
 rw[cx,dj,EM.gone_eq Z aR aH (λd hd=>by rw[a0];exact(I d hd).1)]
 have eG:EM.goneOf (EM.dishes W (EM.st W n i).ms) (EM.st W n (i+1)).ms=(EM.cs W (EM.st W n i)).gone:=rfl
 rw[eG]
 have aB:Same O (upd O pg (.lst ((EM.cs W (EM.st W n i)).gone.map V.int))):=rz bh _
 have aw:upd O pg (.lst ((EM.cs W (EM.st W n i)).gone.map V.int)) pg=some (.lst ((EM.cs W (EM.st W n i)).gone.map V.int)):=rC
 generalize upd O pg (.lst ((EM.cs W (EM.st W n i)).gone.map V.int))=H9 at aB aw ⊢
 have aV:=bl.trans (L.trans aB)
 refine⟨_,rfl,.inl ⟨rfl,_,SqL.of (aV _ _ ae)⟩,_,rfl,_,rfl,_,rfl,pg,_,rfl,.inl ⟨SqL.of aw,λo a7=>?_⟩⟩
 refine⟨by show 3<=sizeLine;decide,λpr aM=>?_⟩
 have am:Same H9 (upd (upd H9 o (.tup ((EM.cs W (EM.st W n i)).gone.map V.int))) pr (.tup [.ref C,.ref g,.ref o])):=(rz a7 _).trans (rz aM _)
 have al:upd (upd H9 o (.tup ((EM.cs W (EM.st W n i)).gone.map V.int))) pr (.tup [.ref C,.ref g,.ref o]) o=some (.tup ((EM.cs W (EM.st W n i)).gone.map V.int)):=rz aM _ _ _ rC
 have aF:upd (upd H9 o (.tup ((EM.cs W (EM.st W n i)).gone.map V.int))) pr (.tup [.ref C,.ref g,.ref o]) pr=some (.tup [.ref C,.ref g,.ref o]):=rC
 generalize upd (upd H9 o (.tup ((EM.cs W (EM.st W n i)).gone.map V.int))) pr (.tup [.ref C,.ref g,.ref o])=HB at am al aF ⊢
 have aA:=aV.trans am
 have af:Same H6 HB:=L.trans (aB.trans am)
 have aa:=aA _ _ ae
 refine⟨r,cs,_,rfl,rfl,aa,Ed (by omega),?_⟩
 have aQ:=up.snoc hs
 have bn:=EM.upto_le G aQ
 refine⟨n-(i+1),by omega,i+1,l6,au,cs++[.ref pr],_,_,_,rfl,rfl,(aj.trans aA).over av _,aQ,by rw[rH ar];exact af _ _ aJ,Paired.mapP aE (λ_ _ h=>(h.mono af).over aa),ar,rC,?_⟩
 unfold ET
 rw[gf,cS]
 refine Paired.app (Paired.mapP aZ λ_ _ h=>(h.mono aA).over aa) (.cons (IsC.over ?_ aa) .nil)
 refine⟨pr,C,g,o,rfl,SqT.of aF,⟨C,rfl,(S6.trans af).tup aW⟩,af _ _ aI,SqT.of al,a2⟩
theorem Gq:Ef ["courses","person","thing"] ["courses","person","thing"] (Ec (Eg 26)):=⟨rfl,rfl,rfl,by decide +kernel,rfl,by decide +kernel,by decide +kernel⟩
theorem I8(M:Md K mg x cB)
  (Gtotal:Dn P w K mg base Em 4 "total" ["parts"] (IT K)):Dn P w K mg base Em 5 "eaten_of" ["courses","person","thing"] (Hi K):=by
 have nd:=(Gq).nd
 refine M.f_eaten_of.ok Gq (λvs H Q E h=>?_) (λ_ _ _ _ _ _ us hl=>match us,hl with|[_,_,_],_=>rfl) (λf al A ae s H vs Q E hr h=>?_)
 ·obtain⟨c,cs,W,n,N,p,t,rfl,T,F,G,r,hp,q⟩:=h
  rfl
 obtain⟨c,cs,W,n,N,p,t,rfl,T,F,G,r,hp,q⟩:=h
 refine⟨_,(rD (rM (rW Gtotal hr (by decide) rfl Eh (mM (sy rfl (N:=["length","dishes","gone","person","thing"]) (caps:=[none,none,none,some 1,some 2]) (CompOk.of (by kernel_rfl)) (yq (tm sL (rY rfl) (tm sL (rY rfl) (tm sL (rY rfl) wG)))) (sZ (pv 0)) (λ_ _ _ _=>(w6 (K:=K) rfl 3 rfl (sD (rK (i:=0) (show(["length","dishes","gone","person","thing"]:List Str).Nodup by decide +kernel) rfl (Or.inl rfl) (Or.inr rfl)) (sD (rK (i:=1) (show(["length","dishes","gone","person","thing"]:List Str).Nodup by decide +kernel) rfl (Or.inl rfl) (Or.inr rfl)) (sD (rK (i:=2) (show(["length","dishes","gone","person","thing"]:List Str).Nodup by decide +kernel) rfl (Or.inl rfl) (Or.inr rfl)) ut))))) (λ_ _ _ _=>(tZ (rR tS (rN (sV (K:=K) rfl) (pv 1) (pv 3) (λ_ _=>rfl)) (pv 4) (Ej _)))) (λ_ _ _ _=>(pv 0))) rr)))),?_⟩
 try dsimp -proj only[sd,rS,rV]
 have o:=Paired.len r
 unfold ET at o
 rw[cx,fb]at o
 have ai:=EM.upto_le F G
 have ad:=F.n6
 refine⟨_,rfl,c,rfl,⟨_,SqL.of T⟩,?_⟩
 refine vt (xs:=cs) (λi u I=>I=H/\i<=N/\∃b,dr (IsF K H) u b/\(∀p∈b,Sz 30 p)/\b.length<=i/\Fo b=FQ.red (EM.et W n i p t) (EM.st W n i).D)
  ⟨rfl,du _,[],.nil,(λ_ z=>nomatch z),du _,by show((0:Int),(1:Int))=FQ.red 0 1;exact(vc (by decide)).symm⟩ (λi u I _ B=>by rw[B.1];exact SqL.of T) (λi x u I hx B=>?_) (λu I B Dd L=>?_)
 ·obtain⟨rfl,_,b,j,k,R,a⟩:=B
  obtain⟨co,Z,ab⟩:=Paired.get' r hx
  obtain⟨C,rfl⟩:=zK Z
  obtain⟨xa,l,d,g,rfl,h1,h2,h3,h4,_⟩:=ab
  have s:=EM.step_of F (G.mono (dB C)) (G i C)
  have hD:=s.S.pos
  have Y:=EM.D_le s.S ad
  have O:(EM.st W n i).D≠0:=by omega
  have ac:=s.c0
  have aa:=s.c6
  have aj:0<(EM.st W n i).D*EM.cn W (EM.st W n i):=gU hD ac
  have an:(EM.st W n i).D*EM.cn W (EM.st W n i)<=262144*6:=jv Y aa (by omega) (by decide)
  have ak:=s.m0
  have am:=s.mD
  have af:(EM.cs W (EM.st W n i)).ds.length=n:=s.dl
  have J:(EM.cs W (EM.st W n i)).D=(EM.st W n i).D*EM.cn W (EM.st W n i):=rfl
  have ah:(EM.cs W (EM.st W n i)).ds=EM.dishes W (EM.st W n i).ms:=rfl
  have eE:EM.et W n (i+1) p t=EM.et W n i p t*EM.cn W (EM.st W n i)+if(EM.dishes W (EM.st W n i).ms).getD p 0=t then(EM.cs W (EM.st W n i)).m else 0:=rfl
  have X:(EM.st W n (i+1)).D=(EM.st W n i).D*EM.cn W (EM.st W n i):=rfl
  have ag:=Paired.len j
  refine⟨xa,_,rfl,h1,rfl,_,_,rfl,_,_,rfl,_,_,rfl,rfl,?_⟩
  refine⟨_,rfl,_,rfl,d,_,_,_,rfl,rfl,SqL.of h3,sr (tG (by omega)),_,rfl,rfl,_,rfl,EE (λe=>?_) (λe=>?_)⟩
  ·have U:(EM.dishes W (EM.st W n i).ms).getD p 0=t:=Ki e
   refine⟨_,rfl,Ed (by omega),rfl,C,b++[FQ.red (EM.cs W (EM.st W n i)).m (EM.cs W (EM.st W n i)).D],Paired.app j (.cons h2 .nil),λz hz=>?_,by rw[dq];simp;omega,?_⟩
   ·rcases dJ.mp hz with y|y
    ·exact k z y
    ·rw[cK.mp y,J]
     exact tQ (by omega) (by omega) (by omega)
   ·rw[uE,a,J,AT O (by omega),eE,if_pos U,X]
  ·have U:¬(EM.dishes W (EM.st W n i).ms).getD p 0=t:=λz=>e (by show V.int ((EM.dishes W (EM.st W n i).ms).getD p 0)=V.int t;rw[z])
   refine⟨rfl,C,b,j,k,by omega,?_⟩
   rw[a,eE,if_neg U,gD,X,AG O (by omega)]
 ·obtain⟨rfl,_,b,j,k,R,a⟩:=B
  rw[o]at R a
  refine⟨Dd,u,b,rfl,SqL.of rC,rQ (rz L _) j,k,by omega,λv H2 S2 hv=>q v H2 ((rz L _).trans S2) ?_⟩
  rw[<-a]
  exact hv
theorem Gr:Ef ["courses","person","count"] ["courses","person","count"] (Ec (Eg 27)):=⟨rfl,rfl,rfl,by decide +kernel,rfl,by decide +kernel,by decide +kernel⟩
theorem IP(M:Md K mg x cB)
  (Geaten_of:Dn P w K mg base Em 5 "eaten_of" ["courses","person","thing"] (Hi K)):Dn P w K mg base Em 6 "eaten_by" ["courses","person","count"] (Hg K):=by
 have S:=(Gr).nd
 refine M.f_eaten_by.ok Gr (λvs H Q E h=>?_) (λ_ _ _ _ _ _ G J=>match G,J with|[_,_,_],_=>rfl) (λf R A B s H vs Q E C h=>?_)
 ·obtain⟨c,cs,W,n,N,p,rfl,y,o,u,m,hp,q⟩:=h
  rfl
 obtain⟨c,cs,W,n,N,p,rfl,y,o,u,m,hp,q⟩:=h
 refine⟨_,(rD (rM (sh sK rfl M.b_tuple Boot.«tuple» (mM (sy rfl (N:=["thing","courses","person"]) (caps:=[none,some 0,some 1]) (CompOk.of (by kernel_rfl)) (rY rfl) (rZ rfl M.b_range (mM (pv 2) rr)) (λ_ _ _ _=>(rK (i:=0) (show(["thing","courses","person"]:List Str).Nodup by decide +kernel) rfl (Or.inl rfl) (Or.inr rfl))) (λ_ _ _ _=>su) (λ_ _ _ _=>(rW Geaten_of C (by decide) rfl Eh (mM (pv 1) (mM (pv 2) (mM (pv 0) rr)))))) rr)))),?_⟩
 try dsimp -proj only[sd,rS,rV]
 have O:=o.n6
 refine⟨_,rfl,(n:Int),rfl,by omega,by omega,?_⟩
 refine sP (n:=n) (λj d e=>Same H e/\dr (IsF K e) d (fr (EM.st W n N).D (((LM.rng n).take j).map (EM.et W n N p))))
  ⟨Same.refl _,.nil⟩ (λj d e I r=>?_) (λd e r F l=>?_)
 ·obtain⟨b,a⟩:=r
  have k:=Paired.len a
  unfold fr at k
  rw[cx,cx,cV,LM.rng_len]at k
  refine⟨_,rfl,_,rfl,_,rfl,c,cs,W,n,N,p,(j:Int),by rw[d3];rfl,b _ _ y,o,u,Paired.mapP m (λ_ _ h=>h.mono b),hp,λv T t L=>⟨Ed (by omega),b.trans t,?_⟩⟩
  rw[cY,EM.rng_get I]
  unfold fr
  rw[cS,cS]
  exact Paired.app (rQ t a) (.cons L .nil)
 ·obtain⟨b,a⟩:=r
  rw[eK (by rw[LM.rng_len];exact cI _)]at a
  refine⟨F,d,rfl,.inl ⟨SqL.of rC,λz g=>q (.ref z) _ (b.trans ((rz l _).trans (rz g _))) ⟨z,d,rfl,SqT.of rC,?_⟩⟩⟩
  exact rQ ((rz l _).trans (rz g _)) a
theorem Ia:Ef ["wishes","courses"] ["wishes"] (Ec (Eg 28)):=⟨rfl,rfl,rfl,by decide +kernel,rfl,by decide +kernel,by decide +kernel⟩
theorem J4(M:Md K mg x cB)
  (Gcourses_of:Dn P w K mg base Em 5 "courses_of" ["wishes"] (Hm K))
  (Geaten_by:Dn P w K mg base Em 6 "eaten_by" ["courses","person","count"] (Hg K)):Dn P w K mg base Em 7 "eaten" ["wishes"] (Hv K):=by
 have J:=(Ia).nd
 refine M.f_eaten.ok Ia (λvs H Q E h=>?_) (λ_ _ _ _ _ _ L R=>match L,R with|[_],_=>rfl) (λf X A C s H vs Q E z h=>?_)
 ·obtain⟨a,k,W,n,rfl,hA,p,g,q⟩:=h
  rfl
 obtain⟨a,k,W,n,rfl,hA,p,g,q⟩:=h
 refine⟨_,(rq (rG (i:=1) J rfl (Or.inr rfl) (rW Gcourses_of z (by decide) rfl Eh (mM (pv 0) rr)))
   (rD (rM (sy rfl (N:=["person","wishes","courses"]) (caps:=[none,some 0,some 1]) (CompOk.of (by kernel_rfl)) (rY rfl) (rZ rfl M.b_range (mM (rJ rP rfl M.b_len dD (mM (pv 0) rr)) rr)) (λ_ _ _ _=>(rK (i:=0) (show(["person","wishes","courses"]:List Str).Nodup by decide +kernel) rfl (Or.inl rfl) (Or.inr rfl))) (λ_ _ _ _=>su) (λ_ _ _ _=>(rW Geaten_by z (by decide) rfl Eh (mM (pv 2) (mM (pv 0) (mM (rJ (uD (K:=K) rfl) rfl M.b_len dD (mM (pv 1) rr)) rr))))))))),?_⟩
 try dsimp -proj only[sd,rS,rV]
 have V:=g.n6
 have Y:=Paired.len p
 have Z:=g.len
 refine⟨_,rfl,a,k,W,n,rfl,hA,p,g,λc cs N S l U G y B=>?_⟩
 refine⟨_,rfl,a,_,rfl,.inl (l.seq hA),(k.length:Int),rfl,by omega,by omega,?_⟩
 have F:((k.length:Nat):Int).toNat=n:=by omega
 rw[F]
 refine sP (n:=n) (λj o m=>Same S m/\dr (RwFT K m (EM.st W n N).D) o ((db j).map (Fh W n N)))
  ⟨Same.refl _,.nil⟩ (λj o m O r=>?_) (λo m r I e=>?_)
 ·obtain⟨b,d⟩:=r
  have u:=Paired.len d
  rw[cx,fb]at u
  refine⟨_,rfl,_,rfl,_,rfl,a,_,rfl,.inl ((l.trans b).seq hA),c,cs,W,n,N,j,by rw[d3,show k.length=n by omega];rfl,b _ _ G,g,y.up,Paired.mapP B (λ_ _ h=>h.mono b),O,λv H3 t T=>⟨Ed (by omega),b.trans t,?_⟩⟩
  rw[gf,cS]
  exact Paired.app (Paired.mapP d λ_ _ h=>h.mono t) (.cons T .nil)
 ·obtain⟨b,d⟩:=r
  exact q I o N _ (l.trans (b.trans (rz e _))) ((l.trans b).free e) rC y (Paired.mapP d λ_ _ h=>h.mono (rz e _))
theorem Fz:Ef ["left","begun","person","thing","part","deal"] ["left","begun"] (Ec (Eg 30)):=⟨rfl,rfl,rfl,by decide +kernel,rfl,by decide +kernel,by decide +kernel⟩
theorem Es{m:Nat}(M:Md K mg x cB)
  (Gdeal_within:Dn P w K mg base Em m "deal_within" ["left","begun"] (JU (GH K) m)):Dn P w K mg base Em (m+1) "deal_within" ["left","begun"] (GH K m):=by
 have J:=(Fz).nd
 refine M.f_deal_within.ok Fz (λvs H Q E h=>?_) (λ_ _ _ _ _ _ us hl=>match us,hl with|[_,_],_=>rfl) (λf am A ai s H vs Q E hr h=>?_)
 ·obtain⟨l,b,u,e,T,n,k,a,rfl,N,I,y,D,ag,af,q0,q1⟩:=h
  rfl
 obtain⟨l,b,u,e,T,n,k,a,rfl,N,I,y,D,ag,af,q0,q1⟩:=h
 refine⟨_,(rq (rG (i:=2) J rfl (Or.inl rfl) (rJ rP rfl M.b_len dD (mM (pv 1) rr)))
   (rq (sA (rR tS (pv 2) (rJ rP rfl M.b_len dD (mM (pv 0) rr)) (Ej _)) (rD (rM (pv 1))) rX)
   (rq (sT dA rfl (Aj rfl M.b_enumerate (mM (rN rL (pv 0) (pv 2) (λ_ _=>rfl)) rr)) (yO rfl (sD (rK (i:=3) J rfl (Or.inl rfl)) (sD (rK (i:=4) J rfl (Or.inl rfl)) ut))) (rD (sA (PW.pt (Cv (rR (xk hr) (pv 4) (t9 M.c_NOTHING) (Ej _)) (zW (rR t7 (pv 3) (pv 1) (by with_unfolding_all rfl))))) (rq (rG (i:=5) J rfl (Or.inl rfl) (rW Gdeal_within hr (cI _) rfl Eh (mM (pv 0) (mM (rO AK (pv 1) (sI (mM (pv 3) rr))) rr))))
   (rD (sA (rR zQ (pv 5) v8 (Ej _)) (rD (rM (pv 5))) rX))) rX)))
   (rD (rM v8))))),?_⟩
 try dsimp -proj only[sd,rS,rV]
 have aj:=Paired.len I
 have al:=y.hi
 have ak:=y.len
 have hT:=y.t0
 have Y:(a.map V.int).length=a.length:=cx _
 refine⟨_,rfl,b,_,rfl,.inr D,?_⟩
 refine⟨_,rfl,_,rfl,l,u,rfl,.inl N,rfl,_,rfl,EE (λc=>?_) (λc=>?_)⟩
 ·have c':(a.map V.int).length=u.length:=by have:=Ki c;omega
  have aa:k=0:=by omega
  subst aa
  exact⟨_,rfl,q1 a rfl b H (Same.refl _) D⟩
 have c':a.length≠u.length:=λz=>c (by show V.int _=V.int _;rw[Y,z])
 obtain⟨k,rfl⟩:∃k',k=k'+1:=⟨k-1,by omega⟩
 obtain⟨m,rfl⟩:∃m',m=m'+1:=⟨m-1,by omega⟩
 have B:a.length<e.length:=by omega
 obtain⟨rv,ac,ra,gs,rfl,X,C⟩:=Paired.get I (cz B)
 have ab:=y.cols _ (cW B)
 have eM:e.getD a.length []=e[a.length]:=HM.getD_lt B
 have eE:∀t,HM.ent e a.length t=(e[a.length]).getD t 0:=λt=>by unfold HM.ent;rw[eM]
 generalize e[a.length]=o at C ab eE
 have ah:=Paired.len C
 rw[yZ]at ah
 refine⟨_,rfl,_,rfl,l,u,_,_,rfl,rfl,N,by rw[Y];exact sr ac,ra,rfl,⟨_,X⟩,?_⟩
 refine Cd (xs:=gs) (λi O j=>Same H j/\(db i).findSome? (λt=>if HM.ent e a.length t≠0/\(t:Int)∉a then HM.within e k (a++[(t:Int)])else none)=none/\∃r3 Z r5,O=[some (.ref l),some (.ref b),some (.int (a.map V.int).length),r3,Z,r5])
  ⟨Same.refl _,rfl,_,_,_,rfl⟩ (λi O j _ F=>F.1.seq X) (λi v O j t hv ht F=>?_) (λO j F=>?_)
 ·obtain⟨S1,g,r3,Z,r5,rfl⟩:=F
  have hi:i<o.length:=by
   have:=(cL.mp hv).1
   omega
  obtain⟨p,hp,hF⟩:=Paired.get' C hv
  rw[zS hi]at hp
  cases hp
  have r:Same H (upd j t (.tup [.int i,v])):=S1.trans (rz ht _)
  have U:upd j t (.tup [.int i,v]) t=some (.tup [.int i,v]):=rC
  generalize upd j t (.tup [.int i,v])=L at r U ⊢
  refine⟨t,_,rfl,SqT.of U,rfl,_,_,rfl,_,_,rfl,rfl,?_⟩
  refine⟨_,rfl,λc0 ae=>⟨dF (FQ.red (o.getD i 0) T),dF (0,1),(hF.mono r).rep,IsF.rep ⟨c0,rfl,ae _⟩,sE _,sE _,_,rfl,?_⟩⟩
  rw[uM]
  refine GQ (λc1=>?_) (λc1=>?_)
  case refine_2=>
   have hz:o.getD i 0=0:=(sw (by omega)).mp c1
   refine⟨r,?_,_,_,_,rfl⟩
   rw[LN.findSome_snoc g,if_neg (λz=>z.1 (by rw[eE];exact hz))]
  have hz:o.getD i 0≠0:=λz=>c1 ((sw (by omega)).mpr z)
  refine⟨_,rfl,_,rfl,b,_,rfl,.inr (r.tup D),rfl,vF _,_,rfl,?_⟩
  show if(!JA (.int (i:Int)) (a.map V.int))=true then _ else _
  rw[wJ]
  refine GQ (λc2=>?_) (λc2=>?_)
  case refine_2=>
   refine⟨r,?_,_,_,_,rfl⟩
   rw[LN.findSome_snoc g,if_neg (λz=>z.2 c2)]
  have S:HM.ent e a.length i≠0/\(i:Int)∉a:=⟨by rw[eE];exact hz,c2⟩
  refine⟨_,rfl,_,rfl,_,rfl,by show 1<=sizeLine;decide,λG ad=>?_⟩
  have S3:Same L (upd L G (.tup [.int i])):=rz ad _
  have R:SqT K (upd L G (.tup [.int i])) G (([(i:Int)]:List Int).map V.int):=SqT.of rC
  generalize upd L G (.tup [.int i])=H3 at S3 R ⊢
  have W:=r.trans S3
  refine DK (W.tup D) R (by simp;omega) λp4 H4 S4 h4=>?_
  have q:=W.trans S4
  refine⟨l,p4,u,e,T,n,k,a++[(i:Int)],rfl,q.seq N,Paired.mapP I (λ_ _ h=>h.mono q),y,h4,by rw[dq];simp;omega,by omega,λe5 H5 S5=>?_,λd e5 p5 H5 S5 h5=>?_⟩
  ·refine⟨_,rfl,rfl,_,rfl,Eu ?_⟩
   refine⟨q.trans S5,?_,_,_,_,rfl⟩
   rw[LN.findSome_snoc g,if_pos S]
   exact e5
  ·refine⟨_,rfl,rfl,_,rfl,ER ?_⟩
   refine⟨_,rfl,q1 d ?_ p5 H5 (q.trans S5) h5⟩
   show(db e.length).findSome? _=some d
   exact LN.findSome_up (i:=i+1) (by rw[LN.findSome_snoc g,if_pos S];exact e5) (by omega)
 ·obtain⟨S1,g,r3,Z,r5,rfl⟩:=F
  refine q0 ?_ _ S1
  show(db e.length).findSome? _=none
  rw[show e.length=gs.length by omega]
  exact g
theorem Fu:Ef ["row","thing","weight","rest"] ["row","thing","weight"] (Ec (Eg 31)):=⟨rfl,rfl,rfl,by decide +kernel,rfl,by decide +kernel,by decide +kernel⟩
theorem G3(M:Md K mg x cB)
  (Gminus:Dn P w K mg base Em 3 "minus" ["one","two"] (G8 IR K)):Dn P w K mg base Em 4 "row_without" ["row","thing","weight"] (JH K):=by
 have nd:=(Fu).nd
 refine M.f_row_without.ok Fu (λvs H Q E h=>?_) (λ_ _ _ _ _ _ us hl=>match us,hl with|[_,_,_],_=>rfl) (λf aa A S s H vs Q E V h=>?_)
 ·obtain⟨r,w,a,m,t,T,x,rfl,g,j,u,⟨U,y⟩,⟨c,F⟩,C,⟨R,G⟩,⟨L,z⟩,q⟩:=h
  rfl
 obtain⟨r,w,a,m,t,T,x,rfl,g,j,u,⟨U,y⟩,⟨c,F⟩,C,⟨R,G⟩,⟨L,z⟩,q⟩:=h
 refine⟨_,(rq (rG (i:=3) nd rfl (Or.inl rfl) (sh sR rfl M.b_list Boot.«list» (mM (pv 0) rr)))
   (rq (wo (rW Gminus V (by decide) rfl Eh (mM (rN rL (pv 0) (pv 1) (λ_ _=>rfl)) (mM (pv 2) rr))) (wh (pv 3) (pv 1) wA))
   (rD (rM (pv 3))))),?_⟩
 try dsimp -proj only[sd,rS,rV]
 have d:T≠0:=by omega
 have J:=Paired.len j
 rw[yZ]at J
 obtain⟨_,Z,N⟩:=id u
 cases Z
 have B:t.toNat<m.length:=by omega
 refine⟨_,rfl,r,a,rfl,.inl g,λp hp=>?_⟩
 have b:Same H (upd H p (.lst a)):=rz hp _
 have n:upd H p (.lst a) p=some (.lst a):=rC
 generalize upd H p (.lst a)=H1 at b n ⊢
 obtain⟨v,W,X,rfl,O⟩:=Paired.get j (zS (D:=T) B)
 refine⟨_,rfl,_,rfl,r,a,t,_,rfl,rfl,b.seq g,sJ c W,_,rfl,X,w,_,_,rfl,b.tup O,b.tup N,vn d (by omega) (by omega),vn d (by omega) (by omega),λY H2 o k=>?_⟩
 rw[Cm d]at k
 have l:=o _ _ n
 have I:Jt a.length t=some t.toNat:=by
  unfold Jt
  rw[if_pos c,if_pos (by omega)]
 refine⟨_,rfl,_,rfl,p,_,_,_,rfl,rfl,l,I,?_⟩
 refine⟨_,rfl,q p _ _ ((b.trans o).over hp _) hp rC ?_⟩
 have e:fr T (LM.addOne m t (-x))=(fr T m).set t.toNat (FQ.red (m.getD t.toNat 0-x) T):=by
  unfold fr LM.addOne
  rw[qr,mV]
 rw[e]
 exact Paired.mapP (v7 (rQ (b.trans o) j) ⟨Y,rfl,SqT.of k⟩) λ_ _ h=>h.over l
theorem GF:Ef ["table","left","spent","lots","deal","weight"] ["table"] (Ec (Eg 32)):=⟨rfl,rfl,rfl,by decide +kernel,rfl,by decide +kernel,by decide +kernel⟩
theorem Jr(M:Md K mg x cB)
  (Gdeal_within:Dn P w K mg base Em 7 "deal_within" ["left","begun"] (GH K 6))
  (Gleast:Dn P w K mg base Em 2 "least" ["parts"] (HN K))
  (Grow_without:Dn P w K mg base Em 4 "row_without" ["row","thing","weight"] (JH K))
  (Gplus:Dn P w K mg base Em 3 "plus" ["one","two"] (G8 FP K)):Dn P w K mg base Em 8 "lots_of" ["table"] (GT K):=by
 have nd:=(GF).nd
 refine M.f_lots_of.ok GF (λvs H Q E h=>?_) (λ_ _ _ _ _ _ us hl=>match us,hl with|[_],_=>rfl) (λf bm A bg s H vs Q E hr h=>?_)
 ·obtain⟨a,us,Z,T,n,rfl,hA,hZ,ok,q⟩:=h
  rfl
 obtain⟨a,us,Z,T,n,rfl,hA,hZ,ok,q⟩:=h
 refine⟨_,(rq (sF (i:=1) nd rfl rfl rfl rfl (N:=["row"]) (caps:=[none]) (CompOk.of (by kernel_rfl)) (rY rfl) (sZ (pv 0)) (λ_ _ _ _=>(rK (i:=0) (show(["row"]:List Str).Nodup by decide +kernel) rfl (Or.inl rfl) (Or.inr rfl))) (λ_ _ _ _=>su) (λ_ _ _ _=>(sh (w8 (K:=K) rfl) rfl M.b_list Boot.«list» (mM (pv 0) rr))))
   (rq (rG (i:=2) nd rfl (Or.inl rfl) (t9 M.c_NOTHING))
   (rq (rG (i:=3) nd rfl (Or.inl rfl) (t6 rr))
   (rq (uA dA (rR (xk hr) (pv 2) (t9 M.c_WHOLE) (Ej _)) (rq (rG (i:=4) nd rfl (Or.inl rfl) (rW Gdeal_within hr (by decide) rfl Eh (mM (pv 1) (mM (sI rr) rr))))
   (rq (rG (i:=5) nd rfl (Or.inr rfl) (rW Gleast hr (by decide) rfl Eh (mM (sy rfl (N:=["row","thing"]) (caps:=[none,none]) (CompOk.of (by kernel_rfl)) (yq (tm sL (rY rfl) (tm sL (rY rfl) wG))) (Cz rfl M.b_zip (mM (pv 1) (mM (pv 4) rr))) (λ_ _ _ _=>(w6 (K:=K) rfl 2 rfl (sD (rK (i:=0) (show(["row","thing"]:List Str).Nodup by decide +kernel) rfl (Or.inl rfl) (Or.inr rfl)) (sD (rK (i:=1) (show(["row","thing"]:List Str).Nodup by decide +kernel) rfl (Or.inl rfl) (Or.inr rfl)) ut)))) (λ_ _ _ _=>su) (λ_ _ _ _=>(rN (sV (K:=K) rfl) (pv 0) (pv 1) (λ_ _=>rfl)))) rr)))
   (rq (sF (i:=1) nd rfl rfl rfl rfl (N:=["row","thing","weight"]) (caps:=[none,none,some 5]) (CompOk.of (by kernel_rfl)) (yq (tm sL (rY rfl) (tm sL (rY rfl) wG))) (Cz rfl M.b_zip (mM (pv 1) (mM (pv 4) rr))) (λ_ _ _ _=>(w6 (K:=K) rfl 2 rfl (sD (rK (i:=0) (show(["row","thing","weight"]:List Str).Nodup by decide +kernel) rfl (Or.inl rfl) (Or.inr rfl)) (sD (rK (i:=1) (show(["row","thing","weight"]:List Str).Nodup by decide +kernel) rfl (Or.inl rfl) (Or.inr rfl)) ut)))) (λ_ _ _ _=>su) (λ_ _ _ _=>(rW Grow_without hr (by decide) rfl Eh (mM (pv 0) (mM (pv 1) (mM (pv 2) rr))))))
   (rq (rG (i:=2) nd rfl (Or.inl rfl) (rW Gplus hr (by decide) rfl Eh (mM (pv 2) (mM (pv 5) rr))))
   (rD (sY (uP dI fT fU tM (pv 3) (mM (sI (mM (pv 5) (mM (pv 4) rr))) rr)))))))))
   (rD (rM (pv 3))))))),?_⟩
 try dsimp -proj only[sd,rS,rV]
 have ba:=Paired.len hZ
 have aD:=ok.lo
 have aC:=ok.hi
 have hT:=ok.t0
 have aK:=ok.t1
 have U:T≠0:=by omega
 have bk:=ok.reg.len
 have ad:(0:Nat)<=sizeLine:=by decide
 refine⟨_,rfl,a,rfl,⟨_,hA⟩,?_⟩
 refine sU (xs:=us) (λi ys J=>Same H J/\dr (λv (m:List Int)=>∃a C,v = .ref a/\J a=some (.lst C)/\dr (IsF K J) C (fr T m)) ys (Z.take i)) ⟨Same.refl _,by rw[eP];exact .nil⟩ (λi ys J _ c=>c.1.seq hA) (λi x ys J X c=>?_) (λys J c l0 aV=>?_)
 ·obtain⟨S1,ah⟩:=c
  obtain⟨r,a9,ta,C,rfl,a8,bc⟩:=Paired.get' hZ X
  have a5:=Paired.len ah
  rw[cV]at a5
  refine⟨_,rfl,ta,C,rfl,.inr (S1.tup a8),λp hp=>⟨Ed (by omega),S1.trans (rz hp _),?_⟩⟩
  rw[cY,a9]
  exact Paired.app (Paired.mapP ah λ_ _ ⟨a',ag,e1,e2,e3⟩=>⟨a',ag,e1,rz hp _ _ _ e2,rQ (rz hp _) e3⟩) (.cons ⟨p,C,rfl,rC,rQ (S1.trans (rz hp _)) bc⟩ .nil)
 obtain⟨S1,ah⟩:=c
 rw[ba,dj]at ah
 refine λc0 bb=>?_
 refine⟨ad,λL aF=>?_⟩
 have Sl:Same J (upd (upd J l0 (.lst ys)) L (.lst [])):=(rz aV _).trans (rz aF _)
 have aG:upd (upd J l0 (.lst ys)) L (.lst []) l0=some (.lst ys):=rz aF _ _ _ rC
 have ai:upd (upd J l0 (.lst ys)) L (.lst []) L=some (.lst []):=rC
 have aj:J L=none:=(rz aV _).free aF
 have aY:H L=none:=S1.free aj
 generalize upd (upd J l0 (.lst ys)) L (.lst [])=H1 at Sl aG ai ⊢
 refine⟨λm σ G=>∃(i:Nat) (lf sp:cG) (rs ls:List V) (r4 r5:Option V),m=(HM.it Z T i).2.toNat/\σ=[some (.ref a),some (.ref lf),some (.ref sp),some (.ref L),r4,r5]/\Same J G/\(∀j,j<i->(HM.it Z T j).2≠0)/\SqL K G lf rs/\dr (RwFX K G T L) rs (HM.it Z T i).1/\
   IsF K G (.ref sp) (FQ.red (T-(HM.it Z T i).2) T)/\G L=some (.lst ls)/\dr (IsLot K G T) ls (HM.lotsL Z T i),
  ⟨_,0,l0,c0,ys,[],_,_,rfl,rfl,Sl,(λj l=>absurd l (gz _)),SqL.of aG,Paired.mapP ah (λ_ _ ⟨a',ag,e1,e2,e3⟩=>⟨a',ag,e1,(λz=>by rw[z,aj]at e2;cases e2),Sl _ _ e2,rQ Sl e3⟩),⟨c0,rfl,by rw[show T-(HM.it Z T 0).2=0 from Int.sub_self T,vc U];exact bb _⟩,ai,.nil⟩,λm σ G c=>?_⟩
 clear Sl aG ai
 obtain⟨i,lf,sp,rs,ls,r4,r5,rfl,rfl,S2,aA,ab,ao,aE,W,av⟩:=c
 obtain⟨_,e0,aq⟩:=id aE
 cases e0
 have I:=HM.it_ok ok.reg hT aD i aA
 have a3:=I.r0
 have a2:=I.rT
 refine⟨_,rfl,λc1 be=>⟨_,_,aE.rep,IsF.rep (p:=(1,1)) ⟨c1,rfl,be _⟩,sE _,sE _,_,rfl,?_⟩⟩
 rw[uM]
 by_cases hz:(HM.it Z T i).2=0
 ·rw[decide_eq_true (by rw[hz,qi];exact xX U)]
  exact⟨_,rfl,q i L ls G ⟨hz,aA⟩ (S1.trans S2) aY W av⟩
 rw[decide_eq_false (λz=>hz (by have:=(Bb U).mp z;omega))]
 refine⟨_,(λbn J z=>z),?_⟩
 have S:=I.reg.step (by omega) aD
 have eN:(HM.it Z T (i+1))=(LM.addDeal (HM.it Z T i).1 (HM.dealOf (HM.it Z T i).1) (-HM.wOf (HM.it Z T i).1),(HM.it Z T i).2-HM.wOf (HM.it Z T i).1):=rfl
 have eL:HM.lotsL Z T (i+1)=HM.lotsL Z T i++[(HM.wOf (HM.it Z T i).1,HM.dealOf (HM.it Z T i).1)]:=by
  unfold HM.lotsL
  rw[gf,cS]
  rfl
 have a1:∀j,j<i+1->(HM.it Z T j).2≠0:=λj l=>by
  rcases fP.mp l with z|z
  ·exact aA j z
  ·rw[z];exact hz
 have bh:i<=60:=by
  have h1:=I.few hz
  have h2:=HM.pn_le aC Z
  have h3:0<=HM.pn n (HM.it Z T i).1:=by
   have:=HM.sm_le (n:=n) (f:=λ_=>0) (g:=λp=>(HM.cnt n λt=>decide (HM.ent (HM.it Z T i).1 p t≠0):Nat)) λp _=>m3 _
   rw[HM.sm_zero]at this
   exact this
  omega
 have u:=I.reg
 clear I
 generalize HM.it Z T i=MR at *
 obtain⟨M,R⟩:=MR
 dsimp only at hz S eN eL u a3 a2 ao aE aq ⊢
 have am:=u.len
 have bi:=Paired.len ao
 have ay:=S.pm
 have au:=ay.len
 have bl:=S.w1
 have bj:=S.wR
 have aZ:Ly n T M:=⟨aD,aC,hT,aK,am,u.cols⟩
 -- the deal
 refine⟨_,rfl,ad,λpe bf=>?_⟩
 have S3:Same G (upd G pe (.tup [])):=rz bf _
 have aJ:SqT K (upd G pe (.tup [])) pe (([]:List Int).map V.int):=SqT.of rC
 generalize upd G pe (.tup [])=H3 at S3 aJ ⊢
 refine⟨lf,pe,rs,M,T,n,n,[],rfl,S3.seq ab,Paired.mapP ao (λ_ _ h=>(h.mono S3).fl),aZ,aJ,by simp,by omega,λz=>absurd (S.some.symm.trans z) (by simp),λd ed pd H4 S4 af=>?_⟩
 rw[S.some]at ed
 cases ed
 have an:=S3.trans S4
 -- the weight
 have aT:∀p,p<n->HM.ent M p ((HM.dealOf M).getD p 0).toNat<=T:=λp hp=>by
  have hb:=ay.mem.mp (show(HM.dealOf M).getD p 0∈HM.dealOf M by rw[HM.getD_lt (by omega)];exact cW _)
  have h1:=HM.sm_one_le (n:=n) (λi=>u.nn p i) (show((HM.dealOf M).getD p 0).toNat<n by omega)
  rw[u.row p hp]at h1
  omega
 have vl:(HM.valsM M (HM.dealOf M)).length=n:=by unfold HM.valsM;simp[am,au]
 have ax:∀j,j<n->∃B C,rs[j]?=some (.ref B)/\SqL K G B C/\dr (IsF K G) C (fr T (M.getD j [])):=λj l=>by
  obtain⟨rv,ae,B,C,rfl,_,h1,h2⟩:=Paired.get ao (cz (show j<M.length by omega))
  exact⟨B,C,ae,SqL.of h1,by rw[HM.getD_lt (by omega)];exact h2⟩
 have ak:∀j,j<n->(M.getD j []).length=n:=λj l=>by rw[HM.getD_lt (by omega)];exact u.cols _ (cW _)
 have aP:∀j,j<n->0<=(HM.dealOf M).getD j 0/\(HM.dealOf M).getD j 0<n:=λj l=>ay.mem.mp (by rw[HM.getD_lt (by omega)];exact cW _)
 have aW:rs.length=((HM.dealOf M).map V.int).length:=by rw[cx];omega
 refine⟨_,rfl,_,rfl,false,true,lf,pd,rfl,⟨_,an.seq ab⟩,⟨_,af⟩,?_⟩
 refine xi (xs:=rs) (ys:=(HM.dealOf M).map V.int) (λj k b=>Same H4 b/\dr (IsF K b) k (fr T ((HM.valsM M (HM.dealOf M)).take j))) aW ⟨Same.refl _,by rw[eP];exact .nil⟩ (λj k b _ c=>⟨(an.trans c.1).seq ab,c.1.tup af⟩) (λj x y k b t X hy ht c=>?_) (λk b c Dd a6=>?_)
 ·obtain⟨S5,o⟩:=c
  have l:j<n:=by have:=(cL.mp X).1;omega
  obtain⟨B,C,ae,h1,h2⟩:=ax j l
  rw[ae]at X
  cases X
  rw[tG (by omega)]at hy
  cases hy
  have hb:=aP j l
  have a7:((HM.dealOf M).getD j 0).toNat<(M.getD j []).length:=by rw[ak j l];omega
  have S6:Same b (upd b t (.tup [.ref B,.int ((HM.dealOf M).getD j 0)])):=rz ht _
  have ac:upd b t (.tup [.ref B,.int ((HM.dealOf M).getD j 0)]) t=some (.tup [.ref B,.int ((HM.dealOf M).getD j 0)]):=rC
  generalize upd b t (.tup [.ref B,.int ((HM.dealOf M).getD j 0)])=Hy at S6 ac ⊢
  obtain⟨v,hv,hF⟩:=Paired.get h2 (zS (D:=T) a7)
  have O:=an.trans (S5.trans S6)
  have aI:=Paired.len o
  rw[yZ,cV]at aI
  refine⟨t,_,rfl,SqT.of ac,rfl,_,_,rfl,_,_,rfl,rfl,?_⟩
  refine⟨_,rfl,_,rfl,B,C,_,v,rfl,rfl,O.seq h1,sJ hb.1 hv,Ed (by omega),S5.trans S6,?_⟩
  rw[cY,HM.valsM_get am au l]
  unfold fr
  rw[cS]
  exact Paired.app (rQ S6 o) (.cons (hF.mono O) .nil)
 obtain⟨S5,o⟩:=c
 rw[show rs.length=(HM.valsM M (HM.dealOf M)).length by omega,dj]at o
 have S6:Same b (upd b Dd (.lst k)):=rz a6 _
 have aO:SqL K (upd b Dd (.lst k)) Dd k:=SqL.of rC
 generalize upd b Dd (.lst k)=H6 at S6 aO ⊢
 have aQ:HM.valsM M (HM.dealOf M)≠[]:=λz=>by rw[z]at vl;simp at vl;omega
 refine⟨Dd,k,fr T (HM.valsM M (HM.dealOf M)),rfl,aO,rQ S6 o,(λz=>aQ (by unfold fr at z;exact List.map_eq_nil_iff.mp z)),by rw[yZ];omega,λp hp=>?_,λv hv=>?_⟩
 ·unfold fr at hp
  obtain⟨x,X,rfl⟩:=dv.mp hp
  obtain⟨j,l,e⟩:=eO.mp X
  have aN:j<n:=by omega
  have e2:=HM.valsM_get am au aN
  rw[cz l,e]at e2
  have e3:x=HM.ent M j ((HM.dealOf M).getD j 0).toNat:=Option.some.inj e2
  have h1:=aT j aN
  have h2:=u.nn j ((HM.dealOf M).getD j 0).toNat
  rw[<-e3]at h1 h2
  exact vn U (by omega) (by omega)
 have ew:GL (fr T (HM.valsM M (HM.dealOf M)))=FQ.red (HM.wOf M) T:=by
  unfold fr HM.wOf
  exact zn hT aQ
 rw[ew]at hv
 obtain⟨wa,rfl,az⟩:=hv
 have O:=an.trans (S5.trans S6)
 -- what is left
 refine⟨_,rfl,_,rfl,false,true,lf,pd,rfl,⟨_,O.seq ab⟩,⟨_,(S5.trans S6).tup af⟩,?_⟩
 refine xi (xs:=rs) (ys:=(HM.dealOf M).map V.int) (λj k b=>Same H6 b/\dr (RwFX K b T L) k ((LM.addDeal M (HM.dealOf M) (-HM.wOf M)).take j)) aW ⟨Same.refl _,by rw[eP];exact .nil⟩ (λj k b _ c=>⟨(O.trans c.1).seq ab,(S5.trans (S6.trans c.1)).tup af⟩) (λj x y k b t X hy ht c=>?_) (λk H7 c l7 al=>?_)
 ·obtain⟨S7,o⟩:=c
  have l:j<n:=by have:=(cL.mp X).1;omega
  obtain⟨B,C,ae,h1,h2⟩:=ax j l
  rw[ae]at X
  cases X
  rw[tG (by omega)]at hy
  cases hy
  have hb:=aP j l
  have S8:Same b (upd b t (.tup [.ref B,.int ((HM.dealOf M).getD j 0)])):=rz ht _
  have ac:upd b t (.tup [.ref B,.int ((HM.dealOf M).getD j 0)]) t=some (.tup [.ref B,.int ((HM.dealOf M).getD j 0)]):=rC
  generalize upd b t (.tup [.ref B,.int ((HM.dealOf M).getD j 0)])=Hy at S8 ac ⊢
  have aa:=O.trans (S7.trans S8)
  have aI:=Paired.len o
  rw[cV,HM.addDeal_len (by omega)]at aI
  have h3:=aT j l
  have h4:=u.nn j ((HM.dealOf M).getD j 0).toNat
  refine⟨t,_,rfl,SqT.of ac,rfl,_,_,rfl,_,_,rfl,rfl,?_⟩
  refine⟨_,rfl,_,rfl,_,rfl,B,wa,C,M.getD j [],_,T,HM.wOf M,rfl,aa.seq h1,rQ aa h2,⟨wa,rfl,(S7.trans S8).tup az⟩,⟨hT,aK⟩,⟨hb.1,by rw[ak j l];exact hb.2⟩,by rw[ak j l];exact aC,⟨h4,h3⟩,⟨by omega,by omega⟩,λp ag Hw Sw aU hp aX=>⟨Ed (by omega),S7.trans (S8.trans Sw),?_⟩⟩
  rw[cY,HM.addDeal_get (by omega) (by omega)]
  exact Paired.app (Paired.mapP o λ_ _ h=>h.mono (S8.trans Sw)) (.cons ⟨p,ag,rfl,(λz=>by rw[z,aa _ _ W]at aU;cases aU),hp,aX⟩ .nil)
 obtain⟨S7,o⟩:=c
 rw[eK (by rw[HM.addDeal_len (by omega)];omega)]at o
 have S8:Same H7 (upd H7 l7 (.lst k)):=rz al _
 have aM:upd H7 l7 (.lst k) l7=some (.lst k):=rC
 generalize upd H7 l7 (.lst k)=H8 at S8 aM ⊢
 have aw:=S7.trans S8
 have aa:=O.trans aw
 -- spent
 refine⟨_,rfl,_,rfl,sp,wa,_,_,rfl,aa.tup aq,aw.tup az,vn U (by omega) (by omega),vn U (by omega) (by omega),λpf H9 S9 aR=>?_⟩
 rw[wV U]at aR
 have aS:=aa.trans S9
 -- the lot
 have a0:=aS _ _ W
 have ap:=Paired.len av
 unfold HM.lotsL at ap
 rw[cx,fb]at ap
 refine⟨_,rfl,.inl ⟨rfl,_,SqL.of a0⟩,_,rfl,_,rfl,by show 2<=sizeLine;decide,λpt a4=>?_⟩
 have SA:Same H9 (upd H9 pt (.tup [.ref wa,.ref pd])):=rz a4 _
 have aB:upd H9 pt (.tup [.ref wa,.ref pd]) pt=some (.tup [.ref wa,.ref pd]):=rC
 generalize upd H9 pt (.tup [.ref wa,.ref pd])=HA at SA aB ⊢
 have ar:=aS.trans SA
 have Y:=ar _ _ W
 refine⟨L,ls,_,rfl,rfl,Y,Ed (by omega),?_⟩
 have aH:=S9.trans SA
 have aL:=aw.trans aH
 refine⟨(R-HM.wOf M).toNat,by omega,i+1,l7,pf,k,ls++[.ref pt],_,_,by rw[eN],rfl,(S2.trans ar).over aj _,a1,?_,?_,?_,rC,?_⟩
 ·exact SqL.over (SqL.of (aH _ _ aM)) (λz=>by rw[z]at al;rw[(O.trans S7) _ _ W]at al;cases al)
 ·rw[eN]
  exact Paired.mapP o λ_ _ h=>(h.mono (S8.trans aH)).over Y
 ·rw[eN]
  refine IsF.over ⟨pf,rfl,SqT.of (SA _ _ ?_)⟩ Y
  rw[aR]
  show some (JO (FQ.red (T-R+HM.wOf M) T))=some (JO (FQ.red (T-(R-HM.wOf M)) T))
  rw[show T-R+HM.wOf M=T-(R-HM.wOf M)by omega]
 ·rw[eL]
  refine Paired.app (Paired.mapP av λ_ _ h=>(h.mono ar).over Y) (.cons (IsLot.over ⟨pt,wa,pd,rfl,SqT.of aB,⟨wa,rfl,aL.tup az⟩,((S5.trans S6).trans aL).tup af⟩ Y) .nil)
theorem Hr:Ef ["lots","number","place","so_far"] ["lots","number"] (Ec (Eg 33)):=⟨rfl,rfl,rfl,by decide +kernel,rfl,by decide +kernel,by decide +kernel⟩
theorem JF(M:Md K mg x cB)
  (Gbefore:Dn P w K mg base Em 1 "before" ["one","two"] (GI K))
  (Gplus:Dn P w K mg base Em 3 "plus" ["one","two"] (G8 FP K)):Dn P w K mg base (FH P w) 4 "picked" ["lots","number"] (G1 K x):=by
 have D:=(Hr).nd
 refine M.f_picked.okE Hr (λvs H Q E h=>?_) (λ_ _ _ _ _ _ us hl=>match us,hl with|[_,_],_=>rfl) (λf al A ah s H vs Q E G h=>?_)
 ·obtain⟨L,m,v,a,T,n,p,rfl,F,d,l,hm,hz,hp,U,q⟩:=h
  rfl
 obtain⟨L,m,v,a,T,n,p,rfl,F,d,l,hm,hz,hp,U,q⟩:=h
 refine⟨_,(rq (sA (PW.pt (xA (sS (rW Gbefore G (by decide) rfl Eh (mM (pv 1) (mM (t9 M.c_NOTHING) rr)))) (wk (tI (sS (rW Gbefore G (by decide) rfl Eh (mM (pv 1) (mM (t9 M.c_WHOLE) rr)))))))) (rD (tR M.x_NoPick rfl (mM sG rr))) rX)
   (rq (rG (i:=2) D rfl (Or.inl rfl) rE)
   (rq (rG (i:=3) D rfl (Or.inl rfl) (rN sv (rN rL (pv 0) rE (λ_ _=>rfl)) rE (λ_ _=>rfl)))
   (rq (uA rg (tI (sS (rW Gbefore G (by decide) rfl Eh (mM (pv 1) (mM (pv 3) rr))))) (rq (rG (i:=2) D rfl (Or.inl rfl) (rO sH (pv 2) rE))
   (rD (rG (i:=3) D rfl (Or.inl rfl) (rW Gplus G (by decide) rfl Eh (mM (pv 3) (mM (rN sv (rN rL (pv 0) (pv 2) (λ_ _=>rfl)) rE (λ_ _=>rfl)) rr)))))))
   (rD (rM (rN sv (rN rL (pv 0) (pv 2) (λ_ _=>rfl)) rE (λ_ _=>rfl)))))))),?_⟩
 try dsimp -proj only[sd,rS,rV]
 obtain⟨_,S,B⟩:=id hm
 cases S
 have hT:=l.T0
 have o:T≠0:=by omega
 have r:Sz 4000 p:=hz.up (by decide)
 have ae:Sz 4000 ((0,1):Int×Int):=Sz.up (m:=30) ⟨by decide,by decide,by decide⟩ (by decide)
 have af:Sz 4000 ((1,1):Int×Int):=Sz.up (m:=30) ⟨by decide,by decide,by decide⟩ (by decide)
 refine⟨_,rfl,λc0 ac=>⟨m,c0,p,(0,1),rfl,B,ac _,r,ae,_,rfl,?_⟩⟩
 show if Ez p (0,1)=true then _ else _
 refine Jv (λc=>⟨by show 1<=sizeLine;decide,U (.inl c)⟩) (λn0=>?_)
 refine⟨_,rfl,λc1 ad=>⟨m,c1,p,(1,1),rfl,B,ad _,r,af,_,rfl,?_⟩⟩
 show if(!Ez p (1,1))=true then _ else _
 refine Jv (λc=>⟨by show 1<=sizeLine;decide,U (.inr (by simpa using c))⟩) (λR=>?_)
 have Z:¬ES p:=λz=>by
  rcases z with z|z
  ·exact n0 z
  ·rw[z]at R;exact R rfl
 have q:=q Z
 have y1:Ez p (1,1)=true:=by simpa using R
 have ai:=Paired.len d
 have aj:=l.ne
 obtain⟨v0,ag,a0,f0,g0,rfl,h1,h2,h3⟩:=Paired.get d (cz (show 0<a.length by omega))
 refine⟨_,rfl,L,v,0,_,rfl,rfl,F,sr ag,a0,_,0,_,rfl,rfl,h1,rfl,?_⟩
 have e1:cw a 1=(a[0]).1:=by
  have:=cw_succ (cz (show 0<a.length by omega))
  rw[cw_zero,d3]at this
  exact this
 refine⟨λk σ y=>∃(i:Nat) (Y:V),k=a.length-i/\i<a.length/\Same H y/\σ=[some (.ref L),some (.ref m),some (.int i),some Y]/\IsF K y Y (FQ.red (cw a (i+1)) T)/\∀j,j<i->Ez p (FQ.red (cw a (j+1)) T)=false,
  ⟨_,0,.ref f0,rfl,by omega,Same.refl _,rfl,by rw[nJ,e1];exact h2,λj X=>absurd X (gz _)⟩,λk σ y hP=>?_⟩
 obtain⟨i,Y,rfl,C,b,rfl,aa,J⟩:=hP
 obtain⟨N,rfl,t⟩:=aa
 have bd:=l.bd (i:=i+1) C
 have zc:Sz 4000 (FQ.red (cw a (i+1)) T):=vn o (by omega) (by omega)
 refine⟨_,rfl,_,rfl,m,N,p,FQ.red (cw a (i+1)) T,rfl,b.tup B,t,r,zc,_,rfl,?_⟩
 show if(!Ez p (FQ.red (cw a (i+1)) T))=true then _ else _
 refine Jv (λc=>?_) (λc=>?_)
 ·have cn:Ez p (FQ.red (cw a (i+1)) T)=false:=by simpa using c
  have g:i+1<a.length:=by
   refine dM λz=>?_
   have e:i+1=a.length:=by omega
   rw[e,l.tot,xX o,y1]at cn
   cases cn
  obtain⟨v1,u,O,f1,g1,rfl,W,k2,k3⟩:=Paired.get d (cz g)
  obtain⟨_,S,ab⟩:=id k2
  cases S
  have wb:=l.w1 _ (cW g)
  have ak:=l.w2 _ (cW g)
  refine⟨_,(λam y z=>z),?_⟩
  refine⟨_,rfl,_,_,rfl,rfl,?_⟩
  refine⟨_,rfl,_,rfl,_,rfl,L,v,_,_,rfl,rfl,b.seq F,by show Hb v ((i:Int)+1)=_;exact sJ (by omega) (by rw[show((i:Int)+1).toNat=i+1 by omega];exact u),O,_,0,_,rfl,rfl,b.tup W,rfl,N,f1,_,_,rfl,t,b.tup ab,zc,vn o (by omega) (by omega),λpf H2 S2 I=>?_⟩
  rw[wV o,<-cw_succ (cz g)]at I
  exact⟨a.length-(i+1),by omega,i+1,.ref pf,rfl,g,b.trans S2,rfl,⟨pf,rfl,SqT.of I⟩,λj X=>by
   rcases fP.mp X with z|z
   ·exact J j z
   ·rw[z];exact cn⟩
 ·have cy:Ez p (FQ.red (cw a (i+1)) T)=true:=by simpa using c
  obtain⟨v1,u,O,f1,g1,rfl,W,k2,k3⟩:=Paired.get d (cz C)
  refine⟨_,rfl,_,rfl,L,v,_,_,rfl,rfl,b.seq F,sr u,O,_,1,_,rfl,rfl,b.tup W,rfl,?_⟩
  refine q i (.ref g1) y ⟨C,cy,J⟩ b ⟨g1,rfl,?_⟩
  rw[cC,cz C]
  exact b.tup k3
theorem FO:Ef ["value"] ["value"] (Ec (Eg 36)):=⟨rfl,rfl,rfl,by decide +kernel,rfl,by decide +kernel,by decide +kernel⟩
theorem HU(M:Md K mg x cB):Dn P w K mg base Em 1 "is_listing" ["value"] (Hq K):=by
 have l:=(FO).nd;refine M.f_is_listing.ok FO (λvs H Q E h=>?_) (λ_ _ _ _ _ _ e g=>match e,g with|[_],_=>rfl) (λf j A c s H vs Q E k h=>?_)
 ·obtain⟨v,t,rfl,b,q⟩:=h;rfl
 obtain⟨v,t,rfl,b,q⟩:=h;refine⟨_,(rD (rM (rJ A6 rfl M.b_isinstance Boot.«isinstance» (mM (pv 0) (mM (sI (mM (tW rfl M.b_list Boot.«list») (mM (tW rfl M.b_tuple Boot.«tuple») rr))) rr))))),?_⟩
 try dsimp -proj only[sd,rS,rV]
 refine⟨_,rfl,by show 2<=sizeLine;decide,λd a=>?_⟩;exact⟨v,d,t,rfl,SqT.of rC,b.mono (rz a _),q _ (rz a _)⟩
theorem FK:Ef ["rows"] ["rows"] (Ec (Eg 37)):=⟨rfl,rfl,rfl,by decide +kernel,rfl,by decide +kernel,by decide +kernel⟩
theorem HP(M:Md K mg x cB)
  (Gis_listing:Dn P w K mg base Em 1 "is_listing" ["value"] (Hq K)):Dn P w K mg base Em 2 "has_people" ["rows"] (ID K):=by
 have y:=(FK).nd
 refine M.f_has_people.ok FK (λvs H Q E h=>?_) (λ_ _ _ _ _ _ b u=>match b,u with|[_],_=>rfl) (λf v A n s H vs Q E r h=>?_)
 ·obtain⟨a,b,rfl,d,q⟩:=h
  rfl
 obtain⟨a,b,rfl,d,q⟩:=h
 refine⟨_,(rD (rM (uw (rW Gis_listing r (by decide) rfl Eh (mM (pv 0) rr)) (vH (y7 BK BK rE (rJ rP rfl M.b_len dD (mM (pv 0) rr)) (AD M.c_MOST_PEOPLE)))))),?_⟩
 try dsimp -proj only[sd,rS,rV]
 have l:∃t,tyOf K H (.ref a) t/\(GA t "list"||GA t "tuple")=true:=by
  rcases d with d|d
  ·exact⟨"list",.inl ⟨rfl,_,d⟩,rfl⟩
  ·exact⟨"tuple",.inr ⟨rfl,_,d⟩,rfl⟩
 obtain⟨t,o,p⟩:=l
 refine⟨_,rfl,.ref a,t,rfl,o,λk g=>⟨_,rfl,?_⟩⟩
 rw[p]
 refine ER ?_
 have m:SqL K k a b\/SqT K k a b:=d.imp g.seq g.tup
 refine⟨_,rfl,a,b,rfl,m,_,_,rfl,rfl,_,rfl,?_⟩
 have j:=q k g
 refine EE (λc=>?_) (λc=>?_)
 ·refine⟨_,_,rfl,rfl,?_⟩
  have e:decide ((b.length:Int)<=6)=decide (1<=b.length/\b.length<=6):=by
   apply gx.mpr;simp only[decide_eq_true_eq];omega
  dsimp only
  rw[e]
  exact j
 ·have e:decide (1<=b.length/\b.length<=6)=false:=decide_eq_false (by omega)
  rw[e]at j
  exact j
theorem F9:Ef ["wish","taken"] ["wish","taken"] (Ec (Eg 39)):=⟨rfl,rfl,rfl,by decide +kernel,rfl,by decide +kernel,by decide +kernel⟩
theorem Iu(M:Md K mg x cB):Dn P w K mg base Em 1 "best_free" ["wish","taken"] (Im K):=by
 have J:=(F9).nd;refine M.f_best_free.ok F9 (λvs H Q E h=>?_) (λ_ _ _ _ _ _ F o=>match F,o with|[_,_],_=>rfl) (λf G A C s H vs Q E I h=>?_)
 ·obtain⟨w,l,a,e,rfl,r,o,v,p,q⟩:=h;rfl
 obtain⟨w,l,a,e,rfl,r,o,v,p,q⟩:=h;refine⟨_,(rD (rM (rN rL (sy rfl (N:=["thing","taken"]) (caps:=[none,some 1]) (CompOk.of (by kernel_rfl)) (rY rfl) (uy (pv 0)) (λ_ _ _ _=>(rK (i:=0) (show(["thing","taken"]:List Str).Nodup by decide +kernel) rfl (Or.inl rfl) (Or.inr rfl))) (λ_ _ _ _=>(tZ (rR (uH (K:=K) rfl) (pv 0) (pv 1) (by with_unfolding_all rfl)))) (λ_ _ _ _=>(pv 0))) rE (λ_ _=>rfl)))),?_⟩
 try dsimp -proj only[sd,rS,rV]
 refine⟨_,rfl,w,rfl,⟨_,r⟩,?_⟩;refine ug (xs:=a.map V.int) (λj n m=>m=H/\n=(E7 (a.take j) e).map V.int)
  ⟨rfl,rfl⟩ (λj n m _ k=>by rw[k.1];exact r) (λj y n m b k=>?_) (λn m k D z=>?_)
 ·obtain⟨rfl,rfl⟩:=k;rw[cH]at b
  cases g:a[j]? with
  | none=>rw[g]at b;cases b
  | some u=>
   rw[g]at b;have B:V.int u=y:=Option.some.inj b;subst B;refine⟨_,rfl,_,rfl,l,_,rfl,o,rfl,vF _,_,rfl,?_⟩;have d:((E7 (a.take j) e).map V.int).length<sizeLine:=by
    rw[cx];have h1:=d6 (λt=>!decide (t∈e)) (a.take j);rw[cV]at h1;exact Ed (by unfold E7;omega)
   show if(!JA (.int u) (e.map V.int))=true then _ else _
   unfold E7 at d ⊢;rw[wJ,cY,g,gm,cS];refine GQ (λc=>?_) (λc=>?_)
   ·refine⟨_,rfl,d,rfl,?_⟩;simp[c]
   ·refine⟨rfl,?_⟩;simp[c]
 ·obtain⟨rfl,rfl⟩:=k;rw[cx,dj];exact⟨D,_,0,_,rfl,rfl,SqL.of rC,sJ (by decide) (by show _=_;rw[show(0:Int).toNat=0 from rfl];rw[cH,(xN p).1];rfl),q _ (rz z _)⟩
theorem Gm:Ef ["numbers","number"] ["numbers","number"] (Ec (Eg 40)):=⟨rfl,rfl,rfl,by decide +kernel,rfl,by decide +kernel,by decide +kernel⟩
theorem IS(M:Md K mg x cB):Dn P w K mg base Em 1 "with_one" ["numbers","number"] (Hh K):=by
 have z:=(Gm).nd;refine M.f_with_one.ok Gm (λvs H Q E h=>?_) (λ_ _ _ _ _ _ t d=>match t,d with|[_,_],_=>rfl) (λf u A m s H vs Q E y h=>?_)
 ·obtain⟨a,e,x,rfl,hA,g,q⟩:=h;rfl
 obtain⟨a,e,x,rfl,hA,g,q⟩:=h;refine⟨_,(rD (rM (sh sK rfl M.b_tuple Boot.«tuple» (mM (rJ (yc) rfl M.b_sorted Boot.«sorted» (mM (rO AK (pv 0) (sI (mM (pv 1) rr))) rr)) rr)))),?_⟩
 try dsimp -proj only[sd,rS,rV]
 refine⟨_,rfl,_,rfl,by show 1<=sizeLine;decide,λb k=>?_⟩;have c:Same H (upd H b (.tup [.int x])):=rz k _;have h1:SqT K (upd H b (.tup [.int x])) b (([x]:List Int).map V.int):=SqT.of rC;generalize upd H b (.tup [.int x])=C at c h1 ⊢;refine DK (c.tup hA) h1 (by simp;omega) λr B n h2=>?_
 refine⟨r,e++[x],rfl,.inr h2,by simp;omega,λl v d hp o=>?_⟩;refine⟨l,_,rfl,.inl ⟨SqL.of rC,λp j=>q p _ (c.trans (n.trans ((rz d _).trans (rz j _)))) ?_⟩⟩;rw[TM.srt_eq hp o];exact SqT.of rC
theorem FF:Ef ["wishes","gone","taken","people"] ["wishes","gone","taken"] (Ec (Eg 41)):=⟨rfl,rfl,rfl,by decide +kernel,rfl,by decide +kernel,by decide +kernel⟩
theorem Hx(M:Md K mg x cB)
  (Gbest_free:Dn P w K mg base Em 1 "best_free" ["wish","taken"] (Im K)):Dn P w K mg base Em 2 "turns_from" ["wishes","gone","taken"] (II K):=by
 have nd:=(FF).nd
 refine M.f_turns_from.ok FF (λvs H Q E h=>?_) (λ_ _ _ _ _ _ us hl=>match us,hl with|[_,_,_],_=>rfl) (λf al A ae s H vs Q E hr h=>?_)
 ·obtain⟨a,g,t,z,W,n,b,rfl,hA,R,F,Z,U,I,q⟩:=h
  rfl
 obtain⟨a,g,t,z,W,n,b,rfl,hA,R,F,Z,U,I,q⟩:=h
 refine⟨_,(rq (sF (i:=3) nd rfl rfl rfl rfl (N:=["person","gone"]) (caps:=[none,some 1]) (CompOk.of (by kernel_rfl)) (rY rfl) (rZ rfl M.b_range (mM (rJ rP rfl M.b_len dD (mM (pv 0) rr)) rr)) (λ_ _ _ _=>(rK (i:=0) (show(["person","gone"]:List Str).Nodup by decide +kernel) rfl (Or.inl rfl) (Or.inr rfl))) (λ_ _ _ _=>(tZ (rR (uH (K:=K) rfl) (pv 0) (pv 1) (by with_unfolding_all rfl)))) (λ_ _ _ _=>(pv 0)))
   (rD (rM (sy rfl (N:=["person","wishes","taken"]) (caps:=[none,some 0,some 2]) (CompOk.of (by kernel_rfl)) (rY rfl) (sZ (pv 3)) (λ_ _ _ _=>(rK (i:=0) (show(["person","wishes","taken"]:List Str).Nodup by decide +kernel) rfl (Or.inl rfl) (Or.inr rfl))) (λ_ _ _ _=>su) (λ_ _ _ _=>(sI (mM (pv 0) (mM (rW Gbest_free hr (by decide) rfl Eh (mM (rN (sV (K:=K) rfl) (pv 1) (pv 0) (λ_ _=>rfl)) (mM (pv 2) rr))) rr)))))))),?_⟩
 try dsimp -proj only[sd,rS,rV]
 have af:=Paired.len R
 have ak:=F.lo
 have aj:=F.hi
 have ah:=F.len
 have ag:z.length=n:=by omega
 refine⟨_,rfl,a,z,rfl,.inl hA,_,rfl,by omega,by omega,?_⟩
 refine wy (n:=z.length) (λi e o=>o=H/\e=(((LM.rng n).take i).filter λp=>!decide (p∈b.1)).map V.int) ⟨rfl,rfl⟩ (λi e o hi d=>?_) (λe o d D hD=>?_)
 ·obtain⟨rfl,rfl⟩:=d
  have ad:(LM.rng n)[i]?=some (i:Int):=by unfold LM.rng;rw[cH,d9 (by omega)];rfl
  have O:((((LM.rng n).take i).filter λp=>!decide (p∈b.1)).map V.int).length<sizeLine:=by
   rw[cx]
   have h1:=d6 (λp=>!decide (p∈b.1)) ((LM.rng n).take i)
   rw[cV]at h1
   exact Ed (by omega)
  refine⟨_,rfl,_,rfl,g,_,rfl,.inr Z,rfl,vF _,_,rfl,?_⟩
  show if(!JA (.int (0+(i:Int))) (b.1.map V.int))=true then _ else _
  rw[d3,wJ,cY,ad,gm,cS]
  refine GQ (λc=>?_) (λc=>?_)
  ·refine⟨_,rfl,O,rfl,?_⟩
   simp[c]
  ·refine⟨rfl,?_⟩
   simp[c]
 obtain⟨rfl,rfl⟩:=d
 rw[eK (by rw[LM.rng_len];omega),show qE (λp=>!decide (p∈b.1)) (LM.rng n)=TM.freeP n b.1 from rfl]
 have r:Same o (upd o D (.lst ((TM.freeP n b.1).map V.int))):=rz hD _
 have C:SqL K (upd o D (.lst ((TM.freeP n b.1).map V.int))) D ((TM.freeP n b.1).map V.int):=SqL.of rC
 generalize upd o D (.lst ((TM.freeP n b.1).map V.int))=H2 at r C ⊢
 refine⟨_,rfl,D,rfl,⟨_,C⟩,?_⟩
 refine sU (xs:=(TM.freeP n b.1).map V.int) (λj e u=>Same H2 u/\dr (IsF K u) e ((Ex n W b).take j)) ⟨Same.refl _,by rw[eP];exact .nil⟩ (λj e u _ d=>d.1.seq C) (λj y e u S d=>?_) (λe u d De B=>?_)
 ·obtain⟨l,k⟩:=d
  have hj:j<(TM.freeP n b.1).length:=by have:=(cL.mp S).1;rw[cx]at this;exact this
  obtain⟨p,hp⟩:∃p,(TM.freeP n b.1)[j]?=some p:=⟨_,cz hj⟩
  rw[cH,hp]at S
  cases S
  have X:=LM.mem_rng.mp (d8.mp (da hp)).1
  have v:p.toNat<W.length:=by omega
  have m:=F.pm _ (cW v)
  have eW:W.getD p.toNat []=W[p.toNat]:=HM.getD_lt v
  obtain⟨wv,ac,ab⟩:=Paired.get R (cz v)
  obtain⟨wa,rfl,L⟩:=ab.mono (r.trans l)
  have T:=Paired.len k
  rw[cV]at T
  have ai:(TM.freeP n b.1).length<=n:=by
   have h1:=d6 (λp=>!decide (p∈b.1)) (LM.rng n)
   rw[LM.rng_len]at h1
   exact h1
  have et:(Ex n W b)[j]?=some (p,Ff W[p.toNat] b.2):=by
   unfold Ex
   rw[cH,hp]
   show some (p,Fe W p b.2)=_
   unfold Fe
   rw[eW]
  have G:=m.len
  generalize W[p.toNat]=aa at L m et G
  refine⟨_,rfl,_,rfl,_,rfl,a,z,_,_,rfl,rfl,(r.trans l).seq hA,sJ X.1 ac,_,rfl,wa,t,aa,b.2,rfl,L,.inr ((r.trans l).tup U),by omega,Az m I,λH4 Y=>⟨by show 2<=sizeLine;decide,λpt J=>⟨Ed (by omega),l.trans (Y.trans (rz J _)),?_⟩⟩⟩
  rw[cY,et]
  exact Paired.app (rQ (Y.trans (rz J _)) k) (.cons ⟨pt,rfl,SqT.of rC⟩ .nil)
 ·obtain⟨l,k⟩:=d
  rw[eK (by unfold Ex;rw[cx,cx];exact cI _)]at k
  exact q De e _ (r.trans (l.trans (rz B _))) ((r.trans l).free B) rC (rQ (rz B _) k)
theorem F5:Ef ["count","orders","number"] ["count"] (Ec (Eg 42)):=⟨rfl,rfl,rfl,by decide +kernel,rfl,by decide +kernel,by decide +kernel⟩
theorem IJ(M:Md K mg x cB):Dn P w K mg base Em 1 "orders_of" ["count"] (FT):=by
 have c:=(F5).nd;refine M.f_orders_of.ok F5 (λvs H Q E h=>?_) (λ_ _ _ _ _ _ j l=>match j,l with|[_],_=>rfl) (λf m A g s H vs Q E o h=>?_)
 ·obtain⟨k,rfl,hk,q⟩:=h;rfl
 obtain⟨k,rfl,hk,q⟩:=h;refine⟨_,(rq (rG (i:=1) c rfl (Or.inl rfl) rE)
   (rq (sT dA rfl (Bo rfl M.b_range (mM rE (mM (rO sH (pv 0) rE) rr))) (rK (i:=2) c rfl (Or.inl rfl)) (rD (rG (i:=1) c rfl (Or.inl rfl) (rO sC (pv 1) (pv 2)))))
   (rD (rM (pv 1))))),?_⟩
 try dsimp -proj only[sd,rS,rV]
 refine⟨_,rfl,_,_,rfl,rfl,_,_,rfl,⟨by omega,by omega,by omega,by omega⟩,?_⟩;have e:((k:Int)+1-1).toNat=k:=by omega
 show ∃_,_;rw[e];refine sj (n:=k) (λi b a=>a=H/\∃r,b=[some (.int k),some (.int (TM.fct i)),r]) ⟨rfl,_,rfl⟩ (λi b a p d=>?_) (λb a d=>?_)
 ·obtain⟨rfl,r,rfl⟩:=d;refine⟨_,rfl,_,rfl,_,_,rfl,rfl,J6 (by omega),rfl,some (.int (1+(i:Int))),?_⟩;rw[show TM.fct (i+1)=TM.fct i*(1+(i:Int))by show TM.fct i*((i:Int)+1)=_;rw[qp (i:Int) 1]];rfl
 ·obtain⟨rfl,r,rfl⟩:=d;exact⟨_,rfl,q⟩
theorem F6:Ef ["wishes","counts","beginnings","turn","endings","longer","beginning","number","person","thing","state"] ["wishes"] (Ec (Eg 43)):=⟨rfl,rfl,rfl,by decide +kernel,rfl,by decide +kernel,by decide +kernel⟩
theorem Ie(M:Md K mg x cB)
  (Gorders_of:Dn P w K mg base Em 1 "orders_of" ["count"] (FT))
  (Gturns_from:Dn P w K mg base Em 2 "turns_from" ["wishes","gone","taken"] (II K))
  (Gwith_one:Dn P w K mg base Em 1 "with_one" ["numbers","number"] (Hh K)):Dn P w K mg base Em 3 "counts_of" ["wishes"] (Ii P w K):=by
 have R:=(F6).nd
 refine M.f_counts_of.ok F6 (λvs H Q E h=>?_) (λ_ _ _ _ _ _ us hl=>match us,hl with|[_],_=>rfl) (λf bK A bz s H vs Q E hr h=>?_)
 ·obtain⟨a,ws,W,n,rfl,hA,hW,ok,q⟩:=h
  rfl
 obtain⟨a,ws,W,n,rfl,hA,hW,ok,q⟩:=h
 refine⟨_,(rq (rG (i:=1) R rfl (Or.inl rfl) (z7 (W:=GB) (P:=P) (w:=w) (K:=K) rfl rfl rfl))
   (rq (rG (i:=2) R rfl (Or.inl rfl) (B3 (W:=Gz) (P:=P) (w:=w) (K:=K) rfl rfl rfl hr (sI (mM (sI rr) (mM (sI rr) rr))) rE))
   (rq (sT dA rfl (rZ rfl M.b_range (mM (rJ rP rfl M.b_len dD (mM (pv 0) rr)) rr)) (rK (i:=3) R rfl (Or.inl rfl)) (rq (rG (i:=4) R rfl (Or.inl rfl) (rW Gorders_of hr (by decide) rfl Eh (mM (rO wu (rO wu (rJ rP rfl M.b_len dD (mM (pv 0) rr)) (pv 3)) rE) rr)))
   (rq (rG (i:=5) R rfl (Or.inl rfl) (z7 (W:=Gz) (P:=P) (w:=w) (K:=K) rfl rfl rfl))
   (rq (sT dA rfl (BY (W:=Gz) (P:=P) (w:=w) (K:=K) rfl rfl rfl (pv 2)) (yO rfl (sD (rK (i:=6) R rfl (Or.inl rfl)) (sD (rK (i:=7) R rfl (Or.inl rfl)) ut))) (rD (sT dA rfl (sZ (rW Gturns_from hr (by decide) rfl Eh (mM (pv 0) (mM (rN sv (pv 6) rE (λ_ _=>rfl)) (mM (rN sv (pv 6) rE (λ_ _=>rfl)) rr))))) (yO rfl (sD (rK (i:=8) R rfl (Or.inl rfl)) (sD (rK (i:=9) R rfl (Or.inl rfl)) ut))) (rq (wo (rO sH (yh (W:=GB) (P:=P) (w:=w) (K:=K) rfl rfl rfl hr (pv 1) (sI (mM (pv 8) (mM (pv 9) rr))) rE) (rO sC (pv 7) (pv 4))) (wh (pv 1) (sI (mM (pv 8) (mM (pv 9) rr))) (D0 (W:=GB) (P:=P) (w:=w) (K:=K) rfl rfl rfl hr)))
   (rq (rG (i:=10) R rfl (Or.inl rfl) (sI (mM (rW Gwith_one hr (by decide) rfl Eh (mM (rN sv (pv 6) rE (λ_ _=>rfl)) (mM (pv 8) rr))) (mM (rW Gwith_one hr (by decide) rfl Eh (mM (rN sv (pv 6) rE (λ_ _=>rfl)) (mM (pv 9) rr))) rr))))
   (rD (wo (rO sH (yh (W:=Gz) (P:=P) (w:=w) (K:=K) rfl rfl rfl hr (pv 5) (pv 10) rE) (pv 7)) (wh (pv 5) (pv 10) (D0 (W:=Gz) (P:=P) (w:=w) (K:=K) rfl rfl rfl hr)))))))))
   (rD (rG (i:=2) R rfl (Or.inl rfl) (pv 5)))))))
   (rD (rM (pv 1)))))),?_⟩
 try dsimp -proj only[sd,rS,rV]
 have bC:=Paired.len hW
 have bI:=ok.lo
 have bH:=ok.hi
 have bF:=ok.len
 have bk:ws.length=n:=by omega
 have ac:(0:Nat)<=sizeLine:=by decide
 have u:(2:Nat)<=sizeLine:=by decide
 refine λc H1 aZ aP aO=>?_
 have S1:Same H H1:=by obtain⟨Z,rfl⟩:=aP;exact rz aZ _
 clear aP
 refine λm H2 T aB aI=>?_
 have ae:H m=none:=S1.free T
 have S2:Same H1 H2:=by obtain⟨Z,rfl⟩:=aB;exact rz T _
 have U:c≠m:=λz=>by obtain⟨Z,e⟩:=aO.ext;rw[z,T]at e;cases e
 clear aB
 refine⟨ac,λD aR=>⟨ac,λG ax=>⟨u,λp3 ao=>?_⟩⟩⟩
 have S3:Same H2 (upd (upd (upd H2 D (.tup [])) G (.tup [])) p3 (.tup [.ref D,.ref G])):=(rz aR _).trans ((rz ax _).trans (rz ao _))
 have aF:SqT K (upd (upd (upd H2 D (.tup [])) G (.tup [])) p3 (.tup [.ref D,.ref G])) p3 [.ref D,.ref G]:=SqT.of rC
 have aL:SqT K (upd (upd (upd H2 D (.tup [])) G (.tup [])) p3 (.tup [.ref D,.ref G])) D (([]:List Int).map V.int):=SqT.of (rz ao _ _ _ (rz ax _ _ _ rC))
 have aG:SqT K (upd (upd (upd H2 D (.tup [])) G (.tup [])) p3 (.tup [.ref D,.ref G])) G (([]:List Int).map V.int):=SqT.of (rz ao _ _ _ rC)
 generalize upd (upd (upd H2 D (.tup [])) G (.tup [])) p3 (.tup [.ref D,.ref G])=H3 at S3 aF aL aG ⊢
 refine⟨p3,([],[]),1,rfl,rfl,⟨D,G,aF,aL,aG⟩,aI.mono S3,λH4 aM aS=>?_⟩
 have aX:=(aI.mono S3).ext
 have X4:KX [m] H3 H4:=KX.put (λb hb=>by rw[cK.mp hb];exact aX) (cK.mpr rfl) aM
 have aH:Same H H4:=X4.same (S1.trans (S2.trans S3)) λb hb=>by rw[cK.mp hb];exact ae
 have a0:DictI GB P w K H4 c []:=by
  obtain⟨ep,hC⟩:=aO
  exact⟨ep,X4.dict (hC.mono (S2.trans S3)) (λz=>U (cK.mp z))⟩
 clear X4 aM aX S3 aF aL aG aI aO S1 S2 aR ax ao T
 refine⟨_,rfl,a,ws,rfl,.inl (aH.seq hA),_,rfl,by omega,by omega,?_⟩
 refine sj (n:=ws.length) (λk F H5=>Same H H5/\∃(m:cG) (C:List (List Int×Int)) (B:List (EA×Int)) (r3 r4 r5 r6 r7 r8 r9 N:Option V),F=[some (.ref a),some (.ref c),some (.ref m),r3,r4,r5,r6,r7,r8,r9,N]/\H m=none/\c≠m/\
   DictI GB P w K H5 c C/\CI n W k C/\DictI Gz P w K H5 m B/\BI n W k B)
  ⟨aH,m,[],_,_,_,_,_,_,_,_,_,rfl,ae,U,a0,CI.zero,aS,BI.zero⟩ (λk F H5 hk r=>?_) (λF H5 r=>?_)
 ·clear aH a0 aS U ae
  obtain⟨S5,m,C,B,r3,r4,r5,r6,r7,r8,r9,N,rfl,T,U,hC,an,hB,am⟩:=r
  have bB:k<n:=by omega
  refine⟨_,rfl,a,ws,rfl,.inl (S5.seq hA),_,rfl,_,_,rfl,rfl,_,_,rfl,rfl,n-(k+1),by show[V.int _]=[V.int _];rw[show(ws.length:Int)-(0+(k:Int))-1=((n-(k+1):Nat):Int)by omega],by omega,?_⟩
  have bL:=yK (show n-(k+1)<=6 by omega)
  refine λl H6 aq aN bo=>?_
  have aY:H l=none:=S5.free aq
  have S6:Same H5 H6:=by obtain⟨Z,rfl⟩:=aN;exact rz aq _
  have ay:c≠l:=λz=>by obtain⟨Z,e⟩:=hC.ext;rw[z,aq]at e;cases e
  have bx:m≠l:=λz=>by obtain⟨Z,e⟩:=hB.ext;rw[z,aq]at e;cases e
  clear aN
  obtain⟨ep,aQ⟩:=hB.mono S6
  have a7:m∉[c,l]:=λz=>by
   rcases cZ.mp z with z|z
   ·exact U z.symm
   ·exact bx (cK.mp z)
  have bn:∀b∈[c,l],H b=none:=λb hb=>by
   rcases cZ.mp hb with z|z
   ·rw[z];exact aZ
   ·rw[cK.mp z];exact aY
  have exts:∀{H':Hp} {C:List (List Int×Int)} {L:List (EA×Int)},DictI GB P w K H' c C->DictI Gz P w K H' l L->∀b∈[c,l],∃Z,H' b=some (.ext Z):=λh1 h2 b hb=>by
   rcases cZ.mp hb with z|z
   ·rw[z];exact h1.ext
   ·rw[cK.mp z];exact h2.ext
  refine⟨_,rfl,m,ep,B,rfl,aQ,?_⟩
  refine Ae (kvs:=B) (λi F S=>Same H S/\DictE Gz P w K S m ep B/\∃(o:List (List Int×Int)) (L:List (EA×Int)) (r6 r7 r8 r9 N:Option V),F=[some (.ref a),some (.ref c),some (.ref m),some (.int (0+(k:Int))),some (.int (TM.fct (n-(k+1)))),some (.ref l),r6,r7,r8,r9,N]/\
    DictI GB P w K S c o/\DictI Gz P w K S l L/\TI0 n W k B i o L)
   ⟨S5.trans S6,aQ,C,[],_,_,_,_,_,rfl,hC.mono S6,bo,TI0.start an⟩ (λi F S _ r=>r.2.1) (λi g J ka F S t aC bv ht r=>?_) (λF S r=>?_)
  ·obtain⟨S7,aE,o,L,bu,bm,aD,az,af,rfl,ak,ap,hT⟩:=r
   obtain⟨kx,ky,aJ,aV,a6⟩:=bv
   obtain⟨π,a3,aa⟩:=am.key _ (da aC)
   have I:=TM.pre_ok a3
   have bE:g.1.length=k:=by rw[show g=EI W π from aa];show(TM.srt π).length=k;rw[Bp,I.len]
   have bJ:g.2.length=k:=by rw[show g=EI W π from aa];show(TM.srt (Jm W π)).length=k;rw[Bp];unfold Jm;rw[AU,I.len]
   have S8:Same S (upd S t (.tup [.ref ka,.int J])):=rz ht _
   have aT:upd S t (.tup [.ref ka,.int J]) t=some (.tup [.ref ka,.int J]):=rC
   generalize upd S t (.tup [.ref ka,.int J])=H8 at S8 aT ⊢
   refine⟨t,_,rfl,SqT.of aT,rfl,_,_,rfl,_,_,rfl,rfl,?_⟩
   refine⟨_,rfl,_,rfl,ka,_,0,_,rfl,rfl,S8.tup aJ,rfl,_,rfl,ka,_,1,_,rfl,rfl,S8.tup aJ,rfl,a,kx,ky,ws,W,n,g,rfl,(S7.trans S8).seq hA,Paired.mapP hW (λ_ _ h=>h.mono (S7.trans S8)),ok,S8.tup aV,S8.tup a6,by omega,λtl ls H9 S9 bA a5 aU=>?_⟩
   have y:=S8.trans S9
   have bi:=Paired.len aU
   have ba:(Ex n W g).length<=6:=by
    unfold Ex TM.freeP
    rw[cx]
    have h1:=d6 (λp=>!decide (p∈g.1)) (LM.rng n)
    rw[LM.rng_len]at h1
    omega
   have bs:=exts (ak.mono y) (ap.mono y)
   refine⟨tl,rfl,⟨_,SqL.of a5⟩,?_⟩
   refine u7 (xs:=ls) (λj F O=>KX [c,l] H9 O/\∃(o:List (List Int×Int)) (L:List (EA×Int)) (r8 r9 N:Option V),F=[some (.ref a),some (.ref c),some (.ref m),some (.int (0+(k:Int))),some (.int (TM.fct (n-(k+1)))),some (.ref l),some (.ref ka),some (.int J),r8,r9,N]/\
     DictI GB P w K O c o/\DictI Gz P w K O l L/\TJ n W k B i g J j o L)
    ⟨KX.refl bs,o,L,_,_,_,rfl,ak.mono y,ap.mono y,hT g J⟩ (λj F O _ r=>SqL.of (r.1.lst a5)) (λj v F O hv r=>?_) (λF O r=>?_)
   ·obtain⟨XA,o,L,aD,az,af,rfl,Y,al,X⟩:=r
    obtain⟨d,aA,pa,rfl,bj⟩:=Paired.get' aU hv
    have bG:j<6:=by have:=(cL.mp aA).1;omega
    have bD:i<=7776:=by
     have h1:=(cL.mp aC).1
     have h2:6^k<=6^5:=eB (by decide) (by omega)
     have h3:=am.len
     have h4:(6:Nat)^5=7776:=by decide
     omega
    have be:o.length<=1000000:=by have:=X.cl;omega
    have bc:L.length<=1000000:=by have:=X.ll;omega
    refine⟨pa,_,rfl,XA.tup bj,rfl,_,_,rfl,_,_,rfl,rfl,?_⟩
    -- the count
    refine⟨_,rfl,c,rfl,⟨_,Y⟩,_,rfl,_,rfl,u,λpk a4=>?_⟩
    have SB:Same O (upd O pk (.tup [.int d.1,.int d.2])):=rz a4 _
    have ai:SqT K (upd O pk (.tup [.int d.1,.int d.2])) pk (([d.1,d.2]:List Int).map V.int):=SqT.of rC
    generalize upd O pk (.tup [.int d.1,.int d.2])=HB at SB ai ⊢
    refine⟨pk,[d.1,d.2],0,o,rfl,rfl,Y.mono SB,ai,?_⟩
    refine⟨_,rfl,_,rfl,_,_,rfl,rfl,J6 (by omega),_,_,rfl,rfl,?_⟩
    refine⟨_,rfl,_,rfl,_,rfl,u,λad aw=>?_⟩
    have SC:Same HB (upd HB ad (.tup [.int d.1,.int d.2])):=rz aw _
    have ah:SqT K (upd HB ad (.tup [.int d.1,.int d.2])) ad (([d.1,d.2]:List Int).map V.int):=SqT.of rC
    generalize upd HB ad (.tup [.int d.1,.int d.2])=HC at SC ah ⊢
    refine⟨c,ad,[d.1,d.2],_,o,rfl,rfl,rfl,Y.mono (SB.trans SC),ah,be,λHD ag bp=>?_⟩
    have ab:=SB.trans SC
    have a2:=exts (Y.mono ab) (al.mono ab)
    have XD:KX [c,l] O HD:=(KX.of ab XA.is).trans (KX.put a2 cM ag)
    have bf:DictI Gz P w K HD l L:=by
     obtain⟨e2,hL⟩:=al.mono ab
     obtain⟨Z,bq,h1,rfl⟩:=ag
     exact⟨e2,hL.overX h1 (Ne.symm ay)⟩
    clear ag a2 ah ai SB SC ab a4 aw
    -- the state
    have aj:=XA.trans XD
    have aW:=aj.tup ((y).tup aJ)
    refine⟨_,rfl,ka,_,0,_,rfl,rfl,aW,rfl,_,rfl,kx,g.1,d.1,rfl,aj.tup (y.tup aV),by omega,λq1 HE SE br=>?_⟩
    refine⟨_,rfl,ka,_,1,_,rfl,rfl,SE.tup aW,rfl,_,rfl,ky,g.2,d.2,rfl,SE.tup (aj.tup (y.tup a6)),by omega,λq2 HF SF bh=>?_⟩
    refine⟨u,λqs aK=>?_⟩
    have SG:Same HD (upd HF qs (.tup [.ref q1,.ref q2])):=SE.trans (SF.trans (rz aK _))
    have au:Gz.at' K (upd HF qs (.tup [.ref q1,.ref q2])) (FA g d) qs:=⟨q1,q2,SqT.of rC,(SF.trans (rz aK _)).tup br,(rz aK _).tup bh⟩
    generalize upd HF qs (.tup [.ref q1,.ref q2])=HG at SG au ⊢
    have ar:=bf.mono SG
    refine⟨_,rfl,l,rfl,⟨_,ar⟩,_,rfl,qs,FA g d,0,L,rfl,rfl,ar,au,?_⟩
    refine⟨_,rfl,_,_,rfl,rfl,?_⟩
    refine⟨_,rfl,_,rfl,l,qs,FA g d,_,L,rfl,rfl,rfl,ar,au,bc,λHI av bl=>?_⟩
    have a1:=bp.mono SG
    have bw:=exts a1 ar
    have XI:KX [c,l] HD HI:=(KX.of SG XD.is).trans (KX.put bw (cO _ (cK.mpr rfl)) av)
    have a8:DictI GB P w K HI c (Io o [d.1,d.2] (J*TM.fct (n-(k+1)))):=by
     obtain⟨e2,hC⟩:=a1
     obtain⟨Z,bq,h1,rfl⟩:=av
     exact⟨e2,hC.overX h1 ay⟩
    refine⟨aj.trans XI,_,_,_,_,_,rfl,a8,bl,X.step aA ?_⟩
    rw[show g=EI W π from aa]
    exact BN a3 (by rw[<-show g=EI W π from aa];exact da aA)
   ·obtain⟨XA,o,L,aD,az,af,rfl,Y,al,X⟩:=r
    rw[bi]at X
    refine⟨XA.same (S7.trans y) bn,XA.dict (aE.mono y) a7,o,L,_,_,_,_,_,rfl,Y,al,X.done aC ba⟩
  ·obtain⟨S7,aE,o,L,bu,bm,aD,az,af,rfl,ak,ap,hT⟩:=r
   obtain⟨a9,bb⟩:=TI0.finish am (by omega) hT
   exact⟨_,rfl,S7,l,o,L,_,_,_,_,_,_,_,_,rfl,aY,ay,ak,a9,ap,bb⟩
 ·obtain⟨S5,m,C,B,r3,r4,r5,r6,r7,r8,r9,N,rfl,T,U,hC,an,hB,am⟩:=r
  rw[bk]at an
  exact⟨_,rfl,q c C H5 S5 hC an⟩
theorem EU:Ef ["counts","person","count","orders"] ["counts","person","count"] (Ec (Eg 44)):=⟨rfl,rfl,rfl,by decide +kernel,rfl,by decide +kernel,by decide +kernel⟩
theorem FW(M:Md K mg x cB)
  (Gorders_of:Dn P w K mg base Em 1 "orders_of" ["count"] (FT))
  (Gfraction:Dn P w K mg base (FH P w) 2 "fraction" ["top","bottom"] (EN x)):Dn P w K mg base Em 3 "shares_by_turns" ["counts","person","count"] (IE P w K):=by
 have S:=(EU).nd
 refine M.f_shares_by_turns.ok EU (λvs H Q E h=>?_) (λ_ _ _ _ _ _ U X=>match U,X with|[_,_,_],_=>rfl) (λf Y A J s H vs Q E u h=>?_)
 ·obtain⟨d,C,W,n,p,rfl,y,g,j,q⟩:=h
  rfl
 obtain⟨d,C,W,n,p,rfl,y,g,j,q⟩:=h
 refine⟨_,(rq (rG (i:=3) S rfl (Or.inr rfl) (rW Gorders_of u (by decide) rfl Eh (mM (pv 2) rr)))
   (rD (rM (sh sK rfl M.b_tuple Boot.«tuple» (mM (sy rfl (N:=["thing","counts","person","orders"]) (caps:=[none,some 0,some 1,some 3]) (CompOk.of (by kernel_rfl)) (rY rfl) (rZ rfl M.b_range (mM (pv 2) rr)) (λ_ _ _ _=>(rK (i:=0) (show(["thing","counts","person","orders"]:List Str).Nodup by decide +kernel) rfl (Or.inl rfl) (Or.inr rfl))) (λ_ _ _ _=>su) (λ_ _ _ _=>(rW Gfraction u (by decide) rfl FG (mM (yh (W:=GB) (P:=P) (w:=w) (K:=K) rfl rfl rfl u (pv 1) (sI (mM (pv 2) (mM (pv 0) rr))) rE) (mM (pv 3) rr))))) rr))))),?_⟩
 try dsimp -proj only[sd,rS,rV]
 have hf:=yK j
 refine⟨_,rfl,n,rfl,j,?_⟩
 refine⟨_,rfl,_,rfl,by omega,by omega,?_⟩
 refine sP (n:=n) (λi e b=>Same H b/\dr (IsF K b) e ((E9 n W p).take i)) ⟨Same.refl _,by rw[eP];exact .nil⟩ (λi e b R B=>?_) (λe b B D L=>?_)
 ·obtain⟨c,a⟩:=B
  have G:=Paired.len a
  rw[cV]at G
  refine⟨_,rfl,d,rfl,⟨_,y.mono c⟩,_,rfl,_,rfl,by show 2<=sizeLine;decide,λpk I=>?_⟩
  rw[d3]
  have o:Same b (upd b pk (.tup [.int p,.int (i:Int)])):=rz I _
  have k:SqT K (upd b pk (.tup [.int p,.int (i:Int)])) pk (([p,(i:Int)]:List Int).map V.int):=SqT.of rC
  generalize upd b pk (.tup [.int p,.int (i:Int)])=H2 at o k ⊢
  refine⟨pk,[p,(i:Int)],0,C,rfl,rfl,y.mono (c.trans o),k,_,rfl,Kn C [p,(i:Int)],TM.fct n,rfl,λz=>by omega,λ_=>⟨vx (m:=30) (by omega) (by decide),λO Z F r=>⟨Ed (by omega),c.trans (o.trans F),?_⟩⟩⟩
  rw[BG C g.kn n W g.sum]at r
  rw[cY,show(E9 n W p)[i]?=some (FQ.red (EL n W (λl=>GD p i (l.getD 0 0) (l.getD 1 0)) n) (TM.fct n))by unfold E9;rw[cH,d9 R];rfl]
  exact Paired.app (rQ (o.trans F) a) (.cons ⟨O,rfl,SqT.of r⟩ .nil)
 ·obtain⟨c,a⟩:=B
  rw[eK (by rw[zo];exact cI _)]at a
  have v:=rz L (.lst e)
  exact⟨D,e,rfl,.inl ⟨SqL.of rC,λT t=>q T e _ (c.trans (v.trans (rz t _))) (c.free (v.free t)) rC (rQ (v.trans (rz t _)) a)⟩⟩
theorem Gn:Ef ["wishes","counts"] ["wishes"] (Ec (Eg 45)):=⟨rfl,rfl,rfl,by decide +kernel,rfl,by decide +kernel,by decide +kernel⟩
theorem IX(M:Md K mg x cB)
  (Gcounts_of:Dn P w K mg base Em 3 "counts_of" ["wishes"] (Ii P w K))
  (Gshares_by_turns:Dn P w K mg base Em 3 "shares_by_turns" ["counts","person","count"] (IE P w K)):Dn P w K mg base Em 4 "by_turns" ["wishes"] (Ge K):=by
 have L:=(Gn).nd
 refine M.f_by_turns.ok Gn (λvs H Q E h=>?_) (λ_ _ _ _ _ _ R S=>match R,S with|[_],_=>rfl) (λf U A F s H vs Q E z h=>?_)
 ·obtain⟨a,e,W,n,rfl,hA,m,j,q⟩:=h
  rfl
 obtain⟨a,e,W,n,rfl,hA,m,j,q⟩:=h
 refine⟨_,(rq (rG (i:=1) L rfl (Or.inr rfl) (rW Gcounts_of z (by decide) rfl Eh (mM (pv 0) rr)))
   (rD (rM (sy rfl (N:=["person","wishes","counts"]) (caps:=[none,some 0,some 1]) (CompOk.of (by kernel_rfl)) (rY rfl) (rZ rfl M.b_range (mM (rJ rP rfl M.b_len dD (mM (pv 0) rr)) rr)) (λ_ _ _ _=>(rK (i:=0) (show(["person","wishes","counts"]:List Str).Nodup by decide +kernel) rfl (Or.inl rfl) (Or.inr rfl))) (λ_ _ _ _=>su) (λ_ _ _ _=>(rW Gshares_by_turns z (by decide) rfl Eh (mM (pv 2) (mM (pv 0) (mM (rJ (uD (K:=K) rfl) rfl M.b_len dD (mM (pv 1) rr)) rr))))))))),?_⟩
 try dsimp -proj only[sd,rS,rV]
 have Y:=Paired.len m
 have y:=j.hi
 have Z:=j.len
 have B:e.length=n:=by omega
 refine⟨_,rfl,a,e,W,n,rfl,hA,m,j,λd C T g J r=>?_⟩
 refine⟨_,rfl,a,e,rfl,.inl (g.seq hA),_,rfl,by omega,by omega,?_⟩
 refine sP (n:=e.length) (λi k l=>Same T l/\dr (RwG K l) k ((Ih n W).take i)) ⟨Same.refl _,by rw[eP];exact .nil⟩ (λi k l hi p=>?_) (λk l p D o=>?_)
 ·obtain⟨c,b⟩:=p
  have u:=Paired.len b
  rw[cV]at u
  refine⟨_,rfl,_,rfl,_,rfl,a,e,rfl,.inl ((g.trans c).seq hA),d,C,W,n,(i:Int),by show[V.ref d,V.int _,V.int _]=[V.ref d,V.int _,V.int _];rw[B,d3],J.mono c,r,y,λO G H3 t X I v=>⟨Ed (by omega),c.trans t,?_⟩⟩
  rw[cY,show(Ih n W)[i]?=some (E9 n W i)by unfold Ih;rw[cH,d9 (by omega)];rfl]
  exact Paired.app (Paired.mapP b λ_ _ h=>h.mono t) (.cons ⟨O,G,rfl,SqT.of I,v⟩ .nil)
 ·obtain⟨c,b⟩:=p
  rw[eK (by rw[B6];omega)]at b
  exact q D k _ (g.trans (c.trans (rz o _))) ((g.trans c).free o) rC (Paired.mapP b λ_ _ h=>h.mono (rz o _))
theorem GG:Ef ["value"] ["value"] (Ec (Eg 48)):=⟨rfl,rfl,rfl,by decide +kernel,rfl,by decide +kernel,by decide +kernel⟩
theorem Jq(M:Md K mg x cB):Dn P w K mg base Em 1 "is_word" ["value"] (Iy):=by
 have T:=(GG).nd;refine M.f_is_word.ok GG (λvs H Q E h=>?_) (λ_ _ _ _ _ _ I J=>match I,J with|[_],_=>rfl) (λf L A t s H vs Q E R h=>?_)
 ·obtain⟨z,rfl,g,p,q⟩:=h;rfl
 obtain⟨z,rfl,g,p,q⟩:=h;refine⟨_,(rq (sA (PW.pt (xA (tI (sS (rJ sx rfl M.b_isinstance Boot.«isinstance» (mM (pv 0) (mM (tW rfl M.b_str Boot.«str») rr))))) (wk (tI (Cl BK BK rE (rJ xw rfl M.b_len dD (mM (pv 0) rr)) (AD M.c_MOST_SIGNS)))))) (rD (rM uk)) rX)
   (rD (rM (rJ (yE rfl) rfl M.b_all Boot.«all» (mM (sy rfl (N:=["sign"]) (caps:=[none]) (CompOk.of (by kernel_rfl)) (rY rfl) (DJ (pv 0)) (λ_ _ _ _=>(rK (i:=0) (show(["sign"]:List Str).Nodup by decide +kernel) rfl (Or.inl rfl) (Or.inr rfl))) (λ_ _ _ _=>su) (λ_ _ _ _=>(y7 xo xo sG (pv 0) sG))) rr))))),?_⟩
 try dsimp -proj only[sd,rS,rV]
 have o:z.length<=sizeLine:=dB (Ed g);refine⟨_,rfl,_,"str","str",rfl,by decide,rfl,_,rfl,Eu ?_⟩;refine⟨_,rfl,z,rfl,o,_,_,rfl,rfl,_,rfl,?_⟩;refine EE (λu=>?_) (λu=>?_);rotate_left
 ·rw[wz (by omega)]at q;exact⟨_,rfl,ER (q H (Same.refl _))⟩
 refine⟨_,_,rfl,rfl,_,rfl,?_⟩;by_cases m:(z.length:Int)<=12;rotate_left
 ·rw[wz (by omega)]at q;dsimp only;rw[decide_eq_false m];exact ER (q H (Same.refl _))
 dsimp only;rw[decide_eq_true m];refine Eu ?_;rw[zg (by omega)]at q;refine⟨_,rfl,z,rfl,p,?_⟩;have B:(fM "a").cps.toList=[97]:=by decide +kernel
 have C:(fM "z").cps.toList=[122]:=by decide +kernel
 have d:z.cps.size=z.cps.toList.length:=by simp
 have O:z.cps.toList.length<=1000:=by rw[<-d];exact g
 refine Bs (z:=z) (λi j k=>k=H/\j=((z.cps.toList.take i).map λc=>decide (97<=c)&&decide (c<=122)).map V.bl) ⟨rfl,rfl⟩ (λi c j k n l=>?_) (λj k l D v=>?_)
 ·obtain⟨rfl,rfl⟩:=l;have S:i<z.cps.toList.length:=by rw[<-d];exact(kq.mp n).1
  have a:(((z.cps.toList.take i).map λc=>decide (97<=c)&&decide (c<=122)).map V.bl).length<sizeLine:=Ed (by rw[cx,cx,cV];omega);have r:z.cps.toList[i]?=some c:=by rw[gh];exact n
  have e:∀b:Bool,b=(decide (97<=c)&&decide (c<=122))->(((z.cps.toList.take i).map λc=>decide (97<=c)&&decide (c<=122)).map V.bl)++[V.bl b]=(((z.cps.toList.take (i+1)).map λc=>decide (97<=c)&&decide (c<=122)).map V.bl):=λb G=>by
   rw[cY,r,cS,cS,G];rfl
  refine⟨_,rfl,_,_,rfl,rfl,_,rfl,?_⟩;show if(!decide ([c]<(fM "a").cps.toList))=true then _ else _
  rw[B];by_cases F:c<97
  ·rw[decide_eq_true (show[c]<[97]by rw[gN];exact .inl F)];exact Eu ⟨a,rfl,e false (by rw[decide_eq_false (by omega)];rfl)⟩
  ·rw[decide_eq_false (show ¬[c]<[97]by rw[gN];simp;omega)];refine ER ⟨_,_,rfl,rfl,a,rfl,e _ ?_⟩;show(!decide ((fM "z").cps.toList<[c]))=_;rw[C];by_cases y:122<c
   ·rw[decide_eq_true (show[122]<[c]by rw[gN];exact .inl y),decide_eq_false (show ¬c<=122 by omega),o3];rfl
   ·rw[decide_eq_false (show ¬[122]<[c]by rw[gN];simp;omega),decide_eq_true (show 97<=c by omega),decide_eq_true (show c<=122 by omega)];rfl
 ·obtain⟨rfl,rfl⟩:=l;rw[d,dj];refine⟨D,_,rfl,SqL.of rC,?_⟩;rw[qt];exact q _ (rz v _)
theorem GY:Ef ["words"] ["words"] (Ec (Eg 49)):=⟨rfl,rfl,rfl,by decide +kernel,rfl,by decide +kernel,by decide +kernel⟩
theorem Js(M:Md K mg x cB)
  (Ghas_people:Dn P w K mg base Em 2 "has_people" ["rows"] (ID K))
  (Gis_word:Dn P w K mg base Em 1 "is_word" ["value"] (Iy)):Dn P w K mg base Em 3 "is_roll" ["words"] (IH K):=by
 have W:=(GY).nd
 refine M.f_is_roll.ok GY (λvs H Q E h=>?_) (λ_ _ _ _ _ _ S z=>match S,z with|[_],_=>rfl) (λf T A L s H vs Q E F h=>?_)
 ·obtain⟨a,b,rfl,hA,p,o,q⟩:=h
  rfl
 obtain⟨a,b,rfl,hA,p,o,q⟩:=h
 refine⟨_,(rD (rM (uw (rW Ghas_people F (by decide) rfl Eh (mM (pv 0) rr)) (uw (rJ (yE rfl) rfl M.b_all Boot.«all» (mM (sy rfl (N:=["word"]) (caps:=[none]) (CompOk.of (by kernel_rfl)) (rY rfl) (sZ (pv 0)) (λ_ _ _ _=>(rK (i:=0) (show(["word"]:List Str).Nodup by decide +kernel) rfl (Or.inl rfl) (Or.inr rfl))) (λ_ _ _ _=>su) (λ_ _ _ _=>(rW Gis_word F (by decide) rfl Eh (mM (pv 0) rr)))) rr)) (vH (tK tS (zz rfl rfl M.b_len rfl M.b_set (pv 0)) (rJ rP rfl M.b_len dD (mM (pv 0) rr)) (Ej _))))))),?_⟩
 try dsimp -proj only[sd,rS,rV]
 refine⟨_,rfl,a,b.map V.str,rfl,.inl hA,λJ u=>⟨_,rfl,?_⟩⟩
 rw[cx]
 refine EE (λc=>?_) (λc=>?_)
 rotate_left
 ·have I:=q J u
  rw[zt c]at I
  exact I
 have r:=u.seq hA
 refine⟨_,rfl,a,rfl,⟨_,r⟩,?_⟩
 refine sU (xs:=b.map V.str) (λi m d=>Same J d/\m=((b.take i).map Ev).map V.bl) ⟨Same.refl _,rfl⟩ (λi m d _ k=>k.1.seq r) (λi v m d j k=>?_) (λm d k D O=>?_)
 ·obtain⟨y,rfl⟩:=k
  rw[cH]at j
  cases e:b[i]? with
  | none=>rw[e]at j;cases j
  | some w=>
   rw[e]at j
   have G:V.str w=v:=Option.some.inj j
   subst G
   have U:i<b.length:=(cL.mp e).1
   obtain⟨z,R⟩:=o w (da e)
   refine⟨_,rfl,w,rfl,z,R,λB l=>⟨Ed (by rw[cx,cx,cV];omega),y.trans l,?_⟩⟩
   rw[cY,e,cS,cS]
   rfl
 obtain⟨y,rfl⟩:=k
 rw[cx,dj]
 have l:Same d (upd d D (.lst ((b.map Ev).map V.bl))):=rz O _
 have t:upd d D (.lst ((b.map Ev).map V.bl)) D=some (.lst ((b.map Ev).map V.bl)):=rC
 generalize upd d D (.lst ((b.map Ev).map V.bl))=B at l t ⊢
 have g:=u.trans (y.trans l)
 have n:=q B g
 refine⟨D,b.map Ev,rfl,SqL.of t,_,rfl,?_⟩
 rw[qt]
 show if b.all Ev=true then _ else _
 cases C:b.all Ev with
 | false=>
  rw[xV C]at n
  exact Eu n
 | true=>
  rw[zG c C]at n
  refine ER ?_
  refine⟨_,rfl,a,b,rfl,g.seq hA,p,_,rfl,a,_,rfl,.inl (g.seq hA),rfl,?_⟩
  rw[cx]
  exact n
theorem Fg:Ef ["self","people","things"] ["self","people","things"] (Ec (He 50 0)):=⟨rfl,rfl,rfl,by decide +kernel,rfl,by decide +kernel,by decide +kernel⟩
theorem Gs(M:Md K mg x cB)
  (Gis_roll:Dn P w K mg base Em 3 "is_roll" ["words"] (IH K)):Bn P w K mg base (FH P w) 4 cB "Book" ["self","people","things"] (JD K cB x):=by
 have nd:=(Fg).nd
 refine M.k_Book.okE Fg (λvs H Q E h=>?_) (λ_ _ _ _ _ _ us hl=>match us,hl with|[_,_,_],_=>rfl) (λf ag A af s H vs Q E hr h=>?_)
 ·obtain⟨s0,a,b,g,l,m,rfl,hs,hA,I,L,U,S,N,J,q⟩:=h
  rfl
 obtain⟨s0,a,b,g,l,m,rfl,hs,hA,I,L,U,S,N,J,q⟩:=h
 refine⟨_,(rq (sA (PW.pt (xA (tI (sS (rW Gis_roll hr (by decide) rfl Eh (mM (pv 1) rr)))) (xA (tI (sS (rW Gis_roll hr (by decide) rfl Eh (mM (pv 2) rr)))) (wk (rR zw (rJ rP rfl M.b_len dD (mM (pv 1) rr)) (rJ rP rfl M.b_len dD (mM (pv 2) rr)) (Ej _)))))) (rD (tR M.x_NoRoll rfl (mM sG rr))) rX)
   (rq (AR (pv 0) (sh um rfl M.b_tuple Boot.«tuple» (mM (pv 1) rr)) rfl)
   (rq (AR (pv 0) (sh um rfl M.b_tuple Boot.«tuple» (mM (pv 2) rr)) rfl)
   (rD (AR (pv 0) CN rfl))))),?_⟩
 try dsimp -proj only[sd,rS,rV]
 refine⟨_,rfl,a,l,rfl,hA,L,S,λH1 Y=>⟨_,rfl,?_⟩⟩
 cases ep:EV l with
 | false=>exact ER ⟨by show 1<=sizeLine;decide,J (λz=>by rw[uj.mpr z.1]at ep;cases ep) H1 Y⟩
 | true=>
 have rp:=uj.mp ep
 refine Eu ?_
 refine⟨_,rfl,b,m,rfl,Y.seq I,U,N,λr S2=>⟨_,rfl,?_⟩⟩
 have k:=Y.trans S2
 cases et:EV m with
 | false=>exact ER ⟨by show 1<=sizeLine;decide,J (λz=>by rw[uj.mpr z.2.1]at et;cases et) r k⟩
 | true=>
 have rt:=uj.mp et
 refine Eu ?_
 refine⟨_,rfl,a,_,rfl,.inl (k.seq hA),_,rfl,b,_,rfl,.inl (k.seq I),rfl,_,rfl,?_⟩
 rw[cx,cx]
 by_cases el:l.length=m.length
 rotate_left
 ·refine Ll (MB (by omega)) ⟨by show 1<=sizeLine;decide,J (λz=>el z.2.2) r k⟩
 refine GZ (by rw[el]) ?_
 have u:=k _ _ hs
 have aa:=k.seq hA
 have ad:=k.seq I
 refine⟨_,rfl,a,_,rfl,aa,λc n O ae=>?_⟩
 have D:=rz O (.frz n (.tup (l.map V.str)))
 refine⟨_,rfl,s0,cB,g,_,rfl,D _ _ u,M.cl,M.na_people,by show 0<1000;decide,?_⟩
 have Z:c≠s0:=Ne.symm (rF u O)
 have U3:SameBut1 s0 H (upd (upd r c (.frz n (.tup (l.map V.str)))) s0 (.ins cB g (EK "people" (.ref c) []))):=(SameBut1.of (k.trans D)).trans SameBut1.upd
 have C:upd (upd r c (.frz n (.tup (l.map V.str)))) s0 (.ins cB g (EK "people" (.ref c) [])) s0=some (.ins cB g [("people",.ref c)]):=rC
 have v:upd (upd r c (.frz n (.tup (l.map V.str)))) s0 (.ins cB g (EK "people" (.ref c) [])) c=some (.frz n (.tup (l.map V.str))):=by rw[rH Z,rC]
 have T:=(D.seq ad).overI (o:= .ins cB g (EK "people" (.ref c) [])) (D _ _ u)
 dsimp only
 generalize upd (upd r c (.frz n (.tup (l.map V.str)))) s0 (.ins cB g (EK "people" (.ref c) []))=y at U3 C v T ⊢
 refine⟨_,rfl,b,_,rfl,T,λj p t ac=>?_⟩
 have T2:=rz t (.frz p (.tup (m.map V.str)))
 refine⟨_,rfl,s0,cB,g,_,rfl,T2 _ _ C,M.cl,M.na_things,by show 1<1000;decide,?_⟩
 have n2:j≠s0:=Ne.symm (rF C t)
 have n3:c≠j:=rF v t
 have X:SameBut1 s0 H (upd (upd y j (.frz p (.tup (m.map V.str)))) s0 (.ins cB g (EK "things" (.ref j) [("people",.ref c)]))):=(U3.trans (SameBut1.of T2)).trans SameBut1.upd
 have B:upd (upd y j (.frz p (.tup (m.map V.str)))) s0 (.ins cB g (EK "things" (.ref j) [("people",.ref c)])) s0=some (.ins cB g [("people",.ref c),("things",.ref j)]):=rC
 have R:upd (upd y j (.frz p (.tup (m.map V.str)))) s0 (.ins cB g (EK "things" (.ref j) [("people",.ref c)])) c=some (.frz n (.tup (l.map V.str))):=by rw[rH Z,rH n3];exact v
 have W:upd (upd y j (.frz p (.tup (m.map V.str)))) s0 (.ins cB g (EK "things" (.ref j) [("people",.ref c)])) j=some (.frz p (.tup (m.map V.str))):=by rw[rH n2,rC]
 dsimp only
 generalize upd (upd y j (.frz p (.tup (m.map V.str)))) s0 (.ins cB g (EK "things" (.ref j) [("people",.ref c)]))=H4 at X B R W ⊢
 refine λd G=>?_
 have F:=rz G (.dK (wK []))
 have n4:d≠s0:=Ne.symm (rF B G)
 have ab:H d=none:=by
  cases e:H d with
  | none=>rfl
  | some o=>rw[X d o n4 e]at G;cases G
 refine⟨_,rfl,s0,cB,g,_,rfl,F _ _ B,M.cl,M.na_wishes_told,by show 2<1000;decide,?_⟩
 refine q rp rt el d _ ((X.trans (SameBut1.of F)).trans SameBut1.upd) ab ⟨g,c,j,n,p,rC,?_,ae,?_,ac,?_⟩
 ·rw[rH Z];exact F _ _ R
 ·rw[rH n2];exact F _ _ W
 ·rw[rH n4,rC]
theorem EJ:Ef ["self","person"] ["self","person"] (Ec (He 50 1)):=⟨rfl,rfl,rfl,by decide +kernel,rfl,by decide +kernel,by decide +kernel⟩
theorem FD(M:Md K mg x cB):Mn P w K mg base (FH P w) 1 cB "check_person" ["self","person"] (Hz cB x):=by
 have v:=(EJ).nd;refine M.m_check_person.okE EJ (λvs H Q E h=>?_) (λ_ _ _ _ _ _ l m=>match l,m with|[_,_],_=>rfl) (λf o A g s H vs Q E t h=>?_)
 ·obtain⟨s0,d,a,j,R,p,rfl,b,e,q⟩:=h;rfl
 obtain⟨s0,d,a,j,R,p,rfl,b,e,q⟩:=h;refine⟨_,(rD (sA (rR t7 (pv 1) (uG (pv 0) rfl) (by with_unfolding_all rfl)) (rD (tR M.x_NoPerson rfl (mM sG rr))) rX)),?_⟩
 try dsimp -proj only[sd,rS,rV]
 obtain⟨n,k,u,r,y,h1,h2,h3,h4,h5,h6⟩:=b.ex;refine⟨_,rfl,_,rfl,s0,cB,n,_,_,rfl,h1,M.cl,M.na_people,rfl,k,_,rfl,.inr (SqT.frz h2),rfl,AA _,_,rfl,?_⟩;show if(!JA (.str p) (a.map V.str))=true then _ else _
 rw[Aa];by_cases c:p∈a
 ·rw[decide_eq_true c];exact Eu (q c)
 ·rw[decide_eq_false c];exact ER ⟨by show 1<=sizeLine;decide,e c⟩
theorem Ga:Ef ["self","person","text","words"] ["self","person","text"] (Ec (He 50 2)):=⟨rfl,rfl,rfl,by decide +kernel,rfl,by decide +kernel,by decide +kernel⟩
theorem Ix(M:Md K mg x cB)
  (GBook_check_person:Mn P w K mg base (FH P w) 1 cB "check_person" ["self","person"] (Hz cB x)):Mn P w K mg base (FH P w) 2 cB "wish" ["self","person","text"] (IL K cB x):=by
 have nd:=(Ga).nd
 refine M.m_wish.okE Ga (λvs H Q E h=>?_) (λ_ _ _ _ _ _ e hl=>match e,hl with|[_,_,_],_=>rfl) (λf aq A ap s H vs Q E m h=>?_)
 ·obtain⟨s0,d,ps,g,R,p,t,rfl,hb,al,ab,ao,C,J,hR,qP,qW,q⟩:=h
  rfl
 obtain⟨s0,d,ps,g,R,p,t,rfl,hb,al,ab,ao,C,J,hR,qP,qW,q⟩:=h
 refine⟨_,(rq (sY (vK (pl:=_) (pv 0) M.cl GBook_check_person m (by decide) (Iw (λ_ _ _ z=>z)) (mM (pv 1) rr)))
   (rq (rG (i:=3) nd rfl (Or.inl rfl) (uP gF PySem.F.slot_str_split PySem.F.type_str_split BW (pv 2) (mM sG rr)))
   (rq (sA (rR (xk m) (rJ (uW) rfl M.b_sorted Boot.«sorted» (mM (pv 3) rr)) (rJ (uW) rfl M.b_sorted Boot.«sorted» (mM (uG (pv 0) rfl) rr)) (Ej _)) (rD (tR M.x_NoWishes rfl (mM sG rr))) rX)
   (rD (wo (sh sK rfl M.b_tuple Boot.«tuple» (mM (sy rfl (N:=["word","self"]) (caps:=[none,some 0]) (CompOk.of (by kernel_rfl)) (rY rfl) (sZ (pv 3)) (λ_ _ _ _=>(rK (i:=0) (show(["word","self"]:List Str).Nodup by decide +kernel) rfl (Or.inl rfl) (Or.inr rfl))) (λ_ _ _ _=>su) (λ_ _ _ _=>(A0 (K:=K) rfl (vE (K:=K) rfl (pv 1) rfl) (pv 0)))) rr)) (wh (uG (pv 0) rfl) (pv 1) D3)))))),?_⟩
 try dsimp -proj only[sd,rS,rV]
 obtain⟨S,pp,pt,op,ot,h1,h2,h3,h4,h5,h6⟩:=hb.ex
 have af:∀w∈L2.wordsOf t,GM w:=Ay C
 refine⟨_,rfl,s0,S,_,rfl,h1,rfl,_,rfl,s0,d,ps,g,R,p,rfl,hb,(λc=>qP c H (Same.refl _)),λhp=>?_⟩
 refine⟨_,rfl,rfl,t," ",rfl,rfl,by decide,dB (Ed (by omega)),λn ad=>?_⟩
 have S1:Same H (upd H n (.lst ((L2.wordsOf t).map V.str))):=rz ad _
 have o:upd H n (.lst ((L2.wordsOf t).map V.str)) n=some (.lst ((L2.wordsOf t).map V.str)):=rC
 change LB _ _ _ _ (upd H n (.lst ((L2.wordsOf t).map V.str)))
 generalize upd H n (.lst ((L2.wordsOf t).map V.str))=H1 at S1 o ⊢
 refine⟨_,rfl,n,L2.wordsOf t,rfl,.inl (SqL.of o),J,λZ l an u ag=>?_⟩
 have S2:Same H1 (upd H1 Z (.lst (l.map V.str))):=rz an _
 have O:upd H1 Z (.lst (l.map V.str)) Z=some (.lst (l.map V.str)):=rC
 generalize upd H1 Z (.lst (l.map V.str))=X at S2 O ⊢
 have G:=S1.trans S2
 refine⟨_,rfl,s0,cB,S,_,_,rfl,G _ _ h1,M.cl,M.na_things,rfl,pt,g,rfl,.inr (SqT.frz (G _ _ h4)),by omega,λW e ak y ai=>?_⟩
 have Y:Same X (upd X W (.lst (e.map V.str))):=rz ak _
 have L:upd X W (.lst (e.map V.str)) W=some (.lst (e.map V.str)):=rC
 generalize upd X W (.lst (e.map V.str))=H3 at Y L ⊢
 have b:=G.trans Y
 refine⟨.list (l.map gM),.list (e.map gM),.lst (SqL.of (Y _ _ O)) (Reps.strs l) (by rw[cx,u.length_eq];omega),.lst (SqL.of L) (Reps.strs e) (by rw[cx,y.length_eq];omega),vM (yv λw j=>af w (u.mem_iff.mp j)) (by decide),vM (yv λw j=>ab w (y.mem_iff.mp j)) (by decide),_,rfl,?_⟩
 rw[BP]
 by_cases k:(L2.wordsOf t).Perm g
 rotate_left
 ·rw[decide_eq_false (λ(z:l=e)=>k (u.symm.trans (by rw[z];exact y)))]
  exact ER ⟨by show 1<=sizeLine;decide,qW hp k H3 b⟩
 rw[decide_eq_true (xn ag ai (u.trans (k.trans y.symm)))]
 refine Eu ?_
 have B:=(S2.trans Y) _ _ o
 have am:=b _ _ h1
 have aa:=b _ _ h4
 refine⟨_,rfl,n,rfl,⟨_,SqL.of B⟩,?_⟩
 refine sU (xs:=(L2.wordsOf t).map V.str) (λi ys U=>U=H3/\ys=(Gp g ((L2.wordsOf t).take i)).map V.int) ⟨rfl,rfl⟩ (λi ys U _ T=>by rw[T.1];exact SqL.of B) (λi v ys U I T=>?_) (λys U T D hD=>?_)
 ·obtain⟨rfl,rfl⟩:=T
  rw[cH]at I
  cases j:(L2.wordsOf t)[i]? with
  | none=>rw[j]at I;cases I
  | some w=>
   rw[j]at I
   have aj:V.str w=v:=Option.some.inj I
   subst aj
   have hi:i<(L2.wordsOf t).length:=(cL.mp j).1
   have hm:w∈g:=k.mem_iff.mp (da j)
   refine⟨_,rfl,s0,cB,S,_,_,rfl,am,M.cl,M.na_things,rfl,pt,ot,_,rfl,aa,h5,_,rfl,g,w,rfl,SqT.frz aa,hm,Ed (by unfold Gp;rw[cx,cx,cV];omega),rfl,?_⟩
   unfold Gp
   rw[cY,j,cS,cS]
   rfl
 obtain⟨rfl,rfl⟩:=T
 rw[cx,dj]
 have S4:=rz hD (.lst ((Gp g (L2.wordsOf t)).map V.int))
 refine⟨D,_,rfl,.inl ⟨SqL.of rC,λr m=>?_⟩⟩
 have S5:=rz m (.tup ((Gp g (L2.wordsOf t)).map V.int))
 have a:=b.trans (S4.trans S5)
 have ac:=a _ _ h6
 have ah:r≠d:=λz=>by rw[z,(b.trans S4) _ _ h6]at m;cases m
 have ae:H r=none:=(b.trans S4).free m
 refine⟨_,rfl,s0,cB,S,_,_,rfl,a _ _ h1,M.cl,M.na_wishes_told,rfl,_,rfl,d,R,p,rfl,rfl,ac,hR,?_⟩
 refine q hp k r _ ((SameBut1.of a).trans SameBut1.upd) ae (by rw[rH ah,rC]) ⟨S,pp,pt,op,ot,?_,?_,h3,?_,h5,rC⟩
 ·rw[rH (sN h1 h6 (λz=>nomatch z))];exact a _ _ h1
 ·rw[rH (sN h2 h6 (λz=>nomatch z))];exact a _ _ h2
 ·rw[rH (sN h4 h6 (λz=>nomatch z))];exact a _ _ h4
theorem Fn:Ef ["self"] ["self"] (Ec (He 50 3)):=⟨rfl,rfl,rfl,by decide +kernel,rfl,by decide +kernel,by decide +kernel⟩
theorem GN(M:Md K mg x cB):Mn P w K mg base Em 1 cB "lacking" ["self"] (Hk cB):=by
 have O:=(Fn).nd;refine M.m_lacking.ok Fn (λvs H Q E h=>?_) (λ_ _ _ _ _ _ D m=>match D,m with|[_],_=>rfl) (λf F A z s H vs Q E I h=>?_)
 ·obtain⟨s0,d,b,B,R,rfl,t,o,q⟩:=h;rfl
 obtain⟨s0,d,b,B,R,rfl,t,o,q⟩:=h;refine⟨_,(rD (rM (sy rfl (N:=["person","self"]) (caps:=[none,some 0]) (CompOk.of (by kernel_rfl)) (rY rfl) (uy (uG (pv 0) rfl)) (λ_ _ _ _=>(rK (i:=0) (show(["person","self"]:List Str).Nodup by decide +kernel) rfl (Or.inl rfl) (Or.inr rfl))) (λ_ _ _ _=>(tZ (rR Bl (pv 0) (vE (K:=K) rfl (pv 1) rfl) (by with_unfolding_all rfl)))) (λ_ _ _ _=>(pv 0))))),?_⟩
 try dsimp -proj only[sd,rS,rV]
 obtain⟨u,C,L,G,S,h1,h2,h3,h4,h5,h6⟩:=t.ex;have y:=SqT.frz (K:=K) h2;refine⟨_,rfl,s0,cB,u,_,_,rfl,h1,M.cl,M.na_people,rfl,C,rfl,⟨_,y⟩,?_⟩;refine ug (xs:=b.map V.str) (λi j k=>k=H/\j=((b.take i).filter λp=>!(Ep R p).isSome).map V.str) ⟨rfl,rfl⟩ (λi j k _ a=>by rw[a.1];exact y) (λi v j k e a=>?_) (λj k a l m=>?_)
 ·obtain⟨rfl,rfl⟩:=a;rw[cH]at e
  cases g:b[i]? with
  | none=>rw[g]at e;cases e
  | some w=>
   rw[g]at e;have r:V.str w=v:=Option.some.inj e;subst r;have J:i<b.length:=(cL.mp g).1;have n:(((b.take i).filter λp=>!(Ep R p).isSome).map V.str).length<sizeLine:=by
    rw[cx];have h1:=d6 (λp=>!(Ep R p).isSome) (b.take i);rw[cV]at h1;exact Ed (by omega)
   refine⟨_,rfl,_,rfl,s0,cB,u,_,_,rfl,h1,M.cl,M.na_wishes_told,rfl,d,R,w,rfl,rfl,h6,_,rfl,?_⟩;rw[cY,g,gm,cS]
   cases c:(!(Ep R w).isSome)with
   | true=>
    refine ER ⟨_,rfl,n,rfl,?_⟩;show _=_++List.map V.str ([w].filter _);rw[List.filter_cons_of_pos (p:=λp=>!(Ep R p).isSome) c];rfl
   | false=>
    refine Eu ⟨rfl,?_⟩;show _=_++List.map V.str ([w].filter _);rw[List.filter_cons_of_neg (p:=λp=>!(Ep R p).isSome) (by rw[c];exact de)];exact(fV _).symm
 ·obtain⟨rfl,rfl⟩:=a;rw[cx,dj];exact q l _ (rz m _) m rC
theorem Fd:Ef ["self","way","wishes"] ["self","way"] (Ec (He 50 4)):=⟨rfl,rfl,rfl,by decide +kernel,rfl,by decide +kernel,by decide +kernel⟩
theorem Gu(M:Md K mg x cB)
  (GBook_lacking:Mn P w K mg base Em 1 cB "lacking" ["self"] (Hk cB))
  (Geaten:Dn P w K mg base Em 7 "eaten" ["wishes"] (Hv K))
  (Gby_turns:Dn P w K mg base Em 4 "by_turns" ["wishes"] (Ge K)):Mn P w K mg base (FH P w) 8 cB "table_by" ["self","way"] (Gi K cB x):=by
 have nd:=(Fd).nd
 refine M.m_table_by.okE Fd (λvs H Q E h=>?_) (λ_ _ _ _ _ _ B hl=>match B,hl with|[_,_],_=>rfl) (λf am A aj s H vs Q E hr h=>?_)
 ·obtain⟨s0,d,a,ts,R,r,rfl,hb,J,qU,q⟩:=h
  rfl
 obtain⟨s0,d,a,ts,R,r,rfl,hb,J,qU,q⟩:=h
 refine⟨_,(rq (sA (BH (CQ (pl:=_) (pv 0) M.cl GBook_lacking hr (by decide) Eh) (λ_=>rfl)) (rD (tR M.x_Unready rfl (mM sG rr))) rX)
   (rq (sF (i:=2) nd rfl rfl rfl rfl (N:=["person","self"]) (caps:=[none,some 0]) (CompOk.of (by kernel_rfl)) (rY rfl) (uy (uG (pv 0) rfl)) (λ_ _ _ _=>(rK (i:=0) (show(["person","self"]:List Str).Nodup by decide +kernel) rfl (Or.inl rfl) (Or.inr rfl))) (λ_ _ _ _=>su) (λ_ _ _ _=>(rN Eb (vE (K:=K) rfl (pv 1) rfl) (pv 0) (λ_ _=>rfl))))
   (rq (sA (rR tS (pv 1) sG (Ej _)) (rD (rM (rW Geaten hr (by decide) rfl Eh (mM (pv 2) rr)))) rX)
   (rq (sA (rR tS (pv 1) sG (Ej _)) (rD (rM (rW Gby_turns hr (by decide) rfl Eh (mM (pv 2) rr)))) rX)
   (rD (tR M.x_NoWay rfl (mM sG rr))))))),?_⟩
 try dsimp -proj only[sd,rS,rV]
 obtain⟨dx,pp,pt,op,ot,h1,h2,h3,h4,h5,h6⟩:=hb.ex
 refine⟨_,rfl,s0,dx,_,rfl,h1,rfl,s0,d,a,ts,R,rfl,hb,J,λl Y o al hl=>?_⟩
 refine⟨_,.inl ⟨_,SqL.of hl,rfl⟩,?_⟩
 by_cases hall:∀p∈a,Ep R p≠none
 rotate_left
 ·have aa:∃p∈a,Ep R p=none:=dM λz=>hall λp hp e=>z ⟨p,hp,e⟩
  have ae:¬(a.filter λp=>!(Ep R p).isSome)=[]:=λz=>hall (yy.mp z)
  have e:(!(((a.filter λp=>!(Ep R p).isSome).map V.str).isEmpty))=true:=by simpa using ae
  rw[e]
  exact ER ⟨by show 1<=sizeLine;decide,qU aa Y o⟩
 have e:(!(((a.filter λp=>!(Ep R p).isSome).map V.str).isEmpty))=false:=by rw[yy.mpr hall];rfl
 rw[e]
 refine Eu ?_
 obtain⟨W,hT,D,qN,q⟩:=q hall
 have ad:=Paired.len hT
 have L:=o _ _ h1
 have hP:=SqT.frz (K:=K) (o _ _ h2)
 have ab:=o _ _ h6
 refine⟨_,rfl,s0,cB,dx,_,_,rfl,L,M.cl,M.na_people,rfl,pp,rfl,⟨_,hP⟩,?_⟩
 refine vo (xs:=a.map V.str) (λi b g=>g=Y/\dr (IsR K Y) b (W.take i)) ⟨rfl,by rw[eP];exact .nil⟩ (λi b g _ j=>by rw[j.1];exact hP) (λi v b g C j=>?_) (λb g j n ai=>?_)
 ·obtain⟨rfl,m⟩:=j
  rw[cH]at C
  cases Z:a[i]? with
  | none=>rw[Z]at C;cases C
  | some w=>
   rw[Z]at C
   have ah:V.str w=v:=Option.some.inj C
   subst ah
   obtain⟨ak,U,u,af,ag⟩:=Paired.get' hT Z
   have ac:=Paired.len m
   rw[cV]at ac
   refine⟨_,rfl,s0,cB,dx,_,_,rfl,L,M.cl,M.na_wishes_told,rfl,_,rfl,d,R,w,u,rfl,rfl,ab,af,Ed (by omega),rfl,?_⟩
   rw[cY,U]
   exact Paired.app m (.cons (ag.mono o) .nil)
 obtain⟨rfl,m⟩:=j
 rw[cx,ad,dj]at m
 have T:Same g (upd g n (.lst b)):=rz ai _
 have F:upd g n (.lst b) n=some (.lst b):=rC
 generalize upd g n (.lst b)=H3 at T F ⊢
 have t:=Paired.mapP m λ_ _ (h:IsR K g _ _)=>h.mono T
 have k:=o.trans T
 refine⟨_,rfl,rfl,_,rfl,?_⟩
 refine EE (λc=>?_) (λc=>?_)
 ·have O:r="eaten":=by injection c
  refine⟨_,rfl,n,b,W,a.length,rfl,SqL.of F,t,⟨D.lo,D.hi,D.len,D.pm⟩,λq1 B N S X y G hN I=>?_⟩
  exact q _ _ q1 B S (.inl ⟨O,N,hN,rfl,rfl⟩) (k.trans X) (k.free y) G I
 refine⟨_,rfl,rfl,_,rfl,?_⟩
 refine EE (λc2=>?_) (λc2=>?_)
 ·have O:r="turns":=by injection c2
  refine⟨_,rfl,n,b,W,a.length,rfl,SqL.of F,t,D,λq1 B S X y G I=>?_⟩
  rw[A9]at I
  exact q _ _ q1 B S (.inr ⟨O,rfl,rfl⟩) (k.trans X) (k.free y) G (tV I)
 ·exact⟨by show 1<=sizeLine;decide,qN (λz=>c (by rw[z])) (λz=>c2 (by rw[z])) H3 k⟩
theorem Fx:Ef ["self","person","way","table","row"] ["self","person","way"] (Ec (He 50 5)):=⟨rfl,rfl,rfl,by decide +kernel,rfl,by decide +kernel,by decide +kernel⟩
theorem G9(M:Md K mg x cB)
  (GBook_check_person:Mn P w K mg base (FH P w) 1 cB "check_person" ["self","person"] (Hz cB x))
  (GBook_table_by:Mn P w K mg base (FH P w) 8 cB "table_by" ["self","way"] (Gi K cB x)):Mn P w K mg base (FH P w) 9 cB "shares" ["self","person","way"] (GP K cB x):=by
 have nd:=(Fx).nd
 refine M.m_shares.okE Fx (λvs H Q E h=>?_) (λ_ _ _ _ _ _ us hl=>match us,hl with|[_,_,_],_=>rfl) (λf aG A az s H vs Q E hr h=>?_)
 ·obtain⟨s0,d,a,e,R,p,af,rfl,hb,aa,aj,qP,qU,q⟩:=h
  rfl
 obtain⟨s0,d,a,e,R,p,af,rfl,hb,aa,aj,qP,qU,q⟩:=h
 refine⟨_,(rq (sY (vK (pl:=_) (pv 0) M.cl GBook_check_person hr (by decide) (Iw (λ_ _ _ z=>z)) (mM (pv 1) rr)))
   (rq (rG (i:=3) nd rfl (Or.inl rfl) (vK (pl:=_) (pv 0) M.cl GBook_table_by hr (by decide) (Iw (λ_ _ _ z=>z)) (mM (pv 2) rr)))
   (rq (rG (i:=4) nd rfl (Or.inr rfl) (rN rL (pv 3) (A0 (K:=K) rfl (uG (pv 0) rfl) (pv 1)) (λ_ _=>rfl)))
   (rD (rM (sy rfl (N:=["thing","self","row"]) (caps:=[none,some 0,some 4]) (CompOk.of (by kernel_rfl)) (rY rfl) (uy (rN Eb (uG (pv 0) rfl) (pv 1) (λ_ _=>rfl))) (λ_ _ _ _=>(rK (i:=0) (show(["thing","self","row"]:List Str).Nodup by decide +kernel) rfl (Or.inl rfl) (Or.inr rfl))) (λ_ _ _ _=>(tZ (rR (AV (K:=K) rfl hr) (rN (tX (K:=K) rfl) (pv 2) (pv 0) (λ_ _=>rfl)) (vb (K:=K) rfl M.c_NOTHING) (Ej _)))) (λ_ _ _ _=>(sI (mM (rN (tX (K:=K) rfl) (vE (K:=K) rfl (pv 1) rfl) (pv 0) (λ_ _=>rfl)) (mM (rN (tX (K:=K) rfl) (pv 2) (pv 0) (λ_ _=>rfl)) rr)))))))))),?_⟩
 try dsimp -proj only[sd,rS,rV]
 obtain⟨X,pp,pt,op,ot,h1,h2,h3,h4,h5,h6⟩:=hb.ex
 have G:(2:Nat)<=sizeLine:=by decide
 refine⟨_,rfl,s0,X,_,rfl,h1,rfl,_,rfl,s0,d,a,e,R,p,rfl,hb,(λc=>qP c H (Same.refl _)),λhp=>?_⟩
 refine⟨_,rfl,s0,X,_,rfl,h1,rfl,_,rfl,s0,d,a,e,R,af,rfl,hb,aa,qU hp,λhall=>?_⟩
 obtain⟨W,hT,Y,qN,q⟩:=q hp hall
 refine⟨W,hT,Y,qN,λZ T tb us H1 ad o aA r hZ=>?_⟩
 have I:=ad.tb Y
 have hi:a.idxOf p<a.length:=g8.mpr hp
 have aF:=I.reg.len
 have aD:=Y.len
 have aB:=I.t0
 obtain⟨uv,aw,ra,gs,rfl,ay,J⟩:=Paired.get hZ (cz (show a.idxOf p<Z.length by omega))
 obtain⟨b,ac,v,av,L⟩:=Paired.get hT (cz (show a.idxOf p<W.length by omega))
 have ep:b=p:=by
  have:=jh hi
  rw[cz hi]at ac
  rw[<-Option.some.inj ac]
  exact this
 subst ep
 have m:=Y.pm _ (cW (show a.idxOf b<W.length by omega))
 have ae:=I.reg.cols _ (cW (show a.idxOf b<Z.length by omega))
 have q2:=λl xs H'=>q Z T l xs H' ad
 rw[show W[a.idxOf b]=W.getD (a.idxOf b) []from(HM.getD_lt (show a.idxOf b<W.length by omega)).symm]at L m
 rw[show Z[a.idxOf b]=Z.getD (a.idxOf b) []from(HM.getD_lt (show a.idxOf b<Z.length by omega)).symm]at J ae
 generalize W.getD (a.idxOf b) []=j at L m q2
 generalize Z.getD (a.idxOf b) []=z at J ae q2
 have U:=o _ _ h1
 refine⟨_,rfl,_,rfl,s0,cB,X,_,_,rfl,U,M.cl,M.na_people,rfl,pp,op,_,rfl,o _ _ h2,h3,_,rfl,a,b,rfl,SqT.frz (o _ _ h2),hp,tb,_,_,_,rfl,rfl,SqL.of r,sr aw,?_⟩
 obtain⟨wa,rfl,an⟩:=L
 have D:=o.tup an
 have au:=o _ _ h6
 have ax:=o _ _ h4
 have aC:=m.len
 refine⟨_,rfl,s0,cB,X,_,_,rfl,U,M.cl,M.na_wishes_told,rfl,_,rfl,d,R,b,_,rfl,rfl,au,av,wa,rfl,⟨_,D⟩,?_⟩
 refine ug (xs:=j.map V.int) (λi u F=>Same H1 F/\dr (IsShr K F T) u (EB e (j.take i) z)) ⟨Same.refl _,.nil⟩ (λi u F _ n=>n.1.tup D) (λi y u F O n=>?_) (λu F n l hl=>?_)
 ·obtain⟨g,k⟩:=n
  rw[cH]at O
  cases B:j[i]? with
  | none=>rw[B]at O;cases O
  | some t=>
   rw[B]at O
   have ap:V.int t=y:=Option.some.inj O
   subst ap
   have r:=m.mem.mp (da B)
   have ao:t.toNat<z.length:=by omega
   have al:(fr T z)[t.toNat]?=some (FQ.red (EM.at0 z t) T):=by
    unfold fr EM.at0
    rw[cH,cC,cz ao]
    rfl
   obtain⟨fv,ab,hF⟩:=Paired.get J al
   have am:=Paired.len k
   have ag:u.length<sizeLine:=by
    rw[am]
    unfold EB
    rw[cx]
    have h1:=d6 (λt=>decide (EM.at0 z t≠0)) (j.take i)
    rw[cV]at h1
    exact Ed (by omega)
   have ai:EB e (j.take (i+1)) z=EB e (j.take i) z++if EM.at0 z t≠0 then[(e.getD t.toNat ea,EM.at0 z t)]else[]:=by
    unfold EB
    rw[cY,B,gm,cS]
    by_cases c:EM.at0 z t=0
    ·simp[c]
    ·simp[c]
   have S:=g.tup ay
   refine⟨_,rfl,_,rfl,ra,gs,t,fv,rfl,rfl,S,sJ r.1 ab,λc0 ar=>?_⟩
   refine⟨dF (FQ.red (EM.at0 z t) T),dF (0,1),(hF.mono g).rep,IsF.rep ⟨c0,rfl,ar _⟩,sE _,sE _,_,rfl,?_⟩
   rw[uM,ai]
   refine GQ (λc=>?_) (λc=>?_)
   ·have hn:EM.at0 z t≠0:=λe0=>c ((sw (by omega)).mpr e0)
    have ak:t.toNat<e.length:=by omega
    have ah:(e.map V.str)[t.toNat]?=some (.str (e.getD t.toNat ea)):=by rw[cH,cC,cz ak];rfl
    obtain⟨fg,rfl,aE⟩:=id hF
    refine⟨_,rfl,s0,cB,X,_,_,rfl,g _ _ U,M.cl,M.na_things,rfl,_,rfl,pt,_,t,_,rfl,rfl,SqT.frz (g _ _ ax),sJ r.1 ah,_,rfl,_,rfl,ra,gs,t,_,rfl,rfl,S,sJ r.1 ab,G,λtp aq=>?_⟩
    have C:=rz aq (.tup [.str (e.getD t.toNat ea),.ref fg])
    refine⟨ag,g.trans C,?_⟩
    rw[if_pos hn]
    exact Paired.app (Paired.mapP k λ_ _ h=>h.mono C) (.cons ⟨tp,fg,rfl,SqT.of rC,hF.mono (g.trans C)⟩ .nil)
   ·have hn:EM.at0 z t=0:=(sw (by omega)).mp c
    refine⟨g,?_⟩
    rw[if_neg (λe0=>e0 hn),fV]
    exact k
 ·obtain⟨g,k⟩:=n
  rw[cx,dj]at k
  have C:=rz hl (.lst u)
  exact q2 l u _ (o.trans (g.trans C)) ((o.trans g).free hl) rC (Paired.mapP k λ_ _ h=>h.mono C)
theorem F7:Ef ["self","way","number","lots","words"] ["self","way","number"] (Ec (He 50 6)):=⟨rfl,rfl,rfl,by decide +kernel,rfl,by decide +kernel,by decide +kernel⟩
theorem IA(M:Md K mg x cB)
  (Glots_of:Dn P w K mg base Em 8 "lots_of" ["table"] (GT K))
  (GBook_table_by:Mn P w K mg base (FH P w) 8 cB "table_by" ["self","way"] (Gi K cB x))
  (Gpicked:Dn P w K mg base (FH P w) 4 "picked" ["lots","number"] (G1 K x)):Mn P w K mg base (FH P w) 9 cB "deal" ["self","way","number"] (Ic K cB x):=by
 have nd:=(F7).nd
 refine M.m_deal.okE F7 (λvs H Q E h=>?_) (λ_ _ _ _ _ _ us hl=>match us,hl with|[_,_,_],_=>rfl) (λf ay A av s H vs Q E I h=>?_)
 ·obtain⟨s0,d,m,p,a,R,ae,ac,rfl,hb,U,ai,hm,X,ab,qU,q⟩:=h
  rfl
 obtain⟨s0,d,m,p,a,R,ae,ac,rfl,hb,U,ai,hm,X,ab,qU,q⟩:=h
 refine⟨_,(rq (rG (i:=3) nd rfl (Or.inl rfl) (rW Glots_of I (by decide) rfl Eh (mM (vK (pl:=_) (pv 0) M.cl GBook_table_by I (by decide) (Iw (λ_ _ _ z=>z)) (mM (pv 1) rr)) rr)))
   (rq (sF (i:=4) nd rfl rfl rfl rfl (N:=["thing","self"]) (caps:=[none,some 0]) (CompOk.of (by kernel_rfl)) (rY rfl) (uy (rW Gpicked I (by decide) rfl (Iw (λ_ _ _ z=>z)) (mM (pv 3) (mM (pv 2) rr)))) (λ_ _ _ _=>(rK (i:=0) (show(["thing","self"]:List Str).Nodup by decide +kernel) rfl (Or.inl rfl) (Or.inr rfl))) (λ_ _ _ _=>su) (λ_ _ _ _=>(rN (tX (K:=K) rfl) (vE (K:=K) rfl (pv 1) rfl) (pv 0) (λ_ _=>rfl))))
   (rD (rM (y9 rfl rfl M.b_list rfl M.b_zip (mM (uG (pv 0) rfl) (mM (pv 4) rr))))))),?_⟩
 try dsimp -proj only[sd,rS,rV]
 obtain⟨dx,pp,pt,op,ot,h1,h2,h3,h4,h5,h6⟩:=hb.ex
 refine⟨_,rfl,s0,dx,_,rfl,h1,rfl,_,rfl,s0,d,p,a,R,ae,rfl,hb,U,qU,λhall=>?_⟩
 obtain⟨W,hT,hW,qN,qR,q⟩:=q hall
 refine⟨W,hT,hW,qN,λZ T tb us H1 g S1 aw J hZ=>?_⟩
 have G:=g.tb hW
 refine⟨tb,us,Z,T,p.length,rfl,SqL.of J,hZ,G,λk pL ls H2 c S2 ax hL au=>?_⟩
 have u:=S1.trans S2
 have an:=Ax G (g.le hW) c
 refine⟨_,rfl,_,rfl,pL,m,ls,_,T,p.length,ac,rfl,SqL.of hL,au,an,hm.mono u,X,ab,(λI=>qR g.way I H2 u),λaf i v H3 b S3 ao=>?_⟩
 obtain⟨va,rfl,e⟩:=ao
 have q2:=λl xs H'=>q af Z T k i l xs H' g c b
 have aa:i<k:=by
  have:=b.lt
  unfold HM.lotsL at this
  rwa[cx,fb]at this
 have ed:(HM.lotsL Z T k).getD i (0,[])=HM.lotAt Z T i:=by
  unfold HM.lotsL
  rw[cC,cH,d9 aa]
  rfl
 have B:=(Ag G c aa).1
 rw[ed]at q2 e
 generalize(HM.lotAt Z T i).2=r at e B q2
 have ak:=B.len
 have D:=u.trans S3
 refine⟨va,rfl,⟨_,e⟩,?_⟩
 refine vo (xs:=r.map V.int) (λj S O=>O=H3/\S=(Ei a (r.take j)).map V.str) ⟨rfl,rfl⟩ (λj S O _ F=>by rw[F.1];exact e) (λj y S O L F=>?_) (λS O F pw ah=>?_)
 ·obtain⟨rfl,rfl⟩:=F
  rw[cH]at L
  cases o:r[j]? with
  | none=>rw[o]at L;cases L
  | some t=>
   rw[o]at L
   have al:V.int t=y:=Option.some.inj L
   subst al
   have J:=B.mem.mp (da o)
   have aj:t.toNat<a.length:=by omega
   have ag:(a.map V.str)[t.toNat]?=some (.str (a.getD t.toNat ea)):=by rw[cH,cC,cz aj];rfl
   refine⟨_,rfl,s0,cB,dx,_,_,rfl,D _ _ h1,M.cl,M.na_things,rfl,_,rfl,pt,_,t,_,rfl,rfl,SqT.frz (D _ _ h4),sJ J.1 ag,Ed (by unfold Ei;rw[cx,cx,cV];omega),rfl,?_⟩
   unfold Ei
   rw[cY,o,cS,cS]
   rfl
 obtain⟨rfl,rfl⟩:=F
 rw[cx,dj]
 have Y:(Ei a r).length=p.length:=by unfold Ei;rw[cx,ak]
 have S4:=rz ah (.lst ((Ei a r).map V.str))
 have n:=D.trans S4
 refine⟨_,rfl,s0,cB,dx,_,_,rfl,n _ _ h1,M.cl,M.na_people,rfl,_,rfl,true,false,pp,pw,p.map V.str,(Ei a r).map V.str,rfl,SqT.frz (n _ _ h2),SqL.of rC,by rw[cx,cx,Y],by rw[cx];omega,λl ar H5 S5 aq hl ad am=>?_⟩
 refine q2 l _ H5 (n.trans S5) (n.free aq) hl ?_
 rw[cx]at ad
 refine tw (by rw[cx,oG,Y,ad];simp) λj v x C hx=>?_
 rw[cH]at C
 cases ht:ar[j]? with
 | none=>rw[ht]at C;cases C
 | some t=>
  rw[ht]at C
  have ap:V.ref t=v:=Option.some.inj C
  subst ap
  obtain⟨x1,x2⟩:=x
  obtain⟨e1,e2⟩:=i4.mp hx
  exact⟨t,rfl,SqT.of (am j t (.str x1) (.str x2) ht (by rw[cH,e1];rfl) (by rw[cH,e2];rfl))⟩
theorem Fi:Ef ["_law_script","_law_k"] ["_law_script","_law_k"] (Ec (Eg 52)):=⟨rfl,rfl,rfl,by decide +kernel,rfl,by decide +kernel,by decide +kernel⟩
theorem G0(M:Md K mg x cB):Dn P w K mg base Em 1 "_law_cell_at" ["_law_script","_law_k"] (IU K):=by
 have o:=(Fi).nd;refine M.f__law_cell_at.ok Fi (λvs H Q E h=>?_) (λ_ _ _ _ _ _ l d=>match l,d with|[_,_],_=>rfl) (λf m A j s H vs Q E n h=>?_)
 ·obtain⟨a,b,k,rfl,g,h0,q⟩:=h;rfl
 obtain⟨a,b,k,rfl,g,h0,q⟩:=h;refine⟨_,(rq (sA (rR zM (pv 1) (rJ rP rfl M.b_len dD (mM (pv 0) rr)) (Ej _)) (rD (rM (rN rL (pv 0) (pv 1) (λ_ _=>rfl)))) rX)
   (rD (rM rE))),?_⟩
 try dsimp -proj only[sd,rS,rV]
 have d:(b.map V.int).length=b.length:=cx _;refine⟨_,rfl,_,rfl,a,_,rfl,.inl g,_,_,rfl,rfl,_,rfl,?_⟩;refine EE (λc=>?_) (λc=>?_)
 ·rw[d]at c;refine⟨_,rfl,_,rfl,a,_,k,_,rfl,rfl,g,sJ h0 (tG (by omega)),?_⟩;have e:LM.cellAt b k=b.getD k.toNat 0:=by unfold LM.cellAt;rw[if_pos c]
  rw[<-e];exact q
 ·rw[d]at c;have e:LM.cellAt b k=0:=by unfold LM.cellAt;rw[if_neg c]
  rw[e]at q;exact q
theorem FN:Ef ["_law_cell","_law_many","_law_found","_law_number","_law_k"] ["_law_cell","_law_many"] (Ec (Eg 53)):=⟨rfl,rfl,rfl,by decide +kernel,rfl,by decide +kernel,by decide +kernel⟩
theorem HL(M:Md K mg x cB):Dn P w K mg base Em 1 "_law_mixed" ["_law_cell","_law_many"] (Jj):=by
 have j:=(FN).nd;refine M.f__law_mixed.ok FN (λvs H Q E h=>?_) (λ_ _ _ _ _ _ D b=>match D,b with|[_,_],_=>rfl) (λf I A u s H vs Q E J h=>?_)
 ·obtain⟨c,m,rfl,y,q⟩:=h;rfl
 obtain⟨c,m,rfl,y,q⟩:=h;refine⟨_,(rq (rG (i:=2) j rfl (Or.inl rfl) (t6 rr))
   (rq (rG (i:=3) j rfl (Or.inl rfl) (rO tJ (pv 0) rE))
   (rq (sA (rR tS (rO sg (pv 0) rE) rE (Ej _)) (rq (sT dA rfl (rZ rfl M.b_range (mM (pv 1) rr)) (rK (i:=4) j rfl (Or.inl rfl)) (rq (sY (uP dI fT fU tM (pv 2) (mM (rO sg (pv 3) rE) rr)))
   (rD (rG (i:=3) j rfl (Or.inl rfl) (rO tJ (pv 3) rE)))))
   (rD (rM (pv 2)))) rX)
   (rq (rG (i:=3) j rfl (Or.inl rfl) (rO sg (rO sH (rO sC (rO sg (pv 3) rE) rE) rE) rE))
   (rq (sT dA rfl (rZ rfl M.b_range (mM (pv 1) rr)) (rK (i:=4) j rfl (Or.inl rfl)) (rq (rG (i:=3) j rfl (Or.inl rfl) (rO sg (rO sH (rO sH (rO sH (rO sC (pv 3) (pv 3)) (rO sC rE (pv 3))) (pv 4)) rE) rE))
   (rD (sY (uP dI fT fU tM (pv 2) (mM (pv 3) rr))))))
   (rD (rM (pv 2)))))))),?_⟩
 try dsimp -proj only[sd,rS,rV]
 have l:(0:Nat)<=sizeLine:=by decide
 refine⟨l,λp hp=>?_⟩;refine⟨_,rfl,c,2,rfl,rfl,c9 (by decide) (by decide),?_⟩;refine⟨_,rfl,c,2,rfl,rfl,by show(0:Int)<2;decide,rfl,_,rfl,?_⟩;refine EE (λt=>?_) (λt=>?_)
 ·have o:c%2=1:=Ki t;refine⟨_,rfl,(m:Int),rfl,by omega,by omega,?_⟩;refine sj (n:=m) (λi g a=>Same H a/\a p=some (.lst ((LM.oddGo (c/2) i).1.map V.int))/\∃r,g=[some (.int c),some (.int m),some (.ref p),some (.int (LM.oddGo (c/2) i).2),r])
   ⟨rz hp _,rC,_,rfl⟩ (λi g a B k=>?_) (λg a k=>?_)
  ·obtain⟨d,b,r,rfl⟩:=k;have e:=LM.oddGo_len (c/2) i;refine⟨_,rfl,.inl ⟨rfl,_,SqL.of b⟩,_,rfl,_,5040,rfl,rfl,by show(0:Int)<5040;decide,p,_,_,rfl,rfl,b,Ed (by rw[cx,e];omega),?_⟩;refine⟨_,rfl,_,5040,rfl,rfl,c9 (by decide) (by decide),?_⟩;refine⟨d.over hp _,?_,_,rfl⟩;rw[rC,LM.oddGo,cS];rfl
  ·obtain⟨d,b,r,rfl⟩:=k;refine⟨_,rfl,q p a d hp ?_⟩;rw[b,LM.mixed,if_pos o]
 ·have o:¬c%2=1:=λz=>t (by show V.int (c%2)=V.int 1;rw[z])
  refine⟨_,rfl,_,_,rfl,rfl,by show(0:Int)<2147483647;decide,_,_,rfl,rfl,J6 (by decide),_,_,rfl,rfl,_,_,rfl,rfl,by show(0:Int)<2147483647;decide,?_⟩;refine⟨_,rfl,(m:Int),rfl,by omega,by omega,?_⟩;have G:=dO (c/2%2147483647*16807+11) (show(2147483647:Int)≠0 by decide);have v:=dC (c/2%2147483647*16807+11) (show(0:Int)<2147483647 by decide);refine sj (n:=m) (λi g a=>Same H a/\a p=some (.lst ((LM.evenGo ((c/2%2147483647*16807+11)%2147483647) i).1.map V.int))/\∃r,g=[some (.int c),some (.int m),some (.ref p),some (.int (LM.evenGo ((c/2%2147483647*16807+11)%2147483647) i).2),r])
   ⟨rz hp _,rC,_,rfl⟩ (λi g a B k=>?_) (λg a k=>?_)
  ·obtain⟨d,b,r,rfl⟩:=k;have e:=LM.evenGo_len ((c/2%2147483647*16807+11)%2147483647) i;have C:=LM.evenGo_num _ G v i;refine⟨_,rfl,_,rfl,_,_,rfl,rfl,JK (by omega),_,rfl,_,_,rfl,rfl,JK (by decide),_,_,rfl,rfl,_,rfl,_,_,rfl,rfl,_,_,rfl,rfl,_,_,rfl,rfl,by show(0:Int)<2147483647;decide,?_⟩;refine⟨_,rfl,.inl ⟨rfl,_,SqL.of b⟩,_,rfl,p,_,_,rfl,rfl,b,Ed (by rw[cx,e];omega),?_⟩;refine⟨d.over hp _,?_,some (.int (0+(i:Int))),?_⟩
   ·rw[rC,LM.evenGo,cS,LM.evenX,d3];rfl
   ·rw[LM.evenGo,LM.evenX,d3];rfl
  ·obtain⟨d,b,r,rfl⟩:=k;refine⟨_,rfl,q p a d hp ?_⟩;rw[b,LM.mixed,if_neg o]
theorem FZ:Ef ["_law_number","_law_count","_law_found","_law_k"] ["_law_number","_law_count"] (Ec (Eg 54)):=⟨rfl,rfl,rfl,by decide +kernel,rfl,by decide +kernel,by decide +kernel⟩
theorem Iz(M:Md K mg x cB):Dn P w K mg base Em 1 "_law_perm" ["_law_number","_law_count"] (IZ):=by
 have k:=(FZ).nd;refine M.f__law_perm.ok FZ (λvs H Q E h=>?_) (λ_ _ _ _ _ _ u b=>match u,b with|[_,_],_=>rfl) (λf v A m s H vs Q E z h=>?_)
 ·obtain⟨a,n,rfl,t,q⟩:=h;rfl
 obtain⟨a,n,rfl,t,q⟩:=h;refine⟨_,(rq (rG (i:=2) k rfl (Or.inl rfl) (t6 rr))
   (rq (sT dA rfl (rZ rfl M.b_range (mM (pv 1) rr)) (rK (i:=3) k rfl (Or.inl rfl)) (rq (sY (uP dI PySem.F.slot_list_insert PySem.F.type_list_insert Bc (pv 2) (mM (rO sg (pv 0) (rO sH (pv 3) rE)) (mM (pv 3) rr))))
   (rD (rG (i:=0) k rfl (Or.inl rfl) (rO tJ (pv 0) (rO sH (pv 3) rE))))))
   (rD (rM (pv 2))))),?_⟩
 try dsimp -proj only[sd,rS,rV]
 have e:(0:Nat)<=sizeLine:=by decide
 refine⟨e,λp hp=>?_⟩;refine⟨_,rfl,(n:Int),rfl,by omega,by omega,?_⟩;refine sj (n:=n) (λi j d=>Same H d/\d p=some (.lst ((LM.permGo a i).1.map V.int))/\∃r,j=[some (.int (LM.permGo a i).2),some (.int n),some (.ref p),r])
  ⟨rz hp _,rC,_,rfl⟩ (λi j d B l=>?_) (λj d l=>?_)
 ·obtain⟨g,b,r,rfl⟩:=l;have c:(LM.permGo a i).1.length=i:=LM.perm_len a i;have o:=dO (LM.permGo a i).2 (show(0+(i:Int)+1)≠0 by omega);have y:=dC (LM.permGo a i).2 (show 0<(0+(i:Int)+1)by omega);refine⟨_,rfl,.inl ⟨rfl,_,SqL.of b⟩,_,rfl,_,rfl,_,_,rfl,rfl,_,_,rfl,rfl,by show 0<(0+(i:Int)+1);omega,_,rfl,p,_,_,_,rfl,rfl,b,o,by rw[cx,c];omega,Ed (by rw[cx,c];omega),?_⟩;refine⟨_,rfl,_,rfl,_,_,rfl,rfl,_,_,rfl,rfl,c9 (by omega) (by omega),?_⟩;refine⟨g.over hp _,?_,some (.int (0+(i:Int))),?_⟩
  ·rw[rC,LM.permGo,LM.ins,d3,cS,dN,pR,pS]
  ·rw[LM.permGo,d3];rfl
 ·obtain⟨g,b,r,rfl⟩:=l;exact⟨_,rfl,q p d g hp b⟩
theorem F8:Ef ["_law_cell","_law_size","_law_found","_law_rest","_law_k"] ["_law_cell","_law_size"] (Ec (Eg 57)):=⟨rfl,rfl,rfl,by decide +kernel,rfl,by decide +kernel,by decide +kernel⟩
theorem IC(M:Md K mg x cB):Dn P w K mg base Em 1 "_law_base" ["_law_cell","_law_size"] (JC):=by
 have j:=(F8).nd;refine M.f__law_base.ok F8 (λvs H Q E h=>?_) (λ_ _ _ _ _ _ R d=>match R,d with|[_,_],_=>rfl) (λf T A I s H vs Q E W h=>?_)
 ·obtain⟨c,n,rfl,L,q⟩:=h;rfl
 obtain⟨c,n,rfl,L,q⟩:=h;refine⟨_,(rq (rG (i:=2) j rfl (Or.inl rfl) sG)
   (rq (rG (i:=3) j rfl (Or.inl rfl) (rO tJ (pv 0) rE))
   (rq (sA (rR tS (rO sg (pv 0) rE) rE (Ej _)) (rD (rG (i:=3) j rfl (Or.inl rfl) (rO sg (rO sH (rO sC (rO sg (pv 3) rE) rE) rE) rE))) rX)
   (rq (sT dA rfl (rZ rfl M.b_range (mM (pv 1) rr)) (rK (i:=4) j rfl (Or.inl rfl)) (rq (sA (rR tS (rO sg (pv 0) rE) rE (Ej _)) (rD (rG (i:=3) j rfl (Or.inl rfl) (rO sg (rO sH (rO sH (rO sH (rO sC (pv 3) (pv 3)) (rO sC rE (pv 3))) (pv 4)) rE) rE))) rX)
   (rq (rG (i:=2) j rfl (Or.inl rfl) (rO ue (pv 2) (rN yL sG (rO sg (pv 3) rE) (λ_ _=>rfl))))
   (rD (sA (rR tS (rO sg (pv 0) rE) rE (Ej _)) (rD (rG (i:=3) j rfl (Or.inl rfl) (rO tJ (pv 3) rE))) rX)))))
   (rD (rM (pv 2))))))),?_⟩
 try dsimp -proj only[sd,rS,rV]
 have S:=dO (c/2%2147483647*16807+11) (show(2147483647:Int)≠0 by decide);have N:=dC (c/2%2147483647*16807+11) (show(0:Int)<2147483647 by decide);refine⟨_,rfl,c,2,rfl,rfl,c9 (by decide) (by decide),?_⟩;have nil:Ltr "":=λc v=>nomatch (show c∈([]:List Nat)from v)
 have u:JS.length<=sizeLine:=by show 26<=sizeLine;decide
 have pick:∀r:Int,∃k:Nat,k<26/\Hb JS.cps.toList (r%26)=some (97+k):=λr=>by
  have C:=dO r (show(26:Int)≠0 by decide);have D:=dC r (show(0:Int)<26 by decide);exact⟨(r%26).toNat,by omega,CH C D⟩
 have b:∀k:Nat,(⟨#[97+k]⟩:Str).length=1:=λ_=>rfl
 refine⟨_,rfl,c,2,rfl,rfl,by show(0:Int)<2;decide,rfl,_,rfl,?_⟩;refine EE (λt=>?_) (λt=>?_)
 ·have v:c%2=0:=Ki t;refine⟨_,rfl,_,_,rfl,rfl,by show(0:Int)<2147483647;decide,_,_,rfl,rfl,J6 (by decide),_,_,rfl,rfl,_,_,rfl,rfl,by show(0:Int)<2147483647;decide,?_⟩;refine⟨_,rfl,(n:Int),rfl,by omega,by omega,?_⟩;refine sj (n:=n) (λi g l=>l=H/\∃(z:Str) (r:Int) (k:Option V),g=[some (.int c),some (.int n),some (.str z),some (.int r),k]/\z.length=i/\Ltr z/\0<=r/\r<2147483647) ⟨rfl,"",_,_,rfl,rfl,nil,S,N⟩ (λi g l O o=>?_) (λg l o=>?_)
  ·obtain⟨rfl,z,r,k,rfl,a,d,X,U⟩:=o;refine⟨_,rfl,c,2,rfl,rfl,by show(0:Int)<2;decide,rfl,_,rfl,Je t ?_⟩;refine⟨_,rfl,_,rfl,_,_,rfl,rfl,JK (by omega),_,rfl,_,_,rfl,rfl,JK (by decide),_,_,rfl,rfl,_,rfl,_,_,rfl,rfl,_,_,rfl,rfl,_,_,rfl,rfl,by show(0:Int)<2147483647;decide,?_⟩;dsimp -proj only;have G:=dO (r*r+48271*r+(0+(i:Int))+1) (show(2147483647:Int)≠0 by decide);have F:=dC (r*r+48271*r+(0+(i:Int))+1) (show(0:Int)<2147483647 by decide);generalize(r*r+48271*r+(0+(i:Int))+1)%2147483647=y at G F;obtain⟨m,B,p⟩:=pick y;refine⟨_,rfl,_,rfl,y,26,rfl,rfl,by show(0:Int)<26;decide,JS,_,_,rfl,rfl,u,p,z,_,rfl,rfl,by rw[b,a];exact dB (Ed (by omega)),?_⟩;refine⟨_,rfl,c,2,rfl,rfl,by show(0:Int)<2;decide,rfl,_,rfl,Ht (λJ=>by have:=Ki J;omega) ?_⟩;exact⟨rfl,_,y,_,rfl,by rw[tE,b,a],d.app (Ltr.one B),G,F⟩
  ·obtain⟨rfl,z,r,k,rfl,a,d,_⟩:=o;exact⟨_,rfl,q z a d⟩
 ·refine⟨_,rfl,(n:Int),rfl,by omega,by omega,?_⟩;have v:c%2=1:=by
   have C:=dO c (show(2:Int)≠0 by decide);have D:=dC c (show(0:Int)<2 by decide);have:¬c%2=0:=λe=>t (by show V.int (c%2)=V.int 0;rw[e])
   omega
  refine sj (n:=n) (λi g l=>l=H/\∃(z:Str) (r:Int) (k:Option V),g=[some (.int c),some (.int n),some (.str z),some (.int r),k]/\z.length=i/\Ltr z) ⟨rfl,"",_,_,rfl,rfl,nil⟩ (λi g l O o=>?_) (λg l o=>?_)
  ·obtain⟨rfl,z,r,k,rfl,a,d⟩:=o;refine⟨_,rfl,c,2,rfl,rfl,by show(0:Int)<2;decide,rfl,_,rfl,Ht t ?_⟩;obtain⟨m,B,p⟩:=pick r;refine⟨_,rfl,_,rfl,r,26,rfl,rfl,by show(0:Int)<26;decide,JS,_,_,rfl,rfl,u,p,z,_,rfl,rfl,by rw[b,a];exact dB (Ed (by omega)),?_⟩;refine⟨_,rfl,c,2,rfl,rfl,by show(0:Int)<2;decide,rfl,_,rfl,Je (by show V.int (c%2)=V.int 1;rw[v]) ?_⟩;refine⟨_,rfl,r,26,rfl,rfl,c9 (by decide) (by decide),?_⟩;exact⟨rfl,_,_,_,rfl,by rw[tE,b,a],d.app (Ltr.one B)⟩
  ·obtain⟨rfl,z,r,k,rfl,a,d⟩:=o;exact⟨_,rfl,q z a d⟩
theorem F2:Ef ["_law_base_here","_law_place","_law_size","_law_k","_law_letters","_law_other"] ["_law_base_here","_law_place","_law_size","_law_k"] (Ec (Eg 58)):=⟨rfl,rfl,rfl,by decide +kernel,rfl,by decide +kernel,by decide +kernel⟩
theorem Ip(M:Md K mg x cB):Dn P w K mg base Em 1 "_law_word" ["_law_base_here","_law_place","_law_size","_law_k"] (Ir):=by
 have m:=(F2).nd;refine M.f__law_word.ok F2 (λvs H Q E h=>?_) (λ_ _ _ _ _ _ z g=>match z,g with|[_,_,_,_],_=>rfl) (λf C A t s H vs Q E G h=>?_)
 ·obtain⟨b,p,c,k,rfl,o,g,hp,v,hk,q⟩:=h;rfl
 obtain⟨b,p,c,k,rfl,o,g,hp,v,hk,q⟩:=h;refine⟨_,(rq (rG (i:=4) m rfl (Or.inl rfl) sG)
   (rq (rG (i:=5) m rfl (Or.inl rfl) (rN yL (pv 4) (rO sg (rO sH (uP gF PySem.F.slot_str_find PySem.F.type_str_find Ds (pv 4) (mM (rN yL (pv 0) (pv 1) (λ_ _=>rfl)) rr)) (rO sC rE (pv 3))) rE) (λ_ _=>rfl)))
   (rD (rM (rO ue (rO ue (vg Bh (pv 0) AS (uR (pv 1))) (pv 5)) (vg Bh (pv 0) (uR (rO sH (pv 1) rE)) (uR (pv 2)))))))),?_⟩
 try dsimp -proj only[sd,rS,rV]
 have j:JS.length<=sizeLine:=by show 26<=sizeLine;decide
 have a:b.length<=sizeLine:=dB (Ed (by omega));have D:b.cps.toList.length=12:=by rw[<-ua];exact o
 have d:p<b.cps.toList.length:=by omega
 have B:=g _ (cW d);have r:Hb b.cps.toList (p:Int)=some b.cps.toList[p]:=sr (cz d);have l:=BJ (show b.cps.toList[p]-97<26 by omega);rw[show 97+(b.cps.toList[p]-97)=b.cps.toList[p]by omega]at l;have u:=dO (((b.cps.toList[p]-97:Nat):Int)+3*(k:Int)) (show(26:Int)≠0 by decide);have y:=dC (((b.cps.toList[p]-97:Nat):Int)+3*(k:Int)) (show(0:Int)<26 by decide);refine⟨_,rfl,_,rfl,rfl,_,rfl,_,rfl,b,_,_,rfl,rfl,a,r,JS,_,rfl,rfl,_,rfl,_,_,rfl,rfl,JK (by decide),_,_,rfl,rfl,_,_,rfl,rfl,by show(0:Int)<26;decide,JS,_,_,rfl,rfl,j,by rw[l];exact CH u y,?_⟩;refine⟨_,rfl,_,rfl,_,rfl,b,rfl,a,?_⟩;rw[y4 (show p<=b.cps.toList.length by omega)];refine⟨_,rfl,_,_,rfl,rfl,by rw[uz,cV];exact dB (Ed (by show _+1<=1000;omega)),?_⟩;refine⟨_,rfl,_,rfl,_,_,rfl,rfl,_,rfl,_,rfl,_,rfl,b,rfl,a,?_⟩;rw[show((p:Int)+1)=((p+1:Nat):Int)by push_cast;rfl,AY (show p+1<=c by omega) (show c<=b.cps.toList.length by omega)];refine⟨_,_,rfl,rfl,by rw[tE,uz,uz,uz,cV,cV,iY];exact dB (Ed (by show _+1+_<=1000;omega)),?_⟩;have e:(((⟨(b.cps.toList.take p).toArray⟩:Str)++⟨#[97+((((b.cps.toList[p]-97:Nat):Int)+3*(k:Int))%26).toNat]⟩)++⟨((b.cps.toList.drop (p+1)).take (c-(p+1))).toArray⟩:Str)=⟨(EW b.cps.toList p c k).toArray⟩:=by
  refine wT ?_;rw[sQ,sQ];unfold EW;rw[HM.getD_lt d,show((((b.cps.toList[p]-97:Nat):Int)+3*(k:Int))%26).toNat=(b.cps.toList[p]-97+3*k)%26 by omega];simp
 have n:=q;rw[<-e]at n;exact n
theorem FM:Ef ["_law_script","_law_at","_law_many","_law_cell","_law_size","_law_base_here","_law_words_here","_law_k","_law_word_here"] ["_law_script","_law_at","_law_many"] (Ec (Eg 59)):=⟨rfl,rfl,rfl,by decide +kernel,rfl,by decide +kernel,by decide +kernel⟩
theorem HK(M:Md K mg x cB)
  (G_law_cell_at:Dn P w K mg base Em 1 "_law_cell_at" ["_law_script","_law_k"] (IU K))
  (G_law_base:Dn P w K mg base Em 1 "_law_base" ["_law_cell","_law_size"] (JC))
  (G_law_word:Dn P w K mg base Em 1 "_law_word" ["_law_base_here","_law_place","_law_size","_law_k"] (Ir)):Dn P w K mg base Em 2 "_law_words" ["_law_script","_law_at","_law_many"] (Hj K):=by
 have j:=(FM).nd
 refine M.f__law_words.ok FM (λvs H Q E h=>?_) (λ_ _ _ _ _ _ S B=>match S,B with|[_,_,_],_=>rfl) (λf T A R s H vs Q E z h=>?_)
 ·obtain⟨a,y,o,n,rfl,C,h1,h6,q⟩:=h
  rfl
 obtain⟨a,y,o,n,rfl,C,h1,h6,q⟩:=h
 refine⟨_,(rq (rG (i:=3) j rfl (Or.inl rfl) (rW G_law_cell_at z (by decide) rfl Eh (mM (pv 0) (mM (pv 1) rr))))
   (rq (rG (i:=4) j rfl (Or.inl rfl) (rO sH rE (rO sg (pv 3) rE)))
   (rq (rG (i:=5) j rfl (Or.inl rfl) (rW G_law_base z (by decide) rfl Eh (mM (rW G_law_cell_at z (by decide) rfl Eh (mM (pv 0) (mM (rO sH (pv 1) rE) rr))) (mM rE rr))))
   (rq (rG (i:=6) j rfl (Or.inl rfl) (t6 rr))
   (rq (sT dA rfl (rZ rfl M.b_range (mM (pv 2) rr)) (rK (i:=7) j rfl (Or.inl rfl)) (rq (rG (i:=8) j rfl (Or.inl rfl) (rW G_law_word z (by decide) rfl Eh (mM (pv 5) (mM (rO sg (rO tJ (pv 3) rE) (pv 4)) (mM (pv 4) (mM (pv 7) rr))))))
   (rq (sA (rR tS (rO sg (rO tJ (pv 3) rE) rE) rE (Ej _)) (rD (rG (i:=8) j rfl (Or.inl rfl) (vg Bh (pv 5) AS (uR (rO sH (pv 7) rE))))) rX)
   (rD (sY (uP dI fT fU tM (pv 6) (mM (pv 8) rr)))))))
   (rD (rM (pv 6)))))))),?_⟩
 try dsimp -proj only[sd,rS,rV]
 refine⟨_,rfl,_,rfl,a,y,_,rfl,C,by omega,?_⟩
 generalize LM.cellAt y (o:Int)=c
 have W:=dO c (show(12:Int)≠0 by decide)
 have X:=dC c (show(0:Int)<12 by decide)
 obtain⟨d,O⟩:∃d:Nat,1+c%12=(d:Int):=⟨(1+c%12).toNat,by omega⟩
 have Y:=dO (c/48) (show(d:Int)≠0 by omega)
 have p1:=dC (c/48) (show(0:Int)<d by omega)
 obtain⟨p,hp⟩:∃p:Nat,c/48%(d:Int)=(p:Int):=⟨(c/48%(d:Int)).toNat,by omega⟩
 refine⟨_,rfl,c,12,rfl,rfl,by show(0:Int)<12;decide,_,_,rfl,rfl,?_⟩
 dsimp only
 rw[O]
 refine⟨_,rfl,_,rfl,_,_,rfl,rfl,a,y,_,rfl,C,by omega,_,12,rfl,by decide,λb J B=>?_⟩
 have u:(0:Nat)<=sizeLine:=by decide
 have N:b.length<=sizeLine:=dB (Ed (by omega))
 have U:b.cps.toList.length=12:=by rw[<-ua];exact J
 refine⟨u,λl m=>?_⟩
 refine⟨_,rfl,(n:Int),rfl,by omega,by omega,?_⟩
 refine sj (n:=n) (λi I t=>Same H t/\t l=some (.lst (((db i).map λk=>if c/12%4=1 then(⟨(b.cps.toList.take (k+1)).toArray⟩:Str)else⟨(EW b.cps.toList p d k).toArray⟩).map V.str))/\∃k w,I=[some (.ref a),some (.int o),some (.int n),some (.int c),some (.int d),some (.str b),some (.ref l),k,w]) ⟨rz m _,rC,_,_,rfl⟩ (λi I t Z L=>?_) (λI t L=>?_)
 ·obtain⟨v,g,k,w,rfl⟩:=L
  have r:(((db i).map λk=>if c/12%4=1 then(⟨(b.cps.toList.take (k+1)).toArray⟩:Str)else⟨(EW b.cps.toList p d k).toArray⟩).map V.str).length<sizeLine:=Ed (by rw[cx,cx,fb];omega)
  refine⟨_,rfl,_,rfl,c,48,rfl,rfl,c9 (by decide) (by decide),_,rfl,_,_,rfl,rfl,by show(0:Int)<d;omega,_,rfl,_,rfl,b,p,d,i,by show[V.str b,V.int (c/48%(d:Int)),V.int d,V.int (0+(i:Int))]=_;rw[hp,d3],J,B,by omega,by omega,by omega,?_⟩
  refine⟨_,rfl,c,12,rfl,rfl,c9 (by decide) (by decide),_,_,rfl,rfl,by show(0:Int)<4;decide,rfl,_,rfl,?_⟩
  refine EE (λG=>?_) (λG=>?_)
  ·have D:c/12%4=1:=Ki G
   refine⟨_,rfl,_,rfl,_,_,rfl,rfl,_,rfl,b,rfl,N,?_⟩
   rw[show((0:Int)+(i:Int)+1)=((i+1:Nat):Int)by omega,y4 (show i+1<=b.cps.toList.length by omega)]
   refine⟨_,rfl,.inl ⟨rfl,_,SqL.of g⟩,_,rfl,l,_,_,rfl,rfl,g,r,?_⟩
   refine⟨v.over m _,?_,_,_,rfl⟩
   rw[rC,gf,cS,cS,m4,if_pos D]
   rfl
  ·have D:¬c/12%4=1:=λe=>G (by show V.int (c/12%4)=V.int 1;rw[e])
   refine⟨_,rfl,.inl ⟨rfl,_,SqL.of g⟩,_,rfl,l,_,_,rfl,rfl,g,r,?_⟩
   refine⟨v.over m _,?_,_,_,rfl⟩
   rw[rC,gf,cS,cS,m4,if_neg D]
   rfl
 ·obtain⟨v,g,k,w,rfl⟩:=L
  exact⟨_,rfl,q l _ t v m g (zJ J B (by omega) (by omega) h1 h6) (by rw[cx,fb])⟩
theorem Fm:Ef ["_law_one","_law_other","_law_rest"] ["_law_one","_law_other"] (Ec (Eg 55)):=⟨rfl,rfl,rfl,by decide +kernel,rfl,by decide +kernel,by decide +kernel⟩
theorem GX(M:Md K mg x cB):Dn P w K mg base Em 1 "_law_divisor" ["_law_one","_law_other"] (Hs):=by
 have n:=(Fm).nd;refine M.f__law_divisor.ok Fm (λvs H Q E h=>?_) (λ_ _ _ _ _ _ C D=>match C,D with|[_,_],_=>rfl) (λf G A t s H vs Q E L h=>?_)
 ·obtain⟨i,j,rfl,p,q⟩:=h;rfl
 obtain⟨i,j,rfl,p,q⟩:=h;refine⟨_,(rq (uA dA (rR zw (pv 1) rE (Ej _)) (rq (rG (i:=2) n rfl (Or.inl rfl) (rO sg (pv 0) (pv 1)))
   (rq (rG (i:=0) n rfl (Or.inl rfl) (pv 1))
   (rD (rG (i:=1) n rfl (Or.inl rfl) (pv 2))))))
   (rD (rM (rJ wM rfl M.b_abs Boot.«abs» (mM (pv 0) rr))))),?_⟩
 try dsimp -proj only[sd,rS,rV]
 refine yQ (λm l g=>g=H/\∃(a b:Int) (r:Option V),l=[some (.int a),some (.int b),r]/\0<=b/\Int.gcd a b=Int.gcd i j/\m=b.toNat)
  ⟨_,rfl,_,_,_,rfl,p,rfl,rfl⟩ (λm l g F=>?_) (λl g J I B h=>?_)
 ·obtain⟨rfl,a,b,r,rfl,N,o,rfl⟩:=F;refine⟨_,rfl,rfl,_,rfl,?_⟩;refine GQ (λc=>?_) (λc=>?_)
  ·have d:b≠0:=λz=>c (by rw[z])
   refine⟨_,rfl,_,rfl,a,b,rfl,rfl,by show(0:Int)<b;omega,_,rfl,_,rfl,?_⟩;refine⟨(a%b).toNat,?_,rfl,b,a%b,_,rfl,dO _ d,?_,rfl⟩
   ·have:=dC a (show 0<b by omega);have:=dO a d;omega
   ·rw[FQ.gcd_turn,o]
  ·have d:b=0:=Ki c;subst d;refine⟨_,rfl,a,rfl,?_⟩;have e:(if a<0 then -a else a)=(Int.gcd i j:Int):=by rw[<-o];simp;split <;> omega
   rw[e];exact q
 ·obtain⟨v,e,y,k,u,q⟩:=h;exact⟨v,e,y,k,u,B _ _ q⟩
theorem Ft:Ef ["_law_top","_law_bottom","_law_share"] ["_law_top","_law_bottom"] (Ec (Eg 56)):=⟨rfl,rfl,rfl,by decide +kernel,rfl,by decide +kernel,by decide +kernel⟩
theorem G4(M:Md K mg x cB)
  (G_law_divisor:Dn P w K mg base Em 1 "_law_divisor" ["_law_one","_law_other"] (Hs)):Dn P w K mg base Em 2 "_law_lowest" ["_law_top","_law_bottom"] (HZ):=by
 have d:=(Ft).nd
 refine M.f__law_lowest.ok Ft (λvs H Q E h=>?_) (λ_ _ _ _ _ _ k l=>match k,l with|[_,_],_=>rfl) (λf m A g s H vs Q E j h=>?_)
 ·obtain⟨t,b,rfl,e,c,q⟩:=h
  rfl
 obtain⟨t,b,rfl,e,c,q⟩:=h
 refine⟨_,(rq (sA (rR zM (pv 1) rE (Ej _)) Ac rX)
   (rq (sA (rR tS (pv 1) rE (Ej _)) (rD (rG (i:=1) d rfl (Or.inl rfl) rE)) rX)
   (rq (rG (i:=2) d rfl (Or.inl rfl) (rW G_law_divisor j (by decide) rfl Eh (mM (pv 0) (mM (pv 1) rr))))
   (rD (rM (sI (mM (rO tJ (pv 0) (pv 2)) (mM (rO tJ (pv 1) (pv 2)) rr)))))))),?_⟩
 try dsimp -proj only[sd,rS,rV]
 refine⟨_,rfl,_,_,rfl,rfl,_,rfl,Ht (by omega) ?_⟩
 refine⟨_,rfl,rfl,_,rfl,Ht (MB (by omega)) ?_⟩
 refine⟨_,rfl,_,rfl,t,b,rfl,fq e,?_⟩
 have a:=(uY (t:=t) (b:=b) (by omega) c).2 (by omega)
 have n:0<Int.gcd t b:=fB _ (by omega)
 refine⟨_,rfl,_,rfl,t,_,rfl,rfl,⟨by omega,a.1.2⟩,_,rfl,_,rfl,b,_,rfl,rfl,⟨by omega,a.1.2⟩,by show 2<=sizeLine;decide,λp hp=>q p _ (rz hp _) ?_⟩
 rw[rC]
 show some (HO.tup [V.int (t/_),V.int (b/_)])=_
 rw[<-iM t (by omega),<-iM b (by omega),a.2.1,a.2.2]
 rfl
theorem FY:Ef ["_law_found","_law_due","_law_k"] ["_law_found","_law_due"] (Ec (Eg 60)):=⟨rfl,rfl,rfl,by decide +kernel,rfl,by decide +kernel,by decide +kernel⟩
theorem EZ{n:Nat}(M:Md K mg x cB)
  (G_law_same:Dn P w K mg base Em n "_law_same" ["_law_found","_law_due"] (JU (HJ K) n)):Dn P w K mg base Em (n+1) "_law_same" ["_law_found","_law_due"] (HJ K n):=by
 have R:=(FY).nd
 refine M.f__law_same.ok FY (λvs H Q E h=>?_) (λ_ _ _ _ _ _ S T=>match S,T with|[_,_],_=>rfl) (λf U A N s H vs Q E z h=>?_)
 ·obtain⟨v,u,d,rfl,L,j,c,q⟩:=h
  rfl
 obtain⟨v,u,d,rfl,L,j,c,q⟩:=h
 refine⟨_,(rq (sA (PW.pt (xA (sS (rJ sx rfl M.b_isinstance Boot.«isinstance» (mM (pv 1) (mM (tW rfl M.b_tuple Boot.«tuple») rr)))) (wk (sS (rJ sx rfl M.b_isinstance Boot.«isinstance» (mM (pv 1) (mM (tW rfl M.b_list Boot.«list») rr))))))) (rq (sA (PW.pt (xA (rR zw (rJ sx rfl M.b_isinstance Boot.«isinstance» (mM (pv 0) (mM (tW rfl M.b_tuple Boot.«tuple») rr))) (rJ sx rfl M.b_isinstance Boot.«isinstance» (mM (pv 1) (mM (tW rfl M.b_tuple Boot.«tuple») rr))) (Ej _)) (wk (rR zw (rJ sx rfl M.b_isinstance Boot.«isinstance» (mM (pv 0) (mM (tW rfl M.b_list Boot.«list») rr))) (rJ sx rfl M.b_isinstance Boot.«isinstance» (mM (pv 1) (mM (tW rfl M.b_list Boot.«list») rr))) (Ej _))))) (rD (rM uk)) rX)
   (rq (sA (rR zw (rJ rP rfl M.b_len dD (mM (pv 0) rr)) (rJ rP rfl M.b_len dD (mM (pv 1) rr)) (Ej _)) (rD (rM uk)) rX)
   (rq (sT dA rfl (rZ rfl M.b_range (mM (rJ rP rfl M.b_len dD (mM (pv 1) rr)) rr)) (rK (i:=2) R rfl (Or.inl rfl)) (rD (sA (tI (sS (rW G_law_same z (cI _) rfl Eh (mM (rN Ct (pv 0) (pv 2) (λ_ _=>rfl)) (mM (rN Ct (pv 1) (pv 2) (λ_ _=>rfl)) rr))))) (rD (rM uk)) rX)))
   (rD (rM uk))))) rX)
   (rq (sA (sS (rJ sx rfl M.b_isinstance Boot.«isinstance» (mM (pv 1) (mM (tW rfl M.b_bool Boot.«bool») rr)))) (rD (rM (uw (rJ sx rfl M.b_isinstance Boot.«isinstance» (mM (pv 0) (mM (tW rfl M.b_bool Boot.«bool») rr))) (vH (tK (yT z) (pv 0) (pv 1) (Ej _)))))) rX)
   (rq (sA (sS (rJ sx rfl M.b_isinstance Boot.«isinstance» (mM (pv 1) (mM (tW rfl M.b_int Boot.«int») rr)))) (rD (rM (uw (rJ sx rfl M.b_isinstance Boot.«isinstance» (mM (pv 0) (mM (tW rfl M.b_int Boot.«int») rr))) (uw (CC (rJ sx rfl M.b_isinstance Boot.«isinstance» (mM (pv 0) (mM (tW rfl M.b_bool Boot.«bool») rr)))) (vH (tK (yT z) (pv 0) (pv 1) (Ej _))))))) rX)
   (rq (sA (sS (rJ sx rfl M.b_isinstance Boot.«isinstance» (mM (pv 1) (mM (tW rfl M.b_str Boot.«str») rr)))) (rD (rM (uw (rJ sx rfl M.b_isinstance Boot.«isinstance» (mM (pv 0) (mM (tW rfl M.b_str Boot.«str») rr))) (vH (tK (yT z) (pv 0) (pv 1) (Ej _)))))) rX)
   (rD (rM (uw (tK Ah (pv 1) v8 (Ej _)) (vH (tK Ah (pv 0) v8 (Ej _)))))))))),?_⟩
 try dsimp -proj only[sd,rS,rV]
 cases L with
 | non=>
  cases j
  refine⟨_,rfl,_,_,"NoneType",rfl,by decide,rfl,_,rfl,Eu ⟨_,rfl,_,_,"NoneType",rfl,by decide,rfl,_,rfl,Eu ?_⟩⟩
  refine⟨_,rfl,_,_,"NoneType",rfl,by decide,rfl,_,rfl,Eu ?_⟩
  refine⟨_,rfl,_,_,"NoneType",rfl,by decide,rfl,_,rfl,Eu ?_⟩
  refine⟨_,rfl,_,_,"NoneType",rfl,by decide,rfl,_,rfl,Eu ?_⟩
  exact⟨_,rfl,rfl,_,rfl,ER ⟨_,rfl,rfl,q⟩⟩
 | bl b=>
  cases j
  refine⟨_,rfl,_,_,"bool",rfl,by decide,rfl,_,rfl,Eu ⟨_,rfl,_,_,"bool",rfl,by decide,rfl,_,rfl,Eu ?_⟩⟩
  refine⟨_,rfl,_,_,"bool",rfl,by decide,rfl,_,rfl,ER ?_⟩
  refine⟨_,rfl,_,_,"bool",rfl,by decide,rfl,_,rfl,ER ?_⟩
  refine⟨_,rfl,_,rfl,_,_,.bl b,.bl b,rfl,rfl,?_⟩
  rw[show gy (.bool b) (.bool b)=true by simp[gy]]
  exact q
 | int i=>
  cases j
  refine⟨_,rfl,_,_,"int",rfl,by decide,rfl,_,rfl,Eu ⟨_,rfl,_,_,"int",rfl,by decide,rfl,_,rfl,Eu ?_⟩⟩
  refine⟨_,rfl,_,_,"int",rfl,by decide,rfl,_,rfl,Eu ?_⟩
  refine⟨_,rfl,_,_,"int",rfl,by decide,rfl,_,rfl,ER ?_⟩
  refine⟨_,rfl,_,_,"int",rfl,by decide,rfl,_,rfl,ER ⟨_,rfl,_,_,"int",rfl,by decide,rfl,_,rfl,_,rfl,ER ?_⟩⟩
  refine⟨_,rfl,_,rfl,_,_,.int i,.int i,rfl,rfl,?_⟩
  rw[show gy (.int i) (.int i)=true by simp[gy]]
  exact q
 | str x=>
  cases j
  have B:ga (.str x)=true:=by cases n <;> simpa [Gd]using c
  refine⟨_,rfl,_,_,"str",rfl,by decide,rfl,_,rfl,Eu ⟨_,rfl,_,_,"str",rfl,by decide,rfl,_,rfl,Eu ?_⟩⟩
  refine⟨_,rfl,_,_,"str",rfl,by decide,rfl,_,rfl,Eu ?_⟩
  refine⟨_,rfl,_,_,"str",rfl,by decide,rfl,_,rfl,Eu ?_⟩
  refine⟨_,rfl,_,_,"str",rfl,by decide,rfl,_,rfl,ER ?_⟩
  refine⟨_,rfl,_,_,"str",rfl,by decide,rfl,_,rfl,ER ?_⟩
  refine⟨_,rfl,_,rfl,_,_,.str x,.str x,B,B,?_⟩
  rw[show gy (.str x) (.str x)=true by simp[gy]]
  exact q
 | @lst a xs ds hv hvs hl1=>
  cases j with
  | @lst b ys _ hu hus hl2=>
  cases n with
  | zero=>cases c
  | succ n=>

  have t:=Reps.length hvs
  have o:=Reps.length hus
  refine⟨_,rfl,_,_,"list",rfl,by decide,.inl ⟨rfl,_,hu⟩,_,rfl,Eu ⟨_,rfl,_,_,"list",rfl,by decide,.inl ⟨rfl,_,hu⟩,_,rfl,ER ?_⟩⟩
  refine⟨_,rfl,_,_,"list",rfl,by decide,.inl ⟨rfl,_,hv⟩,_,rfl,_,_,"list",rfl,by decide,.inl ⟨rfl,_,hu⟩,rfl,_,rfl,GZ rfl ?_⟩
  refine⟨_,rfl,_,_,"list",rfl,by decide,.inl ⟨rfl,_,hv⟩,_,rfl,_,_,"list",rfl,by decide,.inl ⟨rfl,_,hu⟩,rfl,_,rfl,GZ rfl ?_⟩
  refine⟨_,rfl,_,_,rfl,.inl hv,_,rfl,_,_,rfl,.inl hu,rfl,_,rfl,GZ (by rw[t,o]) ?_⟩
  refine⟨_,rfl,_,_,rfl,.inl hu,_,rfl,by omega,by omega,?_⟩
  refine sj (λi l k=>k=H/\∃r,l=[some _,some _,r]) ⟨rfl,_,rfl⟩ (λi l k O m=>?_) (λl k m=>?_)
  ·obtain⟨rfl,r,rfl⟩:=m
   have e:i<ds.length:=by omega
   have p:ds[i]?=some ds[i]:=by simp[e]
   obtain⟨x,G,I⟩:=Reps.get hvs p
   obtain⟨y,C,F⟩:=Reps.get hus p
   have g:Gd n ds[i]=true:=dZ.mp c _ (cW e)
   have J:Hb xs (0+(i:Int))=some x:=by rw[d3];exact sr G
   have D:Hb ys (0+(i:Int))=some y:=by rw[d3];exact sr C
   exact⟨_,rfl,_,rfl,.inl ⟨_,xs,_,x,rfl,rfl,hv,J,_,rfl,_,rfl,.inl ⟨_,ys,_,y,rfl,rfl,hu,D,x,y,ds[i],rfl,I,F,g,_,rfl,Eu ⟨rfl,_,rfl⟩⟩⟩⟩
  ·obtain⟨rfl,r,rfl⟩:=m
   exact q
 | @tup a xs ds hv hvs hl1=>
  cases j with
  | @tup b ys _ hu hus hl2=>
  cases n with
  | zero=>cases c
  | succ n=>

  have t:=Reps.length hvs
  have o:=Reps.length hus
  refine⟨_,rfl,_,_,"tuple",rfl,by decide,.inr ⟨rfl,_,hu⟩,_,rfl,ER ?_⟩
  refine⟨_,rfl,_,_,"tuple",rfl,by decide,.inr ⟨rfl,_,hv⟩,_,rfl,_,_,"tuple",rfl,by decide,.inr ⟨rfl,_,hu⟩,rfl,_,rfl,GZ rfl ?_⟩
  refine⟨_,rfl,_,_,"tuple",rfl,by decide,.inr ⟨rfl,_,hv⟩,_,rfl,_,_,"tuple",rfl,by decide,.inr ⟨rfl,_,hu⟩,rfl,_,rfl,GZ rfl ?_⟩
  refine⟨_,rfl,_,_,rfl,.inr hv,_,rfl,_,_,rfl,.inr hu,rfl,_,rfl,GZ (by rw[t,o]) ?_⟩
  refine⟨_,rfl,_,_,rfl,.inr hu,_,rfl,by omega,by omega,?_⟩
  refine sj (λi l k=>k=H/\∃r,l=[some _,some _,r]) ⟨rfl,_,rfl⟩ (λi l k O m=>?_) (λl k m=>?_)
  ·obtain⟨rfl,r,rfl⟩:=m
   have e:i<ds.length:=by omega
   have p:ds[i]?=some ds[i]:=by simp[e]
   obtain⟨x,G,I⟩:=Reps.get hvs p
   obtain⟨y,C,F⟩:=Reps.get hus p
   have g:Gd n ds[i]=true:=dZ.mp c _ (cW e)
   have J:Hb xs (0+(i:Int))=some x:=by rw[d3];exact sr G
   have D:Hb ys (0+(i:Int))=some y:=by rw[d3];exact sr C
   exact⟨_,rfl,_,rfl,.inr (.inl ⟨_,xs,_,x,rfl,rfl,hv,J,_,rfl,_,rfl,.inr (.inl ⟨_,ys,_,y,rfl,rfl,hu,D,x,y,ds[i],rfl,I,F,g,_,rfl,Eu ⟨rfl,_,rfl⟩⟩)⟩)⟩
  ·obtain⟨rfl,r,rfl⟩:=m
   exact q
theorem Fc:Ef ["_law_way","_law_wishes"] ["_law_way","_law_wishes"] (Ec (Eg 61)):=⟨rfl,rfl,rfl,by decide +kernel,rfl,by decide +kernel,by decide +kernel⟩
theorem Gy(M:Md K mg x cB)
  (Geaten:Dn P w K mg base Em 7 "eaten" ["wishes"] (Hv K))
  (Gby_turns:Dn P w K mg base Em 4 "by_turns" ["wishes"] (Ge K)):Dn P w K mg base Em 8 "_law_table_by" ["_law_way","_law_wishes"] (HR K):=by
 have I:=(Fc).nd
 refine M.f__law_table_by.ok Fc (λvs H Q E h=>?_) (λ_ _ _ _ _ _ b k=>match b,k with|[_,_],_=>rfl) (λf G A D s H vs Q E C h=>?_)
 ·obtain⟨w,b,W,n,m,rfl,e,p,B,d,q⟩:=h
  rfl
 obtain⟨w,b,W,n,m,rfl,e,p,B,d,q⟩:=h
 refine⟨_,(rq (sA (rR tS (pv 0) sG (Ej _)) (rD (rM (rW Geaten C (by decide) rfl Eh (mM (sh sR rfl M.b_list Boot.«list» (mM (pv 1) rr)) rr)))) rX)
   (rD (rM (rW Gby_turns C (by decide) rfl Eh (mM (sh sR rfl M.b_list Boot.«list» (mM (pv 1) rr)) rr))))),?_⟩
 try dsimp -proj only[sd,rS,rV]
 refine⟨_,rfl,rfl,_,rfl,?_⟩
 refine EE (λc=>?_) (λc=>?_)
 ·have r:m="eaten":=by injection c
  refine⟨_,rfl,w,_,rfl,.inl p,λl k=>?_⟩
  have a:=rz k (.lst b)
  refine⟨l,b,W,n,rfl,SqL.of rC,Paired.mapP B (λ_ _ h=>h.mono a),⟨d.lo,d.hi,d.len,d.pm⟩,λy u N t v j g F o=>?_⟩
  exact q _ _ y u t (.inl ⟨r,N,F,rfl,rfl⟩) (a.trans v) (a.free j) g o
 ·have r:m="turns":=by
   rcases e with z|z
   ·exact absurd (by rw[z]) c
   ·exact z
  refine⟨_,rfl,w,_,rfl,.inl p,λl k=>?_⟩
  have a:=rz k (.lst b)
  refine⟨l,b,W,n,rfl,SqL.of rC,Paired.mapP B (λ_ _ h=>h.mono a),d,λy u t v j g o=>?_⟩
  rw[A9]at o
  exact q _ _ y u t (.inr ⟨r,rfl,rfl⟩) (a.trans v) (a.free j) g (tV o)
theorem EO:Ef ["_law_book","_law_people","_law_things","_law_wishes","_law_place","_law_way","_law_row","_law_due","_law_k","_law_found"] ["_law_book","_law_people","_law_things","_law_wishes","_law_place","_law_way"] (Ec (Eg 62)):=⟨rfl,rfl,rfl,by decide +kernel,rfl,by decide +kernel,by decide +kernel⟩
theorem FS(M:Md K mg x cB)
  (G_law_table_by:Dn P w K mg base Em 8 "_law_table_by" ["_law_way","_law_wishes"] (HR K))
  (GBook_shares:Mn P w K mg base (FH P w) 9 cB "shares" ["self","person","way"] (GP K cB x))
  (G_law_same:Dn P w K mg base Em 4 "_law_same" ["_law_found","_law_due"] (HJ K 3)):Dn P w K mg base Em 10 "_law_shares_well" ["_law_book","_law_people","_law_things","_law_wishes","_law_place","_law_way"] (FR K cB):=by
 have nd:=(EO).nd
 refine M.f__law_shares_well.ok EO (λvs H Q E h=>?_) (λ_ _ _ _ _ _ us hl=>match us,hl with|[_,_,_,_,_,_],_=>rfl) (λf a1 A aQ s H vs Q E hr h=>?_)
 ·obtain⟨s0,d,w,pl,tl,ps,g,m,a,U,rfl,aq,rp,rt,am,av,au,I,B,q⟩:=h
  rfl
 obtain⟨s0,d,w,pl,tl,ps,g,m,a,U,rfl,aq,rp,rt,am,av,au,I,B,q⟩:=h
 refine⟨_,(rq (rG (i:=6) nd rfl (Or.inr rfl) (rN rL (rW G_law_table_by hr (by decide) rfl Eh (mM (pv 5) (mM (pv 3) rr))) (pv 4) (λ_ _=>rfl)))
   (rq (sF (i:=7) nd rfl rfl rfl rfl (N:=["_law_thing","_law_things","_law_row"]) (caps:=[none,some 2,some 6]) (CompOk.of (by kernel_rfl)) (rY rfl) (uy (rN rL (pv 3) (pv 4) (λ_ _=>rfl))) (λ_ _ _ _=>(rK (i:=0) (show(["_law_thing","_law_things","_law_row"]:List Str).Nodup by decide +kernel) rfl (Or.inl rfl) (Or.inr rfl))) (λ_ _ _ _=>(tZ (rR D7 (rN (tX (K:=K) rfl) (rN (tX (K:=K) rfl) (pv 2) (pv 0) (λ_ _=>rfl)) rE (λ_ _=>rfl)) rE (Ej _)))) (λ_ _ _ _=>(sI (mM (rN (sV (K:=K) rfl) (pv 1) (pv 0) (λ_ _=>rfl)) (mM (rN (tX (K:=K) rfl) (pv 2) (pv 0) (λ_ _=>rfl)) rr)))))
   (rq (sT dA rfl (rZ rfl M.b_range (mM rE rr)) (rK (i:=8) nd rfl (Or.inl rfl)) (rq (rG (i:=9) nd rfl (Or.inl rfl) (vK (pl:=_) (pv 0) M.cl GBook_shares hr (by decide) FG (mM (rN rL (pv 1) (pv 4) (λ_ _=>rfl)) (mM (pv 5) rr))))
   (rq (sA (tI (sS (rW G_law_same hr (by decide) rfl Eh (mM (pv 9) (mM (pv 7) rr))))) (rD (rM uk)) rX)
   (rD (sY (xp dI jn jo wE (pv 9)))))))
   (rD (rM uk))))),?_⟩
 try dsimp -proj only[sd,rS,rV]
 have ab:(2:Nat)<=sizeLine:=by decide
 obtain⟨us,W,R,hb,hw,hu,hT,hW,hall,aY⟩:=aq.all rp
 have aG:=rp.hi
 have aV:=hW.len
 have aW:=Paired.len hu
 refine⟨_,rfl,_,rfl,w,us,W,ps.length,U,rfl,B,SqL.of hw,hu,hW,λZ T q1 aZ H1 ao S1 aS aI hZ=>?_⟩
 have L:=ao.tb hW
 have aX:=L.reg.len
 have ak:=L.t0
 obtain⟨uv,aM,ra,gs,rfl,aO,ae⟩:=Paired.get hZ (cz (show a<Z.length by omega))
 obtain⟨wv,aK,wa,rfl,ac⟩:=Paired.get hu (cz (show a<W.length by omega))
 have j:=hW.pm _ (cW (show a<W.length by omega))
 have aw:=L.reg.cols _ (cW (show a<Z.length by omega))
 have ai:∀t:Int,0<=EM.at0 (Z.getD a []) t:=λt=>L.reg.nn a t.toNat
 rw[show W[a]=W.getD a []from(HM.getD_lt (show a<W.length by omega)).symm]at ac j
 rw[show Z[a]=Z.getD a []from(HM.getD_lt (show a<Z.length by omega)).symm]at ae aw
 obtain⟨b,ag⟩:∃b,b=W.getD a []:=⟨_,rfl⟩
 obtain⟨z,ez⟩:∃z,z=Z.getD a []:=⟨_,rfl⟩
 rw[<-ag]at ac j
 rw[<-ez]at ae aw ai
 have aT:=j.len
 have aa:=S1.tup ac
 refine⟨_,rfl,q1,_,_,_,rfl,rfl,SqL.of aI,sr aM,?_⟩
 refine⟨_,rfl,_,rfl,w,_,_,_,rfl,rfl,SqL.of (S1 _ _ hw),sr aK,wa,rfl,⟨_,aa⟩,?_⟩
 refine ug (xs:=b.map V.int) (λi p v=>Same H1 v/\dr (IsShr K v T) p (EB g (b.take i) z)) ⟨Same.refl _,.nil⟩ (λi p v _ u=>u.1.tup aa) (λi y p v G u=>?_) (λp v u l hl=>?_)
 ·obtain⟨r,o⟩:=u
  rw[cH]at G
  cases S:b[i]? with
  | none=>rw[S]at G;cases G
  | some t=>
   rw[S]at G
   have aE:V.int t=y:=Option.some.inj G
   subst aE
   have O:=j.mem.mp (da S)
   have aD:t.toNat<z.length:=by omega
   have aB:(fr T z)[t.toNat]?=some (FQ.red (EM.at0 z t) T):=by
    unfold fr EM.at0
    rw[cH,cC,cz aD]
    rfl
   obtain⟨fv,al,fg,rfl,ap⟩:=Paired.get ae aB
   have aC:=Paired.len o
   have ax:p.length<sizeLine:=by
    rw[aC]
    unfold EB
    rw[cx]
    have h1:=d6 (λt=>decide (EM.at0 z t≠0)) (b.take i)
    rw[cV]at h1
    exact Ed (by omega)
   have aA:EB g (b.take (i+1)) z=EB g (b.take i) z++if EM.at0 z t≠0 then[(g.getD t.toNat ea,EM.at0 z t)]else[]:=by
    unfold EB
    rw[cY,S,gm,cS]
    by_cases c:EM.at0 z t=0
    ·simp[c]
    ·simp[c]
   have ah:=r.tup aO
   refine⟨_,rfl,_,rfl,ra,gs,t,_,rfl,rfl,ah,sJ O.1 al,fg,_,0,_,rfl,rfl,r.tup ap,rfl,_,_,rfl,rfl,_,rfl,?_⟩
   rw[aA]
   refine EE (λc=>?_) (λc=>?_)
   ·have hn:EM.at0 z t≠0:=(Ab ak (ai t)).mp c
    have J:t.toNat<g.length:=by omega
    have az:(g.map V.str)[t.toNat]?=some (.str (g.getD t.toNat ea)):=by rw[cH,cC,cz J];rfl
    refine⟨_,rfl,_,rfl,tl,_,t,_,rfl,rfl,(S1.trans r).seq au,sJ O.1 az,_,rfl,_,rfl,ra,gs,t,_,rfl,rfl,ah,sJ O.1 al,ab,λtp aF=>?_⟩
    have D:=rz aF (.tup [.str (g.getD t.toNat ea),.ref fg])
    refine⟨ax,r.trans D,?_⟩
    rw[if_pos hn]
    exact Paired.app (Paired.mapP o λ_ _ h=>h.mono D) (.cons ⟨tp,fg,rfl,SqT.of rC,⟨fg,rfl,(r.trans D).tup ap⟩⟩ .nil)
   ·have hn:¬EM.at0 z t≠0:=λe0=>c ((Ab ak (ai t)).mpr e0)
    refine⟨r,?_⟩
    rw[if_neg hn,fV]
    exact o
 obtain⟨r,o⟩:=u
 rw[cx,dj]at o
 have D:=rz hl (.lst p)
 have an:upd v l (.lst p) l=some (.lst p):=rC
 have C:=Paired.mapP o λ_ _ (h:IsShr K v T _ _)=>h.mono D
 have ad:=S1.trans (r.trans D)
 generalize upd v l (.lst p)=H3 at D an C ad ⊢
 have aU:(EB g b z).length<=6:=by
  unfold EB
  rw[cx]
  have h1:=d6 (λt=>decide (EM.at0 z t≠0)) b
  omega
 have aJ:∀x∈EB g b z,GM x.1:=λx X=>by
  unfold EB at X
  obtain⟨t,ht,rfl⟩:=dv.mp X
  have O:=j.mem.mp (d8.mp ht).1
  have J:t.toNat<g.length:=by omega
  show GM (g.getD t.toNat ea)
  rw[cC,cz J]
  exact(rt.ok _ (cW J)).2
 have aR:=Paired.len C
 have aH:(ps.map V.str)[a]?=some (.str ps[a]):=by rw[cH,cz I];rfl
 refine⟨2,rfl,by decide,by decide,?_⟩
 refine sj (n:=2) (λi σ H4=>Same H3 H4/\∃k f,σ=[some (.ref s0),some (.ref pl),some (.ref tl),some (.ref w),some (.int a),some (.str U),some (.ref ra),some (.ref l),k,f]) ⟨Same.refl _,_,_,rfl⟩ (λi σ H4 hi hP=>?_) (λσ H4 hP=>?_)
 ·obtain⟨Y,k,f,rfl⟩:=hP
  have af:=ad.trans Y
  have ar:=hb.mono af
  obtain⟨dx,pp,pt,op,ot,h1,h2,h3,h4,h5,h6⟩:=ar.ex
  refine⟨_,rfl,s0,dx,_,rfl,h1,rfl,_,rfl,_,rfl,pl,_,_,_,rfl,rfl,af.seq av,sr aH,_,rfl,?_⟩
  refine⟨s0,d,ps,g,R,ps[a],U,rfl,ar,dg aG (by decide),am,(λz=>absurd (cW I) z),(λ_ ⟨y,G,e⟩=>absurd e (hall y G)),λ_ _=>⟨W,hT.mono af,hW,(λn1 n2=>by rcases B with z|z;exact absurd z n1;exact absurd z n2),λZ' T' l' xs H5 ay S5 aL aj X=>?_⟩⟩
  obtain⟨rfl,rfl⟩:=ao.uniq ay
  rw[yG rp.nd I,<-ag,<-ez]at X
  have a0:=Paired.len X
  have aP:=(Y.trans S5) _ _ an
  have aN:=Paired.mapP C λ_ _ (h:IsShr K H3 _ _ _)=>h.mono (Y.trans S5)
  refine⟨_,rfl,_,rfl,_,_,_,rfl,.lst (SqL.of aj) (Reps.of_shr X) (by omega),.lst (SqL.of aP) (Reps.of_shr aN) (by omega),Dr aJ,_,rfl,Eu ?_⟩
  refine⟨_,rfl,.inl ⟨rfl,_,SqL.of aj⟩,l',_,rfl,rfl,aj,?_⟩
  exact⟨Y.trans (S5.over aL _),_,_,rfl⟩
 ·obtain⟨Y,k,f,rfl⟩:=hP
  exact q H4 (ad.trans Y)
theorem E4:Ef ["_law_book","_law_people","_law_things","_law_wishes","_law_way","_law_number","_law_deal","_law_due","_law_k","_law_found"] ["_law_book","_law_people","_law_things","_law_wishes","_law_way","_law_number"] (Ec (Eg 63)):=⟨rfl,rfl,rfl,by decide +kernel,rfl,by decide +kernel,by decide +kernel⟩
theorem Gg(M:Md K mg x cB)
  (G_law_table_by:Dn P w K mg base Em 8 "_law_table_by" ["_law_way","_law_wishes"] (HR K))
  (Glots_of:Dn P w K mg base Em 8 "lots_of" ["table"] (GT K))
  (Gpicked:Dn P w K mg base (FH P w) 4 "picked" ["lots","number"] (G1 K x))
  (GBook_deal:Mn P w K mg base (FH P w) 9 cB "deal" ["self","way","number"] (Ic K cB x))
  (G_law_same:Dn P w K mg base Em 4 "_law_same" ["_law_found","_law_due"] (HJ K 3)):Dn P w K mg base Em 10 "_law_deal_well" ["_law_book","_law_people","_law_things","_law_wishes","_law_way","_law_number"] (Hf K cB):=by
 have nd:=(E4).nd
 refine M.f__law_deal_well.ok E4 (λvs H Q E h=>?_) (λ_ _ _ _ _ _ us hl=>match us,hl with|[_,_,_,_,_,_],_=>rfl) (λf a2 A aV s H vs Q E r h=>?_)
 ·obtain⟨s0,d,w,pl,tl,g,b,o,m,L,aj,rfl,ax,rp,rt,ap,ak,az,C,hg,ab,ah,aa,q⟩:=h
  rfl
 obtain⟨s0,d,w,pl,tl,g,b,o,m,L,aj,rfl,ax,rp,rt,ap,ak,az,C,hg,ab,ah,aa,q⟩:=h
 refine⟨_,(rq (rG (i:=6) nd rfl (Or.inr rfl) (rW Gpicked r (by decide) rfl FG (mM (rW Glots_of r (by decide) rfl Eh (mM (rW G_law_table_by r (by decide) rfl Eh (mM (pv 4) (mM (pv 3) rr))) rr)) (mM (pv 5) rr))))
   (rq (sF (i:=7) nd rfl rfl rfl rfl (N:=["_law_k","_law_people","_law_things","_law_deal"]) (caps:=[none,some 1,some 2,some 6]) (CompOk.of (by kernel_rfl)) (rY rfl) (rZ rfl M.b_range (mM (rJ rP rfl M.b_len dD (mM (pv 1) rr)) rr)) (λ_ _ _ _=>(rK (i:=0) (show(["_law_k","_law_people","_law_things","_law_deal"]:List Str).Nodup by decide +kernel) rfl (Or.inl rfl) (Or.inr rfl))) (λ_ _ _ _=>su) (λ_ _ _ _=>(sI (mM (rN (sV (K:=K) rfl) (pv 1) (pv 0) (λ_ _=>rfl)) (mM (rN (sV (K:=K) rfl) (pv 2) (rN (tX (K:=K) rfl) (pv 3) (pv 0) (λ_ _=>rfl)) (λ_ _=>rfl)) rr)))))
   (rq (sT dA rfl (rZ rfl M.b_range (mM rE rr)) (rK (i:=8) nd rfl (Or.inl rfl)) (rq (rG (i:=9) nd rfl (Or.inl rfl) (vK (pl:=_) (pv 0) M.cl GBook_deal r (by decide) FG (mM (pv 4) (mM (pv 5) rr))))
   (rq (sA (tI (sS (rW G_law_same r (by decide) rfl Eh (mM (pv 9) (mM (pv 7) rr))))) (rD (rM uk)) rX)
   (rD (sY (xp dI jn jo wE (pv 9)))))))
   (rD (rM uk))))),?_⟩
 try dsimp -proj only[sd,rS,rV]
 have ad:(2:Nat)<=sizeLine:=by decide
 obtain⟨us,W,R,hb,hw,hu,hT,hW,hall,a0⟩:=ax.all rp
 have aw:=rp.hi
 refine⟨_,rfl,_,rfl,w,us,W,b.length,L,rfl,C,SqL.of hw,hu,hW,λZ T q1 aR H1 af S1 aX aM hZ=>?_⟩
 have ag:=af.tb hW
 refine⟨q1,aR,Z,T,b.length,rfl,SqL.of aM,hZ,ag,λk pL ls H2 G S2 aY hL aU=>?_⟩
 have ao:=S1.trans S2
 have aK:=Ax ag (af.le hW) G
 refine⟨_,rfl,pL,g,ls,_,T,b.length,aj,rfl,SqL.of hL,aU,aK,hg.mono ao,ab,ah,(λr=>absurd r aa),λ_ i v H3 u S3 aN=>?_⟩
 obtain⟨va,rfl,ac⟩:=aN
 have aq:i<k:=by
  have:=u.lt
  unfold HM.lotsL at this
  rwa[cx,fb]at this
 have ed:(HM.lotsL Z T k).getD i (0,[])=HM.lotAt Z T i:=by
  unfold HM.lotsL
  rw[cC,cH,d9 aq]
  rfl
 have O:=(Ag ag G aq).1
 rw[ed]at ac
 obtain⟨c,ay⟩:∃c,c=(HM.lotAt Z T i).2:=⟨_,rfl⟩
 rw[<-ay]at ac O
 have aG:=O.len
 have ae:=ao.trans S3
 have aD:(Ei o c).length=b.length:=by unfold Ei;rw[cx,aG]
 have aT:(b.zip (Ei o c)).length=b.length:=by rw[oG,aD,Nat.min_self]
 refine⟨_,rfl,pl,_,rfl,.inl (ae.seq ak),(b.length:Int),by rw[cx],CA _,Cw (dg aw (by decide)),?_⟩
 refine sP (n:=b.length) (λj p I=>Same H3 I/\dr (JL K I) p ((b.zip (Ei o c)).take j)) ⟨Same.refl _,.nil⟩ (λj p I hj J=>?_) (λp I J l hl=>?_)
 ·obtain⟨S4,B⟩:=J
  have ai:j<c.length:=by omega
  have aQ:=O.mem.mp (cW ai)
  have aF:(c[j]).toNat<o.length:=by omega
  have aB:(o.map V.str)[(c[j]).toNat]?=some (.str (o.getD (c[j]).toNat ea)):=by rw[cH,cC,cz aF];rfl
  have aL:(b.map V.str)[j]?=some (.str b[j]):=by rw[cH,cz hj];rfl
  have aI:(c.map V.int)[j]?=some (.int c[j]):=by rw[cH,cz ai];rfl
  have aH:=Paired.len B
  rw[cV]at aH
  have ar:=ae.trans S4
  have aE:(b.zip (Ei o c))[j]?=some (b[j],o.getD (c[j]).toNat ea):=by
   rw[i4]
   refine⟨cz hj,?_⟩
   unfold Ei
   rw[cH,cz ai]
   rfl
  refine⟨_,rfl,_,rfl,pl,_,_,_,rfl,rfl,ar.seq ak,by rw[d3];exact sr aL,_,rfl,_,rfl,_,rfl,va,_,_,_,rfl,rfl,S4.tup ac,by rw[d3];exact sr aI,tl,_,_,_,rfl,rfl,ar.seq az,sJ aQ.1 aB,ad,λtp aJ=>?_⟩
  have S:=rz aJ (.tup [.str b[j],.str (o.getD (c[j]).toNat ea)])
  refine⟨Ed (by omega),S4.trans S,?_⟩
  rw[cY,aE]
  exact Paired.app (Paired.mapP B λ_ _ ⟨a,e,h⟩=>⟨a,e,S.tup h⟩) (.cons ⟨tp,rfl,SqT.of rC⟩ .nil)
 obtain⟨S4,B⟩:=J
 rw[<-aT,dj]at B
 have S:=rz hl (.lst p)
 have av:upd I l (.lst p) l=some (.lst p):=rC
 have D:dr (JL K (upd I l (.lst p))) p (b.zip (Ei o c)):=Paired.mapP B λ_ _ ⟨a,e,h⟩=>⟨a,e,S.tup h⟩
 have al:=ae.trans (S4.trans S)
 generalize upd I l (.lst p)=H5 at S av D al ⊢
 have aO:∀x∈b.zip (Ei o c),GM x.1/\GM x.2:=λx hx=>by
  obtain⟨x1,x2⟩:=x
  have hm:=jS hx
  exact⟨(rp.ok _ hm.1).2,(rt.ok _ (v6 (λt ht=>by have:=O.mem.mp ht;omega) _ hm.2)).2⟩
 have aW:=Paired.len D
 refine⟨2,rfl,by decide,by decide,?_⟩
 refine sj (n:=2) (λi σ H6=>Same H5 H6/\∃k f,σ=[some (.ref s0),some (.ref pl),some (.ref tl),some (.ref w),some (.str L),some (.ref g),some (.ref va),some (.ref l),k,f]) ⟨Same.refl _,_,_,rfl⟩ (λi0 σ H6 aZ J=>?_) (λσ H6 J=>?_)
 ·obtain⟨X,k0,f,rfl⟩:=J
  have Y:=al.trans X
  have au:=hb.mono Y
  obtain⟨dx,pp,pt,op,ot,h1,h2,h3,h4,h5,h6⟩:=au.ex
  refine⟨_,rfl,s0,dx,_,rfl,h1,rfl,_,rfl,_,rfl,?_⟩
  refine⟨s0,d,g,b,o,R,L,aj,rfl,au,dg aw (by decide),ap,hg.mono Y,ab,ah,(λ⟨y,hy,e⟩=>absurd e (hall y hy)),λ_=>⟨W,hT.mono Y,hW,(λn1 n2=>by rcases C with z|z;exact absurd z n1;exact absurd z n2),(λ_ r=>absurd r aa),λ_ Z' T' k' i' l' xs H7 aA an U S7 aS am hx=>?_⟩⟩
  obtain⟨rfl,rfl⟩:=af.uniq aA
  cases G.uniq an
  cases u.uniq U
  rw[ed,<-ay]at hx
  have a1:=Paired.len hx
  have aC:=(X.trans S7) _ _ av
  have aP:dr (JL K H7) p (b.zip (Ei o c)):=Paired.mapP D λ_ _ ⟨a,e,h⟩=>⟨a,e,(X.trans S7).tup h⟩
  refine⟨_,rfl,_,rfl,_,_,_,rfl,.lst (SqL.of am) (Reps.of_pw hx) (by omega),.lst (SqL.of aC) (Reps.of_pw aP) (by omega),DM aO,_,rfl,Eu ?_⟩
  refine⟨_,rfl,.inl ⟨rfl,_,SqL.of am⟩,l',_,rfl,rfl,am,?_⟩
  exact⟨X.trans (S7.over aS _),_,_,rfl⟩
 ·obtain⟨X,k0,f,rfl⟩:=J
  exact q H6 (al.trans X)
theorem F3:Ef ["_law_book","_law_people","_law_things","_law_wishes","_law_place","_law_number"] ["_law_book","_law_people","_law_things","_law_wishes","_law_place","_law_number"] (Ec (Eg 64)):=⟨rfl,rfl,rfl,by decide +kernel,rfl,by decide +kernel,by decide +kernel⟩
theorem Ib(M:Md K mg x cB)
  (G_law_perm:Dn P w K mg base Em 1 "_law_perm" ["_law_number","_law_count"] (IZ))
  (GBook_wish:Mn P w K mg base (FH P w) 2 cB "wish" ["self","person","text"] (IL K cB x)):Dn P w K mg base Em 3 "_law_wish" ["_law_book","_law_people","_law_things","_law_wishes","_law_place","_law_number"] (GR K cB):=by
 have nd:=(F3).nd
 refine M.f__law_wish.ok F3 (λvs H Q E h=>?_) (λ_ _ _ _ _ _ g hl=>match g,hl with|[_,_,_,_,_,_],_=>rfl) (λf aG A aw s H vs Q E hr h=>?_)
 ·obtain⟨s0,d,w,pl,tl,e,b,qq,m,a,num,rfl,O,ac,rp,G,J,X,ah,n1,n2,u,q⟩:=h
  rfl
 obtain⟨s0,d,w,pl,tl,e,b,qq,m,a,num,rfl,O,ac,rp,G,J,X,ah,n1,n2,u,q⟩:=h
 refine⟨_,(rq (wo (sh sK rfl M.b_tuple Boot.«tuple» (mM (rW G_law_perm hr (by decide) rfl Eh (mM (pv 5) (mM (rJ rP rfl M.b_len dD (mM (pv 1) rr)) rr))) rr)) (wh (pv 3) (pv 4) wA))
   (rD (rM (vK (pl:=_) (pv 0) M.cl GBook_wish hr (by decide) FG (mM (rN rL (pv 1) (pv 4) (λ_ _=>rfl)) (mM (uP gF jF jG xZ sG (mM (sy rfl (N:=["_law_thing","_law_things"]) (caps:=[none,some 2]) (CompOk.of (by kernel_rfl)) (rY rfl) (uy (rN rL (pv 3) (pv 4) (λ_ _=>rfl))) (λ_ _ _ _=>(rK (i:=0) (show(["_law_thing","_law_things"]:List Str).Nodup by decide +kernel) rfl (Or.inl rfl) (Or.inr rfl))) (λ_ _ _ _=>su) (λ_ _ _ _=>(rN (sV (K:=K) rfl) (pv 1) (pv 0) (λ_ _=>rfl)))) rr)) rr)))))),?_⟩
 try dsimp -proj only[sd,rS,rV]
 obtain⟨g,W,R,hb,hw,hu,an,ad,hq⟩:=O.ex
 have aB:=rp.lo
 have aE:=rp.hi
 have aD:=Paired.len hu
 obtain⟨aF,au⟩:=O.dk
 refine⟨_,rfl,_,rfl,pl,_,rfl,.inl (SqL.of X),num,e.length,by rw[cx];rfl,by omega,λp1 H1 S1 ax aj=>?_⟩
 refine⟨p1,_,rfl,.inl ⟨SqL.of aj,λc ab=>?_⟩⟩
 have B:LN.Pm e.length (LM.perm num e.length):=C3 num e.length
 have T1:=rz ab (.tup ((LM.perm num e.length).map V.int))
 have I:upd H1 c (.tup ((LM.perm num e.length).map V.int)) c=some (.tup ((LM.perm num e.length).map V.int)):=rC
 have C:=S1.trans T1
 have aA:H c=none:=S1.free ab
 generalize upd H1 c (.tup ((LM.perm num e.length).map V.int))=p at C I ⊢
 have Y:=C _ _ hw
 have ao:Jt g.length (a:Int)=some a:=by
  unfold Jt
  rw[if_pos (by omega),if_pos (by omega)]
  exact congrArg some (by omega)
 refine⟨_,rfl,_,rfl,w,_,_,_,rfl,rfl,Y,ao,?_⟩
 have U3:SameBut2 d w H (upd p w (.lst (g.set a (.ref c)))):=(SameBut2.of C).trans (SameBut2.of2 SameBut1.upd)
 have v:upd p w (.lst (g.set a (.ref c))) w=some (.lst (g.set a (.ref c))):=rC
 have L:BookAt cB (upd p w (.lst (g.set a (.ref c)))) s0 d e b R:=(hb.mono C).overL Y
 have k:upd p w (.lst (g.set a (.ref c))) c=some (.tup ((LM.perm num e.length).map V.int)):=by rw[rH (sN I Y (λz=>nomatch z))];exact I
 have U:upd p w (.lst (g.set a (.ref c))) pl=some (.lst (e.map V.str)):=by rw[rH n1];exact C _ _ X
 have S:upd p w (.lst (g.set a (.ref c))) tl=some (.lst (b.map V.str)):=by rw[rH n2];exact C _ _ ah
 generalize upd p w (.lst (g.set a (.ref c)))=H3 at U3 v L k U S ⊢
 obtain⟨dx,pp,pt,op,ot,h1,h2,h3,h4,h5,h6⟩:=L.ex
 have ar:(e.map V.str)[a]?=some (.str e[a]):=by rw[cH,cz u];rfl
 have am:(g.set a (.ref c))[a]?=some (.ref c):=by rw[jx,if_pos rfl,if_pos (by omega)]
 rw[<-J]at k B
 have ai:=wP (num:=num) G
 obtain⟨ok,az,aC⟩:=wF (num:=num) G
 refine⟨_,rfl,s0,dx,_,rfl,h1,rfl,_,rfl,_,rfl,pl,_,_,_,rfl,rfl,SqL.of U,sr ar,rfl,_,rfl,_,rfl,w,_,_,_,rfl,rfl,SqL.of v,sr am,c,rfl,⟨_,SqT.of k⟩,?_⟩
 refine vo (xs:=(LM.perm num b.length).map V.int) (λj ys D=>D=H3/\ys=(Ei b ((LM.perm num b.length).take j)).map V.str) ⟨rfl,rfl⟩ (λj ys D _ Z=>by rw[Z.1];exact SqT.of k) (λj y ys D T Z=>?_) (λys D Z l hl=>?_)
 ·obtain⟨rfl,rfl⟩:=Z
  rw[cH]at T
  cases o:(LM.perm num b.length)[j]? with
  | none=>rw[o]at T;cases T
  | some t=>
   rw[o]at T
   have aq:V.int t=y:=Option.some.inj T
   subst aq
   have ag:=yk t (da o)
   have hj:=(cL.mp o).1
   rw[LM.perm_len]at hj
   have ak:(b.map V.str)[t.toNat]?=some (.str (b.getD t.toNat ea)):=by rw[cH,cC,cz ag.2];rfl
   refine⟨_,rfl,_,rfl,tl,_,t,_,rfl,rfl,SqL.of S,sJ ag.1 ak,Ed (by unfold Ei;rw[cx,cx,cV];omega),rfl,?_⟩
   unfold Ei
   rw[cY,o,cS,cS]
   rfl
 obtain⟨rfl,rfl⟩:=Z
 rw[cx,dj]
 have n:=rz hl (.lst ((Ei b (LM.perm num b.length)).map V.str))
 have ae:upd D l (.lst ((Ei b (LM.perm num b.length)).map V.str)) l=some (.lst ((Ei b (LM.perm num b.length)).map V.str)):=rC
 generalize upd D l (.lst ((Ei b (LM.perm num b.length)).map V.str))=H5 at n ae ⊢
 have aa:(L2.wordsOf (fh " " (Ei b (LM.perm num b.length)))).Perm b:=by rw[ai];exact x5 B
 refine⟨_,l,_,rfl,rfl,SqL.of ae,by decide,ok.sumk,?_⟩
 refine⟨s0,d,e,b,R,e[a],fh " " (Ei b (LM.perm num b.length)),rfl,L.mono n,dg G.hi (by decide),(λw hw=>(G.ok w hw).2),ok.out.1,ok.out.2.1,ok.out.2.2,eQ ad (lB ac (by decide)),(λz=>absurd (cW u) z),(λ_ z=>absurd aa z),λ_ _ r H6 U6 ay af al=>?_⟩
 rw[ai,xx G B]at af
 have av:=n _ _ h6
 have ap:w≠d:=sN v h6 (λz=>nomatch z)
 refine q H6 ((U3.trans (SameBut2.of n)).trans (SameBut2.of1 U6)) (Bk52.put rp au hw hu an ad hq ((U3.trans (SameBut2.of n)).trans (SameBut2.of1 U6)) (cz u) al (U6 _ _ ap (n _ _ v)) ⟨r,rfl,SqT.of af⟩ ⟨c,rfl,SqT.of (U6 _ _ (sN (n _ _ k) av (λz=>nomatch z)) (n _ _ k))⟩ (J▸B))
theorem Fk:Ef ["_law_book","_law_people","_law_things","_law_xs","_law_words_here","_law_refused_here"] ["_law_book","_law_people","_law_things","_law_xs"] (Ec (Eg 65)):=⟨rfl,rfl,rfl,by decide +kernel,rfl,by decide +kernel,by decide +kernel⟩
theorem GW(M:Md K mg x cB)
  (G_law_perm:Dn P w K mg base Em 1 "_law_perm" ["_law_number","_law_count"] (IZ))
  (GBook_wish:Mn P w K mg base (FH P w) 2 cB "wish" ["self","person","text"] (IL K cB x)):Dn P w K mg base Em 3 "_law_refused" ["_law_book","_law_people","_law_things","_law_xs"] (Go K cB):=by
 have nd:=(Fk).nd
 refine M.f__law_refused.ok Fk (λvs H Q E h=>?_) (λ_ _ _ _ _ _ us hl=>match us,hl with|[_,_,_,_],_=>rfl) (λf aD A az s H vs Q E hr h=>?_)
 ·obtain⟨s0,d,w,pl,tl,J,p,a,qq,m,xs,rfl,ak,aj,rp,C,ah,v,af,r,Z,q⟩:=h
  rfl
 obtain⟨s0,d,w,pl,tl,J,p,a,qq,m,xs,rfl,ak,aj,rp,C,ah,v,af,r,Z,q⟩:=h
 refine⟨_,(rq (sF (i:=4) nd rfl rfl rfl rfl (N:=["_law_thing","_law_things"]) (caps:=[none,some 2]) (CompOk.of (by kernel_rfl)) (rY rfl) (sZ (rW G_law_perm hr (by decide) rfl Eh (mM (rN rL (pv 3) rE (λ_ _=>rfl)) (mM (rJ rP rfl M.b_len dD (mM (pv 1) rr)) rr)))) (λ_ _ _ _=>(rK (i:=0) (show(["_law_thing","_law_things"]:List Str).Nodup by decide +kernel) rfl (Or.inl rfl) (Or.inr rfl))) (λ_ _ _ _=>su) (λ_ _ _ _=>(rN (sV (K:=K) rfl) (pv 1) (pv 0) (λ_ _=>rfl))))
   (rq (sA (rR tS (rO sg (rN rL (pv 3) rE (λ_ _=>rfl)) rE) rE (Ej _)) (rD (wo (rO ue (uP gF jF jG xZ sG (mM (pv 2) rr)) sG) (wh (pv 4) (rO sg (rO tJ (rN rL (pv 3) rE (λ_ _=>rfl)) rE) (rJ rP rfl M.b_len dD (mM (pv 4) rr))) wA))) (rD (sA (rR tS (rO sg (rN rL (pv 3) rE (λ_ _=>rfl)) rE) rE (Ej _)) (rD (sY (uP dI fT fU tM (pv 4) (mM (rN rL (pv 4) rE (λ_ _=>rfl)) rr)))) (rD (sY (xp dI PySem.F.slot_list_pop PySem.F.type_list_pop DT (pv 4)))))))
   (rq (rG (i:=5) nd rfl (Or.inl rfl) uk)
   (rq (CY rfl rfl M.x_NoWishes rfl (C5 (Dy (pl:=_) (pv 0) M.cl GBook_wish hr (by decide) (mM (rN rL (pv 1) (rO sg (rN rL (pv 3) rE (λ_ _=>rfl)) (rJ rP rfl M.b_len dD (mM (pv 1) rr))) (λ_ _=>rfl)) (mM (uP gF jF jG xZ sG (mM (pv 4) rr)) rr)))) (λ_=>(rD (rG (i:=5) nd rfl (Or.inl rfl) uk))))
   (rD (rM (pv 5))))))),?_⟩
 try dsimp -proj only[sd,rS,rV]
 obtain⟨us,W,R,hb,hw,hu,aA,ay,hq⟩:=ak.ex
 obtain⟨dx,pp,pt,op,ot,h1,h2,h3,h4,h5,h6⟩:=hb.ex
 have aq:=rp.lo
 have aB:=rp.hi
 have at0:=vO (ns:=xs) (i:=0) (Z.symm▸by decide)
 have ap:=vO (ns:=xs) (i:=3) (Z.symm▸by decide)
 have ag:=vO (ns:=xs) (i:=4) (Z.symm▸by decide)
 have U:(0:Int)<((p.map V.str).length:Int):=by rw[cx];exact Int.natCast_pos.mpr aq
 have aa:a.length<=60:=dg C.hi (by decide)
 have ab:R.length<1000:=eQ ay (lB aj (by decide))
 refine⟨_,rfl,J,_,_,_,rfl,rfl,r,ap,_,rfl,pl,_,rfl,.inl v,xs.getD 3 0,a.length,by rw[cx,ah];rfl,by omega,λp0 H1 S1 aC O=>?_⟩
 generalize xs.getD 3 0=num at O
 obtain⟨T,an,X⟩:=wF (num:=num) C
 have am:=S1.seq af
 refine⟨p0,rfl,⟨_,SqL.of O⟩,?_⟩
 refine sU (xs:=(LM.perm num a.length).map V.int) (λj ys D=>D=H1/\ys=(Ei a ((LM.perm num a.length).take j)).map V.str) ⟨rfl,rfl⟩ (λj ys D _ hP=>by rw[hP.1];exact SqL.of O) (λj y ys D hy hP=>?_) (λys D hP l hl=>?_)
 ·obtain⟨rfl,rfl⟩:=hP
  rw[cH]at hy
  cases L:(LM.perm num a.length)[j]? with
  | none=>rw[L]at hy;cases hy
  | some t=>
   rw[L]at hy
   have ax:V.int t=y:=Option.some.inj hy
   subst ax
   have al:=yk t (da L)
   have hj:=(cL.mp L).1
   rw[LM.perm_len]at hj
   have ao:(a.map V.str)[t.toNat]?=some (.str (a.getD t.toNat ea)):=by rw[cH,cC,cz al.2];rfl
   refine⟨_,rfl,_,rfl,tl,_,t,_,rfl,rfl,am,sJ al.1 ao,Ed (by unfold Ei;rw[cx,cx,cV];omega),rfl,?_⟩
   unfold Ei
   rw[cY,L,cS,cS]
   rfl
 obtain⟨rfl,rfl⟩:=hP
 rw[cx,dj]
 have S2:Same D (upd D l (.lst ((Ei a (LM.perm num a.length)).map V.str))):=rz hl _
 have o:upd D l (.lst ((Ei a (LM.perm num a.length)).map V.str)) l=some (.lst ((Ei a (LM.perm num a.length)).map V.str)):=rC
 have ae:H l=none:=S1.free hl
 generalize upd D l (.lst ((Ei a (LM.perm num a.length)).map V.str))=H3 at S2 o ⊢
 have ar:Ei a (LM.perm num a.length)≠[]:=λz=>by rw[z,jU]at X;omega
 generalize Ei a (LM.perm num a.length)=b at T an X o ar
 have S:=S1.trans S2
 have Y:(b.map V.str).length=b.length:=cx ..
 have i0:=dO (xs.getD 0 0) (show(p.length:Int)≠0 by omega)
 have i1:=dC (xs.getD 0 0) (show(0:Int)<p.length by omega)
 have ai:(xs.getD 0 0%(p.length:Int)).toNat<p.length:=by omega
 have ad:(p.map V.str)[(xs.getD 0 0%(p.length:Int)).toNat]?=some (.str p[(xs.getD 0 0%(p.length:Int)).toNat]):=by rw[cH,cz ai];rfl
 have ac:=cW ai
 refine⟨_,rfl,J,_,_,_,rfl,rfl,S.seq r,ag,_,_,rfl,rfl,by show(0:Int)<3;decide,rfl,_,rfl,EE (λc=>?_) (λc=>?_)⟩
 ·have k0:=dO (xs.getD 4 0/3) (show(b.length:Int)≠0 by omega)
  have k1:=dC (xs.getD 4 0/3) (show(0:Int)<b.length by omega)
  obtain⟨k,hk⟩:∃k:Nat,xs.getD 4 0/3%(b.length:Int)=(k:Int):=⟨(xs.getD 4 0/3%(b.length:Int)).toNat,by omega⟩
  have au:k<b.length:=by omega
  have aw:Jt (b.map V.str).length (k:Int)=some k:=by
   unfold Jt
   rw[Y,if_pos (by omega),if_pos (by omega)]
   exact congrArg some (by omega)
  obtain⟨f1,f2,f3,f4⟩:=Jy C
  refine⟨rfl,_,rfl,_,tl,a,rfl,rfl,S.seq af,by decide,C.sumk,_,_,rfl,rfl,dB (Ed f4),?_⟩
  refine⟨_,rfl,_,rfl,J,_,_,_,rfl,rfl,S.seq r,ag,_,_,rfl,rfl,c9 (by decide) (by decide),_,rfl,l,_,rfl,.inl (SqL.of o),_,_,rfl,rfl,by show(0:Int)<((b.map V.str).length:Int);rw[Y];omega,?_⟩
  dsimp only
  rw[Y,hk]
  refine⟨l,_,_,_,rfl,rfl,o,aw,?_⟩
  have g:=S.over ae (.lst ((b.map V.str).set k (.str (fh "" a++"q"))))
  have u:upd H3 l (.lst ((b.map V.str).set k (.str (fh "" a++"q")))) l=some (.lst ((b.set k (fh "" a++"q")).map V.str)):=by rw[rC,qr]
  generalize upd H3 l (.lst ((b.map V.str).set k (.str (fh "" a++"q"))))=H4 at g u ⊢

  have n:=T.gset (k:=k) f2 f3
  have I:=zR (k:=k) T au f1 f3
  refine⟨_,rfl,s0,dx,_,rfl,g _ _ h1,rfl,_,rfl,_,rfl,J,_,_,_,rfl,rfl,g.seq r,at0,_,rfl,pl,_,rfl,.inl (g.seq v),_,_,rfl,rfl,U,?_⟩
  dsimp only
  rw[cx]
  refine⟨pl,_,_,_,rfl,rfl,g.seq v,sJ i0 ad,rfl,_,rfl,_,l,_,rfl,rfl,SqL.of u,by decide,n.sumk,?_⟩
  refine⟨s0,d,p,a,R,_,_,rfl,hb.mono g,aa,(λw hw=>(C.ok w hw).2),n.out.1,n.out.2.1,n.out.2.2,ab,(λz=>absurd ac z),(λ_ _ H5 S5=>⟨x.NoWishes,rfl,M.e_NoWishes,λe he=>⟨_,rfl,q _ (g.trans (S5.trans (rz he _)))⟩⟩),(λ_ z=>absurd z I)⟩

 refine⟨_,rfl,J,_,_,_,rfl,rfl,S.seq r,ag,_,_,rfl,rfl,by show(0:Int)<3;decide,rfl,_,rfl,EE (λc2=>?_) (λc2=>?_)⟩
 ·obtain⟨B,G⟩:∃B,b[0]?=some B:=⟨_,cz (show 0<b.length by omega)⟩
  have av:(b.map V.str)[0]?=some (.str B):=by rw[cH,G];rfl
  refine⟨_,rfl,.inl ⟨rfl,_,SqL.of o⟩,_,rfl,l,_,_,_,rfl,rfl,SqL.of o,sr av,l,_,_,rfl,rfl,o,Ed (by rw[Y];omega),?_⟩
  have g:=S.over ae (.lst (b.map V.str++[.str B]))
  have u:upd H3 l (.lst (b.map V.str++[.str B])) l=some (.lst ((b++[B]).map V.str)):=by rw[rC,cS];rfl
  generalize upd H3 l (.lst (b.map V.str++[.str B]))=H4 at g u ⊢

  have n:=T.gapp (da G)
  have I:=Bk T (da G) X
  refine⟨_,rfl,s0,dx,_,rfl,g _ _ h1,rfl,_,rfl,_,rfl,J,_,_,_,rfl,rfl,g.seq r,at0,_,rfl,pl,_,rfl,.inl (g.seq v),_,_,rfl,rfl,U,?_⟩
  dsimp only
  rw[cx]
  refine⟨pl,_,_,_,rfl,rfl,g.seq v,sJ i0 ad,rfl,_,rfl,_,l,_,rfl,rfl,SqL.of u,by decide,n.sumk,?_⟩
  refine⟨s0,d,p,a,R,_,_,rfl,hb.mono g,aa,(λw hw=>(C.ok w hw).2),n.out.1,n.out.2.1,n.out.2.2,ab,(λz=>absurd ac z),(λ_ _ H5 S5=>⟨x.NoWishes,rfl,M.e_NoWishes,λe he=>⟨_,rfl,q _ (g.trans (S5.trans (rz he _)))⟩⟩),(λ_ z=>absurd z I)⟩

 ·obtain⟨B,G⟩:∃B,(b.map V.str)[(b.map V.str).length-1]?=some B:=⟨_,cz (show(b.map V.str).length-1<(b.map V.str).length by omega)⟩
  refine⟨_,rfl,.inl ⟨rfl,_,SqL.of o⟩,l,_,_,rfl,rfl,o,G,?_⟩
  have g:=S.over ae (.lst (b.map V.str).dropLast)
  have u:upd H3 l (.lst (b.map V.str).dropLast) l=some (.lst (b.dropLast.map V.str)):=by rw[rC,List.map_dropLast]
  generalize upd H3 l (.lst (b.map V.str).dropLast)=H4 at g u ⊢

  have n:=T.gdrop
  have I:=z5 T C X
  refine⟨_,rfl,s0,dx,_,rfl,g _ _ h1,rfl,_,rfl,_,rfl,J,_,_,_,rfl,rfl,g.seq r,at0,_,rfl,pl,_,rfl,.inl (g.seq v),_,_,rfl,rfl,U,?_⟩
  dsimp only
  rw[cx]
  refine⟨pl,_,_,_,rfl,rfl,g.seq v,sJ i0 ad,rfl,_,rfl,_,l,_,rfl,rfl,SqL.of u,by decide,n.sumk,?_⟩
  refine⟨s0,d,p,a,R,_,_,rfl,hb.mono g,aa,(λw hw=>(C.ok w hw).2),n.out.1,n.out.2.1,n.out.2.2,ab,(λz=>absurd ac z),(λ_ _ H5 S5=>⟨x.NoWishes,rfl,M.e_NoWishes,λe he=>⟨_,rfl,q _ (g.trans (S5.trans (rz he _)))⟩⟩),(λ_ z=>absurd z I)⟩
theorem FX:Ef ["_law_book","_law_people","_law_things","_law_wishes","_law_xs","_law_place","_law_way","_law_number"] ["_law_book","_law_people","_law_things","_law_wishes","_law_xs"] (Ec (Eg 66)):=⟨rfl,rfl,rfl,by decide +kernel,rfl,by decide +kernel,by decide +kernel⟩
theorem IG(M:Md K mg x cB)
  (G_law_wish:Dn P w K mg base Em 3 "_law_wish" ["_law_book","_law_people","_law_things","_law_wishes","_law_place","_law_number"] (GR K cB))
  (G_law_refused:Dn P w K mg base Em 3 "_law_refused" ["_law_book","_law_people","_law_things","_law_xs"] (Go K cB))
  (G_law_shares_well:Dn P w K mg base Em 10 "_law_shares_well" ["_law_book","_law_people","_law_things","_law_wishes","_law_place","_law_way"] (FR K cB))
  (G_law_lowest:Dn P w K mg base Em 2 "_law_lowest" ["_law_top","_law_bottom"] (HZ))
  (G_law_deal_well:Dn P w K mg base Em 10 "_law_deal_well" ["_law_book","_law_people","_law_things","_law_wishes","_law_way","_law_number"] (Hf K cB)):Dn P w K mg base Em 11 "_law_deed" ["_law_book","_law_people","_law_things","_law_wishes","_law_xs"] (Iq K cB):=by
 have nd:=(FX).nd
 refine M.f__law_deed.ok FX (λvs H Q E h=>?_) (λ_ _ _ _ _ _ us hl=>match us,hl with|[_,_,_,_,_],_=>rfl) (λf ak A ah s H vs Q E N h=>?_)
 ·obtain⟨s0,d,w,z,R,p,o,I,m,a,rfl,y,F,v,L,t,r,u,n1,n2,j,l,ae,q⟩:=h
  rfl
 obtain⟨s0,d,w,z,R,p,o,I,m,a,rfl,y,F,v,L,t,r,u,n1,n2,j,l,ae,q⟩:=h
 refine⟨_,(rq (rG (i:=5) nd rfl (Or.inl rfl) (rO sg (rN rL (pv 4) rE (λ_ _=>rfl)) (rJ rP rfl M.b_len dD (mM (pv 1) rr))))
   (rq (rG (i:=6) nd rfl (Or.inl rfl) (rN rL (t6 (mM sG (mM sG rr))) (sh xq rfl M.b_int Boot.«int» (mM (tK tS (rO sg (rN rL (pv 4) rE (λ_ _=>rfl)) rE) rE (Ej _)) rr)) (λ_ _=>rfl)))
   (rq (sA (rR tS (rO sg (rN rL (pv 4) rE (λ_ _=>rfl)) rE) rE (Ej _)) (rD (rM (tK Ah (rW G_law_wish N (by decide) rfl Eh (mM (pv 0) (mM (pv 1) (mM (pv 2) (mM (pv 3) (mM (pv 5) (mM (rN rL (pv 4) rE (λ_ _=>rfl)) rr))))))) v8 (Ej _)))) rX)
   (rq (sA (PW.pt (Cv (rR tS (rO sg (rN rL (pv 4) rE (λ_ _=>rfl)) rE) rE (Ej _)) (zW (tI (sS (rW G_law_refused N (by decide) rfl Eh (mM (pv 0) (mM (pv 1) (mM (pv 2) (mM (pv 4) rr)))))))))) (rD (rM uk)) rX)
   (rq (sA (rR zM (rO sg (rN rL (pv 4) rE (λ_ _=>rfl)) rE) rE (Ej _)) (rD (rM (rW G_law_shares_well N (by decide) rfl Eh (mM (pv 0) (mM (pv 1) (mM (pv 2) (mM (pv 3) (mM (pv 5) (mM (pv 6) rr))))))))) rX)
   (rq (rG (i:=7) nd rfl (Or.inl rfl) (rW G_law_lowest N (by decide) rfl Eh (mM (rO sg (rN rL (pv 4) rE (λ_ _=>rfl)) (rO sH rE (rO sg (rN rL (pv 4) rE (λ_ _=>rfl)) (rO Cq rE rE)))) (mM (rO sH rE (rO sg (rN rL (pv 4) rE (λ_ _=>rfl)) (rO Cq rE rE))) rr))))
   (rD (rM (rW G_law_deal_well N (by decide) rfl Eh (mM (pv 0) (mM (pv 1) (mM (pv 2) (mM (pv 3) (mM (pv 6) (mM (pv 7) rr))))))))))))))),?_⟩
 try dsimp -proj only[sd,rS,rV]
 have G:(2:Nat)<=sizeLine:=by decide
 have ai:=v.lo
 have aj:=v.hi
 have at0:=vO (ns:=a) (i:=0) (l.symm▸by decide)
 have ad:=vO (ns:=a) (i:=1) (l.symm▸by decide)
 have O:=vO (ns:=a) (i:=2) (l.symm▸by decide)
 have ab:=vO (ns:=a) (i:=3) (l.symm▸by decide)
 have af:=vO (ns:=a) (i:=4) (l.symm▸by decide)
 have Y:=vO (ns:=a) (i:=5) (l.symm▸by decide)
 have i0:=dO (a.getD 0 0) (show(o.length:Int)≠0 by omega)
 have i1:=dC (a.getD 0 0) (show(0:Int)<o.length by omega)
 obtain⟨e,aa⟩:∃e:Nat,a.getD 0 0%(o.length:Int)=(e:Int):=⟨(a.getD 0 0%(o.length:Int)).toNat,by omega⟩
 have U:e<o.length:=by omega
 refine⟨_,rfl,p,_,_,_,rfl,rfl,j,at0,_,rfl,z,_,rfl,.inl (SqL.of r),_,_,rfl,rfl,by show(0:Int)<((o.map V.str).length:Int);rw[cx];omega,?_⟩
 dsimp only
 rw[cx,aa]
 refine⟨G,λT ac=>?_⟩
 have b:=rz ac (.lst [V.str "eaten",V.str "turns"])
 have D:upd H T (.lst [V.str "eaten",V.str "turns"]) T=some (.lst [V.str "eaten",V.str "turns"]):=rC
 generalize upd H T (.lst [V.str "eaten",V.str "turns"])=H1 at b D ⊢
 obtain⟨W,X,ag⟩:=K4 (decide (V.int (a.getD 1 0%5)=V.int 1))
 refine⟨_,rfl,p,_,_,_,rfl,rfl,b.seq j,ad,_,_,rfl,rfl,by show(0:Int)<5;decide,rfl,.inr ⟨_,rfl,T,_,_,_,rfl,rfl,SqL.of D,ag,?_⟩⟩
 have p4:(0:Int)<4:=by decide
 refine⟨_,rfl,p,_,_,_,rfl,rfl,b.seq j,O,_,_,rfl,rfl,p4,rfl,_,rfl,EE (λc=>?_) (λc=>?_)⟩
 ·refine⟨_,rfl,_,rfl,_,rfl,_,rfl,_,rfl,_,rfl,p,_,_,_,rfl,rfl,b.seq j,ab,?_⟩
  refine⟨s0,d,w,z,R,o,I,_,m,e,_,rfl,y.mono b,F,v,L,t,b _ _ r,b _ _ u,n1,n2,U,λB U2 k=>⟨rfl,?_⟩⟩
  exact q B ((SameBut2.of b).trans U2) (k.imp (λi _ _=> .inl trivial) (cI _))
 refine⟨_,rfl,p,_,_,_,rfl,rfl,b.seq j,O,_,_,rfl,rfl,p4,rfl,_,rfl,?_⟩
 show if decide (V.int (a.getD 2 0%4)=V.int 1)=true then _ else _
 apply LF (λB=>Same H1 B) H1 (Same.refl _)
 case hA=>
  intro hG
  refine⟨_,rfl,_,rfl,_,rfl,_,rfl,?_⟩
  exact⟨s0,d,w,z,R,p,o,I,_,m,a,rfl,y.mono b,F,v,L,t,b.seq (SqL.of r),b.seq (SqL.of u),b.seq j,l,λB Z=>⟨_,rfl,Eu (hG B Z)⟩⟩
 intro B Z
 have n:=b.trans Z
 have k:=y.mono n
 refine⟨_,rfl,p,_,_,_,rfl,rfl,n.seq j,O,_,_,rfl,rfl,p4,_,_,rfl,rfl,_,rfl,EE (λc3=>?_) (λc3=>?_)⟩
 ·refine⟨_,rfl,_,rfl,_,rfl,_,rfl,_,rfl,_,rfl,?_⟩
  exact⟨s0,d,w,z,R,o,I,m,e,W,rfl,k,v,L,t,n.seq (SqL.of r),n.seq (SqL.of u),U,X,λH3 C=>q H3 (SameBut2.of (n.trans C)) ((k.mono C).imp (λi _ h=>h) (ec m))⟩
 have e6:(10:Int)^(6:Int).toNat=1000000:=by decide
 have b0:=dO (a.getD 5 0) (show(1000000:Int)≠0 by decide)
 have b1:=dC (a.getD 5 0) (show(0:Int)<1000000 by decide)
 have cp:K5 10 6:=⟨by decide,by decide,by decide⟩
 have t0:=dO (a.getD 4 0) (show(1+a.getD 5 0%1000000:Int)≠0 by omega)
 have t1:=dC (a.getD 4 0) (show(0:Int)<1+a.getD 5 0%1000000 by omega)
 have S:=n.seq j
 refine⟨_,rfl,p,_,_,_,rfl,rfl,S,af,_,rfl,p,_,_,_,rfl,rfl,S,Y,_,_,rfl,rfl,cp,_,_,rfl,rfl,by show(0:Int)<10^(6:Int).toNat;decide,_,_,rfl,rfl,_,_,rfl,rfl,by show(0:Int)<1+a.getD 5 0%10^(6:Int).toNat;rw[e6];omega,?_⟩
 refine⟨_,rfl,p,_,_,_,rfl,rfl,S,Y,_,_,rfl,rfl,cp,_,_,rfl,rfl,by show(0:Int)<10^(6:Int).toNat;decide,_,_,rfl,rfl,?_⟩
 dsimp only
 rw[e6]
 obtain⟨z1,z2,z3⟩:=Lp t0 t1 (by omega)
 refine⟨_,_,rfl,by omega,cU (show _<2^20 by omega) (eB (by decide) (by decide)),λg H3 C hg=>?_⟩
 have J:=n.trans C
 refine⟨_,rfl,_,rfl,_,rfl,_,rfl,_,rfl,_,rfl,?_⟩
 exact⟨s0,d,w,z,R,g,o,I,m,W,_,rfl,k.mono C,v,L,t,J.seq (SqL.of r),J.seq (SqL.of u),X,⟨g,rfl,SqT.of hg⟩,z1,z2,z3,λH4 S4=>q H4 (SameBut2.of (J.trans S4)) ((k.mono (C.trans S4)).imp (λi _ h=>h) (ec m))⟩
theorem JB:Ef ["_law_script","_law_count","_law_rolls","_law_handed","_law_books","_law_told","_law_j","_law_k","_law_xs","_law_cell","_law_way"] ["_law_script"] (Ec (Eg 67)):=⟨rfl,rfl,rfl,by decide +kernel,rfl,by decide +kernel,by decide +kernel⟩
theorem LU{fl:cG}{fdl:FuncData}(Fl:Fun K "law" "law" (Eg 67) fl fdl)(M:Md K mg x cB)
  (G_law_cell_at:Dn P w K mg base Em 1 "_law_cell_at" ["_law_script","_law_k"] (IU K))
  (G_law_words:Dn P w K mg base Em 2 "_law_words" ["_law_script","_law_at","_law_many"] (Hj K))
  (GBook___init__:Bn P w K mg base (FH P w) 4 cB "Book" ["self","people","things"] (JD K cB x))
  (G_law_mixed:Dn P w K mg base Em 1 "_law_mixed" ["_law_cell","_law_many"] (Jj))
  (G_law_wish:Dn P w K mg base Em 3 "_law_wish" ["_law_book","_law_people","_law_things","_law_wishes","_law_place","_law_number"] (GR K cB))
  (G_law_deed:Dn P w K mg base Em 11 "_law_deed" ["_law_book","_law_people","_law_things","_law_wishes","_law_xs"] (Iq K cB))
  (G_law_shares_well:Dn P w K mg base Em 10 "_law_shares_well" ["_law_book","_law_people","_law_things","_law_wishes","_law_place","_law_way"] (FR K cB)):FnOk P w K mg base Em 12 fl fdl ["_law_script"] (Jo K):=by
 have nd:=(JB).nd
 refine Fl.ok JB (λvs H Q E h=>?_) (λcm A ci s H vs Q E hr h=>?_)
 ·obtain⟨a,ns,rfl,hS,b8,q⟩:=h
  rfl
 obtain⟨a,ns,rfl,hS,b8,q⟩:=h
 refine⟨_,(rq (rG (i:=1) nd rfl (Or.inl rfl) (rO sH rE (rO sg (rW G_law_cell_at hr (by decide) rfl Eh (mM (pv 0) (mM rE rr))) rE)))
   (rq (rG (i:=2) nd rfl (Or.inl rfl) (t6 (mM (rW G_law_words hr (by decide) rfl Eh (mM (pv 0) (mM rE (mM (pv 1) rr)))) (mM (rW G_law_words hr (by decide) rfl Eh (mM (pv 0) (mM rE (mM (pv 1) rr)))) rr))))
   (rq (rG (i:=3) nd rfl (Or.inl rfl) (t6 (mM (sh sR rfl M.b_list Boot.«list» (mM (rN rL (pv 2) rE (λ_ _=>rfl)) rr)) (mM (sh sR rfl M.b_list Boot.«list» (mM (rN rL (pv 2) rE (λ_ _=>rfl)) rr)) rr))))
   (rq (rG (i:=4) nd rfl (Or.inl rfl) (t6 (mM (DS GBook___init__ hr (by decide) rfl FG (mM (rN rL (pv 3) rE (λ_ _=>rfl)) (mM (rN rL (pv 3) rE (λ_ _=>rfl)) rr))) (mM (DS GBook___init__ hr (by decide) rfl FG (mM (rN rL (pv 3) rE (λ_ _=>rfl)) (mM (rN rL (pv 3) rE (λ_ _=>rfl)) rr))) rr))))
   (rq (sY (xp dI jn jo wE (rN rL (pv 3) rE (λ_ _=>rfl))))
   (rq (sY (xp dI PySem.F.slot_list_reverse PySem.F.type_list_reverse zv (rN rL (pv 3) rE (λ_ _=>rfl))))
   (rq (rG (i:=5) nd rfl (Or.inl rfl) (t6 (mM (sy rfl (N:=["_law_k"]) (caps:=[none]) (CompOk.of (by kernel_rfl)) (rY rfl) (rZ rfl M.b_range (mM (pv 1) rr)) (λ_ _ _ _=>(rK (i:=0) (show(["_law_k"]:List Str).Nodup by decide +kernel) rfl (Or.inl rfl) (Or.inr rfl))) (λ_ _ _ _=>su) (λ_ _ _ _=>(sI rr))) (mM (sy rfl (N:=["_law_k"]) (caps:=[none]) (CompOk.of (by kernel_rfl)) (rY rfl) (rZ rfl M.b_range (mM (pv 1) rr)) (λ_ _ _ _=>(rK (i:=0) (show(["_law_k"]:List Str).Nodup by decide +kernel) rfl (Or.inl rfl) (Or.inr rfl))) (λ_ _ _ _=>su) (λ_ _ _ _=>(sI rr))) rr))))
   (rq (sT dA rfl (rZ rfl M.b_range (mM rE rr)) (rK (i:=6) nd rfl (Or.inl rfl)) (rD (sT dA rfl (rZ rfl M.b_range (mM (pv 1) rr)) (rK (i:=7) nd rfl (Or.inl rfl)) (rq (rG (i:=8) nd rfl (Or.inl rfl) (rW G_law_mixed hr (by decide) rfl Eh (mM (rW G_law_cell_at hr (by decide) rfl Eh (mM (pv 0) (mM (rO sH rE (pv 7)) rr))) (mM rE rr))))
   (rD (sA (rR zQ (rW G_law_wish hr (by decide) rfl Eh (mM (rN rL (pv 4) (pv 6) (λ_ _=>rfl)) (mM (rN rL (pv 2) (pv 6) (λ_ _=>rfl)) (mM (rN rL (pv 2) (rO wu rE (pv 6)) (λ_ _=>rfl)) (mM (rN rL (pv 5) (pv 6) (λ_ _=>rfl)) (mM (pv 7) (mM (rN rL (pv 8) (pv 6) (λ_ _=>rfl)) rr))))))) v8 (Ej _)) (rD (rM uk)) rX))))))
   (rq (sT dA rfl (sZ (vg Dp (pv 0) (uR rE) (uR rE))) (rK (i:=9) nd rfl (Or.inl rfl)) (rq (rG (i:=8) nd rfl (Or.inl rfl) (rW G_law_mixed hr (by decide) rfl Eh (mM (pv 9) (mM rE rr))))
   (rq (rG (i:=6) nd rfl (Or.inl rfl) (rO sg (rN rL (pv 8) rE (λ_ _=>rfl)) rE))
   (rD (sA (tI (sS (rW G_law_deed hr (by decide) rfl Eh (mM (rN rL (pv 4) (pv 6) (λ_ _=>rfl)) (mM (rN rL (pv 2) (pv 6) (λ_ _=>rfl)) (mM (rN rL (pv 2) (rO wu rE (pv 6)) (λ_ _=>rfl)) (mM (rN rL (pv 5) (pv 6) (λ_ _=>rfl)) (mM (pv 8) rr)))))))) (rD (rM uk)) rX)))))
   (rq (sT dA rfl (rZ rfl M.b_range (mM rE rr)) (rK (i:=6) nd rfl (Or.inl rfl)) (rD (sT dA rfl (rZ rfl M.b_range (mM (pv 1) rr)) (rK (i:=7) nd rfl (Or.inl rfl)) (rq (rG (i:=10) nd rfl (Or.inl rfl) (rN rL (t6 (mM sG (mM sG rr))) (sh xq rfl M.b_int Boot.«int» (mM (tK tS (pv 7) (rO sg (rW G_law_cell_at hr (by decide) rfl Eh (mM (pv 0) (mM rE rr))) (pv 1)) (Ej _)) rr)) (λ_ _=>rfl)))
   (rD (sA (tI (sS (rW G_law_shares_well hr (by decide) rfl Eh (mM (rN rL (pv 4) (pv 6) (λ_ _=>rfl)) (mM (rN rL (pv 2) (pv 6) (λ_ _=>rfl)) (mM (rN rL (pv 2) (rO wu rE (pv 6)) (λ_ _=>rfl)) (mM (rN rL (pv 5) (pv 6) (λ_ _=>rfl)) (mM (pv 7) (mM (pv 10) rr))))))))) (rD (rM uk)) rX))))))
   (rD (rM uk)))))))))))),?_⟩
 try dsimp -proj only[sd,rS,rV]
 have aC:(0:Nat)<=sizeLine:=by decide
 have L:(2:Nat)<=sizeLine:=by decide
 obtain⟨n,hn,bS,ba⟩:∃n:Nat,1+LM.cellAt ns 0%5=(n:Int)/\1<=n/\n<=5:=by
  have h0:=dO (LM.cellAt ns 0) (show(5:Int)≠0 by decide)
  have h1:=dC (LM.cellAt ns 0) (show(0:Int)<5 by decide)
  exact⟨(1+LM.cellAt ns 0%5).toNat,by omega,by omega,by omega⟩
 have n6:n<=6:=dg ba (by decide)
 have z0:=CA n
 have z1:=Cw (dg ba (by decide))
 refine⟨_,rfl,a,ns,0,rfl,hS,fE 0,_,_,rfl,rfl,by show(0:Int)<5;decide,_,_,rfl,rfl,?_⟩
 dsimp only
 rw[hn]
 refine⟨_,rfl,_,rfl,a,ns,1,n,rfl,hS,bS,n6,λI A H1 S1 _ hA rA bo=>?_⟩
 refine⟨_,rfl,_,rfl,a,ns,3,n,rfl,S1.seq hS,bS,n6,λC B H2 S2 _ hB rB be=>?_⟩
 have bG:A.length<=60:=dg rA.hi (by decide)
 have bI:B.length<=60:=dg rB.hi (by decide)
 have bJ:=bo.trans be.symm
 refine⟨L,λm a5=>?_⟩
 have bj:=S1.trans (S2.trans (rz a5 (.lst [.ref I,.ref C])))
 have ao:=(S2.trans (rz a5 (.lst [.ref I,.ref C]))) _ _ hA
 have an:=(rz a5 (.lst [.ref I,.ref C])) _ _ hB
 have Y:upd H2 m (.lst [.ref I,.ref C]) m=some (.lst [.ref I,.ref C]):=rC
 generalize upd H2 m (.lst [.ref I,.ref C])=H3 at bj ao an Y ⊢
 have ac:=bj.seq hS
 clear bj S1 S2 a5 hA hB hS
 refine⟨_,rfl,m,_,_,_,rfl,rfl,SqL.of Y,rfl,I,_,rfl,.inl (SqL.of ao),λh0 ap=>?_⟩
 have r:=rz ap (.lst (A.map V.str))
 have au:upd H3 h0 (.lst (A.map V.str)) h0=some (.lst (A.map V.str)):=rC
 have cd:=SqL.free ac ap
 have bP:I≠h0:=rF ao ap
 have bO:C≠h0:=rF an ap
 have bW:m≠h0:=rF Y ap
 generalize upd H3 h0 (.lst (A.map V.str))=H4 at r au ⊢
 refine⟨_,rfl,m,_,_,_,rfl,rfl,SqL.of (r _ _ Y),rfl,C,_,rfl,.inl (SqL.of (r _ _ an)),λh1 ai=>?_⟩
 have T2:=rz ai (.lst (B.map V.str))
 have az:upd H4 h1 (.lst (B.map V.str)) h1=some (.lst (B.map V.str)):=rC
 have cc:=SqL.free (r.seq ac) ai
 have bT:I≠h1:=rF (r _ _ ao) ai
 have bF:C≠h1:=rF (r _ _ an) ai
 have bQ:m≠h1:=rF (r _ _ Y) ai
 have bV:h0≠h1:=rF au ai
 have av:=T2 _ _ au
 have bm:=r.trans T2
 generalize upd H4 h1 (.lst (B.map V.str))=H5 at bm T2 az av ⊢
 refine⟨L,λR a9=>?_⟩
 have W:=rz a9 (.lst [.ref h0,.ref h1])
 have ag:upd H5 R (.lst [.ref h0,.ref h1]) R=some (.lst [.ref h0,.ref h1]):=rC
 have S6:=bm.trans W
 have ay:=W _ _ av
 have ax:=W _ _ az
 have b0:R≠h0:=Ne.symm (rF av a9)
 have b9:R≠h1:=Ne.symm (rF az a9)
 generalize upd H5 R (.lst [.ref h0,.ref h1])=H6 at S6 ag ay ax ⊢
 have b1:=S6.seq ac
 have b3:=S6 _ _ ao
 have bZ:=S6 _ _ an
 have bz:=S6 _ _ Y
 clear S6 r T2 bm W ac ao an Y ap ai a9 au av az
 -- the first book
 refine⟨_,rfl,R,_,_,_,rfl,rfl,SqL.of ag,rfl,_,rfl,R,_,_,_,rfl,rfl,SqL.of ag,rfl,λs0 dx ad aL aH=>?_⟩
 have aK:upd H6 dx (.own s0) s0=none:=by rw[rH (Ne.symm aH)];exact ad
 have W:=(rz aL (.own s0)).trans (rz aK (.ins cB dx []))
 refine⟨s0,h0,h1,dx,A,B,rfl,rC,SqL.of (W _ _ ay),SqL.of (W _ _ ax),bG,bI,rA.ok,rB.ok,(λz=>absurd ⟨rA,rB,bJ⟩ z),λ_ _ _ d0 H7 U7 cb aB=>⟨rfl,?_⟩⟩
 have S7:Same H6 H7:=λb o e=>U7 b o (rF e ad) (W b o e)
 have a4:=S7 _ _ ay
 have aW:=S7 _ _ ax
 have aA:=S7 _ _ ag
 clear W aK ad aL aH U7 cb
 -- the second book
 refine⟨_,rfl,R,_,_,_,rfl,rfl,SqL.of aA,rfl,_,rfl,R,_,_,_,rfl,rfl,SqL.of aA,rfl,λU dy ad aL aH=>?_⟩
 have aK:upd H7 dy (.own U) U=none:=by rw[rH (Ne.symm aH)];exact ad
 have W:=(rz aL (.own U)).trans (rz aK (.ins cB dy []))
 refine⟨U,h1,h0,dy,B,A,rfl,rC,SqL.of (W _ _ aW),SqL.of (W _ _ a4),bI,bG,rB.ok,rA.ok,(λz=>absurd ⟨rB,rA,bJ.symm⟩ z),λ_ _ _ d1 H8 U8 bh bL=>⟨rfl,?_⟩⟩
 have S8:Same H7 H8:=λb o e=>U8 b o (rF e ad) (W b o e)
 have dd:d0≠d1:=λz=>by
  obtain⟨_,_,_,_,_,_,_,_,_,_,h6⟩:=aB.ex
  rw[<-z,W _ _ h6]at bh
  cases bh
 have aB:=aB.mono S8
 have aD:=S7.trans S8
 have aU:=S8 _ _ a4
 have aX:=S8 _ _ aW
 have bq:=S8 _ _ aA
 have bN:=aD.seq b1
 have bY:=aD _ _ b3
 have b2:=aD _ _ bZ
 have bw:=aD _ _ bz
 clear W aK ad aL aH U8 bh S7 S8 aD ay ax ag b1 b3 bZ bz a4 aW aA
 refine⟨L,λt bb=>?_⟩
 have r:=rz bb (.lst [.ref s0,.ref U])
 have a2:upd H8 t (.lst [.ref s0,.ref U]) t=some (.lst [.ref s0,.ref U]):=rC
 have bi:t≠h0:=Ne.symm (rF aU bb)
 have bn:t≠h1:=Ne.symm (rF aX bb)
 generalize upd H8 t (.lst [.ref s0,.ref U])=H9 at r a2 ⊢
 -- the lists that were handed are spoilt
 have ah:=r _ _ aU
 have aY:=r _ _ bq
 refine⟨_,rfl,R,_,_,_,rfl,rfl,SqL.of aY,rfl,.inl ⟨rfl,_,SqL.of ah⟩,h0,_,rfl,rfl,ah,?_⟩
 have aa:upd H9 h0 (.lst []) h1=some (.lst (B.map V.str)):=by rw[rH (Ne.symm bV)];exact r _ _ aX
 have aR:upd H9 h0 (.lst []) R=some (.lst [.ref h0,.ref h1]):=by rw[rH b0];exact aY
 have aT:BookAt cB (upd H9 h0 (.lst [])) s0 d0 A B []:=(aB.mono r).overL ah
 have aO:BookAt cB (upd H9 h0 (.lst [])) U d1 B A []:=(bL.mono r).overL ah
 have bA:SqL K (upd H9 h0 (.lst [])) a (ns.map V.int):=SqL.overF cd (r.seq bN)
 have bp:upd H9 h0 (.lst []) I=some (.lst (A.map V.str)):=by rw[rH bP];exact r _ _ bY
 have bg:upd H9 h0 (.lst []) C=some (.lst (B.map V.str)):=by rw[rH bO];exact r _ _ b2
 have aS:upd H9 h0 (.lst []) m=some (.lst [.ref I,.ref C]):=by rw[rH bW];exact r _ _ bw
 have aQ:upd H9 h0 (.lst []) t=some (.lst [.ref s0,.ref U]):=by rw[rH bi];exact a2
 generalize upd H9 h0 (.lst [])=HA at aa aR aT aO bA bp bg aS aQ ⊢
 refine⟨_,rfl,R,_,_,_,rfl,rfl,SqL.of aR,rfl,.inl ⟨rfl,_,SqL.of aa⟩,h1,_,rfl,rfl,aa,?_⟩
 have aP:BookAt cB (upd HA h1 (.lst (B.map V.str).reverse)) s0 d0 A B []:=aT.overL aa
 have aZ:BookAt cB (upd HA h1 (.lst (B.map V.str).reverse)) U d1 B A []:=aO.overL aa
 have aF:SqL K (upd HA h1 (.lst (B.map V.str).reverse)) a (ns.map V.int):=SqL.overF cc bA
 have aN:upd HA h1 (.lst (B.map V.str).reverse) I=some (.lst (A.map V.str)):=by rw[rH bT];exact bp
 have aG:upd HA h1 (.lst (B.map V.str).reverse) C=some (.lst (B.map V.str)):=by rw[rH bF];exact bg
 have ae:upd HA h1 (.lst (B.map V.str).reverse) m=some (.lst [.ref I,.ref C]):=by rw[rH bQ];exact aS
 have af:upd HA h1 (.lst (B.map V.str).reverse) t=some (.lst [.ref s0,.ref U]):=by rw[rH bn];exact aQ
 generalize upd HA h1 (.lst (B.map V.str).reverse)=HB at aP aZ aF aN aG ae af ⊢
 clear aa aR aT aO bA bp bg aS aQ ah aY r aB bL a2 aU aX bq bN bY b2 bw bi bn b0 b9 bV bP bT bO bF bW bQ bb
 -- nothing told
 refine⟨_,rfl,(n:Int),rfl,z0,z1,?_⟩
 refine sP (n:=n) (λi ys T=>Same HB T/\dr (IsR K T) ys (fA i [])) ⟨Same.refl _,.nil⟩ (λi ys T hi f=>?_) (λys T f J bs=>?_)
 ·obtain⟨S,aM⟩:=f
  have aE:=Paired.len aM
  rw[eT]at aE
  refine⟨aC,λp hp=>⟨Ed (aE▸dB (cU hi (dg ba (by decide)))),S.trans (rz hp _),?_⟩⟩
  rw[jR]
  exact Paired.app (Paired.mapP aM λ_ _ h=>h.mono (rz hp _)) (.cons ⟨p,rfl,SqT.of rC⟩ .nil)
 obtain⟨S0,bf⟩:=f
 have T0:=rz bs (.lst ys)
 have ak:upd T J (.lst ys) J=some (.lst ys):=rC
 have a3:=Paired.mapP bf λ_ _ (h:IsR K T _ _)=>h.mono T0
 have SC:=S0.trans T0
 have aq:HB J=none:=S0.free bs
 generalize upd T J (.lst ys)=HC at SC ak a3 ⊢
 clear T0 S0 bf bs T
 refine⟨_,rfl,(n:Int),rfl,z0,z1,?_⟩
 refine sP (n:=n) (λi ys T=>Same HC T/\dr (IsR K T) ys (fA i [])) ⟨Same.refl _,.nil⟩ (λi ys T hi f=>?_) (λzs T f G a8=>?_)
 ·obtain⟨S,aM⟩:=f
  have aE:=Paired.len aM
  rw[eT]at aE
  refine⟨aC,λp hp=>⟨Ed (aE▸dB (cU hi (dg ba (by decide)))),S.trans (rz hp _),?_⟩⟩
  rw[jR]
  exact Paired.app (Paired.mapP aM λ_ _ h=>h.mono (rz hp _)) (.cons ⟨p,rfl,SqT.of rC⟩ .nil)
 obtain⟨S0,bv⟩:=f
 have T0:=S0.trans (rz a8 (.lst zs))
 have aw:upd T G (.lst zs) G=some (.lst zs):=rC
 have a0:=Paired.mapP bv λ_ _ (h:IsR K T _ _)=>h.mono (rz a8 (.lst zs))
 have aj:HC G=none:=S0.free a8
 generalize upd T G (.lst zs)=HD at T0 aw a0 ⊢
 clear S0 bv a8 T
 refine⟨L,λO ar=>?_⟩
 have T2:=T0.trans (rz ar (.lst [.ref J,.ref G]))
 have SE:=SC.trans T2
 have bu:upd HD O (.lst [.ref J,.ref G]) O=some (.lst [.ref J,.ref G]):=rC
 have nw:J≠G:=rF ak aj
 have bD:∀j,a≠pk J G j\/∀H,SqL K H a (ns.map V.int):=ul (P:=λx=>a≠x\/∀H,SqL K H a (ns.map V.int)) (SqL.free aF aq) (SqL.free (SC.seq aF) aj)
 have D:Le m t O I C d0 d1 J G:=⟨ul (rF ae aq) (rF (SC _ _ ae) aj),ul (rF af aq) (rF (SC _ _ af) aj),ul (Ne.symm (rF (T0 _ _ ak) ar)) (Ne.symm (rF aw ar)),(λi j=>ul (P:=λy=>y≠pk J G j) (ul (P:=λy=>I≠y) (rF aN aq) (rF (SC _ _ aN) aj) j) (ul (P:=λy=>C≠y) (rF aG aq) (rF (SC _ _ aG) aj) j) i),dd,nw⟩
 have at0:At52 K cB (upd HD O (.lst [.ref J,.ref G])) m t O I C s0 U d0 d1 J G A B (λ_ _=>False) 0:=by
  refine⟨SE _ _ ae,SE _ _ af,bu,λj=>?_,λj g=>?_⟩
  ·rcases mO j with z|z
   ·subst z;exact SE _ _ aN
   ·obtain⟨j,rfl⟩:∃i,j=i+1:=⟨j-1,by omega⟩
    exact SE _ _ aG
  ·rcases(show j=0\/j=1 by omega)with rfl|rfl
   ·exact⟨ys,fA n [],[],aP.mono SE,T2 _ _ ak,Paired.mapP a3 (λ_ _ h=>h.mono T2),by rw[eT];exact bo.symm,cI 0,(λ_ _ _ z=>nomatch z)⟩
   ·exact⟨zs,fA n [],[],aZ.mono SE,(rz ar _) _ _ aw,Paired.mapP a0 (λ_ _ h=>h.mono (rz ar _)),by rw[eT];exact be.symm,cI 0,(λ_ _ _ z=>nomatch z)⟩
 have bK:=SE.seq aF
 generalize upd HD O (.lst [.ref J,.ref G])=HE at at0 bK ⊢
 clear SE T2 T0 SC bu ar ak aw a3 a0 aq aj aP aZ aF aN aG ae af nw
 have am:∀j,Roll (pk A B j):=ul rA rB
 have Z:∀j,(pk A B j).length=n:=ul (P:=λz:List Str=>z.length=n) bo be
 -- all tell their wishes
 refine⟨2,rfl,by decide,by decide,?_⟩
 refine sj (n:=2) (λj u H1=>SqL K H1 a (ns.map V.int)/\At52 K cB H1 m t O I C s0 U d0 d1 J G A B (λi _=>i<j) (6*j)/\∃c6 c7 c8,u=[some (.ref a),some (.int n),some (.ref m),some (.ref R),some (.ref t),some (.ref O),c6,c7,c8,none,none])
  ⟨bK,at0.imp (λj _ i _ z=>absurd z (by omega)) (cI _),_,_,_,rfl⟩ (λj u H1 g f=>?_) (λu H1 f=>?_)
 ·obtain⟨aI,ab,c6,c7,c8,rfl⟩:=f
  refine⟨_,rfl,(n:Int),rfl,z0,z1,?_⟩
  refine sj (n:=n) (λk u H2=>SqL K H2 a (ns.map V.int)/\At52 K cB H2 m t O I C s0 U d0 d1 J G A B (λi x=>i<j\/(i=j/\x<k)) (6*j+k)/\∃c7 c8,u=[some (.ref a),some (.int n),some (.ref m),some (.ref R),some (.ref t),some (.ref O),some (.int (0+(j:Int))),c7,c8,none,none])
   ⟨aI,ab.imp (λi _ x _ z=>by omega) (by omega),_,_,rfl⟩ (λk u H2 hk f=>?_) (λu H2 f=>?_)
  ·obtain⟨a7,aV,c7,c8,rfl⟩:=f
   have mx:=z6 (LM.cellAt ns (6+(0+(k:Int)))) g
   refine⟨_,rfl,_,rfl,_,_,rfl,rfl,a,ns,_,rfl,a7,by omega,_,2,rfl,by decide,λxa H3 S3 b5 aJ=>?_⟩
   have d:=aV.mono S3
   have ej:(0+(j:Int))=(j:Int):=d3 _
   have ek:(0+(k:Int))=(k:Int):=d3 _
   rw[ej,ek]
   refine⟨_,rfl,_,rfl,t,_,_,_,rfl,rfl,SqL.of d.bl,wS g,_,rfl,_,rfl,m,_,_,_,rfl,rfl,SqL.of d.rl,wS g,_,rfl,_,rfl,_,_,rfl,rfl,m,_,_,_,rfl,rfl,SqL.of d.rl,Bi g,_,rfl,_,rfl,O,_,_,_,rfl,rfl,SqL.of d.tl,wS g,_,rfl,_,rfl,_,rfl,xa,_,_,_,rfl,rfl,SqL.of aJ,mx,?_⟩
   refine⟨_,_,_,_,_,pk A B j,pk A B (1-j),_,_,k,_,rfl,d.bk j g,by omega,am j,am _,by rw[Z,Z],d.ro j,d.ro _,D.ro j j,D.ro _ j,by rw[Z];exact hk,λH4 U4 cf=>⟨rfl,_,rfl,Eu ?_⟩⟩
   have l:=d.step D g U4 cf (ec _)
   obtain⟨kv,hd⟩:=(d.bk j g).dk
   obtain⟨us,hw⟩:=(d.bk j g).wl
   exact⟨SqL.keep2 (bD j) hd U4 (S3.seq a7),l.imp (λi _ x _ z=>KR z) (by omega),_,_,rfl⟩
  ·obtain⟨a7,aV,c7,c8,rfl⟩:=f
   exact⟨a7,aV.imp (λi _ x hx z=>by rw[Z]at hx;omega) (by omega),_,_,_,rfl⟩
 obtain⟨aI,ab,c6,c7,c8,rfl⟩:=f
 -- the deeds
 refine⟨_,rfl,12,rfl,36,rfl,a,_,rfl,aI,λc hc=>?_⟩
 have T5:=rz hc (.lst (Gv (ns.map V.int) (some 12) (some 36)))
 have bE:=vk (ns.map V.int) (some 12) (some 36)
 rw[cx]at bE
 have bX:∀i v,(Gv (ns.map V.int) (some 12) (some 36))[i]?=some v->∃c:Int,v=V.int c:=λi v h=>C2 h
 refine⟨c,rfl,⟨_,SqL.of rC⟩,?_⟩
 have bc:upd H1 c (.lst (Gv (ns.map V.int) (some 12) (some 36))) c=some (.lst (Gv (ns.map V.int) (some 12) (some 36))):=rC
 have a1:=ab.mono T5
 have br:=T5.seq aI
 have b7:∀j,c≠pk J G j:=ul (λz=>by obtain⟨us,hw⟩:=(ab.bk 0 (by decide)).wl;rw[z,show H1 J=some (.lst us)from hw]at hc;cases hc) (λz=>by obtain⟨us,hw⟩:=(ab.bk 1 (by decide)).wl;rw[z,show H1 G=some (.lst us)from hw]at hc;cases hc)
 generalize upd H1 c (.lst (Gv (ns.map V.int) (some 12) (some 36)))=H2 at T5 bc a1 br ⊢
 generalize Gv (ns.map V.int) (some 12) (some 36)=xs at bc bE bX ⊢
 refine u7 (xs:=xs) (λi u H3=>SqL K H3 a (ns.map V.int)/\H3 c=some (.lst xs)/\At52 K cB H3 m t O I C s0 U d0 d1 J G A B (λ_ _=>True) (12+i)/\∃c6 c8 c9,u=[some (.ref a),some (.int n),some (.ref m),some (.ref R),some (.ref t),some (.ref O),c6,c7,c8,c9,none])
  ⟨br,bc,a1.imp (λj g i _ _=>g) (by omega),_,_,_,rfl⟩ (λi u H3 _ f=>SqL.of f.2.1) (λi v u H3 hv f=>?_) (λu H3 f=>?_)
 ·obtain⟨ac,a6,d,c6,c8,c9,rfl⟩:=f
  have cj:i<xs.length:=(cL.mp hv).1
  obtain⟨cl,rfl⟩:=bX i v hv
  refine⟨_,rfl,cl,7,rfl,by decide,λxa H4 S4 b5 aJ=>?_⟩
  have bR:=LM.mixed_len cl 7
  have bU:=vO (ns:=LM.mixed cl 7) (i:=6) (by omega)
  have bC:=LM.mixed_bd cl 7
  generalize LM.mixed cl 7=ms at aJ bR bU bC
  have l:=d.mono S4
  have j0:=dO (ms.getD 6 0) (show(2:Int)≠0 by decide)
  have j1:=dC (ms.getD 6 0) (show(0:Int)<2 by decide)
  obtain⟨j,ch⟩:∃j:Nat,ms.getD 6 0%2=(j:Int):=⟨(ms.getD 6 0%2).toNat,by omega⟩
  have g:j<2:=by omega
  refine⟨_,rfl,xa,_,_,_,rfl,rfl,SqL.of aJ,bU,_,_,rfl,rfl,by show(0:Int)<2;decide,?_⟩
  dsimp only
  rw[ch]
  refine⟨_,rfl,_,rfl,t,_,_,_,rfl,rfl,SqL.of l.bl,wS g,_,rfl,_,rfl,m,_,_,_,rfl,rfl,SqL.of l.rl,wS g,_,rfl,_,rfl,_,_,rfl,rfl,m,_,_,_,rfl,rfl,SqL.of l.rl,Bi g,_,rfl,_,rfl,O,_,_,_,rfl,rfl,SqL.of l.tl,wS g,_,rfl,?_⟩
  refine⟨_,_,_,_,_,xa,pk A B j,pk A B (1-j),_,ms,rfl,l.bk j g,by omega,am j,am _,by rw[Z,Z],l.ro j,l.ro _,D.ro j j,D.ro _ j,SqL.of aJ,bR,bC,λH5 U5 ca=>⟨_,rfl,Eu ?_⟩⟩
  obtain⟨kv,hd⟩:=(l.bk j g).dk
  obtain⟨us,hw⟩:=(l.bk j g).wl
  exact⟨SqL.keep2 (bD j) hd U5 (S4.seq ac),U5 _ _ (sN (S4 _ _ a6) hd (λz=>nomatch z)) (b7 j) (S4 _ _ a6),(l.step D g U5 ca (ec _)).imp (λi _ x _ _=>by split <;> trivial) (by omega),_,_,_,rfl⟩
 obtain⟨ac,a6,d,c6,c8,c9,rfl⟩:=f
 clear a6 a1 br bc T5 hc ab aI
 -- what all get
 refine⟨2,rfl,by decide,by decide,?_⟩
 refine sj (n:=2) (λj u H4=>Same H3 H4/\∃c6 c7 al,u=[some (.ref a),some (.int n),some (.ref m),some (.ref R),some (.ref t),some (.ref O),c6,c7,c8,c9,al]) ⟨Same.refl _,_,_,_,rfl⟩ (λj u H4 g f=>?_) (λu H4 f=>q _)
 obtain⟨S4,ck,bM,al,rfl⟩:=f
 refine⟨_,rfl,(n:Int),rfl,z0,z1,?_⟩
 refine sj (n:=n) (λk u H5=>Same H4 H5/\∃c7 al,u=[some (.ref a),some (.int n),some (.ref m),some (.ref R),some (.ref t),some (.ref O),some (.int (0+(j:Int))),c7,c8,c9,al]) ⟨Same.refl _,_,_,rfl⟩ (λk u H5 hk f=>?_) (λu H5 f=>?_)
 ·obtain⟨S5,bM,al,rfl⟩:=f
  have cg:=S4.trans S5
  refine⟨L,λwl bH=>?_⟩
  have S6:=cg.trans (rz bH (.lst [V.str "eaten",V.str "turns"]))
  have bx:upd H5 wl (.lst [V.str "eaten",V.str "turns"]) wl=some (.lst [V.str "eaten",V.str "turns"]):=rC
  have bB:=rz bH (.lst [V.str "eaten",V.str "turns"])
  generalize upd H5 wl (.lst [V.str "eaten",V.str "turns"])=H6 at S6 bx bB ⊢
  obtain⟨b6,ce,b4⟩:=K4 (decide (V.int (0+(k:Int))=V.int (LM.cellAt ns 5%(n:Int))))
  refine⟨_,rfl,_,rfl,a,ns,5,rfl,S6.seq ac,by decide,_,rfl,_,_,rfl,rfl,by show(0:Int)<(n:Int);omega,rfl,.inr ⟨_,rfl,wl,_,_,_,rfl,rfl,SqL.of bx,b4,?_⟩⟩
  have X:=d.mono S6
  have ej:(0+(j:Int))=(j:Int):=d3 _
  have ek:(0+(k:Int))=(k:Int):=d3 _
  rw[ej,ek]
  refine⟨_,rfl,_,rfl,t,_,_,_,rfl,rfl,SqL.of X.bl,wS g,_,rfl,_,rfl,m,_,_,_,rfl,rfl,SqL.of X.rl,wS g,_,rfl,_,rfl,_,_,rfl,rfl,m,_,_,_,rfl,rfl,SqL.of X.rl,Bi g,_,rfl,_,rfl,O,_,_,_,rfl,rfl,SqL.of X.tl,wS g,_,rfl,_,rfl,?_⟩
  exact⟨_,_,_,_,_,pk A B j,pk A B (1-j),_,k,b6,rfl,X.bk j g,am j,am _,by rw[Z,Z],SqL.of (X.ro j),SqL.of (X.ro _),by rw[Z];exact hk,ce,λH7 S7=>⟨_,rfl,Eu ⟨S5.trans (bB.trans S7),_,_,rfl⟩⟩⟩
 ·obtain⟨S5,bM,al,rfl⟩:=f
  exact⟨S4.trans S5,_,_,_,rfl⟩
end
open PySem.W
abbrev Km:String:="wishlots.lots"
abbrev IQ:String:="wishlots.eating"
abbrev IV:String:="wishlots.turns"
abbrev HV:String:="wishlots.fractions"
abbrev GV:String:="wishlots.book"
abbrev FC:String:="law_wishlots_k52_whole_book"
def vs(x:String)(n:Nat):cA:= .str (.ofString x) n
def i(n:Nat):cA:= .int n 0
def en(P:Params)(x:String)(n:Nat)(v:cA):DictEntry:={hash:=PyData.keyHash P (.ofString x),key:=vs x n,val:=v}
def di(l:List DictEntry)(n:Nat):Obj:={cls:= .type "dict",data:= .dict l.toArray n}
def tu(l:List cA):Obj:={cls:= .type "tuple",data:= .seq l.toArray}
def nf(l:List cA):Obj:={cls:= .none,data:= .fields l.toArray}
def ft(k:Nat)(x:String):Obj:={cls:= .none,data:= .func {name:= .ofString x,qualname:= .ofString x,params:=Eo (Eg k),body:= .stmts (Ek (Eg k)),scope:=Ec (Eg k),globals:=0,closure:=[],defaults:= .none,kwdefaults:= .none}}
def fo(k:Nat)(x m:String)(t c:Nat):Obj:={cls:= .type "function",data:= .func {name:= .ofString x,qualname:= .ofString x,params:=Eo (Eg k),body:= .stmts (Ek (Eg k)),scope:=Ec (Eg k),globals:=3,closure:=[],defaults:= .none,kwdefaults:= .none,pyModule:=vs m t,code:= .ref c}}
def co(x:String)(a b c:Nat)(r:List cA)(z:Nat):Obj:={cls:= .type "code",data:= .fields (vs x a::vs x b::vs "/claim/cut.py" c::(r++[vs "/claim/cut.py" z])).toArray}
def fc(k j:Nat)(x q:String):Obj:={cls:= .none,data:= .func {name:= .ofString x,qualname:= .ofString q,params:=Eo (He k j),body:= .stmts (Ek (He k j)),scope:=Ec (He k j),globals:=0,closure:=[],defaults:= .none,kwdefaults:= .none}}
def fm(k j:Nat)(x q m:String)(t c:Nat):Obj:={cls:= .type "function",data:= .func {name:= .ofString x,qualname:= .ofString q,params:=Eo (He k j),body:= .stmts (Ek (He k j)),scope:=Ec (He k j),globals:=3,closure:=[],defaults:= .none,kwdefaults:= .none,pyModule:=vs m t,code:= .ref c}}
def cq(x q:String)(a b c:Nat)(r:List cA)(z:Nat):Obj:={cls:= .type "code",data:= .fields (vs x a::vs q b::vs "/claim/cut.py" c::(r++[vs "/claim/cut.py" z])).toArray}
def Lj(P:Params):List DictEntry:=[en P "__name__" 165 (vs FC 652),en P "__doc__" 166 (.none),en P "__package__" 167 (.none),en P "__loader__" 168 (.builtin "__main__.__loader__#opaque"),en P "__spec__" 169 (.none),en P "__annotations__" 170 (.ref 6),en P "__builtins__" 171 (.ref 4),en P "__file__" 173 (vs "/claim/cut.py" 172),en P "__cached__" 174 (.none),en P "WishError" 206 (.ref 24),en P "NoFraction" 222 (.ref 37),en P "NoWishes" 238 (.ref 49),en P "NoPick" 254 (.ref 61),en P "NoRoll" 270 (.ref 73),en P "NoPerson" 286 (.ref 85),en P "Unready" 302 (.ref 97),en P "NoWay" 318 (.ref 109),en P "NOTHING" 323 (.ref 112),en P "WHOLE" 326 (.ref 113),en P "is_whole" 333 (.ref 120),en P "common_divisor" 344 (.ref 127),en P "fraction" 353 (.ref 134),en P "plus" 361 (.ref 141),en P "minus" 369 (.ref 148),en P "times" 377 (.ref 155),en P "before" 385 (.ref 162),en P "total" 394 (.ref 169),en P "least" 403 (.ref 176),en P "best_left" 411 (.ref 181),en P "time_to_stop" 417 (.ref 186),en P "left_behind" 423 (.ref 191),en P "courses_of" 429 (.ref 196),en P "eaten_of" 435 (.ref 201),en P "eaten_by" 441 (.ref 206),en P "eaten" 447 (.ref 211),en P "deal_within" 461 (.ref 218),en P "row_without" 471 (.ref 225),en P "lots_of" 477 (.ref 230),en P "picked" 487 (.ref 237),en P "MOST_PEOPLE" 491 (.int 6 490),en P "is_listing" 498 (.ref 244),en P "has_people" 505 (.ref 251),en P "best_free" 513 (.ref 256),en P "with_one" 521 (.ref 263),en P "turns_from" 527 (.ref 268),en P "orders_of" 536 (.ref 275),en P "counts_of" 553 (.ref 282),en P "shares_by_turns" 559 (.ref 287),en P "by_turns" 565 (.ref 292),en P "MOST_SIGNS" 569 (.int 12 568),en P "is_word" 575 (.ref 297),en P "is_roll" 581 (.ref 302),en P "Book" 651 (.ref 351),en P "_law_cell_at" 661 (.ref 362),en P "_law_mixed" 672 (.ref 369),en P "_law_perm" 682 (.ref 376),en P "_law_divisor" 691 (.ref 383),en P "_law_lowest" 700 (.ref 390),en P "_law_base" 711 (.ref 397),en P "_law_word" 723 (.ref 404),en P "_law_words" 738 (.ref 411),en P "_law_same" 747 (.ref 418),en P "_law_table_by" 755 (.ref 425),en P "_law_shares_well" 761 (.ref 430),en P "_law_deal_well" 767 (.ref 435),en P "_law_wish" 773 (.ref 440),en P "_law_refused" 779 (.ref 445),en P "_law_deed" 793 (.ref 452),en P "law" 799 (.ref 457)]
def MX:List cA:=[i 2,i 0,.ref 20,i 4,i 0,.ref 33,i 6,i 0,.ref 45,i 8,i 0,.ref 57,i 10,i 0,.ref 69,i 12,i 0,.ref 81,i 14,i 0,.ref 93,i 16,i 0,.ref 105,i 21,i 0,.ref 119,i 23,i 0,.ref 126,i 31,i 0,.ref 133,i 38,i 0,.ref 140,i 40,i 0,.ref 147,i 42,i 0,.ref 154,i 44,i 0,.ref 161,i 46,i 0,.ref 168,i 51,i 0,.ref 175,i 58,i 0,.ref 180,i 60,i 0,.ref 185,i 62,i 0,.ref 190,i 64,i 0,.ref 195,i 74,i 0,.ref 200,i 76,i 0,.ref 205,i 78,i 0,.ref 210,i 82,i 0,.ref 217,i 92,i 0,.ref 224,i 96,i 0,.ref 229,i 107,i 0,.ref 236,i 118,i 0,.ref 243,i 120,i 0,.ref 250,i 123,i 0,.ref 255,i 125,i 0,.ref 262,i 127,i 0,.ref 267,i 130,i 0,.ref 274,i 135,i 0,.ref 281,i 148,i 0,.ref 286,i 151,i 0,.ref 291,i 156,i 0,.ref 296,i 160,i 0,.ref 301,i 162,i 0,.ref 308,i 206,i 0,.ref 361,i 210,i 0,.ref 368,i 223,i 0,.ref 375,i 229,i 0,.ref 382,i 235,i 0,.ref 389,i 242,i 0,.ref 396,i 254,i 0,.ref 403,i 258,i 0,.ref 410,i 269,i 0,.ref 417,i 286,i 0,.ref 424,i 290,i 0,.ref 429,i 299,i 0,.ref 434,i 308,i 0,.ref 439,i 311,i 0,.ref 444,i 325,i 0,.ref 451,i 336,i 0,.ref 456]
noncomputable def obs(P:Params):List Obj:=(jp P).objs.toList++[tu [],
 nf [],
 co "<module>" 182 183 184 [i 1,i 0,i 0,i 0,i 0,.ref 11,.bool false,i 181,.ref 12,.none,.none,.none,.none,i 185,i 1] 186,
 {cls:= .type "frame",slots:= #[some (.ref 13),some (.ref 3),some (.ref 3),none,some (vs "__main__" 164),none,some (.ref 0)]},
 tu [.type "ValueError"],
 {cls:= .type "builtin_function_or_method",data:= .fields #[.builtin "type.__prepare__",.type "type"]},
 di [en P "__module__" 196 (vs "wishlots.errors" 187),en P "__qualname__" 198 (vs "WishError" 197),en P "__firstlineno__" 200 (.int 2 199),en P "__static_attributes__" 201 (.ref 22)] 4,
 tu [],
 nf [],
 co "WishError" 191 192 193 [i 2,i 0,i 0,i 0,i 0,.ref 18,.bool false,i 181,.ref 19,.none,.none,.none,.none,i 194,i 2] 195,
 {cls:= .type "frame",slots:= #[some (.ref 20),some (.ref 3),some (.ref 17),none,some (vs "wishlots.errors" 187),none,some (.ref 0)]},
 tu [],
 di [en P "__module__" 196 (vs "wishlots.errors" 187),en P "__firstlineno__" 200 (.int 2 199),en P "__static_attributes__" 201 (.ref 22),en P "__weakref__" 203 (.ref 25),en P "__doc__" 204 (.none)] 3,
 {cls:= .type "type",data:= .cls {name:="WishError",bases:=[.type "ValueError"],mro:=[.ref 24,.type "ValueError",.type "Exception",.type "BaseException",.type "object"],ns:=23,qualname:="WishError",subclasses:=[.ref 37,.ref 49,.ref 61,.ref 73,.ref 85,.ref 97,.ref 109]},slots:= #[some (.ref 15),none,some (vs "WishError" 189),some (vs "WishError" 197),some (.builtin "ValueError.__new__"),some (.bool true)]},
 {cls:= .type "getset_descriptor",data:= .fields #[vs "__weakref__" 202,.ref 24,.builtin "ExceptionGroup.__weakref__",.none]},
 {cls:= .type "super",data:= .fields #[.ref 24,.ref 24,.ref 24]},
 {cls:= .type "builtin_function_or_method",data:= .fields #[.builtin "object.__init_subclass__",.ref 24]},
 tu [.ref 24],
 {cls:= .type "builtin_function_or_method",data:= .fields #[.builtin "type.__prepare__",.type "type"]},
 di [en P "__module__" 214 (vs "wishlots.errors" 187),en P "__qualname__" 216 (vs "NoFraction" 215),en P "__firstlineno__" 218 (.int 4 217),en P "__static_attributes__" 219 (.ref 35)] 4,
 tu [],
 nf [],
 co "NoFraction" 209 210 211 [i 4,i 0,i 0,i 0,i 0,.ref 31,.bool false,i 181,.ref 32,.none,.none,.none,.none,i 212,i 4] 213,
 {cls:= .type "frame",slots:= #[some (.ref 33),some (.ref 3),some (.ref 30),none,some (vs "wishlots.errors" 187),none,some (.ref 0)]},
 tu [],
 di [en P "__module__" 214 (vs "wishlots.errors" 187),en P "__firstlineno__" 218 (.int 4 217),en P "__static_attributes__" 219 (.ref 35),en P "__doc__" 220 (.none)] 2,
 {cls:= .type "type",data:= .cls {name:="NoFraction",bases:=[.ref 24],mro:=[.ref 37,.ref 24,.type "ValueError",.type "Exception",.type "BaseException",.type "object"],ns:=36,qualname:="NoFraction"},slots:= #[some (.ref 28),none,some (vs "NoFraction" 207),some (vs "NoFraction" 215),some (.builtin "ValueError.__new__"),some (.bool true)]},
 {cls:= .type "super",data:= .fields #[.ref 37,.ref 37,.ref 37]},
 {cls:= .type "builtin_function_or_method",data:= .fields #[.builtin "object.__init_subclass__",.ref 37]},
 tu [.ref 24],
 {cls:= .type "builtin_function_or_method",data:= .fields #[.builtin "type.__prepare__",.type "type"]},
 di [en P "__module__" 230 (vs "wishlots.errors" 187),en P "__qualname__" 232 (vs "NoWishes" 231),en P "__firstlineno__" 234 (.int 6 233),en P "__static_attributes__" 235 (.ref 47)] 4,
 tu [],
 nf [],
 co "NoWishes" 225 226 227 [i 6,i 0,i 0,i 0,i 0,.ref 43,.bool false,i 181,.ref 44,.none,.none,.none,.none,i 228,i 6] 229,
 {cls:= .type "frame",slots:= #[some (.ref 45),some (.ref 3),some (.ref 42),none,some (vs "wishlots.errors" 187),none,some (.ref 0)]},
 tu [],
 di [en P "__module__" 230 (vs "wishlots.errors" 187),en P "__firstlineno__" 234 (.int 6 233),en P "__static_attributes__" 235 (.ref 47),en P "__doc__" 236 (.none)] 2,
 {cls:= .type "type",data:= .cls {name:="NoWishes",bases:=[.ref 24],mro:=[.ref 49,.ref 24,.type "ValueError",.type "Exception",.type "BaseException",.type "object"],ns:=48,qualname:="NoWishes"},slots:= #[some (.ref 40),none,some (vs "NoWishes" 223),some (vs "NoWishes" 231),some (.builtin "ValueError.__new__"),some (.bool true)]},
 {cls:= .type "super",data:= .fields #[.ref 49,.ref 49,.ref 49]},
 {cls:= .type "builtin_function_or_method",data:= .fields #[.builtin "object.__init_subclass__",.ref 49]},
 tu [.ref 24],
 {cls:= .type "builtin_function_or_method",data:= .fields #[.builtin "type.__prepare__",.type "type"]},
 di [en P "__module__" 246 (vs "wishlots.errors" 187),en P "__qualname__" 248 (vs "NoPick" 247),en P "__firstlineno__" 250 (.int 8 249),en P "__static_attributes__" 251 (.ref 59)] 4,
 tu [],
 nf [],
 co "NoPick" 241 242 243 [i 8,i 0,i 0,i 0,i 0,.ref 55,.bool false,i 181,.ref 56,.none,.none,.none,.none,i 244,i 8] 245,
 {cls:= .type "frame",slots:= #[some (.ref 57),some (.ref 3),some (.ref 54),none,some (vs "wishlots.errors" 187),none,some (.ref 0)]},
 tu [],
 di [en P "__module__" 246 (vs "wishlots.errors" 187),en P "__firstlineno__" 250 (.int 8 249),en P "__static_attributes__" 251 (.ref 59),en P "__doc__" 252 (.none)] 2,
 {cls:= .type "type",data:= .cls {name:="NoPick",bases:=[.ref 24],mro:=[.ref 61,.ref 24,.type "ValueError",.type "Exception",.type "BaseException",.type "object"],ns:=60,qualname:="NoPick"},slots:= #[some (.ref 52),none,some (vs "NoPick" 239),some (vs "NoPick" 247),some (.builtin "ValueError.__new__"),some (.bool true)]},
 {cls:= .type "super",data:= .fields #[.ref 61,.ref 61,.ref 61]},
 {cls:= .type "builtin_function_or_method",data:= .fields #[.builtin "object.__init_subclass__",.ref 61]},
 tu [.ref 24],
 {cls:= .type "builtin_function_or_method",data:= .fields #[.builtin "type.__prepare__",.type "type"]},
 di [en P "__module__" 262 (vs "wishlots.errors" 187),en P "__qualname__" 264 (vs "NoRoll" 263),en P "__firstlineno__" 266 (.int 10 265),en P "__static_attributes__" 267 (.ref 71)] 4,
 tu [],
 nf [],
 co "NoRoll" 257 258 259 [i 10,i 0,i 0,i 0,i 0,.ref 67,.bool false,i 181,.ref 68,.none,.none,.none,.none,i 260,i 10] 261,
 {cls:= .type "frame",slots:= #[some (.ref 69),some (.ref 3),some (.ref 66),none,some (vs "wishlots.errors" 187),none,some (.ref 0)]},
 tu [],
 di [en P "__module__" 262 (vs "wishlots.errors" 187),en P "__firstlineno__" 266 (.int 10 265),en P "__static_attributes__" 267 (.ref 71),en P "__doc__" 268 (.none)] 2,
 {cls:= .type "type",data:= .cls {name:="NoRoll",bases:=[.ref 24],mro:=[.ref 73,.ref 24,.type "ValueError",.type "Exception",.type "BaseException",.type "object"],ns:=72,qualname:="NoRoll"},slots:= #[some (.ref 64),none,some (vs "NoRoll" 255),some (vs "NoRoll" 263),some (.builtin "ValueError.__new__"),some (.bool true)]},
 {cls:= .type "super",data:= .fields #[.ref 73,.ref 73,.ref 73]},
 {cls:= .type "builtin_function_or_method",data:= .fields #[.builtin "object.__init_subclass__",.ref 73]},
 tu [.ref 24],
 {cls:= .type "builtin_function_or_method",data:= .fields #[.builtin "type.__prepare__",.type "type"]},
 di [en P "__module__" 278 (vs "wishlots.errors" 187),en P "__qualname__" 280 (vs "NoPerson" 279),en P "__firstlineno__" 282 (.int 12 281),en P "__static_attributes__" 283 (.ref 83)] 4,
 tu [],
 nf [],
 co "NoPerson" 273 274 275 [i 12,i 0,i 0,i 0,i 0,.ref 79,.bool false,i 181,.ref 80,.none,.none,.none,.none,i 276,i 12] 277,
 {cls:= .type "frame",slots:= #[some (.ref 81),some (.ref 3),some (.ref 78),none,some (vs "wishlots.errors" 187),none,some (.ref 0)]},
 tu [],
 di [en P "__module__" 278 (vs "wishlots.errors" 187),en P "__firstlineno__" 282 (.int 12 281),en P "__static_attributes__" 283 (.ref 83),en P "__doc__" 284 (.none)] 2,
 {cls:= .type "type",data:= .cls {name:="NoPerson",bases:=[.ref 24],mro:=[.ref 85,.ref 24,.type "ValueError",.type "Exception",.type "BaseException",.type "object"],ns:=84,qualname:="NoPerson"},slots:= #[some (.ref 76),none,some (vs "NoPerson" 271),some (vs "NoPerson" 279),some (.builtin "ValueError.__new__"),some (.bool true)]},
 {cls:= .type "super",data:= .fields #[.ref 85,.ref 85,.ref 85]},
 {cls:= .type "builtin_function_or_method",data:= .fields #[.builtin "object.__init_subclass__",.ref 85]},
 tu [.ref 24],
 {cls:= .type "builtin_function_or_method",data:= .fields #[.builtin "type.__prepare__",.type "type"]},
 di [en P "__module__" 294 (vs "wishlots.errors" 187),en P "__qualname__" 296 (vs "Unready" 295),en P "__firstlineno__" 298 (.int 14 297),en P "__static_attributes__" 299 (.ref 95)] 4,
 tu [],
 nf [],
 co "Unready" 289 290 291 [i 14,i 0,i 0,i 0,i 0,.ref 91,.bool false,i 181,.ref 92,.none,.none,.none,.none,i 292,i 14] 293,
 {cls:= .type "frame",slots:= #[some (.ref 93),some (.ref 3),some (.ref 90),none,some (vs "wishlots.errors" 187),none,some (.ref 0)]},
 tu [],
 di [en P "__module__" 294 (vs "wishlots.errors" 187),en P "__firstlineno__" 298 (.int 14 297),en P "__static_attributes__" 299 (.ref 95),en P "__doc__" 300 (.none)] 2,
 {cls:= .type "type",data:= .cls {name:="Unready",bases:=[.ref 24],mro:=[.ref 97,.ref 24,.type "ValueError",.type "Exception",.type "BaseException",.type "object"],ns:=96,qualname:="Unready"},slots:= #[some (.ref 88),none,some (vs "Unready" 287),some (vs "Unready" 295),some (.builtin "ValueError.__new__"),some (.bool true)]},
 {cls:= .type "super",data:= .fields #[.ref 97,.ref 97,.ref 97]},
 {cls:= .type "builtin_function_or_method",data:= .fields #[.builtin "object.__init_subclass__",.ref 97]},
 tu [.ref 24],
 {cls:= .type "builtin_function_or_method",data:= .fields #[.builtin "type.__prepare__",.type "type"]},
 di [en P "__module__" 310 (vs "wishlots.errors" 187),en P "__qualname__" 312 (vs "NoWay" 311),en P "__firstlineno__" 314 (.int 16 313),en P "__static_attributes__" 315 (.ref 107)] 4,
 tu [],
 nf [],
 co "NoWay" 305 306 307 [i 16,i 0,i 0,i 0,i 0,.ref 103,.bool false,i 181,.ref 104,.none,.none,.none,.none,i 308,i 16] 309,
 {cls:= .type "frame",slots:= #[some (.ref 105),some (.ref 3),some (.ref 102),none,some (vs "wishlots.errors" 187),none,some (.ref 0)]},
 tu [],
 di [en P "__module__" 310 (vs "wishlots.errors" 187),en P "__firstlineno__" 314 (.int 16 313),en P "__static_attributes__" 315 (.ref 107),en P "__doc__" 316 (.none)] 2,
 {cls:= .type "type",data:= .cls {name:="NoWay",bases:=[.ref 24],mro:=[.ref 109,.ref 24,.type "ValueError",.type "Exception",.type "BaseException",.type "object"],ns:=108,qualname:="NoWay"},slots:= #[some (.ref 100),none,some (vs "NoWay" 303),some (vs "NoWay" 311),some (.builtin "ValueError.__new__"),some (.bool true)]},
 {cls:= .type "super",data:= .fields #[.ref 109,.ref 109,.ref 109]},
 {cls:= .type "builtin_function_or_method",data:= .fields #[.builtin "object.__init_subclass__",.ref 109]},
 tu [.int 0 321,.int 1 322],
 tu [.int 1 324,.int 1 325],
 tu [],
 nf [],
 tu [vs "value" 330],
 tu [],
 ft 12 "is_whole",
 co "is_whole" 327 328 329 [i 21,i 1,i 0,i 0,i 3,.ref 114,.bool true,i 181,.ref 115,.none,.ref 116,.ref 117,.ref 118,i 331,i 21] 332,
 fo 12 "is_whole" HV 319 119,
 tu [],
 nf [],
 tu [vs "one" 337,vs "two" 338,vs "greater" 339,vs "smaller" 340,vs "rest" 341],
 tu [],
 ft 13 "common_divisor",
 co "common_divisor" 334 335 336 [i 23,i 2,i 0,i 0,i 3,.ref 121,.bool true,i 181,.ref 122,.none,.ref 123,.ref 124,.ref 125,i 342,i 23] 343,
 fo 13 "common_divisor" HV 319 126,
 tu [],
 nf [],
 tu [vs "top" 348,vs "bottom" 349,vs "divisor" 350],
 tu [],
 ft 14 "fraction",
 co "fraction" 345 346 347 [i 31,i 2,i 0,i 0,i 3,.ref 128,.bool true,i 181,.ref 129,.none,.ref 130,.ref 131,.ref 132,i 351,i 31] 352,
 fo 14 "fraction" HV 319 133,
 tu [],
 nf [],
 tu [vs "one" 357,vs "two" 358],
 tu [],
 ft 15 "plus",
 co "plus" 354 355 356 [i 38,i 2,i 0,i 0,i 3,.ref 135,.bool true,i 181,.ref 136,.none,.ref 137,.ref 138,.ref 139,i 359,i 38] 360,
 fo 15 "plus" HV 319 140,
 tu [],
 nf [],
 tu [vs "one" 365,vs "two" 366],
 tu [],
 ft 16 "minus",
 co "minus" 362 363 364 [i 40,i 2,i 0,i 0,i 3,.ref 142,.bool true,i 181,.ref 143,.none,.ref 144,.ref 145,.ref 146,i 367,i 40] 368,
 fo 16 "minus" HV 319 147,
 tu [],
 nf [],
 tu [vs "one" 373,vs "two" 374],
 tu [],
 ft 17 "times",
 co "times" 370 371 372 [i 42,i 2,i 0,i 0,i 3,.ref 149,.bool true,i 181,.ref 150,.none,.ref 151,.ref 152,.ref 153,i 375,i 42] 376,
 fo 17 "times" HV 319 154,
 tu [],
 nf [],
 tu [vs "one" 381,vs "two" 382],
 tu [],
 ft 18 "before",
 co "before" 378 379 380 [i 44,i 2,i 0,i 0,i 3,.ref 156,.bool true,i 181,.ref 157,.none,.ref 158,.ref 159,.ref 160,i 383,i 44] 384,
 fo 18 "before" HV 319 161,
 tu [],
 nf [],
 tu [vs "parts" 389,vs "so_far" 390,vs "part" 391],
 tu [],
 ft 19 "total",
 co "total" 386 387 388 [i 46,i 1,i 0,i 0,i 3,.ref 163,.bool true,i 181,.ref 164,.none,.ref 165,.ref 166,.ref 167,i 392,i 46] 393,
 fo 19 "total" HV 319 168,
 tu [],
 nf [],
 tu [vs "parts" 398,vs "smallest" 399,vs "part" 400],
 tu [],
 ft 20 "least",
 co "least" 395 396 397 [i 51,i 1,i 0,i 0,i 3,.ref 170,.bool true,i 181,.ref 171,.none,.ref 172,.ref 173,.ref 174,i 401,i 51] 402,
 fo 20 "least" HV 319 175,
 tu [],
 nf [],
 ft 22 "best_left",
 co "best_left" 406 407 408 [i 58,i 2,i 0,i 0,i 3,.ref 177,.bool true,i 181,.ref 178,.none,.none,.none,.ref 179,i 409,i 58] 410,
 fo 22 "best_left" IQ 404 180,
 tu [],
 nf [],
 ft 23 "time_to_stop",
 co "time_to_stop" 412 413 414 [i 60,i 2,i 0,i 0,i 3,.ref 182,.bool true,i 181,.ref 183,.none,.none,.none,.ref 184,i 415,i 60] 416,
 fo 23 "time_to_stop" IQ 404 185,
 tu [],
 nf [],
 ft 24 "left_behind",
 co "left_behind" 418 419 420 [i 62,i 3,i 0,i 0,i 3,.ref 187,.bool true,i 181,.ref 188,.none,.none,.none,.ref 189,i 421,i 62] 422,
 fo 24 "left_behind" IQ 404 190,
 tu [],
 nf [],
 ft 25 "courses_of",
 co "courses_of" 424 425 426 [i 64,i 1,i 0,i 0,i 3,.ref 192,.bool true,i 181,.ref 193,.none,.none,.none,.ref 194,i 427,i 64] 428,
 fo 25 "courses_of" IQ 404 195,
 tu [],
 nf [],
 ft 26 "eaten_of",
 co "eaten_of" 430 431 432 [i 74,i 3,i 0,i 0,i 3,.ref 197,.bool true,i 181,.ref 198,.none,.none,.none,.ref 199,i 433,i 74] 434,
 fo 26 "eaten_of" IQ 404 200,
 tu [],
 nf [],
 ft 27 "eaten_by",
 co "eaten_by" 436 437 438 [i 76,i 3,i 0,i 0,i 3,.ref 202,.bool true,i 181,.ref 203,.none,.none,.none,.ref 204,i 439,i 76] 440,
 fo 27 "eaten_by" IQ 404 205,
 tu [],
 nf [],
 ft 28 "eaten",
 co "eaten" 442 443 444 [i 78,i 1,i 0,i 0,i 3,.ref 207,.bool true,i 181,.ref 208,.none,.none,.none,.ref 209,i 445,i 78] 446,
 fo 28 "eaten" IQ 404 210,
 tu [],
 nf [],
 tu [vs "left" 453,vs "begun" 454,vs "person" 455,vs "thing" 456,vs "part" 457,vs "deal" 458],
 tu [],
 ft 30 "deal_within",
 co "deal_within" 450 451 452 [i 82,i 2,i 0,i 0,i 3,.ref 212,.bool true,i 181,.ref 213,.none,.ref 214,.ref 215,.ref 216,i 459,i 82] 460,
 fo 30 "deal_within" Km 448 217,
 tu [],
 nf [],
 tu [vs "row" 465,vs "thing" 466,vs "weight" 467,vs "rest" 468],
 tu [],
 ft 31 "row_without",
 co "row_without" 462 463 464 [i 92,i 3,i 0,i 0,i 3,.ref 219,.bool true,i 181,.ref 220,.none,.ref 221,.ref 222,.ref 223,i 469,i 92] 470,
 fo 31 "row_without" Km 448 224,
 tu [],
 nf [],
 ft 32 "lots_of",
 co "lots_of" 472 473 474 [i 96,i 1,i 0,i 0,i 3,.ref 226,.bool true,i 181,.ref 227,.none,.none,.none,.ref 228,i 475,i 96] 476,
 fo 32 "lots_of" Km 448 229,
 tu [],
 nf [],
 tu [vs "lots" 481,vs "number" 482,vs "place" 483,vs "so_far" 484],
 tu [],
 ft 33 "picked",
 co "picked" 478 479 480 [i 107,i 2,i 0,i 0,i 3,.ref 231,.bool true,i 181,.ref 232,.none,.ref 233,.ref 234,.ref 235,i 485,i 107] 486,
 fo 33 "picked" Km 448 236,
 tu [],
 nf [],
 tu [vs "value" 495],
 tu [],
 ft 36 "is_listing",
 co "is_listing" 492 493 494 [i 118,i 1,i 0,i 0,i 3,.ref 238,.bool true,i 181,.ref 239,.none,.ref 240,.ref 241,.ref 242,i 496,i 118] 497,
 fo 36 "is_listing" "wishlots.tables" 488 243,
 tu [],
 nf [],
 tu [vs "rows" 502],
 tu [],
 ft 37 "has_people",
 co "has_people" 499 500 501 [i 120,i 1,i 0,i 0,i 3,.ref 245,.bool true,i 181,.ref 246,.none,.ref 247,.ref 248,.ref 249,i 503,i 120] 504,
 fo 37 "has_people" "wishlots.tables" 488 250,
 tu [],
 nf [],
 ft 39 "best_free",
 co "best_free" 508 509 510 [i 123,i 2,i 0,i 0,i 3,.ref 252,.bool true,i 181,.ref 253,.none,.none,.none,.ref 254,i 511,i 123] 512,
 fo 39 "best_free" IV 506 255,
 tu [],
 nf [],
 tu [vs "numbers" 517,vs "number" 518],
 tu [],
 ft 40 "with_one",
 co "with_one" 514 515 516 [i 125,i 2,i 0,i 0,i 3,.ref 257,.bool true,i 181,.ref 258,.none,.ref 259,.ref 260,.ref 261,i 519,i 125] 520,
 fo 40 "with_one" IV 506 262,
 tu [],
 nf [],
 ft 41 "turns_from",
 co "turns_from" 522 523 524 [i 127,i 3,i 0,i 0,i 3,.ref 264,.bool true,i 181,.ref 265,.none,.none,.none,.ref 266,i 525,i 127] 526,
 fo 41 "turns_from" IV 506 267,
 tu [],
 nf [],
 tu [vs "count" 531,vs "orders" 532,vs "number" 533],
 tu [],
 ft 42 "orders_of",
 co "orders_of" 528 529 530 [i 130,i 1,i 0,i 0,i 3,.ref 269,.bool true,i 181,.ref 270,.none,.ref 271,.ref 272,.ref 273,i 534,i 130] 535,
 fo 42 "orders_of" IV 506 274,
 tu [],
 nf [],
 tu [vs "wishes" 540,vs "counts" 541,vs "beginnings" 542,vs "turn" 543,vs "endings" 544,vs "longer" 545,vs "beginning" 546,vs "number" 547,vs "person" 548,vs "thing" 549,vs "state" 550],
 tu [],
 ft 43 "counts_of",
 co "counts_of" 537 538 539 [i 135,i 1,i 0,i 0,i 3,.ref 276,.bool true,i 181,.ref 277,.none,.ref 278,.ref 279,.ref 280,i 551,i 135] 552,
 fo 43 "counts_of" IV 506 281,
 tu [],
 nf [],
 ft 44 "shares_by_turns",
 co "shares_by_turns" 554 555 556 [i 148,i 3,i 0,i 0,i 3,.ref 283,.bool true,i 181,.ref 284,.none,.none,.none,.ref 285,i 557,i 148] 558,
 fo 44 "shares_by_turns" IV 506 286,
 tu [],
 nf [],
 ft 45 "by_turns",
 co "by_turns" 560 561 562 [i 151,i 1,i 0,i 0,i 3,.ref 288,.bool true,i 181,.ref 289,.none,.none,.none,.ref 290,i 563,i 151] 564,
 fo 45 "by_turns" IV 506 291,
 tu [],
 nf [],
 ft 48 "is_word",
 co "is_word" 570 571 572 [i 156,i 1,i 0,i 0,i 3,.ref 293,.bool true,i 181,.ref 294,.none,.none,.none,.ref 295,i 573,i 156] 574,
 fo 48 "is_word" GV 566 296,
 tu [],
 nf [],
 ft 49 "is_roll",
 co "is_roll" 576 577 578 [i 160,i 1,i 0,i 0,i 3,.ref 298,.bool true,i 181,.ref 299,.none,.none,.none,.ref 300,i 579,i 160] 580,
 fo 49 "is_roll" GV 566 301,
 tu [],
 {cls:= .type "builtin_function_or_method",data:= .fields #[.builtin "type.__prepare__",.type "type"]},
 di [en P "__module__" 589 (vs GV 566),en P "__qualname__" 591 (vs "Book" 590),en P "__firstlineno__" 593 (.int 162 592),en P "__init__" 602 (.ref 316),en P "check_person" 610 (.ref 323),en P "wish" 616 (.ref 328),en P "lacking" 622 (.ref 333),en P "table_by" 628 (.ref 338),en P "shares" 634 (.ref 343),en P "deal" 640 (.ref 348),en P "__static_attributes__" 644 (.ref 349)] 11,
 tu [],
 nf [i 164,i 4,.ref 315,i 171,i 4,.ref 322,i 175,i 4,.ref 327,i 182,i 4,.ref 332,i 185,i 4,.ref 337,i 195,i 4,.ref 342,i 201,i 4,.ref 347],
 co "Book" 584 585 586 [i 162,i 0,i 0,i 0,i 0,.ref 306,.bool false,i 181,.ref 307,.none,.none,.none,.none,i 587,i 162] 588,
 {cls:= .type "frame",slots:= #[some (.ref 308),some (.ref 3),some (.ref 305),none,some (vs GV 566),none,some (.ref 0)]},
 tu [],
 nf [],
 tu [vs "self" 597,vs "people" 598,vs "things" 599],
 tu [],
 fc 50 0 "__init__" "Book.__init__",
 cq "__init__" "Book.__init__" 594 595 596 [i 164,i 3,i 0,i 0,i 3,.ref 310,.bool true,i 181,.ref 311,.none,.ref 312,.ref 313,.ref 314,i 600,i 164] 601,
 fm 50 0 "__init__" "Book.__init__" GV 566 315,
 tu [],
 nf [],
 tu [vs "self" 606,vs "person" 607],
 tu [],
 fc 50 1 "check_person" "Book.check_person",
 cq "check_person" "Book.check_person" 603 604 605 [i 171,i 2,i 0,i 0,i 3,.ref 317,.bool true,i 181,.ref 318,.none,.ref 319,.ref 320,.ref 321,i 608,i 171] 609,
 fm 50 1 "check_person" "Book.check_person" GV 566 322,
 tu [],
 nf [],
 fc 50 2 "wish" "Book.wish",
 cq "wish" "Book.wish" 611 612 613 [i 175,i 3,i 0,i 0,i 3,.ref 324,.bool true,i 181,.ref 325,.none,.none,.none,.ref 326,i 614,i 175] 615,
 fm 50 2 "wish" "Book.wish" GV 566 327,
 tu [],
 nf [],
 fc 50 3 "lacking" "Book.lacking",
 cq "lacking" "Book.lacking" 617 618 619 [i 182,i 1,i 0,i 0,i 3,.ref 329,.bool true,i 181,.ref 330,.none,.none,.none,.ref 331,i 620,i 182] 621,
 fm 50 3 "lacking" "Book.lacking" GV 566 332,
 tu [],
 nf [],
 fc 50 4 "table_by" "Book.table_by",
 cq "table_by" "Book.table_by" 623 624 625 [i 185,i 2,i 0,i 0,i 3,.ref 334,.bool true,i 181,.ref 335,.none,.none,.none,.ref 336,i 626,i 185] 627,
 fm 50 4 "table_by" "Book.table_by" GV 566 337,
 tu [],
 nf [],
 fc 50 5 "shares" "Book.shares",
 cq "shares" "Book.shares" 629 630 631 [i 195,i 3,i 0,i 0,i 3,.ref 339,.bool true,i 181,.ref 340,.none,.none,.none,.ref 341,i 632,i 195] 633,
 fm 50 5 "shares" "Book.shares" GV 566 342,
 tu [],
 nf [],
 fc 50 6 "deal" "Book.deal",
 cq "deal" "Book.deal" 635 636 637 [i 201,i 3,i 0,i 0,i 3,.ref 344,.bool true,i 181,.ref 345,.none,.none,.none,.ref 346,i 638,i 201] 639,
 fm 50 6 "deal" "Book.deal" GV 566 347,
 tu [vs "people" 641,vs "things" 642,vs "wishes_told" 643],
 di [en P "__module__" 589 (vs GV 566),en P "__firstlineno__" 593 (.int 162 592),en P "__init__" 602 (.ref 316),en P "check_person" 610 (.ref 323),en P "wish" 616 (.ref 328),en P "lacking" 622 (.ref 333),en P "table_by" 628 (.ref 338),en P "shares" 634 (.ref 343),en P "deal" 640 (.ref 348),en P "__static_attributes__" 644 (.ref 349),en P "__dict__" 646 (.ref 352),en P "__weakref__" 648 (.ref 353),en P "__doc__" 649 (.none)] 4,
 {cls:= .type "type",data:= .cls {name:="Book",bases:=[.type "object"],mro:=[.ref 351,.type "object"],ns:=350,qualname:="Book"},slots:= #[none,none,some (vs "Book" 582),some (vs "Book" 590),some (.builtin "object.__new__"),some (.bool true)]},
 {cls:= .type "getset_descriptor",data:= .fields #[vs "__dict__" 645,.ref 351,.builtin "function.__dict__",.builtin "function.__dict__#set"]},
 {cls:= .type "getset_descriptor",data:= .fields #[vs "__weakref__" 647,.ref 351,.builtin "ExceptionGroup.__weakref__",.none]},
 {cls:= .type "super",data:= .fields #[.ref 351,.ref 351,.ref 351]},
 {cls:= .type "builtin_function_or_method",data:= .fields #[.builtin "object.__init_subclass__",.ref 351]},
 tu [],
 nf [],
 tu [vs "_law_script" 657,vs "_law_k" 658],
 tu [],
 ft 52 "_law_cell_at",
 co "_law_cell_at" 654 655 656 [i 206,i 2,i 0,i 0,i 3,.ref 356,.bool true,i 181,.ref 357,.none,.ref 358,.ref 359,.ref 360,i 659,i 206] 660,
 fo 52 "_law_cell_at" FC 652 361,
 tu [],
 nf [],
 tu [vs "_law_cell" 665,vs "_law_many" 666,vs "_law_found" 667,vs "_law_number" 668,vs "_law_k" 669],
 tu [],
 ft 53 "_law_mixed",
 co "_law_mixed" 662 663 664 [i 210,i 2,i 0,i 0,i 3,.ref 363,.bool true,i 181,.ref 364,.none,.ref 365,.ref 366,.ref 367,i 670,i 210] 671,
 fo 53 "_law_mixed" FC 652 368,
 tu [],
 nf [],
 tu [vs "_law_number" 676,vs "_law_count" 677,vs "_law_found" 678,vs "_law_k" 679],
 tu [],
 ft 54 "_law_perm",
 co "_law_perm" 673 674 675 [i 223,i 2,i 0,i 0,i 3,.ref 370,.bool true,i 181,.ref 371,.none,.ref 372,.ref 373,.ref 374,i 680,i 223] 681,
 fo 54 "_law_perm" FC 652 375,
 tu [],
 nf [],
 tu [vs "_law_one" 686,vs "_law_other" 687,vs "_law_rest" 688],
 tu [],
 ft 55 "_law_divisor",
 co "_law_divisor" 683 684 685 [i 229,i 2,i 0,i 0,i 3,.ref 377,.bool true,i 181,.ref 378,.none,.ref 379,.ref 380,.ref 381,i 689,i 229] 690,
 fo 55 "_law_divisor" FC 652 382,
 tu [],
 nf [],
 tu [vs "_law_top" 695,vs "_law_bottom" 696,vs "_law_share" 697],
 tu [],
 ft 56 "_law_lowest",
 co "_law_lowest" 692 693 694 [i 235,i 2,i 0,i 0,i 3,.ref 384,.bool true,i 181,.ref 385,.none,.ref 386,.ref 387,.ref 388,i 698,i 235] 699,
 fo 56 "_law_lowest" FC 652 389,
 tu [],
 nf [],
 tu [vs "_law_cell" 704,vs "_law_size" 705,vs "_law_found" 706,vs "_law_rest" 707,vs "_law_k" 708],
 tu [],
 ft 57 "_law_base",
 co "_law_base" 701 702 703 [i 242,i 2,i 0,i 0,i 3,.ref 391,.bool true,i 181,.ref 392,.none,.ref 393,.ref 394,.ref 395,i 709,i 242] 710,
 fo 57 "_law_base" FC 652 396,
 tu [],
 nf [],
 tu [vs "_law_base_here" 715,vs "_law_place" 716,vs "_law_size" 717,vs "_law_k" 718,vs "_law_letters" 719,vs "_law_other" 720],
 tu [],
 ft 58 "_law_word",
 co "_law_word" 712 713 714 [i 254,i 4,i 0,i 0,i 3,.ref 398,.bool true,i 181,.ref 399,.none,.ref 400,.ref 401,.ref 402,i 721,i 254] 722,
 fo 58 "_law_word" FC 652 403,
 tu [],
 nf [],
 tu [vs "_law_script" 727,vs "_law_at" 728,vs "_law_many" 729,vs "_law_cell" 730,vs "_law_size" 731,vs "_law_base_here" 732,vs "_law_words_here" 733,vs "_law_k" 734,vs "_law_word_here" 735],
 tu [],
 ft 59 "_law_words",
 co "_law_words" 724 725 726 [i 258,i 3,i 0,i 0,i 3,.ref 405,.bool true,i 181,.ref 406,.none,.ref 407,.ref 408,.ref 409,i 736,i 258] 737,
 fo 59 "_law_words" FC 652 410,
 tu [],
 nf [],
 tu [vs "_law_found" 742,vs "_law_due" 743,vs "_law_k" 744],
 tu [],
 ft 60 "_law_same",
 co "_law_same" 739 740 741 [i 269,i 2,i 0,i 0,i 3,.ref 412,.bool true,i 181,.ref 413,.none,.ref 414,.ref 415,.ref 416,i 745,i 269] 746,
 fo 60 "_law_same" FC 652 417,
 tu [],
 nf [],
 tu [vs "_law_way" 751,vs "_law_wishes" 752],
 tu [],
 ft 61 "_law_table_by",
 co "_law_table_by" 748 749 750 [i 286,i 2,i 0,i 0,i 3,.ref 419,.bool true,i 181,.ref 420,.none,.ref 421,.ref 422,.ref 423,i 753,i 286] 754,
 fo 61 "_law_table_by" FC 652 424,
 tu [],
 nf [],
 ft 62 "_law_shares_well",
 co "_law_shares_well" 756 757 758 [i 290,i 6,i 0,i 0,i 3,.ref 426,.bool true,i 181,.ref 427,.none,.none,.none,.ref 428,i 759,i 290] 760,
 fo 62 "_law_shares_well" FC 652 429,
 tu [],
 nf [],
 ft 63 "_law_deal_well",
 co "_law_deal_well" 762 763 764 [i 299,i 6,i 0,i 0,i 3,.ref 431,.bool true,i 181,.ref 432,.none,.none,.none,.ref 433,i 765,i 299] 766,
 fo 63 "_law_deal_well" FC 652 434,
 tu [],
 nf [],
 ft 64 "_law_wish",
 co "_law_wish" 768 769 770 [i 308,i 6,i 0,i 0,i 3,.ref 436,.bool true,i 181,.ref 437,.none,.none,.none,.ref 438,i 771,i 308] 772,
 fo 64 "_law_wish" FC 652 439,
 tu [],
 nf [],
 ft 65 "_law_refused",
 co "_law_refused" 774 775 776 [i 311,i 4,i 0,i 0,i 3,.ref 441,.bool true,i 181,.ref 442,.none,.none,.none,.ref 443,i 777,i 311] 778,
 fo 65 "_law_refused" FC 652 444,
 tu [],
 nf [],
 tu [vs "_law_book" 783,vs "_law_people" 784,vs "_law_things" 785,vs "_law_wishes" 786,vs "_law_xs" 787,vs "_law_place" 788,vs "_law_way" 789,vs "_law_number" 790],
 tu [],
 ft 66 "_law_deed",
 co "_law_deed" 780 781 782 [i 325,i 5,i 0,i 0,i 3,.ref 446,.bool true,i 181,.ref 447,.none,.ref 448,.ref 449,.ref 450,i 791,i 325] 792,
 fo 66 "_law_deed" FC 652 451,
 tu [],
 nf [],
 ft 67 "law",
 co "law" 794 795 796 [i 336,i 1,i 0,i 0,i 3,.ref 453,.bool true,i 181,.ref 454,.none,.none,.none,.ref 455,i 797,i 336] 798,
 fo 67 "law" FC 652 456]
noncomputable def hp(m f e:Nat)(x:cA)(P:Params):Heap:={objs:=((((obs P).take m).set 3 (di (en P "__name__" 165 x::(Lj P).tail.take e) (e+1))).set 12 (nf (MX.take f))).toArray}
noncomputable def all(P:Params):List Obj:=(obs P).set 3 (di (Lj P) 69)
def Mu:List cG:=[3,23,24,25,36,37,48,49,60,61,72,73,84,85,96,97,108,109,112,113,119,120,126,127,133,134,140,141,147,148,154,155,161,162,168,169,175,176,180,181,185,186,190,191,195,196,200,201,205,206,210,211,217,218,224,225,229,230,236,237,243,244,250,251,255,256,262,263,267,268,274,275,281,282,286,287,291,292,296,297,301,302,315,316,322,323,327,328,332,333,337,338,342,343,347,348,350,351,352,353,361,362,368,369,375,376,382,383,389,390,396,397,403,404,410,411,417,418,424,425,429,430,434,435,439,440,444,445,451,452,456,457]
noncomputable def K0(P:Params):cu:=Mu.map λa=>(a,(all P).getD a default)
theorem D4:∀P,Mu=(K0 P).map (·.1):=λ_=>rfl
noncomputable abbrev hk:Hook:=kHook K0 Mu D4
def vw:cT:={cJ with main:={cJ.main with body:=[Eg 1,Eg 2,Eg 3,Eg 4,Eg 5,Eg 6,Eg 7,Eg 8,Eg 10,Eg 11,Eg 12,Eg 13,Eg 14,Eg 15,Eg 16,Eg 17,Eg 18,Eg 19,Eg 20,Eg 22,Eg 23,Eg 24,Eg 25,Eg 26,Eg 27,Eg 28,Eg 30,Eg 31,Eg 32,Eg 33,Eg 35,Eg 36,Eg 37,Eg 39,Eg 40,Eg 41,Eg 42,Eg 43,Eg 44,Eg 45,Eg 47,Eg 48,Eg 49,Eg 50,Eg 52,Eg 53,Eg 54,Eg 55,Eg 56,Eg 57,Eg 58,Eg 59,Eg 60,Eg 61,Eg 62,Eg 63,Eg 64,Eg 65,Eg 66,Eg 67]}}
def MM:List Stmt:=[Eg 0,Eg 1,Eg 2,Eg 3,Eg 4,Eg 5,Eg 6,Eg 7,Eg 8]
def MI:List Stmt:=[Eg 9,Eg 10,Eg 11,Eg 12,Eg 13,Eg 14,Eg 15,Eg 16,Eg 17,Eg 18,Eg 19,Eg 20,Eg 21,Eg 22,Eg 23,Eg 24]
def MF:List Stmt:=[Eg 25,Eg 26,Eg 27,Eg 28,Eg 29,Eg 30,Eg 31,Eg 32,Eg 33,Eg 34,Eg 35,Eg 36,Eg 37,Eg 38,Eg 39,Eg 40]
def MG:List Stmt:=[Eg 41,Eg 42,Eg 43,Eg 44,Eg 45,Eg 46,Eg 47,Eg 48,Eg 49]
def ME:List Stmt:=[Eg 50]
def MD:List Stmt:=[Eg 51,Eg 52,Eg 53,Eg 54,Eg 55,Eg 56,Eg 57,Eg 58,Eg 59,Eg 60,Eg 61,Eg 62,Eg 63]
def MK:List Stmt:=[Eg 64,Eg 65,Eg 66,Eg 67]
def bd:List Stmt:=MM++(MI++(MF++(MG++(ME++(MD++(MK++([])))))))
def ev:Env:={scope:=cJ.main.scope,locals:=mainNs,globals:=mainNs,cells:=[],code:= .ref 13,frame:=some 14}
def cE:Code:= .body bd ev
abbrev tf:List Frame:=[topFrame ⟨0,0,0,0⟩]
noncomputable def hA(P:Params):Heap:={objs:=((obs P).take 15).toArray}
theorem pre(w:dc)(os:OsState):topGo treeTable cJ w 11 (some (.ref 6)) 12 ⟨jp w.params,Array.mk [],eh,qa,os⟩ (topStub cJ)=some (⟨hA w.params,Array.mk [],eh,187,os⟩,⟨denote treeTable cE,cE,⟨0,0,0,0⟩,tf⟩):=by kernel_rfl
theorem MN(w:dc)(os:OsState):segRun treeTable cJ w 11 (some (.ref 6)) 1 1 ⟨hA w.params,Array.mk [],eh,187,os⟩ (blockOf bd ev cE ⟨0,0,0,0⟩ tf)=some (.next,⟨hA w.params,Array.mk [],eh,187,os⟩,cE,⟨0,0,0,0⟩):=by kernel_rfl
noncomputable def h0:Params->Heap:=hp 112 24 16 (vs "wishlots.errors" 187)
theorem g0(w:dc)(os:OsState):segRun treeTable cJ w 11 (some (.ref 6)) 1 1687 ⟨hA w.params,Array.mk [],eh,187,os⟩ (piecesOf MM ev cE ⟨0,0,0,0⟩ tf)=some (.next,⟨h0 w.params,Array.mk [],eh,319,os⟩,cE,⟨16,0,17,8⟩):=by kernel_rfl
noncomputable def h1:Params->Heap:=hp 192 60 30 (vs IQ 404)
theorem g1(w:dc)(os:OsState):segRun treeTable cJ w 11 (some (.ref 6)) 1 396 ⟨h0 w.params,Array.mk [],eh,319,os⟩ (piecesOf MI ev cE ⟨16,0,17,8⟩ tf)=some (.next,⟨h1 w.params,Array.mk [],eh,424,os⟩,cE,⟨62,0,63,100⟩):=by kernel_rfl
noncomputable def h2:Params->Heap:=hp 264 96 43 (vs IV 506)
theorem g2(w:dc)(os:OsState):segRun treeTable cJ w 11 (some (.ref 6)) 1 379 ⟨h1 w.params,Array.mk [],eh,424,os⟩ (piecesOf MF ev cE ⟨62,0,63,100⟩ tf)=some (.next,⟨h2 w.params,Array.mk [],eh,522,os⟩,cE,⟨125,0,126,45⟩):=by kernel_rfl
noncomputable def h3:Params->Heap:=hp 303 117 51 (vs GV 566)
theorem g3(w:dc)(os:OsState):segRun treeTable cJ w 11 (some (.ref 6)) 1 219 ⟨h2 w.params,Array.mk [],eh,522,os⟩ (piecesOf MG ev cE ⟨125,0,126,45⟩ tf)=some (.next,⟨h3 w.params,Array.mk [],eh,582,os⟩,cE,⟨160,0,161,107⟩):=by kernel_rfl
noncomputable def h4:Params->Heap:=hp 356 120 52 (vs GV 566)
theorem g4(w:dc)(os:OsState):segRun treeTable cJ w 11 (some (.ref 6)) 1 398 ⟨h3 w.params,Array.mk [],eh,582,os⟩ (piecesOf ME ev cE ⟨160,0,161,107⟩ tf)=some (.next,⟨h4 w.params,Array.mk [],eh,652,os⟩,cE,⟨162,0,204,44⟩):=by kernel_rfl
noncomputable def h5:Params->Heap:=hp 436 156 64 (vs FC 652)
theorem g5(w:dc)(os:OsState):segRun treeTable cJ w 11 (some (.ref 6)) 1 384 ⟨h4 w.params,Array.mk [],eh,652,os⟩ (piecesOf MD ev cE ⟨162,0,204,44⟩ tf)=some (.next,⟨h5 w.params,Array.mk [],eh,768,os⟩,cE,⟨299,0,307,15⟩):=by kernel_rfl
noncomputable def h6:Params->Heap:=hp 458 168 68 (vs FC 652)
theorem g6(w:dc)(os:OsState):segRun treeTable cJ w 11 (some (.ref 6)) 1 115 ⟨h5 w.params,Array.mk [],eh,768,os⟩ (piecesOf MK ev cE ⟨299,0,307,15⟩ tf)=some (.next,⟨h6 w.params,Array.mk [],eh,800,os⟩,cE,⟨336,0,359,15⟩):=by kernel_rfl
theorem fin(w:dc)(os:OsState):topRun treeTable cJ w 11 (some (.ref 6)) 2 ⟨h6 w.params,Array.mk [],eh,800,os⟩ (restOf [] ev cE ⟨336,0,359,15⟩ tf)=some ⟨h6 w.params,Array.mk [],eh,800,os⟩:=by kernel_rfl
theorem run(w:dc)(os:OsState):topRun treeTable cJ w 11 (some (.ref 6)) (12+(1+(1687+(396+(379+(219+(398+(384+(115+(2)))))))))) ⟨jp w.params,Array.mk [],eh,qa,os⟩ (topStub cJ)=some ⟨h6 w.params,Array.mk [],eh,800,os⟩:=go_top (pre w os) (piece_block (MN w os) (j7 (g0 w os) (j7 (g1 w os) (j7 (g2 w os) (j7 (g3 w os) (j7 (g4 w os) (j7 (g5 w os) (j7 (g6 w os) (fin w os)))))))))
theorem MV:∀w:dc,(fencedOpening treeTable cJ w 7866).map (λs=>(s.heap,s.gens,s.drawn,s.toks))=some (jp w.params,Array.mk [],eh,qa):=boot_open (by kernel_rfl) rfl λs=>by kernel_rfl
theorem size:∀w:dc,((jp w.params).isNs fD&&(Array.mk []:Array GenState).size==0,(jp w.params).objs.size,(jp w.params).nsMap fD "__annotations__")=(true,11,some (.ref 6)):=λw=>by kernel_rfl
abbrev xt:cD->Bool:=λs=>xlAt vw [] s&&recOk (RowW.records (OpenRow.toRowW f8.row)) s
theorem Lk:∀w:dc,(λos=>((staticsOk (importedModules cJ.main.body) (jp w.params) (h6 w.params)&&namesBound cJ (h6 w.params)&&gensDone ⟨h6 w.params,Array.mk [],eh,800,os⟩&&laidKept (jp w.params) (h6 w.params)),openSeen vw [] (importedModules cJ.main.body) xt true ⟨h6 w.params,Array.mk [],eh,800,os⟩,hk.obs ⟨h6 w.params,Array.mk [],eh,800,os⟩))=λ_=>(true,openGood vw [],hk.val w):=λw=>by kernel_rfl
theorem MU:LeftO cJ vw [] xt hk.obs hk.val 7866:=LeftO.of_pieces MV size run rfl Lk
theorem EX{K:Frag}{h:Heap}{mg:Str->Option cA}{n:Str}{st:Stmt}(f c:cG)(pm:cA)(X:K.In h)(G:h.Ns fD mg)
  (e:(nsIn K fD n,K.lookup f,codeIn K (.ref c) n,keepIn K (.ref f))=(some (some (.ref f)),some ⟨.type "function",none,.func (fnOf n n (Eo st) (Ek st) (Ec st) .none .none .none pm none (.ref c) .none),#[]⟩,true,true)):Def K mg n st:=by
 have a:=Prod.mk.inj e
 have d:=Prod.mk.inj a.2
 have b:=Prod.mk.inj d.2
 exact⟨_,_,yM (st:=st) d.1 b.1 b.2,kH X G a.1⟩
theorem K1{K:Frag}{C:cG}{m q:Str}{st:Stmt}(f c:cG)(pm:cA)
  (e:((findIn K (.ref C) m,isFn K (.ref f)),K.lookup f,codeIn K (.ref c) q,keepIn K (.ref f))=((some (some (.ref f)),true),some ⟨.type "function",none,.func (fnOf m q (Eo st) (Ek st) (Ec st) .none .none .none pm none (.ref c) .none),#[]⟩,true,true)):MDef K C m q st:=by
 have b:=Prod.mk.inj e
 have g:=Prod.mk.inj b.1
 have d:=Prod.mk.inj b.2
 have a:=Prod.mk.inj d.2
 exact⟨_,_,yM (st:=st) d.1 a.1 a.2,g.1,g.2,a.2⟩
theorem MO{K:Frag}{h:Heap}{mg:Str->Option cA}{C:cG}{x q:Str}{st:Stmt}(f c:cG)(pm:cA)(X:K.In h)(G:h.Ns fD mg)
  (e0:(makesIn K C,findIn K (.ref C) "__init__",isFn K (.ref f),keepIn K (.ref C),nsIn K fD x)=(true,some (some (.ref f)),true,true,some (some (.ref C))))
  (e:(K.lookup f,codeIn K (.ref c) q,keepIn K (.ref f))=(some ⟨.type "function",none,.func (fnOf "__init__" q (Eo st) (Ek st) (Ec st) .none .none .none pm none (.ref c) .none),#[]⟩,true,true)):BDef K mg C x q st:=by
 have g:=Prod.mk.inj e0
 have a:=Prod.mk.inj g.2
 have d:=Prod.mk.inj a.2
 have k:=Prod.mk.inj d.2
 have j:=Prod.mk.inj e
 have b:=Prod.mk.inj j.2
 exact⟨_,_,yM (st:=st) j.1 b.1 b.2,⟨g.1,a.1,d.1,k.1⟩,kH X G k.2⟩
theorem all_mk{l:OpenLaw}{w:dc}{K:Frag}{h:Heap}{mg:Str->Option cA}{fa:cG}{x:Xs}{cB:cG}(f c:cG)(pm:cA)(X:K.In h)(G:h.Ns fD mg)(hfa:mg "law"=some (.ref fa))(M:Md K mg x cB)
  (e:(nsIn K fD "law",K.lookup f,codeIn K (.ref c) "law",keepIn K (.ref f))=(some (some (.ref f)),some ⟨.type "function",none,.func (fnOf "law" "law" (Eo (Eg 67)) (Ek (Eg 67)) (Ec (Eg 67)) .none .none .none pm none (.ref c) .none),#[]⟩,true,true)):
  ∃fd:FuncData,(∀(s:cD) (v:cA),BindsTo s fd ⟨[v],[]⟩ [("_law_script",v)])/\∀base:Heap,K.In base->base.Ns fD mg->FnOk l.prog w K mg base Em 12 fa fd ["_law_script"] (Jo K):=by
 have e1:=Prod.mk.inj e
 have e2:=Prod.mk.inj e1.2
 have e3:=Prod.mk.inj e2.2
 have e4:=hfa.symm.trans (kH X G e1.1)
 cases e4
 refine⟨fnOf "law" "law" (Eo (Eg 67)) (Ek (Eg 67)) (Ec (Eg 67)) .none .none .none pm none (.ref c) .none,λs v=> .of_eq rfl,λbase _ _=>?_⟩
 have ap:=IK (P:=l.prog) (w:=w) (base:=base) M
 have q:=Gh (P:=l.prog) (w:=w) (base:=base) M
 have d:=IW (P:=l.prog) (w:=w) (base:=base) M ap q
 have af:=KB (P:=l.prog) (w:=w) (base:=base) M d
 have am:=Kb (P:=l.prog) (w:=w) (base:=base) M d
 have an:=Ke (P:=l.prog) (w:=w) (base:=base) M d
 have W:=JT (P:=l.prog) (w:=w) (base:=base) M
 have al:=Kc (P:=l.prog) (w:=w) (base:=base) M af
 have ao:=J3 (P:=l.prog) (w:=w) (base:=base) M W
 have aa:=Ig (P:=l.prog) (w:=w) (base:=base) M
 have E:=GS (P:=l.prog) (w:=w) (base:=base) M an ao
 have N:=Ha (P:=l.prog) (w:=w) (base:=base) M am an
 have S:=HS (P:=l.prog) (w:=w) (base:=base) M (al.imp λ_ _ _ _=>DB) aa E N
 have ai:=I8 (P:=l.prog) (w:=w) (base:=base) M (al.imp λ_ _ _ _=>DB)
 have ah:=IP (P:=l.prog) (w:=w) (base:=base) M ai
 have ak:=J4 (P:=l.prog) (w:=w) (base:=base) M S ah
 have W0:=M.f_deal_within.nothing (P:=l.prog) (w:=w) (base:=base) (ps:=["left","begun"]) (λ_ _ _ _ _ _ us hl=>match us,hl with|[_,_],_=>rfl)
 have W1:=Es (m:=0) M W0
 have W2:=Es (m:=1) M W1
 have W3:=Es (m:=2) M W2
 have W4:=Es (m:=3) M W3
 have W5:=Es (m:=4) M W4
 have W6:=Es (m:=5) M W5
 have J:=Es (m:=6) M W6
 have I:=G3 (P:=l.prog) (w:=w) (base:=base) M am
 have O:=Jr (P:=l.prog) (w:=w) (base:=base) M J ao I af
 have Y:=JF (P:=l.prog) (w:=w) (base:=base) M W af
 have T:=HU (P:=l.prog) (w:=w) (base:=base) M
 have R:=HP (P:=l.prog) (w:=w) (base:=base) M T
 have ae:=Iu (P:=l.prog) (w:=w) (base:=base) M
 have aj:=IS (P:=l.prog) (w:=w) (base:=base) M
 have U:=Hx (P:=l.prog) (w:=w) (base:=base) M ae
 have u:=IJ (P:=l.prog) (w:=w) (base:=base) M
 have ab:=Ie (P:=l.prog) (w:=w) (base:=base) M u U aj
 have o:=FW (P:=l.prog) (w:=w) (base:=base) M u d
 have B:=IX (P:=l.prog) (w:=w) (base:=base) M ab o
 have aq:=Jq (P:=l.prog) (w:=w) (base:=base) M
 have ar:=Js (P:=l.prog) (w:=w) (base:=base) M R aq
 have A:=Gs (P:=l.prog) (w:=w) (base:=base) M ar
 have a:=FD (P:=l.prog) (w:=w) (base:=base) M
 have z:=Ix (P:=l.prog) (w:=w) (base:=base) M a
 have D:=GN (P:=l.prog) (w:=w) (base:=base) M
 have j:=Gu (P:=l.prog) (w:=w) (base:=base) M D ak B
 have L:=G9 (P:=l.prog) (w:=w) (base:=base) M a j
 have ag:=IA (P:=l.prog) (w:=w) (base:=base) M O j Y
 have k:=G0 (P:=l.prog) (w:=w) (base:=base) M
 have Q:=HL (P:=l.prog) (w:=w) (base:=base) M
 have t:=Iz (P:=l.prog) (w:=w) (base:=base) M
 have ad:=IC (P:=l.prog) (w:=w) (base:=base) M
 have Z:=Ip (P:=l.prog) (w:=w) (base:=base) M
 have V:=HK (P:=l.prog) (w:=w) (base:=base) M k ad Z
 have F:=GX (P:=l.prog) (w:=w) (base:=base) M
 have H:=G4 (P:=l.prog) (w:=w) (base:=base) M F
 have Y0:=M.f__law_same.nothing (P:=l.prog) (w:=w) (base:=base) (ps:=["_law_found","_law_due"]) (λ_ _ _ _ _ _ us hl=>match us,hl with|[_,_],_=>rfl)
 have Y1:=EZ (n:=0) M Y0
 have Y2:=EZ (n:=1) M Y1
 have Y3:=EZ (n:=2) M Y2
 have y:=EZ (n:=3) M Y3
 have g:=Gy (P:=l.prog) (w:=w) (base:=base) M ak B
 have b:=FS (P:=l.prog) (w:=w) (base:=base) M g L y
 have p:=Gg (P:=l.prog) (w:=w) (base:=base) M g O Y ag y
 have r:=Ib (P:=l.prog) (w:=w) (base:=base) M t z
 have C:=GW (P:=l.prog) (w:=w) (base:=base) M t z
 have ac:=IG (P:=l.prog) (w:=w) (base:=base) M r C b H p
 exact LU (yM (st:=Eg 67) e2.1 e3.1 e3.2) M k V A Q r ac b
theorem walk{l:OpenLaw}{q:cT}{loose:List Str}{XP:(Str->Option cA)->Heap->Prop}{YP:dc->Heap->Prop}{d:DefRec}{K:Params->Frag}(hn:l.most=some 63)(hdf:d.params.defaults=[])
  (hY:∀(w:dc) (h:Heap),YP w h->(K w.params).In h)
  (F:∀(w:dc) (mg:Str->Option cA) (fa:cG) (h:Heap),(K w.params).In h->h.Ns fD mg->mg d.name=some (.ref fa)->
   ∃fd:FuncData,(∀(s:cD) (u:cA),BindsTo s fd ⟨[u],[]⟩ [("_law_script",u)])/\∀base:Heap,(K w.params).In base->base.Ns fD mg->FnOk l.prog w (K w.params) mg base Em 12 fa fd ["_law_script"] (Jo (K w.params))):
  WalkO q loose XP YP l.row.toRowW d [] (λf vs=>oM f vs):=
 L2.walk_of (n:=63) (k:=12) (x:="_law_script") (CX:=λ_=>Em) (sp:=λw=>Jo (K w.params)) hn (by decide) hdf ⟨rfl,by decide,by decide⟩ hY F (λ_ _ a e c _ b=>⟨a,e,rfl,b,c,λ_=>rfl⟩) λ_ _ _ _ _ z=>z
end Nk52
open PySem PySem.W PyProof.Rows L2 Nk52
set_option maxRecDepth 100000 in
set_option maxHeartbeats 0 in
theorem PySem.Challenge.cw_wishlots_k52_whole_book_holds : PySem.Challenge.rw_wishlots_k52_whole_book.Holds := by
 refine holds_law Cj λc=>?_
 refine holds_open (q:=vw) (loose:=[]) (Xt:=xt) (XP:=XL vw []) (Yf:=Hook.obs hk) (Ya:=Hook.val hk)
  (YP:=Hook.says hk) (N:=7866) ?hl (Hook.of _) (Hook.keeps _) (λs e=>xl_of s (mj.mp e).1)
  XL.keeps (by rfl) (by rfl) (by rfl) (λs e=>recFacts_of (mj.mp e).2) (by rfl) (by first|assumption|decide +kernel) (by decide +kernel) ⟨rfl,rfl,rfl,rfl,rfl,by decide +kernel⟩ ?hw ?hc
 case hl=>exact MU
 case hw=>w_witness2
 refine Nk52.walk (l:=f8) rfl rfl (λw h Y=>kIn_of Y) ?F
 case F=>
  intro w f d h a G b;refine Nk52.all_mk (x:=⟨24,37,49,0,61,0,73,85,97,109⟩) (cB:=351) 457 456 (vs FC 652) a G b ?_ (by kernel_rfl);exact⟨EX 120 119 (vs HV 319) a G (by kernel_rfl),
   EX 127 126 (vs HV 319) a G (by kernel_rfl),
   EX 134 133 (vs HV 319) a G (by kernel_rfl),
   EX 141 140 (vs HV 319) a G (by kernel_rfl),
   EX 148 147 (vs HV 319) a G (by kernel_rfl),
   EX 155 154 (vs HV 319) a G (by kernel_rfl),
   EX 162 161 (vs HV 319) a G (by kernel_rfl),
   EX 169 168 (vs HV 319) a G (by kernel_rfl),
   EX 176 175 (vs HV 319) a G (by kernel_rfl),
   EX 181 180 (vs IQ 404) a G (by kernel_rfl),
   EX 186 185 (vs IQ 404) a G (by kernel_rfl),
   EX 191 190 (vs IQ 404) a G (by kernel_rfl),
   EX 196 195 (vs IQ 404) a G (by kernel_rfl),
   EX 201 200 (vs IQ 404) a G (by kernel_rfl),
   EX 206 205 (vs IQ 404) a G (by kernel_rfl),
   EX 211 210 (vs IQ 404) a G (by kernel_rfl),
   EX 218 217 (vs Km 448) a G (by kernel_rfl),
   EX 225 224 (vs Km 448) a G (by kernel_rfl),
   EX 230 229 (vs Km 448) a G (by kernel_rfl),
   EX 237 236 (vs Km 448) a G (by kernel_rfl),
   EX 244 243 (vs "wishlots.tables" 488) a G (by kernel_rfl),
   EX 251 250 (vs "wishlots.tables" 488) a G (by kernel_rfl),
   EX 256 255 (vs IV 506) a G (by kernel_rfl),
   EX 263 262 (vs IV 506) a G (by kernel_rfl),
   EX 268 267 (vs IV 506) a G (by kernel_rfl),
   EX 275 274 (vs IV 506) a G (by kernel_rfl),
   EX 282 281 (vs IV 506) a G (by kernel_rfl),
   EX 287 286 (vs IV 506) a G (by kernel_rfl),
   EX 292 291 (vs IV 506) a G (by kernel_rfl),
   EX 297 296 (vs GV 566) a G (by kernel_rfl),
   EX 302 301 (vs GV 566) a G (by kernel_rfl),
   MO 316 315 (vs GV 566) a G (by kernel_rfl) (by kernel_rfl),
   ⟨by kernel_rfl,by kernel_rfl,by kernel_rfl,by kernel_rfl⟩,
   (show findIn _ _ _=some none by kernel_rfl),
   (show findIn _ _ _=some none by kernel_rfl),
   (show findIn _ _ _=some none by kernel_rfl),
   K1 323 322 (vs GV 566) (by kernel_rfl),
   K1 328 327 (vs GV 566) (by kernel_rfl),
   K1 333 332 (vs GV 566) (by kernel_rfl),
   K1 338 337 (vs GV 566) (by kernel_rfl),
   K1 343 342 (vs GV 566) (by kernel_rfl),
   K1 348 347 (vs GV 566) (by kernel_rfl),
   EX 362 361 (vs FC 652) a G (by kernel_rfl),
   EX 369 368 (vs FC 652) a G (by kernel_rfl),
   EX 376 375 (vs FC 652) a G (by kernel_rfl),
   EX 397 396 (vs FC 652) a G (by kernel_rfl),
   EX 404 403 (vs FC 652) a G (by kernel_rfl),
   EX 411 410 (vs FC 652) a G (by kernel_rfl),
   EX 383 382 (vs FC 652) a G (by kernel_rfl),
   EX 390 389 (vs FC 652) a G (by kernel_rfl),
   EX 418 417 (vs FC 652) a G (by kernel_rfl),
   EX 425 424 (vs FC 652) a G (by kernel_rfl),
   EX 430 429 (vs FC 652) a G (by kernel_rfl),
   EX 435 434 (vs FC 652) a G (by kernel_rfl),
   EX 440 439 (vs FC 652) a G (by kernel_rfl),
   EX 445 444 (vs FC 652) a G (by kernel_rfl),
   EX 452 451 (vs FC 652) a G (by kernel_rfl),
   fG a G (by kernel_rfl),
   fG a G (by kernel_rfl),
   fG a G (by kernel_rfl),
   fG a G (by kernel_rfl),
   fG a G (by kernel_rfl),
   fG a G (by kernel_rfl),
   fG a G (by kernel_rfl),
   fG a G (by kernel_rfl),
   fG a G (by kernel_rfl),
   fG a G (by kernel_rfl),
   fG a G (by kernel_rfl),
   fG a G (by kernel_rfl),
   fG a G (by kernel_rfl),
   fG a G (by kernel_rfl),
   fG a G (by kernel_rfl),
   fG a G (by kernel_rfl),
   fG a G (by kernel_rfl),
   fG a G (by kernel_rfl),
   fG a G (by kernel_rfl),
   ⟨112,kH a G (by kernel_rfl),λ_=> .inr ⟨_,_,_,rfl,rfl,rfl,by show 2<=sizeLine;decide,(.cons ⟨_,rfl⟩ (.cons ⟨_,rfl⟩ .nil))⟩⟩,
   ⟨113,kH a G (by kernel_rfl),λ_=> .inr ⟨_,_,_,rfl,rfl,rfl,by show 2<=sizeLine;decide,(.cons ⟨_,rfl⟩ (.cons ⟨_,rfl⟩ .nil))⟩⟩,
   ⟨490,kH a G (by kernel_rfl)⟩,
   ⟨568,kH a G (by kernel_rfl)⟩,
   ⟨kH a G (by kernel_rfl),by kernel_rfl⟩,
   ⟨kH a G (by kernel_rfl),by kernel_rfl⟩,
   ⟨kH a G (by kernel_rfl),by kernel_rfl⟩,
   ⟨kH a G (by kernel_rfl),by kernel_rfl⟩,
   ⟨kH a G (by kernel_rfl),by kernel_rfl⟩,
   ⟨kH a G (by kernel_rfl),by kernel_rfl⟩,
   ⟨kH a G (by kernel_rfl),by kernel_rfl⟩,
   ⟨kH a G (by kernel_rfl),by kernel_rfl⟩,
   by kernel_rfl⟩
#print axioms PySem.Challenge.cw_wishlots_k52_whole_book_holds
