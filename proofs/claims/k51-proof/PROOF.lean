import PyProof.Rows.All
import Wide.All
import OpenK.AllK
import Wide.FinOn
import Lean
import PyProof.EqAt
import PyProof.EqKinds
import PyProof.TupleCall
import PySem.Challenge.RW_wishlots_k51_texts_and_refusals
open PySem renaming wpAny_bind->b0,wpAny_pure->b4,Value->cz,Shared->cC,Addr->cG,wpAny_ite_false->cS,Program->cY,World->dn,starEach->dq,Around->dD,wpAny_holding->dI,Paired->dJ,boot_len->dL,wpAny_call_entry->dY,wpAny_setState_of->d0,wpAny_callSpecial?_slot->ej,wpAny_field->eO,wpAny_isInstance->eR,codeAny_builtin->eT,wpAny_truthy_bool->eU,wpAny_setField_rec->eZ,mem_of_lookup->e9,wpAny_newObj_type->fj,wpAny_Call_Name_kw->fw,mainGlobals->fG,wpAny_mono->fN,wpAny_of_eq->fQ,wpAny_askSetting->fU,wpAny_seqItems->f6,wpAny_specialOf->gr,wpAny_typeNameOfWhole_itemiter->gu,wpAny_setField->gz,wpAny_execs_nil->gE,call_meets->gH,wpAny_attempt->gU,wpAny_call->gY,wpAny_passesOwn->h9,codeAny_mono->iy,wpAny_typeOf->iB,NameKind->iG,wpAny_pyIter_list->iM,PyData->iY,codeAny_call_builtin->iZ,wpAny_rule->i4,wpAny_fieldsOf->i5,wpAny_ite_true->i6,wpAny_newTuple->i7,wpAny_execs_cons->i9,wpAny_newList->jk,wpAny_pyIter_slot->jD,wpAny_isOneOf_itemiter->jF,isSubtype_tuple_tuple->jM,plainId_quiet->jR,wpAny_runValue->ko,entryFor_alias->ks,isSubtype_stop->kt,wpAny_tupleItemsOf->kA,slot_list_getitem->kP,wpAny_letGo->kU,wpAny_dictEntries->kW,wpAny_getItem_list_slice->k6,wpAny_comprehension_free->k7,wpAny_handled->lm,noFill_tuple_add->lB,wpAny_Call_method0_late->lD,sizeOk_excFields->lK,wpAny_pyIter_zip->lL,wpAny_forIn_list->lM,Within->lW,pushCells_keeps->ml,codeAny_of_tree->mu,wpAny_dictEpoch->mv,wpAny_isTrue_Compare1->mw,weight_type_call_type->mE,builtinLookup_eq_fast->mF,sizeLine_eq->mO,seqIndex_of->mQ,wpAny_throw->mX,wpAny_updateSeq_pair->mY,evalArgs_none->m9,wpAny_standAt->nq,seq_tuple_add->nr,evalPart_none->nt,wpAny_onRaise->ny,wpAny_pyIter_tuple->nG,typeIs_str->nI,wpAny_pyHash_tuple->nV,wpAny_eqBool_tuple->nW,wpAny_assign_Name->n7,wpAny_Assign_Name->n8,concat_meets->oh,seqIndex_neg->oi,list_append->oj,wpAny_loadPart_at->ou,wpAny_pyIter_enum->oC,wpAny_storeSet_of->oD,wpAny_Call_method->oK,wpAny_pyHash_str->oP,wpAny_eqBool_int->oQ,wpAny_eqBool_str->oR,check_set_init_1->o6,wpAny_Dict_empty->o9,wpAny_alloc->pj,call_tuple_list->pA,typeLookup_type->pF,wpAny_Name->pQ,wpAny_Expr_any->pR,wpAny_loadPart->pS,call->pV,isSubtype_type->qc,evalPart_some->qL,call_list_seq->qO,signature?_of->qZ,strKind->q8,sub_set_self->ry,call_meetsIn->rA
open PySem.W renaming Frag->b3,boot_drawn->eB,mroIn->fk,mg_none_of->fI,findIn->fO,emptyDict->fX,kitOne->f3,fnOf->gl,instObj->gD,kia_one->gI,hideAll_get->gK,excIn->gS,Looks->gT,callWith_K->iz,kia_tup->iH,methodCall_KW->iL,looks_findIn->iS,keepIn->iT,boot_heap->ju,plainGet->jN,plainGet_of->j4,looks_mroIn->j5,mg_of->j9,piece_app->kd,lookIn->ke,methodObj->kM,hasDictIn->kN,cellsFrom_some->lX,hideAll->mh,takerIn->mi,codeIn->mP,kitCls->mS,of_hideAll->nE,kitx_tuple->nL,isFn->n9,plainOver->oa,kitx_none->om,kitx_bool->on,kitx_list->oo,handedIn->oS,kitx_int->oX,kitx_str->oY,makesIn->pz,typeIn->pT,kitAny->pZ,clsIn->qQ,boot_toks->rg
open List renaming length_map->cx,getD_eq_getElem?_getD->cA,getElem?_eq_getElem->cD,mem_singleton->cK,getElem?_map->cL,mem_cons_self->cM,mem_cons_of_mem->cN,getElem?_eq_some_iff->cT,map_append->cV,size_toArray->cW,length_take->cX,mem_cons->da,getElem_mem->db,range->dc,length_append->de,take_add_one->dg,mem_of_getElem?->dh,take_length->dy,mem_append->dE,mem_map->dG,length_cons->dR,mem_append_right->dW,all_eq_true->dX,map_cons->d2,lookup_cons->d3,mem_range->d5,mem_filter->ef,getElem?_range->eg,take_of_length_le->eh,length_singleton->eo,length_filter_le->er,forIn_cons->eA,mem_of_mem_take->eP,length_drop->eQ,mem_iff_getElem->eV,take_zero->eY,getElem?_append_right->ff,pairwise_cons->fB,append_nil->fC,nodup_cons->fD,length_range->fL,sum_cons->fR,cons_ne_nil->fV,map_congr_left->fW,replicate->gj,perm_ext_iff_of_nodup->gn,filterMap_cons->gp,range_succ->gq,getElem?_eq_none->gt,idxOf_lt_length_iff->gw,forIn_nil->gy,mem_of_mem_drop->gA,nodup_append->gB,filter_congr->gC,length_set->gG,mem_filterMap->gX,filter_append->hI,length_replicate->hO,cons_lt_cons_iff->hU,getElem?_append_left->hV,mem_append_left->ia,lookup->ib,getElem?_take_of_lt->ie,any_cons->ig,not_mem_nil->il,nodup_nil->io,eq_nil_of_length_eq_zero->iu,take_append_of_le_length->iw,getElem_idxOf->iE,getElem?_set_ne->iQ,map_map->jb,any_eq_true->jc,length_reverse->jg,length->jp,length_eq_zero_iff->jr,getElem?_set_self->jv,pairwise_map->jz,not_of_lt_findIdx->jH,eraseIdxIfInBounds_toArray->jJ,getElem?_toArray->jL,mem_reverse->jO,length_dropLast->jS,dropLast_concat_getLast->jZ,countP_eq_length_filter->j2,find?_cons->j3,getElem?_zip_eq_some->kG,pairwise_iff_getElem->kJ,mem_or_eq_of_mem_set->kK,range'->kS,map_take->lb,map_drop->lg,length_erase_of_mem->lp,mem_of_mem_eraseIdx->lx,ext_getElem->lG,range'_succ->lJ,length_eraseIdx_le->lS,pairwise_lt_range->l3,map_set->md,of_mem_zip->mj,length_nil->mn,take_append_drop->my,findSome?_append->mC,getElem?_zipWith->mH,mem_iff_getElem?->mK,mem_erase_of_ne->mZ,replicate_succ->nh,Pairwise->nu,count_eq_zero->nO,mem_replicate->nP,map_singleton->nZ,append_assoc->oF,foldl_append->oG,getElem?_inj->oJ,reverse_cons->oN,perm_middle->oZ,filter_cons->o3,cons_append->o7,nodup_range->o8,mem_flatMap->pc,nil_append->pE,mem_range'->pH,filterMap->p9,drop_zero->qg,all_cons->qM,findIdx?->qX,Perm->re,zipWith->rk,all_map->rC,filter->rP
open PySem.Heap renaming get?_push_of_some->cF,get?_push_size->cP,lt_size->cR,get?_update_self->eS,get?_update_other->fx,SameBut->fS,size_push->gx,get?_update_ne->je,push->lI,FlyingW->lY,SetOf->ma,size_update->o0,ExtBut->rQ
open PySem.Challenge renaming pw_wishlots_k51_texts_and_refusals->cH,rw_wishlots_k51_texts_and_refusals->fM
open Nat renaming le_refl->cI,lt_of_lt_of_le->cJ,le_trans->cO,le_of_lt->cZ,ne_of_lt->dr,lt_succ_self->du,lt_succ_of_lt->dw,zero_le->dz,lt_irrefl->dA,lt_of_le_of_lt->dP,succ_le_succ->dS,le_succ->d6,le_add_right->ec,pow_le_pow_right->eK,lt_of_succ_lt->eX,le_of_not_lt->fh,le_succ_of_le->fJ,lt_succ_of_le->fK,lt_succ_iff_lt_or_eq->f4,le_of_eq->gi,not_lt_zero->gJ,ne_of_gt->ix,sub_self->iC,add_sub_of_le->iN,le_antisymm->jn,le_of_lt_succ->jA,add_lt_add_left->j6,add_le_add_left->j8,lt_of_lt_of_eq->kF,le_mul_of_pos_right->lF,add_lt_add_right->m3,add_le_add_right->m5,add_assoc->nw,pos_of_ne_zero->nT,lt_of_le_of_ne->nX,lt_trichotomy->oB,zero_add->oH,lt_trans->oM,not_le_of_lt->pi,log2_lt->pq,min_eq_left->pK,pow_succ->rn,sub_zero->rz,mul_one->rO,sub_le->sD
open PySem.Value renaming ref->cQ,type->dO,int->d4,bool->eH,str->iJ,builtin->jQ,bytes->rH,float->rJ
open PySem.Str renaming ofString->cU,empty->gc,length->kf,join->kE
open PySem.F renaming plainAttrs_list->df,slot_list_append->dB,type_list_append->dC,slot_dict_itemiterator_next->fq,called_set->fA,slot_tuple_iterator_next->hH,plainAttrs_str->iF,plain_extend_loop->jh,args_tuple_add_2->ji,slot_tuple_index->jm,entry_tuple_add->jq,slot_tuple_add->jx,slot_tuple_hash->jE,args_dict_itemiterator_next_1->jK,entry_dict_itemiterator_next->jP,slot_dict_itemiterator_iter->jU,args_tuple_iterator_next_1->j0,slot_tuple_eq->j1,entry_tuple_iterator_next->kc,excAttr_ValueError->km,args_tuple_index_2->kB,args_str_split_2->kC,entry_tuple_index->kI,entry_str_split->kX,slot_list_remove->lu,slot_list_insert->ly,type_list_insert->lz,plainAttrs_dict->lN,slot_dict_items->lO,slot_str_split->lR,slot_list_count->lT,type_list_count->lU,slot_dict_items_iter->l8,type_str_split->mf,entry_proto_collect->mz,slot_dict_get->mI,args_list_append_2->mR,sub_list_frozenset->mW,slot_set_len->m4,entry_list_append->na,entry_extend_loop->nk,entry_list_iadd->ox,entry_type_call->oE,entry_list_pop->oV,typeCall_set_1->o4,entry_set_init->o5,slot_list_pop->pB,plain_set_new->pD,slot_set_iter->pG,slot_zip_next->pI,sub_list_set->qb
open Bool renaming false_ne_true->dj,and_eq_true->dt,false_eq_true->gb,eq_iff_iff->gF,not_true->ii,false_and->jw,or_eq_true_iff->j7,and_false->kg,or_false->kZ,and_eq_true_iff->m6,not_eq_true'->ol,eq_false_iff->ow,not_false->qf,and_self->qS,false_or->qY,true_and->q9
open Int renaming emod_lt_of_pos->dH,ne_of_gt->dM,mul_ne_zero->dN,emod_nonneg->dQ,le_of_lt->dZ,natCast_nonneg->ea,zero_add->fe,gcd_pos_of_ne_zero_right->fE,le_refl->fH,mul_le_mul_of_nonneg_right->fT,toNat_natCast->fY,ofNat_le->f8,mul_right_comm->f9,le_trans->gm,ofNat_lt->gv,toNat_of_nonneg->gL,mul_comm->gN,mul_lt_mul_of_pos_right->gP,add_zero->gQ,mul_zero->gR,sign_eq_neg_one_of_neg->gZ,eq_of_mul_eq_mul_right->g7,lt_of_mul_lt_mul_right->g9,add_mul->ic,ofNat->im,mul_one->ir,sign_eq_one_of_pos->iA,fdiv_eq_ediv_of_nonneg->iW,mul_pos->i3,natAbs_natCast->jo,mul_add->js,mul_nonneg->jB,mul_le_mul->jC,sub_mul->jT,one_mul->jV,zero_mul->kb,natAbs_mul->ki,ediv_eq_of_eq_mul_left->kj,lt_or_gt_of_ne->kl,lt_of_le_of_lt->ku,not_lt_of_ge->lE,natAbs_dvd_natAbs->mx,add_nonneg->mV,mul_fdiv_cancel->ng,add_assoc->nv,ofNat_inj->nA,sub_eq_add_neg->nU,gcd_comm->oq,mul_eq_zero->pC,natCast_pos->pN,mul_assoc->qV,sub_zero->rr,add_comm->rB,not_lt->sA,natAbs->sB,toNat->sL
open Classical renaming byContradiction->dU
open PySem.PassesOwn renaming never->dV,leaving->sH
open PySem.Obj renaming mapSeq->d7,putSet->nQ,data_mapFields->nS,mapFields->q4,data->sO
open PySem.Builtin.SmallTypes renaming nextOf->d8,nextOrEnd->fF,ownedTupleIsFree->f7,ownedTupleHandOut->nj,stopIteration->oI,newRecord->pJ,newClass->pP,iterAll->qd
open PyProof.Rows renaming callWith_type1->d9,callWith_builtin1->ij,listUpdate_at->iK,subscriptTail_builtinR->jy,isStrOf->jW,size_push'->lZ,entry_list_sort->mq,boot_zip->mG,slot_list_sort->mT,args_list_sort->mU,plain_sorted->oy,entry_sorted->oz,args_sorted1->oA,slot_str_getitem->oU,kind_sorted->pu,boot_enumerate->pO,Subscript_->pU,list_sort_tree->pY,sortedAll_old->qT,tupleItemsOf_->q5,isTrue_plain->rh,floordiv_int->rj,listItems_at->ro,sortedAll_at->rq,tail_any->rK,Call_->sE
open Array renaming length_toList->eF,getElem?_eq_getElem->fu,getElem?_toList->fZ,getElem?_eq_none->gO,forIn_toList->iD,getElem?_eq_some_iff->kD,append_assoc->nF,toList->n5,ext'->pW
open False renaming elim->eI
open PySem.NameKind renaming free->eJ,cell->gh
open PySem.Heap.SameBut renaming update->fb,refl->sG
open PySem.PyData renaming str->fi,eqv->fz,eqvAll->gV,canLay0->i0,depth->ja,canLayAll0->kQ,depthAll->mr
open PySem.SeqAt renaming shaped->fy,EqAt->sv
open PySem.Calls renaming spliced_cons->fP,callWith_builtin->gM,call_function_entry->hY,Name_function_global->iR,evalArgs_plain->iU,spliced_nil->kO,loadGlobal_global->lA
open PySem.SetTable renaming fresh->f5,insertAt->iO,grown->kq,insertAt_perm->l4,below->p7
open PySem.Around renaming under_plainId->gd,under_plain->nR,under->og
open PyProof.Rows.F renaming plain_set_update_loop->gf,entry_set_update_loop->ip
open PySem.Builtin.List renaming listExtendWith->gg,listLengthHint->iP,listTooLong->jj,listFitsIndex->kh,listSameRef->ln,listTouch->l5
open PySem.Txt renaming slice->gW,mul->jI,join->lP,find->rS
open PySem.Code renaming quiet_builtin->g8
open PySem.IsL renaming update->ik
open PySem.Heap.IsTupleIter renaming typeIs->iq
open PySem.Builtin.Dict_items renaming ownsTuple->iI,ownedTupleFields->jl,pairFromOwner->jG,ownedTupleIsFree->nB,newIterator->pb,dictOf->qx
open PySem.Data renaming seq->iV,fields->mM
open List.Perm renaming refl->iX,eq_of_pairwise->k9,append_left->rF,length_eq->sk,nodup_iff->sq,mem_iff->sF
open Std.Legacy.Range renaming forIn_eq_forIn_range'->i8,size->mJ
open PySem.Builtin.Tuple renaming tupleHashOf->jd,tupleItemsOf->qe
open PySem.Builtin.Str renaming strKind->jf,occurrences->jt,partsBetween->lr
open ForInStep renaming yield->jX
open PySem.Builtin.Frozenset renaming updateFrom->jY,isAnySet->kr,sizeOf->lj,newClass->qa,slot0->rf
open PySem.Manifest renaming sig_set_iterator->kH
open List.Pairwise renaming imp->kR,imp_of_mem->rb,filter->rV
open Option renaming isSome_iff_exists->kY,getD_none->lC,isSome_some->nK,bind_some->oW,map_some->pM
open PyProof renaming noPylong_of_log2->k8
open PySem.Shared renaming TypeIs->lh
open PySem.Builtin.Getset_descriptor renaming descrCheckInstance->lH,descrNameAndClass->lV,descrGetter->m7,descrGet->nN
open PySem.AutoSeq1 renaming list_insert_list_int_val_1->mm
open PySem.StrLaws renaming glued_eq_join->mL,join_split->nY
open PySem.Builtin.Int renaming intBits->nc
open PySem.Paired renaming length->nl
open PySem.SeqAt.EqAt renaming int_str->nC,str_int->nD,none_bool->rL,bool_none->rM,bool_bool->rN,none_int->rW,none_str->rX,bool_int->rY,bool_str->rZ,int_none->sd,int_bool->sf,str_none->sh,str_bool->si,int_int->sw,str_str->sx,same->sM
open PySem.Heap.IsSliceOf renaming new->nH
open PySem.W.KF renaming slot_gs->nM,owner_class->rl,entry_class->rm,type_class->rD,entry_gs->sj,args_gs->sC
open Nat.Coprime renaming dvd_of_dvd_mul_left->oO
open Std.Legacy renaming Range->ph
open PySem.Walks renaming list->pX,toS->sK
open List.Nodup renaming erase_eq_filter->qh
open PySem.EqNone renaming eq_none_none->qi,eq_none_bool->qj,eq_bool_none->ql,ne_none_none->qp,ne_none_bool->qr,ne_bool_none->qt,eq_none_int->qz,eq_none_str->qA,eq_int_none->qB,eq_str_none->qD,ne_none_int->qF,ne_none_str->qG,ne_int_none->qH,ne_str_none->qJ
open PySem.EqMixed renaming eq_bool_str->qm,eq_str_bool->qo,ne_bool_str->qu,ne_str_bool->qw,eq_int_str->qC,eq_str_int->qE,ne_int_str->qI,ne_str_int->qK
open PySem.W.OpenLaw renaming wellSaid->qy
open PySem.Builtin.Range renaming rangeSize->rc
open PyProof.Rows.IsTup renaming new->rd
open PySem.setAddHashedIn renaming eq_def->rE
open PySem.Builtin.Dict renaming showsAll->rG,noArgs->sr
open PySem.Fin renaming done->rR
open PySem.W.Looks renaming here->su
open PySem.W.WShape renaming has->sy
open PySem.DictEntry renaming refKey->sI
open PySem.W.WData renaming int->sJ
open PySem.Heap.DictOf renaming new->sN
open PySem.pickOrder renaming go->sP
set_option Elab.async false
set_option maxRecDepth 100000 in
set_option maxHeartbeats 0 in
theorem DY:qy fM=true:=by kernel_rfl
set_option Elab.async false
set_option linter.all false
set_option maxRecDepth 100000
namespace RG
end RG
namespace L2
open PySem PySem.Spec PyProof.Rows
abbrev Hv:=Sum Int Str
def LY:Hv->cz->Bool
 | .inl k,v=>Value.isInt k v
 | .inr x,v=>Value.isStrOf x v
def NM(w:dn):Hv->Int
 | .inl k=>hashInt k
 | .inr x=>hashStr w x
theorem t8:∀{k:Hv} {v:cz},LY k v=true->(∃i t,k=Sum.inl i/\v=d4 i t)\/(∃x t,k=Sum.inr x/\v=iJ x t)
 | .inl i,v,h=>by
  obtain⟨t,e⟩:=Value.isInt_shape (k:=i) (v:=v) h
  exact .inl ⟨i,t,rfl,e⟩
 | .inr x,v,h=>by
  obtain⟨t,e⟩:=Value.isStrOf_shape (x:=x) (v:=v) h
  exact .inr ⟨x,t,rfl,e⟩
theorem Fp(a b:Int):decide ((Sum.inl a:Hv)=Sum.inl b)=(a==b):=by
 by_cases e:a=b
 ·subst e;simp
 ·have h:¬(Sum.inl a:Hv)=Sum.inl b:=λq=>e (Sum.inl.inj q);rw[decide_eq_false h];exact(beq_eq_false_iff_ne.mpr e).symm
theorem FK(a b:Str):decide ((Sum.inr a:Hv)=Sum.inr b)=decide (a=b):=by
 by_cases e:a=b
 ·subst e;simp
 ·have h:¬(Sum.inr a:Hv)=Sum.inr b:=λq=>e (Sum.inr.inj q);rw[decide_eq_false h,decide_eq_false e]
theorem Fs(a:Int)(b:Str):decide ((Sum.inl a:Hv)=Sum.inr b)=false:=decide_eq_false (λq=>nomatch q)
theorem Fx(a:Str)(b:Int):decide ((Sum.inr a:Hv)=Sum.inl b)=false:=decide_eq_false (λq=>nomatch q)
def Iq(prog:cY)(w:dn):PySem.KeyKind prog w Hv where
 is:=LY
 hash:=NM w
 inj:=λv a b f d=>by
  rcases t8 f with⟨i,t,rfl,rfl⟩|⟨x,t,rfl,rfl⟩
  ·rcases t8 d with⟨j,u,rfl,e⟩|⟨y,u,rfl,e⟩
   ·injection e with e1 _;rw[e1]
   ·exact nomatch e
  ·rcases t8 d with⟨j,u,rfl,e⟩|⟨y,u,rfl,e⟩
   ·exact nomatch e
   ·injection e with e1 _;rw[e1]
 byValue:=λk v h=>by
  rcases t8 h with⟨i,t,rfl,rfl⟩|⟨x,t,rfl,rfl⟩ <;> rfl
 pyHash:=λc h=>by
  rcases t8 c with⟨i,t,rfl,rfl⟩|⟨x,t,rfl,rfl⟩
  ·exact wpAny_pyHash_int h
  ·exact oP h
 eqBool:=λg c h=>by
  rcases t8 g with⟨i,t,rfl,rfl⟩|⟨x,t,rfl,rfl⟩
  ·rcases t8 c with⟨j,u,rfl,rfl⟩|⟨y,u,rfl,rfl⟩
   ·rw[Fp]at h;exact oQ h
   ·rw[Fs]at h;exact nC i t y u _ _ _ _ h
  ·rcases t8 c with⟨j,u,rfl,rfl⟩|⟨y,u,rfl,rfl⟩
   ·rw[Fx]at h;exact nD x t j u _ _ _ _ h
   ·rw[FK]at h;exact oR h
 «strs»:=λk x t v h=>by
  rcases t8 h with⟨i,u,rfl,e⟩|⟨y,u,rfl,e⟩
  ·exact nomatch e
  ·injection e with e1 _
   subst e1
   cases v <;> rfl
inductive V where
 | non|bl (b:Bool)|int (i:Int)|str (x:Str)|byt (b:Array UInt8)|flt (b:UInt64)|ref (a:cG)|ty (n:String)
 deriving DecidableEq
def RelV:V->cz->Prop
 | .non,u=>u=cz.none
 | .bl b,u=>u=eH b
 | .int i,u=>∃t,u=d4 i t
 | .str x,u=>∃t,u=iJ x t
 | .byt b,u=>∃t,u=rH b t
 | .flt b,u=>∃t,u=rJ b t
 | .ref a,u=>u=cQ a
 | .ty n,u=>u=dO n
abbrev Vals:List V->List cz->Prop:=dJ RelV
theorem Vals.length{xs:List V}{us:List cz}(r:Vals xs us):xs.length=us.length:=nl r
theorem Vals.get:∀{xs:List V} {us:List cz} {i:Nat} {x:V},Vals xs us->xs[i]?=some x->∃u,us[i]?=some u/\RelV x u
 | _,_,_,_,.nil,e=>by simp at e
 | _,_,0,_,.cons r _,e=>by simp at e;subst e;exact⟨_,rfl,r⟩
 | _,_,i+1,x,.cons _ t,e=>by
  obtain⟨u,h1,h2⟩:=Vals.get (i:=i) (x:=x) t (by simpa using e)
  exact⟨u,by simpa using h1,h2⟩
theorem Vals.set{x:V}{u:cz}(r:RelV x u):∀{xs:List V} {us:List cz} (i:Nat),Vals xs us->Vals (xs.set i x) (us.set i u)
 | _,_,_,.nil=> .nil
 | _,_,0,.cons _ t=> .cons r t
 | _,_,i+1,.cons q t=> .cons q (Vals.set r i t)
theorem Vals.append:∀{xs ys:List V} {us ws:List cz},Vals xs us->Vals ys ws->Vals (xs++ys) (us++ws)
 | _,_,_,_,.nil,s=>s
 | _,_,_,_,.cons r t,s=> .cons r (Vals.append t s)
theorem Vals.take:∀{xs:List V} {us:List cz} (n:Nat),Vals xs us->Vals (xs.take n) (us.take n)
 | _,_,0,_=> .nil
 | _,_,_+1,.nil=> .nil
 | _,_,n+1,.cons r t=> .cons r (Vals.take n t)
theorem Vals.drop:∀{xs:List V} {us:List cz} (n:Nat),Vals xs us->Vals (xs.drop n) (us.drop n)
 | _,_,0,r=>r
 | _,_,_+1,.nil=> .nil
 | _,_,n+1,.cons _ t=>Vals.drop n t
def RelO:Option V->Option cz->Prop
 | some v,some u=>RelV v u
 | none,none=>True
 | _,_=>False
def KV{a:Type}:List (a×V)->List (a×cz)->Prop:=dJ λ(p:a×V) (q:a×cz)=>p.1=q.1/\RelV p.2 q.2
def kV:Hv->V
 | .inl i=> .int i
 | .inr x=> .str x
inductive HO where
 | lst (xs:List V)
 | tup (xs:List V)
 | dK (kvs:List (Hv×V))|dT (kvs:List (List Hv×V))
 | set (S:Int->Bool) (n:Nat)
 | ins (C dx:cG) (fs:List (Str×V))
 | own (x:cG)
 | xd (fs:List (Str×V))
 | met (f x:cG)
 | rng (lo hi:Int)
 | frz (o:Obj) (u:HO)
 | tbl (ps:Array cz)
 | ext (φ:Heap->Prop)
abbrev Hp:=cG->Option HO
def upd(H:Hp)(a:cG)(o:HO):Hp:=λb=>if b=a then some o else H b
theorem sQ{H:Hp}{a:cG}{o:HO}:upd H a o a=some o:=by unfold upd;rw[if_pos rfl]
theorem td{H:Hp}{a b:cG}{o:HO}(h:b≠a):upd H a o b=H b:=by unfold upd;rw[if_neg h]
theorem vb{H:Hp}{a b:cG}{o u:HO}(h:H a=some o)(h':H b=some u)(d:o≠u):a≠b:=by
 intro e;subst e;rw[h]at h';exact d (Option.some.inj h')
theorem tE{H:Hp}{a b:cG}{o:HO}(h:H a=some o)(h':H b=none):a≠b:=by
 intro e;subst e;rw[h]at h';cases h'
section
variable(P:cY)(w:dn)
def ObjOk(H:Hp)(h:Heap)(a:cG):HO->Prop
 | .lst b=>b.length<=sizeLine/\∃(its:List cz) (n:Nat),Vals b its/\h.get? a=some {cls:= .type "list",data:= .seq its.toArray n}
 | .tup b=>b.length<=sizeLine/\∃its:List cz,Vals b its/\IsTup h a its.toArray
 | .dK c=>c.length<=sizeLine/\(a==sysModules)=false/\∃vs,KV c vs/\h.DictOf (Iq P w) a vs
 | .dT c=>c.length<=sizeLine/\(a==sysModules)=false/\∃b:List (List Hv×cG×cz),
   dJ (λ(p:List Hv×V) (q:List Hv×cG×cz)=>p.1=q.1/\H q.2.1=some (.tup (p.1.map kV))/\RelV p.2 q.2.2) c b/\
   ∃o es ep,h.get? a=some o/\o.ExactDict/\o.data = .dict es ep/\es.toList=b.map (entryOfKey (tupleKind (Iq P w)))/\(b.map (·.1)).Nodup
 | .set S n=>h.SetOf (intKind P w) a S n
 | .ins C e d=>H e=some (.own a)/\d.length<=1000/\e≠a/\h.get? a=some (gD C e)/\
   ∃mA,h.Ns1 e mA/\(∀f,RelO (d.lookup f) (mA f))/\lW mA (d.map (·.1))
 | .own _=>∃o,h.get? a=some o
 | .xd d=>∃mA,h.Ns1 a mA/\∀f,RelO (d.lookup f) (mA f)
 | .rng lo j=>∃t u v,h.get? a=some {cls:= .type "range",data:= .fields #[.int lo t,.int j u,.int 1 v]}
 | .frz o u=>h.get? a=some o/\ObjOk H h a u
 | .tbl k=>h.get? a=some {cls:= .none,data:= .fields k}
 | .met f x=>h.get? a=some (kM (.ref f) (.ref x))
 | .ext g=>g h/\(∃o,h.get? a=some o)/\∀h1 h2:Heap,g h1->(∀o,h1.get? a=some o->h2.get? a=some o)->g h2
def HOk(H:Hp)(h:Heap):Prop:=∀a o,H a=some o->ObjOk P w H h a o
end
section
variable{P:cY}{w:dn}{H H':Hp}{h h':Heap}{a:cG}{o:HO}
theorem ObjOk.lt(x:ObjOk P w H h a o):a<h.objs.size:=by
 cases o with
 | lst c=>obtain⟨_,_,_,_,e⟩:=x;exact cR e
 | tup c=>obtain⟨_,_,_,p⟩:=x;exact p.lt
 | dK b=>obtain⟨_,_,_,_,o,_,_,e,_⟩:=x;exact cR e
 | dT b=>obtain⟨_,_,_,_,o,_,_,e,_⟩:=x;exact cR e
 | set S n=>obtain⟨o,_,_,_,e,_⟩:=x;exact cR e
 | ins C g d=>obtain⟨_,_,_,e,_⟩:=x;exact cR e
 | own y=>obtain⟨_,e⟩:=x;exact cR e
 | xd d=>obtain⟨_,⟨_,_,_,e,_⟩,_⟩:=x;exact cR e
 | rng lo l=>obtain⟨_,_,_,e⟩:=x;exact cR e
 | frz k u=>obtain⟨e,_⟩:=x;exact cR e
 | tbl j=>exact cR (show h.get? a=some _ from x)
 | met f y=>exact cR (show h.get? a=some _ from x)
 | ext m=>obtain⟨_,⟨_,e⟩,_⟩:=x;exact cR e
theorem Paired.mapP{c d:Type}{F G:c->d->Prop}:∀{l₁:List c} {l₂:List d},dJ F l₁ l₂->(∀a b,F a b->G a b)->dJ G l₁ l₂
 | _,_,.nil,_=> .nil
 | _,_,.cons r t,f=> .cons (f _ _ r) (Paired.mapP t f)
theorem ObjOk.stay(x:ObjOk P w H h a o)(k:∀b u,(b=a\/H b=some (.own a))->h.get? b=some u->h'.get? b=some u)
  (L:∀b,H b=some (.own a)->H' b=some (.own a))(J:∀b xs,H b=some (.tup xs)->H' b=some (.tup xs)):ObjOk P w H' h' a o:=by
 induction o with
 | lst xs=>obtain⟨z,m,n,r,e⟩:=x;exact⟨z,m,n,r,k _ _ (.inl rfl) e⟩
 | tup xs=>obtain⟨z,m,r,g,e,c⟩:=x;exact⟨z,m,r,g,k _ _ (.inl rfl) e,c⟩
 | dK D=>obtain⟨z,y,vs,r,g,j,l,e,c⟩:=x;exact⟨z,y,vs,r,g,j,l,k _ _ (.inl rfl) e,c⟩
 | dT D=>
  obtain⟨z,y,xs,r,g,j,l,e,c⟩:=x
  exact⟨z,y,xs,Paired.mapP r λp q z=>⟨z.1,J _ _ z.2.1,z.2.2⟩,g,j,l,k _ _ (.inl rfl) e,c⟩
 | set S n=>obtain⟨g,j,l,t,e,c⟩:=x;exact⟨g,j,l,t,k _ _ (.inl rfl) e,c⟩
 | ins C M I=>
  obtain⟨d,z,G,e,s,⟨A,j,l,E,c⟩,r⟩:=x
  exact⟨L _ d,z,G,k _ _ (.inl rfl) e,s,⟨A,j,l,k _ _ (.inr d) E,c⟩,r⟩
 | own y=>obtain⟨g,e⟩:=x;exact⟨g,k _ _ (.inl rfl) e⟩
 | xd I=>obtain⟨s,⟨A,j,l,e,c⟩,r⟩:=x;exact⟨s,⟨A,j,l,k _ _ (.inl rfl) e,c⟩,r⟩
 | rng lo N=>obtain⟨t,u,v,e⟩:=x;exact⟨t,u,v,k _ _ (.inl rfl) e⟩
 | frz g u F=>obtain⟨e,q⟩:=x;exact⟨k _ _ (.inl rfl) e,F q⟩
 | tbl B=>
  have e:h.get? a=some {cls:= .none,data:= .fields B}:=x
  show h'.get? a=some {cls:= .none,data:= .fields B}
  exact k a _ (.inl rfl) e
 | met f y=>
  have e:h.get? a=some (kM (.ref f) (.ref y)):=x
  show h'.get? a=some (kM (.ref f) (.ref y))
  exact k a _ (.inl rfl) e
 | ext O=>obtain⟨p,⟨o,e⟩,st⟩:=x;exact⟨st _ _ p λo q=>k _ _ (.inl rfl) q,⟨o,k _ _ (.inl rfl) e⟩,st⟩
theorem HOk.lt(x:HOk P w H h)(e:H a=some o):a<h.objs.size:=(x a o e).lt
theorem HOk.fresh(x:HOk P w H h)(e:h.objs.size<=a):H a=none:=by
 cases q:H a with
 | none=>rfl
 | some u=>exact absurd (cJ (x.lt q) e) (dA _)
theorem HOk.kept(x:HOk P w H h)(k:∀b u,h.get? b=some u->h'.get? b=some u):HOk P w H h':=λa o e=>
 (x a o e).stay (λb u _ q=>k b u q) (λ_ q=>q) λ_ _ q=>q
theorem HOk.laid(x:HOk P w H h)(k:∀b u,h.get? b=some u->h'.get? b=some u)(hp:h.objs.size<=a)(g:ObjOk P w (upd H a o) h' a o):HOk P w (upd H a o) h':=λb u e=>by
 have f:=x.fresh hp;by_cases d:b=a
 ·subst d;rw[sQ]at e;cases e;exact g
 ·rw[td d]at e;exact(x b u e).stay (λc v _ q=>k c v q) (λc q=>by rw[td (tE q f)];exact q) λc j q=>by rw[td (tE q f)];exact q
end
def Rd(H:Hp)(a:cG)(u:HO):Prop:=H a=some u\/∃o,H a=some (.frz o u)
theorem Rd.ok{P:cY}{w:dn}{H:Hp}{h:Heap}{a:cG}{u:HO}(r:Rd H a u)(x:HOk P w H h):ObjOk P w H h a u:=by
 rcases r with r|⟨o,r⟩
 ·exact x a u r
 ·obtain⟨_,q⟩:=x a _ r;exact q
def NB:Option HO->Prop
 | some (.lst _)=>True
 | some (.dK _)=>True
 | some (.dT _)=>True
 | some (.set _ _)=>True
 | some (.ins _ _ _)=>True
 | some (.ext _)=>True
 | _=>False
section
variable{P:cY}{w:dn}{H:Hp}{h h':Heap}{x e:cG}{o':HO}
theorem HOk.write(ok:HOk P w H h)(l:NB (H x))(p:e=x\/H e=some (.own x))(k:∀b u,b≠e->h.get? b=some u->h'.get? b=some u)(s:∃u,h'.get? e=some u)
  (o:ObjOk P w (upd H x o') h' x o'):HOk P w (upd H x o') h':=λb u q=>by
 have d:∀c y,H c=some (.own y)->c≠x:=λc y r z=>by subst z;rw[r]at l;exact l
 have m:∀c g,H c=some (.tup g)->c≠x:=λc g r z=>by subst z;rw[r]at l;exact l
 by_cases f:b=x
 ·subst f;rw[sQ]at q;cases q;exact o
 ·rw[td f]at q
  by_cases a:b=e
  ·have n:H b=some (.own x):=by
    rcases p with z|z
    ·exact absurd (a.trans z) f
    ·rw[a];exact z
   rw[q]at n;cases n
   obtain⟨v,t⟩:=s
   exact⟨v,by rw[a];exact t⟩
  ·refine(ok b u q).stay (λc v j r=>k c v ?_ r) (λc r=>by rw[td (d c b r)];exact r) λc g r=>by rw[td (m c g r)];exact r
   rcases j with rfl|j
   ·exact a
   ·rintro rfl
    rcases p with z|z
    ·exact d c b j z
    ·rw[j]at z;cases z;exact f rfl
end
structure Un(fs ex:List cG)(H H':Hp)(h h':Heap):Prop where
 keep:∀b o,h.get? b=some o->H b=none->b∉fs->b∉ex->h'.get? b=some o
 slot:∀b o,h.get? b=some o->H b=none->b∈fs->b∉ex->∃sl,h'.get? b=some {o with slots:=sl}
 free:∀b o,h.get? b=some o->H b=none->b∉ex->H' b=none
 there:∀b o,h.get? b=some o->b∉ex->∃o',h'.get? b=some o'
 tups:∀b xs,H b=some (.tup xs)->H' b=some (.tup xs)
 frzs:∀b o u,H b=some (.frz o u)->H' b=some (.frz o u)
 tbls:∀b ps,H b=some (.tbl ps)->∃more,H' b=some (.tbl (ps++more))
section
variable{fs fs' ex ex':List cG}{H H1 H2:Hp}{h h1 h2 h':Heap}{a x e:cG}{o:HO}
theorem Un.any(u:Un fs ex H H1 h h1){b:cG}{a:Obj}(q:h.get? b=some a)(n:H b=none)(d:b∉ex):∃sl,h1.get? b=some {a with slots:=sl}:=by
 by_cases c:b∈fs
 ·exact u.slot b a q n c d
 ·exact⟨a.slots,u.keep b a q n c d⟩
theorem Un.kept(k:∀b u,h.get? b=some u->h'.get? b=some u):Un fs ex H H h h':=
 ⟨λb a q _ _ _=>k b a q,λb a q _ _ _=>⟨a.slots,k b a q⟩,λ_ _ _ n _=>n,λb a q _=>⟨a,k b a q⟩,λ_ _ q=>q,λ_ _ _ q=>q,λ_ c q=>⟨#[],by rw[q];simp⟩⟩
theorem Un.refl:Un fs ex H H h h:=Un.kept λ_ _ q=>q
theorem Un.laid(k:∀b u,h.get? b=some u->h'.get? b=some u)(hp:h.objs.size<=a)(c:H a=none):Un fs ex H (upd H a o) h h' where
 keep:=λb u q _ _ _=>k b u q
 slot:=λb u q _ _ _=>⟨u.slots,k b u q⟩
 free:=λb u q n _=>by rw[td (dr (cJ (cR q) hp))];exact n
 there:=λb u q _=>⟨u,k b u q⟩
 tups:=λb d q=>by rw[td (tE q c)];exact q
 frzs:=λb u d q=>by rw[td (tE q c)];exact q
 tbls:=λb e q=>⟨#[],by rw[td (tE q c),q];simp⟩
theorem Un.write(a:NB (H x))(p:e=x\/H e=some (.own x))(k:∀b u,b≠e->h.get? b=some u->h'.get? b=some u)(j:∃u,h'.get? e=some u):Un fs ex H (upd H x o) h h':=by
 have f:∀b,H b=none->b≠x:=λb n z=>by subst z;rw[n]at a;exact a
 have g:∀b,H b=none->b≠e:=λb n z=>by
  subst z;rcases p with r|r
  ·exact f b n r
  ·rw[n]at r;cases r
 have d:∀b u,H b=some u->¬NB (some u)->b≠x:=λb u q l z=>by subst z;rw[q]at a;exact l a
 refine⟨λb u q n _ _=>k b u (g b n) q,λb u q n _ _=>⟨u.slots,k b u (g b n) q⟩,λb u q n _=>by rw[td (f b n)];exact n,λb u q _=>?_,
  λb m q=>by rw[td (d b _ q λz=>z)];exact q,λb u m q=>by rw[td (d b _ q λz=>z)];exact q,λb s q=>⟨#[],by rw[td (d b _ q λz=>z),q];simp⟩⟩
 by_cases c:b=e
 ·subst c;exact j
 ·exact⟨u,k b u c q⟩
end
def trk(h:Heap)(H:Hp):List cG:=(dc h.objs.size).filter λa=>(H a).isSome
def Jn(h:Heap)(H:Hp):Heap:=mh h (trk h H)
theorem Cd(h:Heap)(H:Hp):(Jn h H).objs.size=h.objs.size:=PySem.W.hideAll_size _ _
theorem DN{h:Heap}{H:Hp}{b:cG}{o:Obj}(e:h.get? b=some o)(n:H b=none):(Jn h H).get? b=some o:=
 gK _ e λa=>by
  have q:(H b).isSome=true:=(ef.mp a).2
  rw[n]at q;simp at q
theorem E4{h:Heap}{H:Hp}{b:cG}{o:Obj}(e:(Jn h H).get? b=some o):h.get? b=some o/\H b=none:=by
 have a:h.get? b=some o:=nE (trk h H) e;refine⟨a,?_⟩
 cases q:H b with
 | none=>rfl
 | some x=>
  have c:b∈trk h H:=ef.mpr ⟨d5.mpr (cR a),by simp[q]⟩;have z:(Jn h H).get? b=none:=PySem.W.hideAll_none (trk h H) c;rw[z]at e;cases e
def LJ(g h:Heap)(L:cG):List (cG×Obj):=(dc h.objs.size).filterMap λa=>if a=L\/(g.get? a).isSome=true then none else(h.get? a).map λo=>(a,o)
def rest(g h:Heap)(L d:cG):List (cG×Obj):=(LJ g h L).filter λp=>decide (p.1≠d)
structure Mod(K:b3)(mg:Str->Option cz)(base:Heap):Prop where
 kin:K.In base
 glob:base.Ns fG mg
 blt:∃mb,base.Ns builtinsNs mb/\∀x:Str,x≠"__name__"->mb x=bootBuiltins x
 nolimit:base.NoLimit
structure Cx where
 prog:cY
 w:dn
 K:b3
 mg:Str->Option cz
 base:Heap
 A:dD
 N:List Str
 s₀:cC
 H₀:Hp
 env:Env
 outer:List Env
 stack:List Env
 ex:List cG
 fn:Str->Bool
 calm:Bool
 pn:List (cG×Obj)
 xe:cz->cC->Prop
def Hc(l:List Env):List cG:=l.filterMap (·.frame)
abbrev Cx.fs(X:Cx):List cG:=Hc X.outer
def ND(a:Scope)(x:Str):Prop:=a.names.lookup x=some .local\/a.names.lookup x=some .cell\/a.names.lookup x=some .free
def Loc(a:Scope)(x:Str):Prop:=a.names.lookup x=some .local\/a.names.lookup x=some .cell
def N1(env:Env)(h:Heap)(m:Str->Option cz)(x:Str)(u:cz):Prop:=
 (env.kindOf x=some .local/\m x=some u)\/((env.kindOf x=some .cell\/env.kindOf x=some .free)/\∃c,env.cells.lookup x=some c/\h.IsCell c (some u))
structure Cx.Ok(X:Cx):Prop where
 mod:Mod X.K X.mg X.base
 kind:X.env.scope.kind = .function
 glob:X.env.globals=fG
 blt:X.env.builtins=builtinsNs
 above:X.s₀.heap.objs.size<=X.env.locals
 inj:∀x y c,X.env.cells.lookup x=some c->X.env.cells.lookup y=some c->x=y
 has:∀x,(X.env.kindOf x=some .cell\/X.env.kindOf x=some .free)->∃c,X.env.cells.lookup x=some c
 cab:∀x c,X.fn x=true->X.env.cells.lookup x=some c->X.s₀.heap.objs.size<=c
 hd:X.calm=true->X.A.handled=none
 frames:X.A.frames=some X.stack
 stk:X.stack=X.outer\/(X.stack=X.env::X.outer/\X.env.frame=some X.env.locals)
 exf:∀b∈X.ex,b≠X.env.locals/\∀x c,X.env.cells.lookup x=some c->c≠b
 bs:∀b o,X.base.get? b=some o->X.s₀.heap.get? b=some o/\X.H₀ b=none
 bsz:X.base.objs.size<=X.s₀.heap.objs.size
 noex:∀b o,X.base.get? b=some o->b∉X.ex
 exfs:∀b∈X.ex,b∉X.fs
 funs:X.s₀.heap.FunFrames X.base X.outer
 frf:∀b∈X.fs,X.H₀ b=none
structure Inv(X:Cx)(pins:List (cG×Obj))(σ:List (Option V))(H:Hp)(s:cC):Prop where
 ok:X.Ok
 os:s.os=X.s₀.os
 bare:AllBare s.gens
 base:Un X.fs X.ex X.H₀ H X.s₀.heap s.heap
 loc:∃m,s.heap.Ns X.env.locals m/\∀(i:Nat) (x:Str) (v:V),X.N[i]?=some x->σ[i]?=some (some v)->ND X.env.scope x->∃u,RelV v u/\N1 X.env s.heap m x u
 cell:∀x c,X.env.cells.lookup x=some c->∃v,s.heap.IsCell c v
 free:H X.env.locals=none
 freeC:∀x c,X.env.cells.lookup x=some c->H c=none
 pin:∀p∈X.pn++pins,s.heap.get? p.1=some p.2/\H p.1=none/\p.1≠X.env.locals/\p.1∉X.fs/\∀v,p.2.data≠ .cell v
 hok:HOk X.prog X.w H s.heap
 len:σ.length=X.N.length
section
variable{X:Cx}{pins:List (cG×Obj)}{σ:List (Option V)}{H H':Hp}{s:cC}{h':Heap}
theorem Cx.Ok.nofr(ok:X.Ok){b:cG}{o:Obj}(e:X.base.get? b=some o):b∉X.fs:=λa=>by
 have:=(ok.funs.mem a).1;rw[e]at this;cases this
theorem Inv.bs(I:Inv X pins σ H s):∀b o,X.base.get? b=some o->s.heap.get? b=some o/\H b=none:=λb o e=>
 ⟨I.base.keep b o (I.ok.bs b o e).1 (I.ok.bs b o e).2 (I.ok.nofr e) (I.ok.noex b o e),I.base.free b o (I.ok.bs b o e).1 (I.ok.bs b o e).2 (I.ok.noex b o e)⟩
theorem Inv.bk(I:Inv X pins σ H s):∀b o,X.base.get? b=some o->s.heap.get? b=some o:=λb o e=>(I.bs b o e).1
theorem Inv.mod(I:Inv X pins σ H s):Mod X.K X.mg X.base:=I.ok.mod
theorem Inv.kIn(I:Inv X pins σ H s):X.K.In s.heap:=I.ok.mod.kin.keeps I.bk
theorem Inv.fr(I:Inv X pins σ H s):∃m,Fr X.base X.env.locals s.heap m:=
 let⟨m,a,_⟩:=I.loc
 ⟨m,a,I.bk,cO I.ok.bsz I.ok.above⟩
theorem Inv.lt(I:Inv X pins σ H s):X.env.locals<s.heap.objs.size:=let⟨_,a,_⟩:=I.loc;a.lt
theorem Inv.sz(I:Inv X pins σ H s):X.s₀.heap.objs.size<=s.heap.objs.size:=cO I.ok.above (cZ I.lt)
theorem Inv.nofs(I:Inv X pins σ H s){a:cG}(h:s.heap.objs.size<=a):a∉X.fs:=λb=>by
 obtain⟨_,o,c,_⟩:=I.ok.funs.mem b;exact absurd (cJ (cR c) (cO I.sz h)) (dA _)
theorem Inv.cne(I:Inv X pins σ H s):∀x c,X.env.cells.lookup x=some c->c≠X.env.locals:=λx c e z=>by
 obtain⟨v,o,a,b⟩:=I.cell x c e;obtain⟨m,⟨g,j,h,d,f,_⟩,_⟩:=I.loc;rw[z,d]at a;cases a;rw[f]at b;cases b
theorem Inv.funs(I:Inv X pins σ H s):s.heap.FunFrames X.base X.outer:=by
 have all:∀(l:List Env),(∀b∈Hc l,b∈X.fs)->X.s₀.heap.FunFrames X.base l->s.heap.FunFrames X.base l:=by
  intro l
  induction l with
  | nil=>intro _ _;trivial
  | cons p r g=>
   intro f m;obtain⟨hk,⟨L,o,d,h,n,j⟩,k⟩:=m;have c:L∈X.fs:=f L (by unfold Hc;rw[gp,d];exact cM);obtain⟨q,e⟩:=I.base.slot L o n (I.ok.frf L c) c λz=>I.ok.exfs L z c;exact⟨hk,⟨L,_,d,h,e,j⟩,g (λb a=>f b (by unfold Hc;rw[gp,d];exact cN _ a)) k⟩
 exact all X.outer (λ_ a=>a) I.ok.funs
theorem Inv.stack(I:Inv X pins σ H s):s.heap.FunFrames X.base X.stack:=by
 rcases I.ok.stk with e|⟨e,b⟩
 ·rw[e];exact I.funs
 ·rw[e];obtain⟨m,a,_⟩:=I.loc;refine .cons (by rw[I.ok.kind];decide) b a ?_ I.funs;exact Heap.get?_none_of_le (cO I.ok.bsz I.ok.above)
theorem Inv.stkSub(I:Inv X pins σ H s):∀b∈Hc X.stack,b∈X.env.locals::X.fs:=λb a=>by
 rcases I.ok.stk with e|⟨e,c⟩
 ·rw[e]at a;exact cN _ a
 ·rw[e]at a;unfold Hc at a;rw[gp,c]at a;exact a
theorem Inv.stkFree(I:Inv X pins σ H s):∀b∈Hc X.stack,H b=none:=λb a=>by
 rcases da.mp (I.stkSub b a)with e|a
 ·rw[e];exact I.free
 ·obtain⟨_,o,c,_⟩:=I.ok.funs.mem a;exact I.base.free b o c (I.ok.frf b a) λz=>I.ok.exfs b z a
theorem Inv.step{g':Array GenState}{t':Nat}{d':Drawn}{ch:List cG}(I:Inv X pins σ H s)
  (h:∀b∈ch,(b∈X.ex\/X.s₀.heap.objs.size<=b)/\b≠X.env.locals/\(∀x c,X.env.cells.lookup x=some c->c≠b)/\∀p∈X.pn++pins,p.1≠b)
  (keep:∀b o,b≠X.env.locals->b∉X.fs->b∉ch->s.heap.get? b=some o->H b=none->h'.get? b=some o)
  (slot:∀b o,b≠X.env.locals->b∈X.fs->b∉ch->s.heap.get? b=some o->H b=none->∃sl,h'.get? b=some {o with slots:=sl})(free:∀b o,b∉ch->s.heap.get? b=some o->H b=none->H' b=none)
  (there:∀b o,b∉ch->s.heap.get? b=some o->∃o',h'.get? b=some o')
  (tups:∀b xs,H b=some (.tup xs)->H' b=some (.tup xs))(frzs:∀b o u,H b=some (.frz o u)->H' b=some (.frz o u))(tbls:∀b ps,H b=some (.tbl ps)->∃more,H' b=some (.tbl (ps++more)))
  (ns:∀m,s.heap.Ns X.env.locals m->h'.Ns X.env.locals m)(J:HOk X.prog X.w H' h')(Q:AllBare g'):
  Inv X pins σ H' {s with heap:=h',gens:=g',drawn:=d',toks:=t'}:=by
 have C:∀b o,X.s₀.heap.get? b=some o->b≠X.env.locals:=λb o e=>dr (cJ (cR e) I.ok.above)
 have t:∀b o,X.s₀.heap.get? b=some o->b∉X.ex->b∉ch:=λb o e a j=>by
  rcases(h b j).1 with z|z
  ·exact a z
  ·exact absurd (cJ (cR e) z) (dA _)
 have y:∀x c,X.env.cells.lookup x=some c->∀v,s.heap.IsCell c v->h'.IsCell c v:=λx c e v ⟨o,A,D⟩=>by
  have g:c∉ch:=λz=>(h c z).2.2.1 x c e rfl
  by_cases F:c∈X.fs
  ·obtain⟨sl,q⟩:=slot c o (I.cne x c e) F g A (I.freeC x c e)
   exact⟨_,q,D⟩
  ·exact⟨o,keep c o (I.cne x c e) F g A (I.freeC x c e),D⟩
 refine⟨I.ok,I.os,Q,⟨λb o e n j a=>?_,λb o e n j a=>?_,λb o e n a=>?_,λb o e a=>?_,λb xs e=>tups b xs (I.base.tups b xs e),λb o xs e=>frzs b o xs (I.base.frzs b o xs e),λb ps e=>?_⟩,?_,λx c e=>?_,?_,λx c e=>?_,λp hp=>?_,J,I.len⟩
 ·exact keep b o (C b o e) j (t b o e a) (I.base.keep b o e n j a) (I.base.free b o e n a)
 ·obtain⟨sl,f⟩:=I.base.slot b o e n j a
  obtain⟨E,B⟩:=slot b _ (C b o e) j (t b o e a) f (I.base.free b o e n a)
  exact⟨E,B⟩
 ·obtain⟨o',f⟩:=I.base.there b o e a
  exact free b o' (t b o e a) f (I.base.free b o e n a)
 ·obtain⟨o',f⟩:=I.base.there b o e a
  exact there b o' (t b o e a) f
 ·obtain⟨L,f⟩:=I.base.tbls b ps e
  obtain⟨P,B⟩:=tbls b _ f
  exact⟨L++P,by rw[B,nF]⟩
 ·obtain⟨m,N,O⟩:=I.loc
  refine⟨m,ns m N,λi x v f B M=>?_⟩
  obtain⟨u,r,l⟩:=O i x v f B M
  refine⟨u,r,?_⟩
  rcases l with l|⟨k,c,e,z⟩
  ·exact .inl l
  ·exact .inr ⟨k,c,e,y x c e _ z⟩
 ·obtain⟨v,z⟩:=I.cell x c e
  exact⟨v,y x c e v z⟩
 ·obtain⟨m,⟨o,_,_,A,_⟩,_⟩:=I.loc
  exact free _ o (λz=>(h _ z).2.1 rfl) A I.free
 ·obtain⟨v,o,A,D⟩:=I.cell x c e
  exact free c o (λz=>(h c z).2.2.1 x c e rfl) A (I.freeC x c e)
 ·obtain⟨e,n,G,nf,d⟩:=I.pin p hp
  have g:p.1∉ch:=λz=>(h p.1 z).2.2.2 p hp rfl
  exact⟨keep p.1 p.2 G nf g e n,free p.1 p.2 g e n,G,nf,d⟩
theorem Inv.un{t':Nat}(I:Inv X pins σ H s)(u:Un X.fs [] H H' s.heap h')(h:HOk X.prog X.w H' h'):Inv X pins σ H' {s with heap:=h',toks:=t'}:=by
 obtain⟨m,⟨o,p,t,f,r⟩,_⟩:=id I.loc;obtain⟨x,k⟩:=u.any f I.free (by simp);exact I.step (g':=s.gens) (d':=s.drawn) (ch:=[]) (λ_ z=>nomatch z) (λb o _ c _ e n=>u.keep b o e n c (by simp)) (λb o _ c _ e n=>u.slot b o e n c (by simp)) (λb o _ e n=>u.free b o e n (by simp)) (λb o _ e=>u.there b o e (by simp)) u.tups u.frzs u.tbls (λq l=>by
  obtain⟨v,g,d,a,j⟩:=l;rw[f]at a;cases a;exact⟨_,g,d,k,j⟩) h I.bare
theorem Inv.call{g':Array GenState}{t':Nat}{d':Drawn}{ch:List cG}(I:Inv X pins σ H s)(u:Un (Hc X.stack) ch H H' s.heap h')(l:HOk X.prog X.w H' h')(y:AllBare g')
  (f:∀b∈ch,(b∈X.ex\/X.s₀.heap.objs.size<=b)/\b≠X.env.locals/\(∀x c,X.env.cells.lookup x=some c->c≠b)/\∀p∈X.pn++pins,p.1≠b):
  Inv X pins σ H' {s with heap:=h',gens:=g',drawn:=d',toks:=t'}:=by
 obtain⟨m,⟨o,A,C,j,r⟩,_⟩:=id I.loc
 obtain⟨E,g⟩:=u.any j I.free λz=>(f _ z).2.1 rfl
 exact I.step (ch:=ch) f (λb o g t a e n=>u.keep b o e n (λz=>(da.mp (I.stkSub b z)).elim g t) a) (λb o _ _ a e n=>u.any e n a) (λb o a e n=>u.free b o e n a) (λb o a e=>u.there b o e a) u.tups u.frzs u.tbls (λB v=>by
  obtain⟨D,k,h,d,q⟩:=v
  rw[j]at d;cases d
  exact⟨_,k,h,g,q⟩) l y
theorem Inv.turned{t':Nat}{it:cG}(I:Inv X pins σ H s)(k:∀b o,b≠it->s.heap.get? b=some o->h'.get? b=some o)(w:H it=none)(f:it≠X.env.locals)
  (h1:it∈X.ex\/X.s₀.heap.objs.size<=it)(h2:∀x c,X.env.cells.lookup x=some c->c≠it)(h3:∀p∈X.pn++pins,p.1≠it):Inv X pins σ H {s with heap:=h',toks:=t'}:=by
 have d:∀b u,H b=some u->b≠it:=λb u e z=>by rw[z,w]at e;cases e
 refine I.step (g':=s.gens) (d':=s.drawn) (ch:=[it]) (λb h=>?_) (λb o _ _ a e _=>k b o (λz=>a (by simp[z])) e) (λb o _ _ a e _=>⟨o.slots,k b o (λz=>a (by simp[z])) e⟩) (λ_ _ _ _ n=>n)
  (λb o a e=>⟨o,k b o (λz=>a (by simp[z])) e⟩) (λ_ _ e=>e) (λ_ _ _ e=>e) (λb y e=>⟨#[],by rw[e];simp⟩) (λm l=>?_) (λb u e=>?_) I.bare
 ·have e:b=it:=by simpa using h
  subst e
  exact⟨h1,f,h2,h3⟩
 ·obtain⟨o,g,j,t,r⟩:=l
  exact⟨o,g,j,k _ o (Ne.symm f) t,r⟩
 ·refine(I.hok b u e).stay (λc v a q=>k c v ?_ q) (λ_ q=>q) λ_ _ q=>q
  rcases a with z|z
  ·rw[z];exact d b u e
  ·exact d c _ z
theorem Inv.tok(I:Inv X pins σ H s)(t:Nat):Inv X pins σ H {s with toks:=t}:=I.un (h':=s.heap) (t':=t) Un.refl I.hok
theorem Inv.kept{t':Nat}(I:Inv X pins σ H s)(k:∀b u,s.heap.get? b=some u->h'.get? b=some u):Inv X pins σ H {s with heap:=h',toks:=t'}:=I.un (Un.kept k) (I.hok.kept k)
theorem Inv.laid{a:cG}{o:HO}{t':Nat}(I:Inv X pins σ H s)(k:∀b u,s.heap.get? b=some u->h'.get? b=some u)(hp:s.heap.objs.size<=a)(c:ObjOk X.prog X.w (upd H a o) h' a o):
  Inv X pins σ (upd H a o) {s with heap:=h',toks:=t'}:=I.un (Un.laid k hp (I.hok.fresh hp)) (I.hok.laid k hp c)
theorem Inv.write{x e:cG}{o:HO}{t':Nat}(I:Inv X pins σ H s)(d:NB (H x))(f:e=x\/H e=some (.own x))(k:∀b u,b≠e->s.heap.get? b=some u->h'.get? b=some u)(a:∃u,h'.get? e=some u)
  (c:ObjOk X.prog X.w (upd H x o) h' x o):Inv X pins σ (upd H x o) {s with heap:=h',toks:=t'}:=I.un (Un.write d f k a) (I.hok.write d f k a c)
theorem Inv.weak{a:List (Option V)}(I:Inv X pins σ H s)(hl:a.length=σ.length)(w:∀(i:Nat) v,a[i]?=some (some v)->σ[i]?=some (some v)):Inv X pins a H s:=
 ⟨I.ok,I.os,I.bare,I.base,let⟨m,e,b⟩:=I.loc;⟨m,e,λi x v c f d=>b i x v c (w i v f) d⟩,I.cell,I.free,I.freeC,I.pin,I.hok,hl.trans I.len⟩
theorem Inv.pins_of{pins':List (cG×Obj)}(I:Inv X pins σ H s)(h:∀p∈pins',s.heap.get? p.1=some p.2/\H p.1=none/\p.1≠X.env.locals/\p.1∉X.fs/\∀v,p.2.data≠ .cell v):Inv X pins' σ H s:=
 ⟨I.ok,I.os,I.bare,I.base,I.loc,I.cell,I.free,I.freeC,λp hp=>(dE.mp hp).elim (λz=>I.pin p (ia _ z)) (h p),I.hok,I.len⟩
theorem ye{N:List Str}(e:N.Nodup){i j:Nat}{x:Str}(a:N[i]?=some x)(b:N[j]?=some x):i=j:=by
 obtain⟨h1,d⟩:=cT.mp a;obtain⟨h2,c⟩:=cT.mp b;exact(List.getElem_inj e).mp (d.trans c.symm)
theorem zi{M:Model}{A:dD}{E:cz->cC->Prop}{i:Nat}{x:Str}{v:V}{u:cz}{Q:Unit->cC->Prop}(I:Inv X pins σ H s)(hN:X.N.Nodup)(R:X.N[i]?=some x)(t:Loc X.env.scope x)(r:RelV v u)
  (h:∀s',Inv X pins (σ.set i (some v)) H s'->(∃a,fS a s.heap s'.heap/\(a=X.env.locals\/X.env.cells.lookup x=some a))->Q () s')(hf:X.fn x=true\/X.env.scope.names.lookup x=some .local:=by first|exact .inl rfl|exact .inr rfl|assumption):wpAny M A (storeName X.env x u) Q E s:=by
 obtain⟨m,hn,hl⟩:=id I.loc
 have aa:(X.env.scope.kind == .class||(X.env.scope.kind == .module&&X.env.locals != X.env.globals))=false:=by rw[I.ok.kind];rfl
 have O:i<σ.length:=by rw[I.len];exact(cT.mp R).1
 have P:=I.cne
 have B:∀{a:cG} {J:Heap},(∃o,s.heap.get? a=some o/\H a=none)->fS a s.heap J->HOk X.prog X.w H J:=λ {a J} ha f b ob e=>by
  obtain⟨_,_,G⟩:=ha
  refine(I.hok b ob e).stay (λc S l q=>(f.2 c ?_).trans q) (λ_ q=>q) λ_ _ q=>q
  rintro rfl
  rcases l with rfl|l
  ·rw[G]at e;cases e
  ·rw[G]at l;cases l
 rcases t with hk|hk
 ·refine wpAny_storeName_local hk hn (λJ ac f=>?_) aa
  obtain⟨oL,_,_,ae,_⟩:=id hn
  refine h _ ⟨I.ok,I.os,I.bare,⟨λb o e n F t=>?_,λb o e n F t=>?_,I.base.free,λb o e t=>?_,I.base.tups,I.base.frzs,I.base.tbls⟩,⟨_,ac,λj y v' g C e3=>?_⟩,λy c e=>?_,I.free,I.freeC,λp hp=>?_,B ⟨oL,ae,I.free⟩ f,by simpa using I.len⟩ ⟨_,f,.inl rfl⟩
  ·exact(f.2 b (dr (cJ (cR e) I.ok.above))).trans (I.base.keep b o e n F t)
  ·obtain⟨sl,g⟩:=I.base.slot b o e n F t
   exact⟨sl,(f.2 b (dr (cJ (cR e) I.ok.above))).trans g⟩
  ·obtain⟨o',g⟩:=I.base.there b o e t
   exact⟨o',(f.2 b (dr (cJ (cR e) I.ok.above))).trans g⟩
  ·by_cases D:j=i
   ·subst D
    rw[R]at g;cases g
    rw[jv O]at C
    cases C
    exact⟨u,r,.inl ⟨hk,by simp⟩⟩
   ·rw[iQ (Ne.symm D)]at C
    obtain⟨u',r',q⟩:=hl j y v' g C e3
    refine⟨u',r',?_⟩
    rcases q with⟨k,e⟩|⟨k,c,e,z⟩
    ·refine .inl ⟨k,?_⟩
     have:y≠x:=λe=>D (ye hN g (e▸R))
     simp[this,e]
    ·exact .inr ⟨k,c,e,z.sameBut f (P y c e)⟩
  ·obtain⟨S,z⟩:=I.cell y c e
   exact⟨S,z.sameBut f (P y c e)⟩
  ·obtain⟨e,n,T,nf,d⟩:=I.pin p hp
   exact⟨(f.2 p.1 T).trans e,n,T,nf,d⟩
 ·have L:X.fn x=true:=by
   rcases hf with z|z
   ·exact z
   ·rw[z]at hk;cases hk
  obtain⟨c,l⟩:=I.ok.has x (.inl hk)
  obtain⟨S,z⟩:=I.cell x c l
  refine wpAny_storeName_cell I.ok.kind hk l z (λJ W f=>?_)
  obtain⟨oc,Z,ab⟩:=id z
  refine h {s with heap:=J} ⟨I.ok,I.os,I.bare,⟨λb o e n F t=>?_,λb o e n F t=>?_,I.base.free,λb o e t=>?_,I.base.tups,I.base.frzs,I.base.tbls⟩,⟨m,hn.sameBut f (Ne.symm (P x c l)),λj y v' g C e3=>?_⟩,λy U e=>?_,I.free,I.freeC,λp hp=>?_,B ⟨oc,Z,I.freeC x c l⟩ f,by simpa using I.len⟩ ⟨c,f,.inr l⟩
  ·exact(f.2 b (dr (cJ (cR e) (I.ok.cab x c L l)))).trans (I.base.keep b o e n F t)
  ·obtain⟨sl,g⟩:=I.base.slot b o e n F t
   exact⟨sl,(f.2 b (dr (cJ (cR e) (I.ok.cab x c L l)))).trans g⟩
  ·obtain⟨o',g⟩:=I.base.there b o e t
   exact⟨o',(f.2 b (dr (cJ (cR e) (I.ok.cab x c L l)))).trans g⟩
  ·by_cases D:j=i
   ·subst D
    rw[R]at g;cases g
    rw[jv O]at C
    cases C
    exact⟨u,r,.inr ⟨.inl hk,c,l,W⟩⟩
   ·rw[iQ (Ne.symm D)]at C
    obtain⟨u',r',q⟩:=hl j y v' g C e3
    refine⟨u',r',?_⟩
    rcases q with q|⟨k,U,e,z'⟩
    ·exact .inl q
    ·refine .inr ⟨k,U,e,z'.sameBut f ?_⟩
     rintro rfl
     exact D (ye hN g (I.ok.inj _ _ _ e l▸R))
  ·by_cases Y:U=c
   ·subst Y;exact⟨_,W⟩
   ·obtain⟨w2,z2⟩:=I.cell y U e
    exact⟨w2,z2.sameBut f Y⟩
  ·obtain⟨e,n,T,nf,d⟩:=I.pin p hp
   refine⟨(f.2 p.1 ?_).trans e,n,T,nf,d⟩
   intro q
   rw[q,Z]at e
   have q':oc=p.2:=Option.some.inj e
   exact d S (by rw[<-q'];exact ab)
theorem wF{M:Model}{A:dD}{E:cz->cC->Prop}{i:Nat}{x:Str}{v:V}{u:cz}{Q:Unit->cC->Prop}(I:Inv X pins σ H s)(b:X.N.Nodup)(e:X.N[i]?=some x)(c:Loc X.env.scope x)(r:RelV v u)
  (h:∀s',Inv X pins (σ.set i (some v)) H s'->Q () s')(d:X.fn x=true\/X.env.scope.names.lookup x=some .local:=by first|exact .inl rfl|exact .inr rfl|assumption):wpAny M A (storeName X.env x u) Q E s:=
 zi I b e c r (λs' a _=>h s' a) d
theorem Inv.call'{s':cC}{ch:List cG}(I:Inv X pins σ H s)(h:s'.os=s.os)(u:Un (Hc X.stack) ch H H' s.heap s'.heap)(d:HOk X.prog X.w H' s'.heap)(g:AllBare s'.gens)
  (a:∀b∈ch,(b∈X.ex\/X.s₀.heap.objs.size<=b)/\b≠X.env.locals/\(∀x c,X.env.cells.lookup x=some c->c≠b)/\∀p∈X.pn++pins,p.1≠b):Inv X pins σ H' s':=by
 obtain⟨j,g',d',t',f⟩:=s'
 have e:f=s.os:=h
 subst e
 exact I.call (g':=g') (t':=t') (d':=d') u d g a
end
abbrev XK:=cz->Option cG->Hp->Prop
abbrev St:=List (Option V)
abbrev VK:=V->Hp->Prop
abbrev TE:=St->Hp->VK->Prop
abbrev TT:=St->Hp->(Bool->Hp->Prop)->Prop
abbrev TA:=St->Hp->(List V->Hp->Prop)->Prop
structure H0 where
 nx:St->Hp->Prop
 rt:VK
 bk:St->Hp->Prop:=λ_ _=>False
 ct:St->Hp->Prop:=λ_ _=>False
abbrev TS:=H0->St->Hp->Prop
def EP(X:Cx)(a:List (cG×Obj))(b:St)(Q:VK)(u:cz)(s':cC):Prop:=∃v H',Inv X a b H' s'/\RelV v u/\Q v H'
def TP(X:Cx)(a:List (cG×Obj))(c:St)(Q:Bool->Hp->Prop)(b:Bool)(s':cC):Prop:=∃H',Inv X a c H' s'/\Q b H'
def AP(X:Cx)(a:List (cG×Obj))(b:St)(Q:List V->Hp->Prop)(us:List cz)(s':cC):Prop:=∃vs H',Inv X a b H' s'/\Vals vs us/\Q vs H'
def SP(X:Cx)(a:List (cG×Obj))(D:H0)(f:Flow)(s':cC):Prop:=
 match f with
 | .next=>∃σ' H',Inv X a σ' H' s'/\D.nx σ' H'
 | .brk=>∃σ' H',Inv X a σ' H' s'/\D.bk σ' H'
 | .cont=>∃σ' H',Inv X a σ' H' s'/\D.ct σ' H'
 | .ret u=>∃v σ' H',Inv X a σ' H' s'/\RelV v u/\D.rt v H'
def PE(X:Cx)(e:Expr)(t:TE):Prop:=
 ∀(pins:List (cG×Obj)) (s:cC) (σ:St) (H:Hp) (Q:VK),Inv X pins σ H s->t σ H Q->wpAny (model X.prog X.w) X.A (eval e X.env) (EP X pins σ Q) X.xe s
def PT(X:Cx)(e:Expr)(t:TT):Prop:=
 ∀(pins:List (cG×Obj)) (s:cC) (σ:St) (H:Hp) (Q:Bool->Hp->Prop),Inv X pins σ H s->t σ H Q->wpAny (model X.prog X.w) X.A (isTrue e X.env (eval e X.env)) (TP X pins σ Q) X.xe s
def PW(X:Cx)(e:Expr)(t:TT):Prop:=
 ∀(whole:Sem cz) (pins:List (cG×Obj)) (s:cC) (σ:St) (H:Hp) (Q:Bool->Hp->Prop),Inv X pins σ H s->t σ H Q->wpAny (model X.prog X.w) X.A (isTrue e X.env whole) (TP X pins σ Q) X.xe s
theorem PW.pt{X:Cx}{e:Expr}{t:TT}(h:PW X e t):PT X e t:=h _
def PA(X:Cx)(a:List Expr)(t:TA):Prop:=
 ∀(pos:Pos) (pins:List (cG×Obj)) (s:cC) (σ:St) (H:Hp) (Q:List V->Hp->Prop),Inv X pins σ H s->t σ H Q->wpAny (model X.prog X.w) X.A (spliced (backTo pos (dq a X.env))) (AP X pins σ Q) X.xe s
def PS(X:Cx)(st:Stmt)(t:TS):Prop:=
 ∀(pins:List (cG×Obj)) (s:cC) (σ:St) (H:Hp) (D:H0),Inv X pins σ H s->t D σ H->wpAny (model X.prog X.w) X.A (exec st X.env) (SP X pins D) X.xe s
def PSs(X:Cx)(st:List Stmt)(t:TS):Prop:=
 ∀(pins:List (cG×Obj)) (s:cC) (σ:St) (H:Hp) (D:H0),Inv X pins σ H s->t D σ H->wpAny (model X.prog X.w) X.A (execs st X.env) (SP X pins D) X.xe s
theorem Gh{b:Type}{t:Sem b}{Q c:b->cC->Prop}{M:Model}{A:dD}{E:cz->cC->Prop}{s:cC}(h:wpAny M A t Q E s)(d:∀a s,Q a s->c a s):wpAny M A t c E s:=fN h d λ_ _ x=>x
section
variable{X:Cx}
theorem bin{a b:Expr}{e g:TE}(t:PE X a e)(r:PE X b g){c:List (cG×Obj)}{s:cC}{d:St}{H:Hp}{R:V->V->Hp->Prop}(I:Inv X c d H s)(h:e d H λx H1=>g d H1 λy H2=>R x y H2)
  {j:Type}{Q:j->cC->Prop}{f:cz->cz->Sem j}
  (z:∀v u s2 x y H2,Inv X c d H2 s2->RelV x v->RelV y u->R x y H2->wpAny (model X.prog X.w) X.A (f v u) Q X.xe s2):
  wpAny (model X.prog X.w) X.A (eval a X.env) (λv s₁=>wpAny (model X.prog X.w) X.A (eval b X.env) (λu s₂=>wpAny (model X.prog X.w) X.A (f v u) Q X.xe s₂) X.xe s₁) X.xe s:=by
 refine Gh (t c s d H _ I h) λv l ⟨x,H1,q,o,k⟩=>?_
 refine Gh (r c l d H1 _ q k) λu s2 ⟨y,H2,m,n,p⟩=>?_
 exact z v u s2 x y H2 m o n p
def MM(i:Nat):TE:=λa H Q=>∃v,a[i]?=some (some v)/\Q v H
def tC(v:V):TE:=λ_ H Q=>Q v H
theorem FO{i:Nat}{x:Str}{pos:Pos}(p:X.N[i]?=some x)(q:ND X.env.scope x)(d:(x==("__debug__":Str))=false:=by decide)(g:(x==("__classdict__":Str))=false:=by decide):PE X (.Name x pos) (MM i):=by
 intro b s k H Q I h;obtain⟨v,e,h⟩:=h;obtain⟨m,j,o⟩:=I.loc;obtain⟨u,r,l⟩:=o i x v p e q;have fin:EP X b k Q u s:=⟨v,H,I,r,h⟩;rcases l with⟨hk,n⟩|⟨hk,c,f,a⟩
 ·exact pQ (wpAny_loadName_local I.ok.kind hk j n fin) d
 ·rcases hk with hk|hk
  ·exact pQ (wpAny_loadName_cell I.ok.kind hk f a fin) d
  ·exact pQ (wpAny_loadName_free I.ok.kind hk f a fin g) d
theorem sT{i j pos}:PE X (.Constant (.int i) j pos) (tC (.int i)):=λ_ _ _ H _ I h=>wpAny_Constant_int ⟨.int i,H,I.tok _,⟨_,rfl⟩,h⟩
theorem wj{b j pos}:PE X (.Constant (.bool b) j pos) (tC (.bl b)):=λ_ _ _ H _ I h=>Constant_bool ⟨.bl b,H,I,rfl,h⟩
theorem vv{j pos}:PE X (.Constant .none j pos) (tC .non):=λ_ _ _ H _ I h=>Constant_none ⟨.non,H,I,rfl,h⟩
theorem tr{x j pos}:PE X (.Constant (.str x) j pos) (tC (.str x)):=λ_ _ _ H _ I h=>Calls.Constant_str ⟨.str x,H,I.tok _,⟨_,rfl⟩,h⟩
def Gl(X:Cx)(x:Str):Prop:=X.env.kindOf x=some .globalImplicit
theorem vA{E:cz->cC->Prop}{a:List (cG×Obj)}{s:cC}{c:St}{H:Hp}{x:Str}{u:cz}{pos:Pos}{Q:cz->cC->Prop}(I:Inv X a c H s)(b:Gl X x)(d:X.mg x=some u)(h:Q u s)
  (e:(x==("__debug__":Str))=false:=by decide):wpAny (model X.prog X.w) X.A (eval (.Name x pos) X.env) Q E s:=
 iR I.ok.kind b (lA (by rw[I.ok.glob];exact I.mod.glob.keeps I.bk) d h) e
theorem uU{E:cz->cC->Prop}{a:List (cG×Obj)}{s:cC}{d:St}{H:Hp}{x:Str}{u:cz}{pos:Pos}{Q:cz->cC->Prop}(I:Inv X a d H s)(b:Gl X x)(e:X.mg x=none)(g:bootBuiltins x=some u)(h:Q u s)
  (f:x≠"__name__":=by decide)(c:(x==("__debug__":Str))=false:=by decide):wpAny (model X.prog X.w) X.A (eval (.Name x pos) X.env) Q E s:=by
 obtain⟨j,h1,h2⟩:=I.mod.blt
 exact iR I.ok.kind b (Calls.loadGlobal_builtin (by rw[I.ok.glob];exact I.mod.glob.keeps I.bk) e (by rw[I.ok.blt];exact h1.keeps I.bk) ((h2 x f).trans g) h) c
theorem El{x:Str}{v:V}{u:cz}{pos:Pos}(a:Gl X x)(b:X.mg x=some u)(r:RelV v u)(c:(x==("__debug__":Str))=false:=by decide):PE X (.Name x pos) (tC v):=
 λ_ _ _ H _ I h=>vA I a b ⟨v,H,I,r,h⟩ c
theorem En{x:Str}{v:V}{u:cz}{pos:Pos}(a:Gl X x)(b:X.mg x=none)(c:bootBuiltins x=some u)(r:RelV v u)(d:x≠"__name__":=by decide)(e:(x==("__debug__":Str))=false:=by decide):PE X (.Name x pos) (tC v):=
 λ_ _ _ H _ I h=>uU I a b c ⟨v,H,I,r,h⟩ d e
variable{a b:Expr}{ta tb:TE}{pos:Pos}
def PC(X:Cx)(op:CmpOp)(a b:Expr)(t:TE):Prop:=
 ∀(pins:List (cG×Obj)) (s:cC) (σ:St) (H:Hp) (Q:VK),Inv X pins σ H s->t σ H Q->
  wpAny (model X.prog X.w) X.A (eval a X.env) (λv c=>wpAny (model X.prog X.w) X.A (eval b X.env) (λu d=>wpAny (model X.prog X.w) X.A (compareOp op v u) (EP X pins σ Q) X.xe d) X.xe c) X.xe s
def tB(t:TE):TT:=λa H Q=>t a H λx b=>∃c,x = .bl c/\Q c b
theorem pt_cmp{op:CmpOp}{t:TE}(h:PC X op a b t)(h1:behindInMarks op b=false:=by first|exact nobehind _ (by decide) (by decide)|rfl):PT X (.Compare a [op] [b] pos) (tB t):=by
 intro e s j H Q I k;refine mw (Gh (h e s j H _ I k) λv o h1=>Gh h1 λu p h2=>Gh h2 λc n ⟨x,f,g,m,l⟩=>?_) h1;obtain⟨d,rfl,q⟩:=l
 cases m;exact eU ⟨f,g,q⟩
theorem tV{e:Expr}{t:TE}(h:PE X e t)(l:∀whole,isTrue e X.env whole=(do let v<-whole;standAt e.pos;holding [v] (truthy v)):=by intro _;rfl):PT X e (tB t):=by
 intro a s b H Q I f;refine rh (Gh (h a s b H _ I f) λv m ⟨x,g,k,j,c⟩=>?_) (l _);obtain⟨d,rfl,q⟩:=c
 cases j;exact eU ⟨g,k,q⟩
variable{tA tB':TT}{rest:List Expr}
def N9(t u:TT):TT:=λa H Q=>t a H λc b=>if c=true then u a b Q else Q false b
def Oy(t u:TT):TT:=λa H Q=>t a H λc b=>if c=true then Q true b else u a b Q
def NW(t:TT):TT:=λa H Q=>t a H λc b=>Q (!c) b
theorem vF(f:PT X a tA):PW X (.BoolOp .And [a] pos) tA:=by
 intro j b s d H Q I h;refine isTrue_and (Gh (f b s d H Q I h) λc g e=>?_)
 cases c with
 | true=>exact isTrue_and_nil e
 | false=>exact e
theorem xE(f:PT X a tA):PW X (.BoolOp .Or [a] pos) tA:=by
 intro j b s d H Q I h;refine isTrue_or (Gh (f b s d H Q I h) λc g e=>?_)
 cases c with
 | false=>exact isTrue_or_nil e
 | true=>exact e
theorem vx(m:PT X a tA)(n:PW X (.BoolOp .And (b::rest) pos) tB'):PW X (.BoolOp .And (a::b::rest) pos) (N9 tA tB'):=by
 intro l d s e H Q I h;refine isTrue_and (Gh (m d s e H _ I h) λc k ⟨g,j,f⟩=>?_)
 cases c with
 | true=>exact n l d k e g Q j f
 | false=>exact⟨g,j,f⟩
theorem yF(m:PT X a tA)(n:PW X (.BoolOp .Or (b::rest) pos) tB'):PW X (.BoolOp .Or (a::b::rest) pos) (Oy tA tB'):=by
 intro l d s e H Q I h;refine isTrue_or (Gh (m d s e H _ I h) λc k ⟨g,j,f⟩=>?_)
 cases c with
 | true=>exact⟨g,j,f⟩
 | false=>exact n l d k e g Q j f
theorem uP(f:PT X a tA):PT X (.UnaryOp .Not a pos) (NW tA):=by
 intro b s d H Q I h;exact isTrue_not (f b s d H (λc e=>Q (!c) e) I h)
def MY(e d:TE):TE:=λa H Q=>e a H λx b=>∃c,x = .bl c/\if c=true then d a b Q else Q (.bl false) b
def Nk(d:TE):TE:=λa H Q=>d a H λx b=>∃c,x = .bl c/\Q (.bl (!c)) b
theorem xj{op}{t:TE}(h:PE X a t):PE X (.BoolOp op [a] pos) t:=λb s c H Q I d=>BoolOp_one (h b s c H Q I d)
theorem vH(m:PE X a ta)(n:PE X (.BoolOp .And (b::rest) pos) tb):PE X (.BoolOp .And (a::b::rest) pos) (MY ta tb):=by
 intro d s f H Q I h;refine BoolOp_and (Gh (m d s f H _ I h) λv k ⟨x,g,j,l,e⟩=>?_);obtain⟨c,rfl,e⟩:=e
 cases l;refine eU ?_
 cases c with
 | true=>exact n d k f g Q j e
 | false=>exact⟨.bl false,g,j,rfl,e⟩
theorem Ea(k:PE X a ta):PE X (.UnaryOp .Not a pos) (Nk ta):=by
 intro d s e H Q I h;refine UnaryOp_ (Gh (k d s e H _ I h) λv l ⟨x,f,j,g,b⟩=>?_);obtain⟨c,rfl,b⟩:=b
 cases g;exact not_of (eU ⟨.bl (!c),f,j,rfl,b⟩)
end
def SqL(K:b3)(H:Hp)(a:cG)(xs:List V):Prop:=
 Rd H a (.lst xs)\/
  ∃(o:Obj) (its:Array cz) (n:Nat),K.lookup a=some o/\o.cls = .type "list"/\o.dict=none/\o.data = .seq its n/\its.size<=sizeLine/\Vals xs its.toList
def SqT(K:b3)(H:Hp)(a:cG)(xs:List V):Prop:=
 Rd H a (.tup xs)\/
  ∃(o:Obj) (its:Array cz) (n:Nat),K.lookup a=some o/\o.cls = .type "tuple"/\o.data = .seq its n/\its.size<=sizeLine/\Vals xs its.toList
def NU:cz->Option V
 | .none=>some .non
 | .bool b=>some (.bl b)
 | .int i _=>some (.int i)
 | .str x _=>some (.str x)
 | .bytes b _=>some (.byt b)
 | .float b _=>some (.flt b)
 | .ref a=>some (.ref a)
 | .type n=>some (.ty n)
 | _=>none
theorem RelV.abs{x:V}{u:cz}(r:RelV x u):NU u=some x:=by
 cases x with
 | non=>cases r;rfl
 | bl _=>cases r;rfl
 | int _=>obtain⟨t,rfl⟩:=r;rfl
 | str _=>obtain⟨t,rfl⟩:=r;rfl
 | byt _=>obtain⟨t,rfl⟩:=r;rfl
 | flt _=>obtain⟨t,rfl⟩:=r;rfl
 | ref _=>cases r;rfl
 | ty _=>cases r;rfl
theorem RelV.inj{x y:V}{u:cz}(r:RelV x u)(q:RelV y u):x=y:=Option.some.inj (r.abs.symm.trans q.abs)
theorem Vals.inj:∀{xs ys:List V} {us:List cz},Vals xs us->Vals ys us->xs=ys
 | _,_,_,.nil,.nil=>rfl
 | _,_,_,.cons r t,.cons r' t'=>by rw[r.inj r',Vals.inj t t']
section
variable{X:Cx}{pins:List (cG×Obj)}{σ:St}{H:Hp}{s:cC}{a:cG}{xs ys:List V}
theorem SqL.of{K:b3}(h:H a=some (.lst xs)):SqL K H a xs:= .inl (.inl h)
theorem SqT.of{K:b3}(h:H a=some (.tup xs)):SqT K H a xs:= .inl (.inl h)
theorem Inv.list(I:Inv X pins σ H s)(h:SqL X.K H a xs):∃its:List cz,Vals xs its/\PlainL s.heap a its.toArray/\xs.length<=sizeLine:=by
 rcases h with h|⟨o,its,n,hk,c,b,d,f,r⟩
 ·obtain⟨z,its,n,r,e⟩:=h.ok I.hok;exact⟨its,r,⟨_,n,e,rfl,rfl,rfl⟩,z⟩
 ·refine⟨its.toList,r,⟨o,n,I.kIn a o hk,c,b,by simpa using d⟩,?_⟩;have e:=r.length;simp only[eF]at e;omega
theorem Inv.tuple(I:Inv X pins σ H s)(h:SqT X.K H a xs):∃its:List cz,Vals xs its/\IsTup s.heap a its.toArray/\xs.length<=sizeLine:=by
 rcases h with h|⟨o,its,n,hk,b,c,d,r⟩
 ·obtain⟨z,its,r,p⟩:=h.ok I.hok;exact⟨its,r,p,z⟩
 ·refine⟨its.toList,r,⟨o,I.kIn a o hk,b,n,by simpa using c⟩,?_⟩;have e:=r.length;simp only[eF]at e;omega
theorem Inv.list_inj(I:Inv X pins σ H s)(h:SqL X.K H a xs)(h':SqL X.K H a ys):xs=ys:=by
 obtain⟨f,r,⟨o,n,e,_,_,d⟩,_⟩:=I.list h;obtain⟨b,j,⟨k,l,c,_,_,g⟩,_⟩:=I.list h';rw[e]at c;cases c;rw[d]at g;injection g with d1 _
 have:f=b:=by simpa using congrArg n5 d1
 subst this;exact r.inj j
theorem Inv.tuple_inj(I:Inv X pins σ H s)(h:SqT X.K H a xs)(h':SqT X.K H a ys):xs=ys:=by
 obtain⟨f,r,⟨o,e,_,n,d⟩,_⟩:=I.tuple h;obtain⟨b,j,⟨k,c,_,l,g⟩,_⟩:=I.tuple h';rw[e]at c;cases c;rw[d]at g;injection g with d1 _
 have:f=b:=by simpa using congrArg n5 d1
 subst this;exact r.inj j
end
abbrev Cx.wish(X:Cx)(E:cz->cC->Prop):Cx:={X with xe:=E}
abbrev Cx.nox(X:Cx):Cx:=X.wish λ_ _=>False
theorem Cx.Ok.wish{X:Cx}(ok:X.Ok)(E:cz->cC->Prop):(X.wish E).Ok:=
 ⟨ok.mod,ok.kind,ok.glob,ok.blt,ok.above,ok.inj,ok.has,ok.cab,ok.hd,ok.frames,ok.stk,ok.exf,ok.bs,ok.bsz,ok.noex,ok.exfs,ok.funs,ok.frf⟩
theorem Cx.Ok.unwish{X:Cx}{E:cz->cC->Prop}(ok:(X.wish E).Ok):X.Ok:=
 ⟨ok.mod,ok.kind,ok.glob,ok.blt,ok.above,ok.inj,ok.has,ok.cab,ok.hd,ok.frames,ok.stk,ok.exf,ok.bs,ok.bsz,ok.noex,ok.exfs,ok.funs,ok.frf⟩
section
variable{X:Cx}{pins:List (cG×Obj)}{σ:St}{H:Hp}{s:cC}{E:cz->cC->Prop}
theorem Inv.wish(I:Inv X pins σ H s)(E:cz->cC->Prop):Inv (X.wish E) pins σ H s:=⟨I.ok.wish E,I.os,I.bare,I.base,I.loc,I.cell,I.free,I.freeC,I.pin,I.hok,I.len⟩
theorem Inv.unwish(I:Inv (X.wish E) pins σ H s):Inv X pins σ H s:=⟨I.ok.unwish,I.os,I.bare,I.base,I.loc,I.cell,I.free,I.freeC,I.pin,I.hok,I.len⟩
theorem SP.unwish{D:H0}{f:Flow}{s':cC}(h:SP (X.wish E) pins D f s'):SP X pins D f s':=by
 cases f with
 | next=>obtain⟨a,b,I,q⟩:=h;exact⟨a,b,I.unwish,q⟩
 | brk=>obtain⟨a,b,I,q⟩:=h;exact⟨a,b,I.unwish,q⟩
 | cont=>obtain⟨a,b,I,q⟩:=h;exact⟨a,b,I.unwish,q⟩
 | ret u=>obtain⟨v,a,b,I,r,q⟩:=h;exact⟨v,a,b,I.unwish,r,q⟩
theorem PSs.nox{st:List Stmt}{t:TS}(h:PSs X.nox st t):PSs X st t:=λa s b H D I c=>
 fN (h a s b H D (I.wish _) c) (λ_ _ q=>q.unwish) λ_ _ z=>eI z
end
section
variable{X:Cx}{st:Stmt}{rest:List Stmt}{t u:TS}{e:Expr}{te:TE}{pos:Pos}
def MT:TS:=λD a H=>D.nx a H
def Lm(t u:TS):TS:=λD a H=>t {D with nx:=u D} a H
theorem sY:PSs X [] MT:=λ_ _ a H _ I h=>gE ⟨a,H,I,h⟩
theorem sR(h1:PS X st t)(h2:PSs X rest u):PSs X (st::rest) (Lm t u):=by
 intro a s c H D I h;refine i9 (Gh (h1 a s c H {D with nx:=u D} I h) λf d q=>?_)
 cases f with
 | next=>
  obtain⟨b,g,e,q⟩:=q;exact h2 a d b g D e q
 | ret v=>exact q
 | brk=>exact q
 | cont=>exact q
theorem sU(h1:PS X st t):PSs X [st] t:=by
 intro a s b H D I h;refine i9 (Gh (h1 a s b H D I h) λf c q=>?_)
 cases f with
 | next=>exact gE q
 | ret v=>exact q
 | brk=>exact q
 | cont=>exact q
theorem Inv.quiet{a:List (cG×Obj)}{b:St}{H:Hp}{s:cC}(I:Inv X a b H s):interactive X.env=false:=by simp[interactive,I.ok.kind]
def L9(c:TE):TS:=λD a H=>c a H λ_ b=>D.nx a b
theorem tO(g:PE X e te)(j:swapsWith e none pos.line X.env=pure false:=by rfl):PS X (.Expr e pos) (L9 te):=by
 intro a s b H D I h;exact pR (Gh (g a s b H _ I h) λv k ⟨x,d,f,l,c⟩=>⟨b,d,f,c⟩) I.quiet j
def NY(b:TE):TS:=λD a H=>b a H D.rt
theorem s9(j:PE X e te):PS X (.Return (some e) pos) (NY te):=by
 intro a s b H D I h;exact wpAny_Return_some (Gh (j a s b H _ I h) λv k ⟨x,d,g,f,c⟩=>⟨x,b,d,g,f,c⟩)
def MX(c:TT)(t u:TS):TS:=λD a H=>c a H λb d=>if b=true then t D a d else u D a d
theorem tH{c:Expr}{a b:List Stmt}{m:TT}(hc:PT X c m)(n:PSs X a t)(o:PSs X b u):PS X (.If c a b pos) (MX m t u):=by
 intro e s f H D I h;refine wpAny_If (Gh (hc e s f H _ I h) λd j ⟨k,l,g⟩=>?_)
 cases d with
 | true=>exact n e j f k D l g
 | false=>exact o e j f k D l g
def Mc:TS:=λ_ _ _=>False
theorem Br{a:List Stmt}:PSs X a Mc:=λ_ _ _ _ _ _ h=>h.elim
end
abbrev TG:=V->St->Hp->(St->Hp->Prop)->Prop
abbrev Lj:=List V->St->Hp->(St->Hp->Prop)->Prop
def PG(X:Cx)(a:Expr)(t:TG):Prop:=
 ∀(pins:List (cG×Obj)) (s:cC) (σ:St) (H:Hp) (v:V) (u:cz) (Q:St->Hp->Prop),Inv X pins σ H s->RelV v u->t v σ H Q->
  wpAny (model X.prog X.w) X.A (assign a X.env u) (λ_ b=>∃σ' H',Inv X pins σ' H' b/\Q σ' H') X.xe s
def Ny(X:Cx)(ts:List Expr)(t:Lj):Prop:=
 ∀(pins:List (cG×Obj)) (s:cC) (σ:St) (H:Hp) (vs:List V) (us:List cz) (Q:St->Hp->Prop),Inv X pins σ H s->Vals vs us->t vs σ H Q->
  wpAny (model X.prog X.w) X.A (assignInOrder ((assignEach ts X.env).map (·.2)) us) (λ_ a=>∃σ' H',Inv X pins σ' H' a/\Q σ' H') X.xe s
abbrev Mb:=V->V->V->Hp->(Hp->Prop)->Prop
def LS(X:Cx)(t:Mb):Prop:=
 ∀(pins:List (cG×Obj)) (s:cC) (σ:St) (H:Hp) (o i v:V) (ov iv u:cz) (Q:Hp->Prop),Inv X pins σ H s->RelV o ov->RelV i iv->RelV v u->t o i v H Q->
  wpAny (model X.prog X.w) X.A (setItem ov iv u) (λ_ a=>∃H',Inv X pins σ H' a/\Q H') X.xe s
section
variable{X:Cx}{pos:Pos}
def IJ(i:Nat):TG:=λv a H Q=>Q (a.set i (some v)) H
theorem tj{i:Nat}{x:Str}(c:X.N.Nodup)(f:X.N[i]?=some x)(d:Loc X.env.scope x)(e:X.fn x=true\/X.env.scope.names.lookup x=some .local:=by first|exact .inl rfl|exact .inr rfl|assumption):PG X (.Name x pos) (IJ i):=by
 intro b s g H v u Q I r h;exact n7 (wF I c f d r (λj a=>⟨_,H,a,h⟩) e)
def M7:Lj:=λvs a H Q=>vs=[]/\Q a H
def L8(t:TG)(u:Lj):Lj:=λvs b H Q=>∃v r,vs=v::r/\t v b H λa c=>u r a c Q
theorem vc:Ny X [] M7:=by
 intro b s a H vs c Q I r h;obtain⟨e,h⟩:=h;subst e
 cases r;exact assignInOrder_nil ⟨a,H,I,h⟩
theorem tX{e:Expr}{b:List Expr}{t:TG}{u:Lj}(h1:PG X e t)(h2:Ny X b u)
  (n:(assignEach (e::b) X.env).map (·.2)=assign e X.env::(assignEach b X.env).map (·.2):=by rfl):Ny X (e::b) (L8 t u):=by
 intro a s k H vs o Q I r h
 obtain⟨v,p,l,h⟩:=h
 subst l
 cases r with
 | cons r g=>
  rw[n]
  refine assignInOrder_cons (Gh (h1 a s k H _ _ _ I r h) λ_ j ⟨c,d,f,m⟩=>?_)
  exact h2 a j c d _ _ Q f g m
def Mo(K:b3)(n:Nat)(t:Lj):TG:=λv b H Q=>∃a xs,v = .ref a/\SqT K H a xs/\xs.length=n/\t xs b H Q
theorem zd{d:List Expr}{k:Nat}{t:Lj}{n:Nat}(hc:X.calm=true)(h:Ny X d t)
  (B:(assignEach d X.env).length=n:=by rfl)(l:(assignEach d X.env).findIdx? (·.1)=none:=by rfl):PG X (.Tuple d k pos) (Mo X.K n t):=by
 intro c s j H v u Q I r f
 obtain⟨a,q,y,A,z,f⟩:=f
 subst y
 cases r
 obtain⟨C,g,p,D⟩:=I.tuple A
 refine assign_Tuple_tuple (I.ok.hd hc) p (by simp[B,<-z,g.length]) l λw x=>?_
 have m:Inv X c j H {s with heap:=w}:=I.kept (t':=s.toks) λb o e=>x b o (dr (cR e)) e
 exact h c _ j H q _ Q m (by simpa using g) f
def NK(f e:TE)(t:Mb):TG:=λv a H Q=>f a H λo c=>e a c λi b=>t o i v b λd=>Q a d
theorem xv{o i:Expr}{d c:TE}{t:Mb}(B:PE X o d)(D:PE X i c)(E:LS X t)
  (C:∀v,assign (.Subscript o i pos) X.env v=(do
   let ov<-holding [v] (eval o X.env)
   let iv<-holding [v,ov] (eval i X.env)
   standAt pos
   holding [v,ov,iv] (setItem ov iv v)
   release [v,ov,iv] []):=by intro _;rfl):PG X (.Subscript o i pos) (NK d c t):=by
 intro a s b H v u Q I r h
 rw[C]
 refine b0 (dI (Gh (B a s b H _ I h) λov k ⟨x,f,j,z,w⟩=>?_))
 refine b0 (dI (Gh (D a k b f _ j w) λiv p ⟨y,e,g,m,n⟩=>?_))
 refine b0 (nq (b0 (dI (Gh (E a p b e x y v ov iv u _ g z m r n) λ_ F ⟨A,l,q⟩=>?_))))
 exact wpAny_release ⟨b,A,l,q⟩
def Lz(c:TE)(g:TG):TS:=λD a H=>c a H λx b=>g x a b D.nx
theorem wr{a e:Expr}{d:TE}{g:TG}(o:PE X e d)(n:PG X a g)(p:swapsWithSole [a] e pos.line X.env=pure false:=by rfl)(hw:swappedStores [a] e X.env=pure none:=by rfl)
  (h1:(assignEach [a] X.env).map (·.2)=[assign a X.env]:=by rfl):PS X (.Assign [a] e pos) (Lz d g):=by
 intro b s c H D I h
 refine wpAny_Assign_stores (Gh (o b s c H _ I h) λv j ⟨x,k,m,l,f⟩=>?_) p hw
 rw[h1]
 exact Gh (n b j c k x v _ m l f) λ_ r q=>q
theorem sW{i:Nat}{x:Str}{e:Expr}{c:TE}{a:Pos}(p:X.N.Nodup)(n:X.N[i]?=some x)(m:Loc X.env.scope x)(q:PE X e c)(r:swapsWith e (some (.Name x a)) pos.line X.env=pure false:=by rfl)(o:X.fn x=true\/X.env.scope.names.lookup x=some .local:=by first|exact .inl rfl|exact .inr rfl|assumption):
  PS X (.Assign [.Name x a] e pos) (Lz c (IJ i)):=by
 intro b s d H D I h
 refine n8 (Gh (q b s d H _ I h) λv t ⟨y,g,l,k,f⟩=>?_) r
 exact wF l p n m k (λu j=>⟨_,g,j,f⟩) o
end
section
variable{X:Cx}{pos:Pos}
def Ly(c:TT)(e:TS):TS:=λD a H=>∃W:Nat->St->Hp->Prop,(∃m,W m a H)/\∀m a H,W m a H->
 c a H λb d=>if b=true then ∃N:St->Hp->Prop,(∀σ' H',N σ' H'->∃m',m'<m/\W m' σ' H')/\e {D with nx:=N,ct:=N,bk:=D.nx} a d else D.nx a d
theorem vt{c:Expr}{body:List Stmt}{z:TT}{B:TS}(hp:PassesOwn (model X.prog X.w) X.A X.env X.xe)(hc:PT X c z)(P:PSs X body B):PS X (.While c body [] pos) (Ly z B):=by
 intro d s J H D I h;obtain⟨W,⟨O,L⟩,o⟩:=h;refine wpAny_While (codeAny_whileLoop (λn M=>∃σ' H',Inv X d σ' H' M/\W n σ' H') ?_ O ⟨J,H,I,L⟩);rintro n F ⟨e,u,E,C⟩;refine h9 hp (Gh (hc d F e u _ E (o n e u C)) λb G ⟨t,x,j⟩=>?_)
 cases b with
 | true=>
  obtain⟨N,y,j⟩:=j;rw[if_pos rfl];refine h9 hp (Gh (P d G e t _ x j) λf Q k=>?_)
  cases f with
  | next=>
   obtain⟨a,g,p,r⟩:=k;obtain⟨m,q,l⟩:=y a g r;exact⟨m,q,a,g,p,l⟩
  | cont=>
   obtain⟨a,g,p,r⟩:=k;obtain⟨m,q,l⟩:=y a g r;exact⟨m,q,a,g,p,l⟩
  | brk=>exact k
  | ret v=>exact k
 | false=>
  rw[if_neg dj];exact gE ⟨e,t,x,j⟩
end
structure It where
 go:Nat->Hp->Prop
 yld:Nat->Hp->V->Hp->Prop
 stop:Nat->Hp->Prop
def HX(X:Cx)(a:List (cG×Obj))(H:Hp)(b:cG):Prop:=
 H b=none/\b≠X.env.locals/\b∉X.fs/\(b∈X.ex\/X.s₀.heap.objs.size<=b)/\(∀x c,X.env.cells.lookup x=some c->c≠b)/\∀p∈X.pn++a,p.1≠b
theorem Inv.fpOk{X:Cx}{d:List (cG×Obj)}{g:St}{H f:Hp}{s:cC}{b:cG}(I:Inv X d g H s)(a:s.heap.objs.size<=b)(h:f b=none):HX X d f b:=by
 refine⟨h,ix (cJ I.lt a),I.nofs a,.inr (cO I.sz a),λx c e z=>?_,λp hp z=>?_⟩
 ·obtain⟨v,q⟩:=I.cell x c e;exact absurd (cJ q.lt (by rw[z];exact a)) (dA _)
 ·exact absurd (cJ (cR (I.pin p hp).1) (by rw[z];exact a)) (dA _)
structure JN(P:cY)(w:dn)(K:b3)(tg:Expr)(J:It)(fp:List cG)(it:cG)(tn:Nat->Heap->Prop):Prop where
 mem:it∈fp
 obj:∀i h,tn i h->∀b∈fp,∃o,h.get? b=some o/\∀v,o.data≠ .cell v
 keep:∀i h h',tn i h->(∀b∈fp,∀o,h.get? b=some o->h'.get? b=some o)->tn i h'
 item:∀(X:Cx),X.prog=P->X.w=w->X.K=K->X.calm=true->∀(i:Nat) (pins:List (cG×Obj)) (s:cC) (σ:St) (H:Hp) (E:cz->cC->Prop),Inv X pins σ H s->(∀b∈fp,HX X pins H b)->tn i s.heap->J.go i H->
  wpAny (model P w) X.A (pyNext (.ref it)) (λr s1=>∃u,r=some u/\
   wpAny (model P w) X.A (letOwnedTupleGo tg (.ref it) u) (λ_ s2=>∃x H',Inv X pins σ H' s2/\RelV x u/\J.yld i H x H'/\tn (i+1) s2.heap/\∀b∈fp,H' b=none) E s1) E s
 done:∀(X:Cx),X.prog=P->X.w=w->X.K=K->X.calm=true->∀(i:Nat) (pins:List (cG×Obj)) (s:cC) (σ:St) (H:Hp) (E:cz->cC->Prop),Inv X pins σ H s->(∀b∈fp,HX X pins H b)->tn i s.heap->J.stop i H->
  wpAny (model P w) X.A (pyNext (.ref it)) (λr s1=>r=none/\Inv X pins σ H s1) E s
 self:∀(A:dD) (i:Nat) (s:cC) (Q:cz->cC->Prop) (E:cz->cC->Prop),tn i s.heap->Q (.ref it) s->wpAny (model P w) A (pyIter (.ref it)) Q E s
abbrev TI:=St->Hp->(It->Hp->Prop)->Prop
def NN(X:Cx)(a:List (cG×Obj))(e:St)(f:Expr)(R:It->Hp->Prop)(c:cz)(d:cC):Prop:=
 ∃(it:cG) (fp:List cG) (tn:Nat->Heap->Prop) (J:It) (H':Hp),c = .ref it/\Inv X a e H' d/\JN X.prog X.w X.K f J fp it tn/\tn 0 d.heap/\(∀b∈fp,HX X a H' b)/\R J H'
def PI(X:Cx)(d a:Expr)(c:TI):Prop:=
 ∀(pins:List (cG×Obj)) (s:cC) (σ:St) (H:Hp) (R:It->Hp->Prop),Inv X pins σ H s->c σ H R->
  wpAny (model X.prog X.w) X.A (eval a X.env) (λv b=>wpAny (model X.prog X.w) X.A (pyIter v) (NN X pins σ d R) X.xe b) X.xe s
theorem DG{M:Model}{A:dD}{E:cz->cC->Prop}{s:cC}{b:Expr}{it:cG}{u:cz}{o:Obj}{n:String}{vs:Array cz}{Q:Unit->cC->Prop}(c:s.heap.get? it=some o)(hc:o.cls = .type n)(e:o.data = .fields vs)
  (d:["enumerate","zip","dict_itemiterator","dict_reverseitemiterator","odict_iterator","itertools.zip_longest","itertools.pairwise"].contains n=false)(a:Q () s):wpAny M A (letOwnedTupleGo b (.ref it) u) Q E s:=by
 unfold letOwnedTupleGo
 cases b <;> first
  | exact b4 a
  | (cases u <;> first
    | exact b4 a
    | (refine b0 (wpAny_load c ?_);rw[hc,e];show wpAny M A (if(["enumerate","zip","dict_itemiterator","dict_reverseitemiterator","odict_iterator","itertools.zip_longest","itertools.pairwise"].contains n&&vs[0]?==some (rawInt _))=true then _ else _) Q E s;rw[if_neg (by intro h;rw[d,jw]at h;cases h)];exact b4 a))
def Mm(K:b3)(a:cG):It:=
 ⟨λi H=>∃xs x,SqL K H a xs/\xs[i]?=some x,λi H x b=>b=H/\∀xs,SqL K H a xs->xs[i]?=some x,λi H=>∃xs,SqL K H a xs/\xs.length<=i⟩
def Mf(K:b3)(a:cG):It:=
 ⟨λi H=>∃xs x,SqT K H a xs/\xs[i]?=some x,λi H x b=>b=H/\∀xs,SqT K H a xs->xs[i]?=some x,λi H=>∃xs,SqT K H a xs/\xs.length<=i⟩
def LA(lo:Int)(n:Nat):It:=⟨λi _=>i<n,λi H x a=>a=H/\x = .int (lo+i),λi _=>n<=i⟩
theorem BL{P:cY}{w:dn}{K:b3}{tg:Expr}(a it:cG):JN P w K tg (Mm K a) [it] it (λi h=>h.IsListIter it a i) where
 mem:=by simp
 obj:=λi h st b f=>by
  have e:b=it:=by simpa using f
  subst e
  obtain⟨o,e,c,d⟩:=st
  exact⟨o,e,λv z=>by rw[d]at z;cases z⟩
 keep:=λi h l st k=>st.at λo e=>k it (by simp) o e
 item:=by
  intro X J C D M i g s L H E I j st A
  subst J C D
  obtain⟨U,x,m,B⟩:=A
  obtain⟨N,r,p,T⟩:=I.list m
  obtain⟨u,Q,V⟩:=r.get B
  obtain⟨G,y,Y,q,F,t⟩:=j it (by simp)
  refine wpAny_pyNext_list_item st p.isList (x:=u) (by simpa using Q) λl n O=>?_
  have S:Inv X g L H {s with heap:=l}:=I.turned (t':=s.toks) (λb o f e=>(O.2 b f).trans e) G y q F t
  obtain⟨o,e,c,d⟩:=id n
  exact⟨u,rfl,DG (s:={s with heap:=l}) e c d (by decide) ⟨x,H,S,V,⟨rfl,λys Z=>by rw[I.list_inj Z m];exact B⟩,n,λb f=>(j b f).1⟩⟩
 done:=by
  intro X J C D M i g s L H E I j st A
  subst J C D
  obtain⟨U,m,B⟩:=A
  obtain⟨N,r,p,T⟩:=I.list m
  obtain⟨G,y,Y,q,F,t⟩:=j it (by simp)
  have hl:=r.length
  exact wpAny_pyNext_list_end (I.ok.hd M) st p.isList (by simp;omega) λl R=>⟨rfl,I.turned (t':=s.toks) (λb o f e=>R b o f e) G y q F t⟩
 self:=λ_ _ _ _ _ st h=>wpAny_pyIter_listiter st h
theorem AH{P:cY}{w:dn}{K:b3}{tg:Expr}(a it:cG):JN P w K tg (Mf K a) [it] it (λi h=>h.IsTupleIter it a i) where
 mem:=by simp
 obj:=λi h st b f=>by
  have e:b=it:=by simpa using f
  subst e
  obtain⟨o,e,c,d⟩:=st
  exact⟨o,e,λv z=>by rw[d]at z;cases z⟩
 keep:=λi h m st k=>st.at λo e=>k it (by simp) o e
 item:=by
  intro X L D F N i g s M H E I l st B
  subst L D F
  obtain⟨U,x,n,C⟩:=B
  obtain⟨j,t,p,T⟩:=I.tuple n
  obtain⟨u,Q,V⟩:=t.get C
  obtain⟨J,A,Y,r,G,y⟩:=l it (by simp)
  refine wpAny_pyNext_tuple_item st (show s.heap.IsTuple a j.toArray from p) (x:=u) (by simpa using Q) λm q O=>?_
  have S:Inv X g M H {s with heap:=m}:=I.turned (t':=s.toks) (λb o f e=>(O.2 b f).trans e) J A r G y
  obtain⟨o,e,c,d⟩:=id q
  exact⟨u,rfl,DG (s:={s with heap:=m}) e c d (by decide) ⟨x,H,S,V,⟨rfl,λys Z=>by rw[I.tuple_inj Z n];exact C⟩,q,λb f=>(l b f).1⟩⟩
 done:=by
  intro X L D F N i g s M H E I l st B
  subst L D F
  obtain⟨U,n,C⟩:=B
  obtain⟨j,t,p,T⟩:=I.tuple n
  obtain⟨J,A,Y,r,G,y⟩:=l it (by simp)
  have hl:=t.length
  exact wpAny_pyNext_tuple_end (I.ok.hd N) st (show s.heap.IsTuple a j.toArray from p) (by simp;omega) λm R=>⟨rfl,I.turned (t':=s.toks) (λb o f e=>R b o f e) J A r G y⟩
 self:=λ_ _ _ _ _ st h=>wpAny_pyIter_tupleiter st h
theorem A3{P:cY}{w:dn}{K:b3}{M:Expr}(it:cG)(lo:Int)(n:Nat):JN P w K M (LA lo n) [it] it (λi h=>IsRangeIter h it (lo+(i:Nat)*1) ((n:Int)-(i:Nat)) 1) where
 mem:=by simp
 obj:=λi h st b a=>by
  have e:b=it:=by simpa using a
  subst e
  exact⟨_,st,λv z=>by
   have J:mM _=Data.cell v:=z
   cases J⟩
 keep:=λi h f st k=>k it (by simp) _ st
 item:=by
  intro X A q r u i c s B H E I d st p
  subst A q r
  obtain⟨y,m,L,j,x,l⟩:=d it (by simp)
  have W:=Walks.range (prog:=X.prog) (w:=X.w) (I.ok.hd u) it lo 1 n
  refine W.item i s _ _ p st λv f tk F g C=>?_
  obtain⟨t,rfl⟩:=F
  have G:Inv X c B H {s with heap:=f,toks:=tk}:=I.turned (λb o a e=>C b o (by simpa using a) e) y m j x l
  refine⟨_,rfl,DG (s:={s with heap:=f,toks:=tk}) (n:="range_iterator") g rfl rfl (by decide) ⟨.int (lo+i),H,G,⟨t,?_⟩,⟨rfl,rfl⟩,g,λb a=>(d b a).1⟩⟩
  rw[ir]
 done:=by
  intro X A q r u i c s B H E I d st p
  subst A q r
  obtain⟨y,m,L,j,x,l⟩:=d it (by simp)
  exact wpAny_pyNext_range_end (I.ok.hd u) st (by have:n<=i:=p;omega) λf D=>⟨rfl,I.turned (t':=s.toks) (λb o a e=>D b o a e) y m j x l⟩
 self:=λ_ _ _ _ _ st h=>wpAny_pyIter_rangeiter st h
section
variable{X:Cx}{tg:Expr}
def LX(K:b3)(d:TE):TI:=λc H R=>d c H λx b=>∃a,x = .ref a/\(∃xs,SqL K b a xs)/\R (Mm K a) b
def Nj(K:b3)(d:TE):TI:=λc H R=>d c H λx b=>∃a,x = .ref a/\(∃xs,SqT K b a xs)/\R (Mf K a) b
theorem uy{l:Expr}{g:TE}(hl:PE X l g):PI X tg l (LX X.K g):=by
 intro f s n H R I h;refine Gh (hl f s n H _ I h) λv d ⟨x,j,c,k,r⟩=>?_;obtain⟨a,e,⟨z,t⟩,q⟩:=r;subst e
 cases k;obtain⟨u,w,p,y⟩:=c.list t;refine iM p.isList ?_;refine⟨d.heap.objs.size,[d.heap.objs.size],_,_,j,rfl,c.kept (t':=d.toks) λb o e=>cF _ e,BL a _,⟨_,cP _ rfl,rfl,rfl⟩,λb m=>?_,q⟩;have e:b=d.heap.objs.size:=by simpa using m
 subst e;exact c.fpOk (cI _) (c.hok.fresh (cI _))
theorem wV{l:Expr}{j:TE}(hl:PE X l j):PI X tg l (Nj X.K j):=by
 intro f s r H R I h;refine Gh (hl f s r H _ I h) λv c ⟨x,k,d,m,t⟩=>?_;obtain⟨a,e,⟨z,u⟩,q⟩:=t;subst e
 cases m;obtain⟨g,w,p,y⟩:=d.tuple u;refine nG (show c.heap.IsTuple a g.toArray from p) ?_;refine⟨c.heap.objs.size,[c.heap.objs.size],_,_,k,rfl,d.kept (t':=c.toks) λb o e=>cF _ e,AH a _,⟨_,cP _ rfl,rfl,rfl⟩,λb n=>?_,q⟩;have e:b=c.heap.objs.size:=by simpa using n
 subst e;exact d.fpOk (cI _) (d.hok.fresh (cI _))
theorem Aq{c:List (cG×Obj)}{f:St}{H:Hp}{s:cC}{R:It->Hp->Prop}{E:cz->cC->Prop}{lo a:Int}{t u v:Tok}{tk:Nat}(I:Inv X c f H s)(h1: -(2^62)<=lo)(h2:lo<2^62)(h3: -(2^62)<=a)(h4:a<2^62)
  (q:R (LA lo (a-lo).toNat) H):wpAny (model X.prog X.w) X.A (pyIter (.ref s.heap.objs.size)) (NN X c f tg R) E {s with heap:=s.heap.push {cls:= .type "range",data:= .fields #[.int lo t,.int a u,.int 1 v]},toks:=tk}:=by
 refine wpAny_pyIter_range (IsRange.new ..) (small_one h1 h2 h3 h4) ?_
 have d:Inv X c f H {s with heap:=s.heap.push {cls:= .type "range",data:= .fields #[.int lo t,.int a u,.int 1 v]},toks:=tk}:=I.kept λb o e=>cF _ e
 refine⟨(s.heap.push {cls:= .type "range",data:= .fields #[.int lo t,.int a u,.int 1 v]}).objs.size,[(s.heap.push {cls:= .type "range",data:= .fields #[.int lo t,.int a u,.int 1 v]}).objs.size],_,_,H,rfl,
  d.kept (t':=tk) λb o e=>cF _ e,A3 _ lo (a-lo).toNat,?_,λb g=>?_,q⟩
 ·have h:lo+((0:Nat):Int)*1=lo:=by simp
  have j:(((a-lo).toNat:Nat):Int)-((0:Nat):Int)=rc lo a 1:=by rw[rangeSize_one];split <;> omega
  show IsRangeIter _ _ (lo+((0:Nat):Int)*1) ((((a-lo).toNat:Nat):Int)-((0:Nat):Int)) 1
  rw[h,j]
  exact cP _ rfl
 ·have e:b=(s.heap.push {cls:= .type "range",data:= .fields #[.int lo t,.int a u,.int 1 v]}).objs.size:=by simpa using g
  subst e
  exact d.fpOk (cI _) (d.hok.fresh (cI _))
def Nx(c:TA):TI:=λa H R=>c a H λvs b=>∃j:Int,vs=[.int j]/\ -(2^62)<=j/\j<2^62/\R (LA 0 j.toNat) b
def MS(c:TA):TI:=λa H R=>c a H λvs b=>∃i j:Int,vs=[.int i,.int j]/\(-(2^62)<=i/\i<2^62/\ -(2^62)<=j/\j<2^62)/\R (LA i (j-i).toNat) b
theorem tS{a:Expr}{d:TA}{p pos:Pos}(n:Gl X "range")(o:X.mg "range"=none)(u:PA X [a] d)(v:dq [a] X.env=[(false,eval a X.env)]:=by rfl):PI X tg (.Call (.Name "range" p) [a] [] pos) (Nx d):=by
 intro b s l H R I h;refine sE (uU I n o boot_range (d9 (Gh (u pos b s l H _ I h) λw y ⟨vs,x,f,m,c⟩=>?_) v rfl));obtain⟨j,e,c,k,q⟩:=c;subst e
 cases m with
 | cons r g=>
  cases g;obtain⟨t,rfl⟩:=r;exact call_range_1 (Aq f (by omega) (by omega) c k (by simpa using q))
theorem Ci{a b:Expr}{k:TA}{p pos:Pos}(x:Gl X "range")(y:X.mg "range"=none)(z:PA X [a,b] k)(A:dq [a,b] X.env=[(false,eval a X.env),(false,eval b X.env)]:=by rfl)(c:dq [b] X.env=[(false,eval b X.env)]:=by rfl):
  PI X tg (.Call (.Name "range" p) [a,b] [] pos) (MS k):=by
 intro d s u H R I h
 refine sE (uU I x y boot_range (d9 (Gh (z pos d s u H _ I h) λB D ⟨vs,C,n,w,g⟩=>?_) (by rw[A,c]) (by rw[c];rfl)))
 obtain⟨i,j,e,⟨g,o,v,l⟩,q⟩:=g
 subst e
 cases w with
 | cons r f=>
  cases f with
  | cons m f=>
   cases f
   obtain⟨t,rfl⟩:=r
   obtain⟨E,rfl⟩:=m
   exact call_range_2 (Aq n g o v l q)
def N7(e:TI)(g:TG)(f:TS):TS:=λD a H=>e a H λJ d=>∃W:Nat->Nat->St->Hp->Prop,(∃m,W 0 m a d)/\∀i m a H,W i m a H->
 (J.stop i H/\D.nx a H)\/(J.go i H/\∃N:St->Hp->Prop,(∀σ' H',N σ' H'->∃m',m'<m/\W (i+1) m' σ' H')/\∀x H',J.yld i H x H'->g x a H' λb c=>f {D with nx:=N,ct:=N,bk:=D.nx} b c)
def IF(fp:List cG)(h:Heap):List (cG×Obj):=fp.filterMap λb=>(h.get? b).map λo=>(b,o)
theorem vk{fp:List cG}{h:Heap}{b:cG}{o:Obj}(a:b∈fp)(e:h.get? b=some o):(b,o)∈IF fp h:=gX.mpr ⟨b,a,by rw[e];rfl⟩
theorem B7{fp:List cG}{h:Heap}{p:cG×Obj}(hp:p∈IF fp h):p.1∈fp/\h.get? p.1=some p.2:=by
 obtain⟨b,a,e⟩:=gX.mp hp
 cases q:h.get? b with
 | none=>rw[q]at e;cases e
 | some o=>
  rw[q]at e;have c:(b,o)=p:=Option.some.inj e;subst c;exact⟨a,q⟩
theorem Inv.pinned{a:List (cG×Obj)}{g:St}{H:Hp}{s:cC}{fp:List cG}(I:Inv X a g H s)(m:∀b∈fp,HX X a H b)(l:∀b∈fp,∃o,s.heap.get? b=some o/\∀v,o.data≠ .cell v):Inv X (a++IF fp s.heap) g H s:=
 I.pins_of λp hp=>(dE.mp hp).elim (λz=>I.pin p (dW _ z)) λz=>by
  obtain⟨c,e⟩:=B7 z
  obtain⟨j,k,h,_⟩:=m p.1 c
  obtain⟨o,f,d⟩:=l p.1 c
  rw[e]at f;cases f
  exact⟨e,j,k,h,d⟩
theorem Inv.unpinned{a pl:List (cG×Obj)}{b:St}{H:Hp}{s:cC}(I:Inv X (a++pl) b H s):Inv X a b H s:=I.pins_of λp hp=>I.pin p (dW _ (ia _ hp))
theorem uH{y:Expr}{body:List Stmt}{wi:TI}{g:TG}{tb:TS}{pos:Pos}(hp:PassesOwn (model X.prog X.w) X.A X.env X.xe)(hc:X.calm=true)(hi:PI X tg y wi)(hg:PG X tg g)(j:PSs X body tb)
  (hs:∀x,foldedSetIterable y X.env x=pure x:=by intro _;rfl):PS X (.For tg y body [] pos) (N7 wi g tb):=by
 intro c s Z H D I h
 refine wpAny_For (Gh (hi c s Z H _ I h) λv s1 h1=>Gh h1 λab s2 h2=>?_) hs
 obtain⟨it,E,tn,J,H2,e,I2,T,R,U,W,⟨m0,w0⟩,O⟩:=h2
 subst e
 have t:∀{H':Hp},(∀b∈E,H' b=none)->∀b∈E,HX X c H' b:=λhn b j=>⟨hn b j,(U b j).2⟩
 refine codeAny_forLoop_any (λn s'=>∃i σ' H',Inv X c σ' H' s'/\tn i s'.heap/\(∀b∈E,H' b=none)/\W i n σ' H') ?_ m0 ⟨0,Z,H2,I2,R,λb j=>(U b j).1,w0⟩
 rintro n s3 ⟨i,q,F,I3,G,L,w3⟩
 rcases O i n q F w3 with⟨stop,qn⟩|⟨go,N,hN,M⟩
 ·refine h9 hp (Gh (T.done X rfl rfl rfl hc i c s3 q F X.xe I3 (t L) G stop) λr s4 ⟨Q,I4⟩=>?_)
  subst Q
  exact gE ⟨q,F,I4,qn⟩
 ·refine h9 hp (Gh (T.item X rfl rfl rfl hc i c s3 q F X.xe I3 (t L) G go) λr s4 ⟨u,Q,h4⟩=>?_)
  subst Q
  refine h9 hp (Gh h4 λ_ S ⟨x,H5,I5,r5,y5,B,V⟩=>?_)
  have aa:=I5.pinned (t V) (T.obj _ _ B)
  refine h9 hp (Gh (hg _ S q H5 x u _ aa r5 (M x H5 y5)) λ_ s6 ⟨Y,H6,I6,q6⟩=>?_)
  refine h9 hp (Gh (j _ s6 Y H6 _ I6 q6) λf P p=>?_)
  have z:∀{a:St} {l:Hp},Inv X (c++IF E S.heap) a l P->N a l->∃m,m<n/\∃i σ' H',Inv X c σ' H' P/\tn i P.heap/\(∀b∈E,H' b=none)/\W i m σ' H':=λ {a l} k C=>by
   obtain⟨m',hm,w7⟩:=hN a l C
   refine⟨m',hm,i+1,a,l,k.unpinned,T.keep _ _ _ B λb j o e=>(k.pin (b,o) (dW _ (dW _ (vk j e)))).1,λb j=>?_,w7⟩
   obtain⟨o,e,d⟩:=T.obj _ _ B b j
   exact(k.pin (b,o) (dW _ (dW _ (vk j e)))).2.1
  cases f with
  | next=>obtain⟨a,l,k,C⟩:=p;exact z k C
  | cont=>obtain⟨a,l,k,C⟩:=p;exact z k C
  | brk=>obtain⟨a,l,k,p⟩:=p;exact⟨a,l,k.unpinned,p⟩
  | ret v=>obtain⟨x7,a,l,k,r7,p⟩:=p;exact⟨x7,a,l,k.unpinned,r7,p⟩
end
theorem wH{K:b3}{a:cG}{xs:List V}{g:TG}{f:TS}{D:H0}{b:St}{H:Hp}(c:Nat->St->Hp->Prop)(h0:c 0 b H)(hl:∀i b H,i<=xs.length->c i b H->SqL K H a xs)
  (l:∀i x b H,xs[i]?=some x->c i b H->g x b H λσ2 H2=>f {D with nx:=c (i+1),ct:=c (i+1),bk:=D.nx} σ2 H2)(k:∀b H,c xs.length b H->D.nx b H):
  ∃W:Nat->Nat->St->Hp->Prop,(∃m,W 0 m b H)/\∀i m b H,W i m b H->
   ((Mm K a).stop i H/\D.nx b H)\/((Mm K a).go i H/\∃N:St->Hp->Prop,(∀σ' H',N σ' H'->∃m',m'<m/\W (i+1) m' σ' H')/\∀x H',(Mm K a).yld i H x H'->g x b H' λσ2 H2=>f {D with nx:=N,ct:=N,bk:=D.nx} σ2 H2):=by
 refine⟨λi m b H=>m=xs.length-i/\i<=xs.length/\c i b H,⟨xs.length,by simp,dz _,h0⟩,?_⟩
 rintro i m b H ⟨rfl,h,p⟩
 have q:=hl i b H h p
 by_cases d:i<xs.length
 ·refine .inr ⟨⟨xs,xs[i],q,by simp[d]⟩,c (i+1),λσ' H' j=>⟨xs.length-(i+1),by omega,rfl,d,j⟩,λx H' y=>?_⟩
  obtain⟨e,y⟩:=y
  subst e
  exact l i x b _ (y xs q) p
 ·have e:i=xs.length:=by omega
  subst e
  exact .inl ⟨⟨xs,q,cI _⟩,k b H p⟩
theorem EV{K:b3}{a:cG}{xs:List V}{g:TG}{f:TS}{D:H0}{b:St}{H:Hp}(c:Nat->St->Hp->Prop)(h0:c 0 b H)(hl:∀i b H,i<=xs.length->c i b H->SqT K H a xs)
  (l:∀i x b H,xs[i]?=some x->c i b H->g x b H λσ2 H2=>f {D with nx:=c (i+1),ct:=c (i+1),bk:=D.nx} σ2 H2)(k:∀b H,c xs.length b H->D.nx b H):
  ∃W:Nat->Nat->St->Hp->Prop,(∃m,W 0 m b H)/\∀i m b H,W i m b H->
   ((Mf K a).stop i H/\D.nx b H)\/((Mf K a).go i H/\∃N:St->Hp->Prop,(∀σ' H',N σ' H'->∃m',m'<m/\W (i+1) m' σ' H')/\∀x H',(Mf K a).yld i H x H'->g x b H' λσ2 H2=>f {D with nx:=N,ct:=N,bk:=D.nx} σ2 H2):=by
 refine⟨λi m b H=>m=xs.length-i/\i<=xs.length/\c i b H,⟨xs.length,by simp,dz _,h0⟩,?_⟩
 rintro i m b H ⟨rfl,h,p⟩
 have q:=hl i b H h p
 by_cases d:i<xs.length
 ·refine .inr ⟨⟨xs,xs[i],q,by simp[d]⟩,c (i+1),λσ' H' j=>⟨xs.length-(i+1),by omega,rfl,d,j⟩,λx H' y=>?_⟩
  obtain⟨e,y⟩:=y
  subst e
  exact l i x b _ (y xs q) p
 ·have e:i=xs.length:=by omega
  subst e
  exact .inl ⟨⟨xs,q,cI _⟩,k b H p⟩
theorem ua{lo:Int}{n:Nat}{g:TG}{d:TS}{D:H0}{a:St}{H:Hp}(b:Nat->St->Hp->Prop)(h0:b 0 a H)
  (j:∀i a H,i<n->b i a H->g (.int (lo+i)) a H λσ2 H2=>d {D with nx:=b (i+1),ct:=b (i+1),bk:=D.nx} σ2 H2)(h:∀a H,b n a H->D.nx a H):
  ∃W:Nat->Nat->St->Hp->Prop,(∃m,W 0 m a H)/\∀i m a H,W i m a H->
   ((LA lo n).stop i H/\D.nx a H)\/((LA lo n).go i H/\∃N:St->Hp->Prop,(∀σ' H',N σ' H'->∃m',m'<m/\W (i+1) m' σ' H')/\∀x H',(LA lo n).yld i H x H'->g x a H' λσ2 H2=>d {D with nx:=N,ct:=N,bk:=D.nx} σ2 H2):=by
 refine⟨λi m a H=>m=n-i/\i<=n/\b i a H,⟨n,by simp,dz _,h0⟩,?_⟩
 rintro i m a H ⟨rfl,k,p⟩
 by_cases c:i<n
 ·refine .inr ⟨c,b (i+1),λσ' H' f=>⟨n-(i+1),by omega,rfl,c,f⟩,λx H' y=>?_⟩
  obtain⟨e,y⟩:=y
  subst e y
  exact j i a _ c p
 ·have e:i=n:=by omega
  subst e
  exact .inl ⟨cI _,h a H p⟩
abbrev R2:=V->V->Hp->VK->Prop
def Hb(X:Cx)(f:cz->cz->Sem cz)(r:R2):Prop:=
 ∀(pins:List (cG×Obj)) (s:cC) (σ:St) (H:Hp) (x y:V) (v u:cz) (Q:VK),Inv X pins σ H s->RelV x v->RelV y u->r x y H Q->
  wpAny (model X.prog X.w) X.A (f v u) (EP X pins σ Q) X.xe s
def N3(X:Cx)(f:cz->Sem cz)(r:V->Hp->VK->Prop):Prop:=
 ∀(pins:List (cG×Obj)) (s:cC) (σ:St) (H:Hp) (x:V) (v:cz) (Q:VK),Inv X pins σ H s->RelV x v->r x H Q->
  wpAny (model X.prog X.w) X.A (f v) (EP X pins σ Q) X.xe s
def GH(X:Cx)(f:cz)(r:List V->Hp->VK->Prop):Prop:=
 ∀(pins:List (cG×Obj)) (s:cC) (σ:St) (H:Hp) (xs:List V) (us:List cz) (Q:VK),Inv X pins σ H s->Vals xs us->r xs H Q->
  wpAny (model X.prog X.w) X.A (call f us) (EP X pins σ Q) X.xe s
def N4(X:Cx)(r:V->Hp->(Bool->Hp->Prop)->Prop):Prop:=
 ∀(pins:List (cG×Obj)) (s:cC) (σ:St) (H:Hp) (x:V) (v:cz) (Q:Bool->Hp->Prop),Inv X pins σ H s->RelV x v->r x H Q->
  wpAny (model X.prog X.w) X.A (truthy v) (TP X pins σ Q) X.xe s
def MH(r:R2)(e d:TE):TE:=λa H Q=>e a H λx c=>d a c λy b=>r x y b Q
def Od(r:V->Hp->VK->Prop)(c:TE):TE:=λa H Q=>c a H λx b=>r x b Q
def rI(C:Int->Int->Prop)(g:Int->Int->V):R2:=λx y H Q=>∃i j,x = .int i/\y = .int j/\C i j/\Q (g i j) H
def Mh(g:Int->Int->V):R2:=λx y H Q=>∃i j,x = .int i/\y = .int j/\Q (g i j) H
def rU(g:Int->V):V->Hp->VK->Prop:=λx H Q=>∃i,x = .int i/\Q (g i) H
section
variable{X:Cx}{a b c:Expr}{ta tb tc:TE}{pos:Pos}
theorem MA(p:PE X a ta)(o:PE X b tb){c:List (cG×Obj)}{s:cC}{d:St}{H:Hp}{R:V->V->Hp->Prop}(I:Inv X c d H s)
  (h:ta d H λx H1=>tb d H1 λy H2=>R x y H2){Q:cz->cC->Prop}{f:cz->cz->Sem cz}
  (q:∀v u s2 x y H2,Inv X c d H2 s2->RelV x v->RelV y u->R x y H2->wpAny (model X.prog X.w) X.A (f v u) Q X.xe s2):
  wpAny (model X.prog X.w) X.A (eval a X.env) (λv s₁=>wpAny (model X.prog X.w) X.A (eval b X.env) (λu s₂=>wpAny (model X.prog X.w) X.A (f v u) Q X.xe s₂) X.xe s₁) X.xe s:=by
 refine Gh (p c s d H _ I h) λv g ⟨x,H1,n,l,e⟩=>?_
 refine Gh (o c g d H1 _ n e) λu s2 ⟨y,H2,j,k,m⟩=>?_
 exact q v u s2 x y H2 j l k m
theorem sZ{op:Operator}{r:R2}(n:Hb X (binaryOp op) r)(l:PE X a ta)(m:PE X b tb):PE X (.BinOp a op b pos) (MH r ta tb):=by
 intro c s d H Q I h;exact wpAny_BinOp (MA l m I h λv u k x y e j g f q=>n c k d e x y v u Q j g f q)
theorem C1{op:UnaryOp}{r:V->Hp->VK->Prop}(l:N3 X (unaryOp op) r)(k:PE X a ta):PE X (.UnaryOp op a pos) (Od r ta):=by
 intro b s c H Q I h;exact UnaryOp_ (Gh (k b s c H _ I h) λv e ⟨x,f,j,g,d⟩=>l b e c f x v Q j g d)
theorem NC{f:cz->cz->Sem cz}{C:Int->Int->Prop}{g:Int->Int->Int}
  (a:∀(i j:Int) (t u:Tok) (s:cC) (Q:cz->cC->Prop) (E:cz->cC->Prop),C i j->Q (.int (g i j) s.toks) {s with toks:=s.toks+1}->wpAny (model X.prog X.w) X.A (f (.int i t) (.int j u)) Q E s):
  Hb X f (rI C λi j=> .int (g i j)):=by
 intro c s l H x y v u Q I d b h
 obtain⟨i,j,rfl,rfl,e,q⟩:=h
 obtain⟨t,rfl⟩:=d
 obtain⟨k,rfl⟩:=b
 exact a i j t k s _ _ e ⟨.int (g i j),H,I.tok _,⟨_,rfl⟩,q⟩
theorem MQ{f:cz->cz->Sem cz}{g:Int->Int->Int}
  (a:∀(i j:Int) (t u:Tok) (s:cC) (Q:cz->cC->Prop) (E:cz->cC->Prop),Q (.int (g i j) s.toks) {s with toks:=s.toks+1}->wpAny (model X.prog X.w) X.A (f (.int i t) (.int j u)) Q E s):
  Hb X f (Mh λi j=> .int (g i j)):=by
 intro c s k H x y v u Q I d b h
 obtain⟨i,j,rfl,rfl,q⟩:=h
 obtain⟨t,rfl⟩:=d
 obtain⟨e,rfl⟩:=b
 exact a i j t e s _ _ ⟨.int (g i j),H,I.tok _,⟨_,rfl⟩,q⟩
theorem Mi{f:cz->cz->Sem cz}{g:Int->Int->Bool}
  (a:∀(i j:Int) (t u:Tok) (s:cC) (Q:cz->cC->Prop) (E:cz->cC->Prop),Q (.bool (g i j)) s->wpAny (model X.prog X.w) X.A (f (.int i t) (.int j u)) Q E s):
  Hb X f (Mh λi j=> .bl (g i j)):=by
 intro c s k H x y v u Q I d b h
 obtain⟨i,j,rfl,rfl,q⟩:=h
 obtain⟨t,rfl⟩:=d
 obtain⟨e,rfl⟩:=b
 exact a i j t e s _ _ ⟨.bl (g i j),H,I,rfl,q⟩
theorem t6:Hb X (binaryOp .Add) (Mh λi j=> .int (i+j)):=MQ λ_ _ _ _ _ _ _ q=>add_int q
theorem xK:Hb X (binaryOp .Sub) (Mh λi j=> .int (i-j)):=MQ λ_ _ _ _ _ _ _ q=>sub_int q
theorem tG:Hb X (binaryOp .Mod) (rI (λ_ j=>0<j) λi j=> .int (i%j)):=NC λi j _ _ _ _ _ a q=>by
 have h1:(0:Int)<j:=a;exact mod_int' (by omega) (by rw[Int.fmod_eq_emod_of_nonneg i (by omega)];exact q)
theorem Ov{f:cz->Sem cz}{g:Int->Int}
  (a:∀(i:Int) (t:Tok) (s:cC) (Q:cz->cC->Prop) (E:cz->cC->Prop),Q (.int (g i) s.toks) {s with toks:=s.toks+1}->wpAny (model X.prog X.w) X.A (f (.int i t)) Q E s):
  N3 X f (rU λi=> .int (g i)):=by
 intro c s d H x v Q I b h
 obtain⟨i,rfl,q⟩:=h
 obtain⟨t,rfl⟩:=b
 exact a i t s _ _ ⟨.int (g i),H,I.tok _,⟨_,rfl⟩,q⟩
theorem zk:N3 X (unaryOp .USub) (rU λi=> .int (-i)):=Ov λ_ _ _ _ _ q=>neg_int q
end
def Nt:V->V->Bool
 | .non,.non=>true | .non,.int _=>true | .int _,.non=>true | .non,.bl _=>true | .bl _,.non=>true | .non,.str _=>true | .str _,.non=>true
 | .int _,.int _=>true | .bl _,.bl _=>true | .str _,.str _=>true | .byt _,.byt _=>true
 | .int _,.str _=>true | .str _,.int _=>true | .bl _,.str _=>true | .str _,.bl _=>true
 | _,_=>false
def Ou:R2:=λx y H Q=>Nt x y=true/\Q (.bl (decide (x=y))) H
def Os:R2:=λx y H Q=>Nt x y=true/\Q (.bl (!decide (x=y))) H
theorem BP{i j:Int}:decide (V.int i=V.int j)=(i==j):=by
 rw[gF];simp
theorem D8{i j:Bool}:decide (V.bl i=V.bl j)=(i==j):=by
 rw[gF];simp
theorem Be{i j:Str}:decide (V.str i=V.str j)=(i==j):=by
 rw[gF];simp
theorem BN{i j:Array UInt8}:decide (V.byt i=V.byt j)=(i.toList==j.toList):=by
 rw[gF]
 cases i
 cases j;simp
section
variable{X:Cx}{a b c:Expr}{ta tb tc:TE}{pos:Pos}
theorem tM{a:List (cG×Obj)}{b:St}{H:Hp}{s:cC}{Q:VK}{k c:Bool}(I:Inv X a b H s)(q:Q (.bl k) H)(e:k=c):EP X a b Q (.bool c) s:=by
 subst e;exact⟨.bl k,H,I,rfl,q⟩
theorem uj:Hb X (compareOp .Eq) Ou:=by
 intro e s f H x y v u Q I d a h;obtain⟨c,q⟩:=h
 cases x with
 | non=>
  cases d
  cases y with
  | non=>cases a;exact qi (tM I q (by simp))
  | bl j=>cases a;exact qj (tM I q (by simp))
  | int j=>obtain⟨b,rfl⟩:=a;exact qz (tM I q (by simp))
  | str j=>obtain⟨b,rfl⟩:=a;exact qA (tM I q (by simp))
  | _=>exact absurd (show false=true from c) dj
 | bl i=>
  cases d
  cases y with
  | non=>cases a;exact ql (tM I q (by simp))
  | bl j=>cases a;exact eq_bool (tM I q D8)
  | str j=>obtain⟨b,rfl⟩:=a;exact qm (tM I q (by simp))
  | _=>exact absurd (show false=true from c) dj
 | int i=>
  obtain⟨t,rfl⟩:=d
  cases y with
  | non=>cases a;exact qB (tM I q (by simp))
  | int j=>obtain⟨b,rfl⟩:=a;exact eq_int (tM I q BP)
  | str j=>obtain⟨b,rfl⟩:=a;exact qC (tM I q (by simp))
  | _=>exact absurd (show false=true from c) dj
 | str i=>
  obtain⟨t,rfl⟩:=d
  cases y with
  | non=>cases a;exact qD (tM I q (by simp))
  | bl j=>cases a;exact qo (tM I q (by simp))
  | int j=>obtain⟨b,rfl⟩:=a;exact qE (tM I q (by simp))
  | str j=>obtain⟨b,rfl⟩:=a;exact eq_str (tM I q Be)
  | _=>exact absurd (show false=true from c) dj
 | byt i=>
  obtain⟨t,rfl⟩:=d
  cases y with
  | byt j=>obtain⟨b,rfl⟩:=a;exact PySem.W.eq_bytes (tM I q BN)
  | _=>exact absurd (show false=true from c) dj
 | _=>cases y <;> exact absurd (show false=true from c) dj
theorem zb:Hb X (compareOp .NotEq) Os:=by
 intro e s f H x y v u Q I d a h;obtain⟨c,q⟩:=h
 cases x with
 | non=>
  cases d
  cases y with
  | non=>cases a;exact qp (tM I q (by simp))
  | bl j=>cases a;exact qr (tM I q (by simp))
  | int j=>obtain⟨b,rfl⟩:=a;exact qF (tM I q (by simp))
  | str j=>obtain⟨b,rfl⟩:=a;exact qG (tM I q (by simp))
  | _=>exact absurd (show false=true from c) dj
 | bl i=>
  cases d
  cases y with
  | non=>cases a;exact qt (tM I q (by simp))
  | bl j=>cases a;exact ne_bool (tM I q (congrArg not D8))
  | str j=>obtain⟨b,rfl⟩:=a;exact qu (tM I q (by simp))
  | _=>exact absurd (show false=true from c) dj
 | int i=>
  obtain⟨t,rfl⟩:=d
  cases y with
  | non=>cases a;exact qH (tM I q (by simp))
  | int j=>obtain⟨b,rfl⟩:=a;exact ne_int (tM I q (congrArg not BP))
  | str j=>obtain⟨b,rfl⟩:=a;exact qI (tM I q (by simp))
  | _=>exact absurd (show false=true from c) dj
 | str i=>
  obtain⟨t,rfl⟩:=d
  cases y with
  | non=>cases a;exact qJ (tM I q (by simp))
  | bl j=>cases a;exact qw (tM I q (by simp))
  | int j=>obtain⟨b,rfl⟩:=a;exact qK (tM I q (by simp))
  | str j=>obtain⟨b,rfl⟩:=a;exact ne_str (tM I q (congrArg not Be))
  | _=>exact absurd (show false=true from c) dj
 | byt i=>
  obtain⟨t,rfl⟩:=d
  cases y with
  | byt j=>obtain⟨b,rfl⟩:=a;exact PySem.W.ne_bytes (tM I q (congrArg not BN))
  | _=>exact absurd (show false=true from c) dj
 | _=>cases y <;> exact absurd (show false=true from c) dj
theorem AY:Hb X (compareOp .Lt) (Mh λi j=> .bl (decide (i<j))):=Mi λ_ _ _ _ _ _ _ q=>lt_int q
theorem Bi:Hb X (compareOp .LtE) (Mh λi j=> .bl (decide (i<=j))):=Mi λ_ _ _ _ _ _ _ q=>le_int q
theorem Fy:Hb X (compareOp .Gt) (Mh λi j=> .bl (decide (j<i))):=Mi λ_ _ _ _ _ _ _ q=>gt_int q
theorem Bu:Hb X (compareOp .Is) (λx y H Q=>y = .non/\Q (.bl (decide (x = .non))) H):=by
 intro c s d H x y v u Q I a b h;obtain⟨rfl,q⟩:=h
 cases b;refine is_none_gen (tM I q ?_)
 cases x <;> first
  | (cases a;rfl)
  | (obtain⟨t,rfl⟩:=a;rfl)
theorem BU:Hb X (compareOp .IsNot) (λx y H Q=>y = .non/\Q (.bl (!decide (x = .non))) H):=by
 intro c s d H x y v u Q I a b h;obtain⟨rfl,q⟩:=h
 cases b;refine isnot_none_gen (tM I q ?_)
 cases x <;> first
  | (cases a;rfl)
  | (obtain⟨t,rfl⟩:=a;rfl)
theorem F7(b:Expr){op:CmpOp}(h:op≠ .In:=by decide)(h2:op≠ .NotIn:=by decide):behindInMarks op b=false:=by
 have c:(op==CmpOp.In)=false:=by cases op <;> first|rfl|exact absurd rfl h
 have a:(op==CmpOp.NotIn)=false:=by cases op <;> first|rfl|exact absurd rfl h2
 cases b <;> simp[behindInMarks,c,a]
theorem uZ{op:CmpOp}{r:R2}(o:Hb X (compareOp op) r)(l:PE X a ta)(m:PE X b tb)(n:behindInMarks op b=false):PE X (.Compare a [op] [b] pos) (MH r ta tb):=by
 intro c s d H Q I h;exact wpAny_Compare1 (MA l m I h λv u k x y e j g f q=>o c k d e x y v u Q j g f q) n
def L5(t:TE):TT:=λa H Q=>t a H λx b=>∃k,x = .bl k/\Q k b
theorem sX{op:CmpOp}{r:R2}(J:Hb X (compareOp op) r)(E:PE X a ta)(F:PE X b tb)(G:behindInMarks op b=false):PT X (.Compare a [op] [b] pos) (L5 (MH r ta tb)):=by
 intro d s f H Q I h;refine mw (Gh (E d s f H _ I h) λv o ⟨x,l,n,C,B⟩=>Gh (F d o f l _ n B) λu w ⟨y,j,m,q,t⟩=>
  Gh (J d w f j x y v u _ m C q t) λc L ⟨z,D,p,g,k,e,A⟩=>?_) G
 subst e
 cases g;exact eU ⟨D,p,A⟩
def Lc(r g:R2)(l h j:TE):TE:=λa H Q=>l a H λx d=>h a d λy c=>r x y c λz b=>∃k,z = .bl k/\
 (if k=true then j a b λe f=>g y e f Q else Q (.bl false) b)
theorem Aj{op j:CmpOp}{r q:R2}(V:Hb X (compareOp op) r)(p:Hb X (compareOp j) q)(Y:PE X a ta)(U:PE X b tb)(hc:PE X c tc)
  (W:lastMarks [op,j] [b,c]=false:=by with_unfolding_all rfl):PE X (.Compare a [op,j] [b,c] pos) (Lc r q ta tb tc):=by
 intro f s g H Q I h
 refine Compare_chain (Gh (Y f s g H _ I h) λv G ⟨x,B,E,T,S⟩=>chain_link (Gh (U f G g B _ E S) λu O ⟨y,A,C,m,N⟩=>
  Gh (V f O g A x y v u _ C T m N) λd F ⟨z,o,l,w,k,e,n⟩=>?_)) W
 subst e
 cases w
 refine eU ?_
 cases k with
 | false=>exact ite_ff ⟨.bl false,o,l,rfl,n⟩
 | true=>exact ite_tt (chain_last (Gh (hc f F g o _ l n) λJ P ⟨R,L,D,M,t⟩=>p f P g L y R u J Q D m M t))
theorem Ai{op j:CmpOp}{r q:R2}(ho:Hb X (compareOp op) r)(p:Hb X (compareOp j) q)(ha:PE X a ta)(hb:PE X b tb)(hc:PE X c tc)
  (hm:lastMarks [op,j] [b,c]=false:=by with_unfolding_all rfl):PT X (.Compare a [op,j] [b,c] pos) (L5 (Lc r q ta tb tc)):=by
 intro f s g H Q I h
 refine isTrue_chain (Gh (ha f s g H _ I h) λv J ⟨x,B,E,r1,Z⟩=>test_link (Gh (hb f J g B _ E Z) λu U ⟨y,A,C,m,T⟩=>
  Gh (ho f U g A x y v u _ C r1 m T) λd F ⟨z,o,l,w,k,e,n⟩=>?_)) hm
 subst e
 cases w
 refine eU ?_
 cases k with
 | false=>
  obtain⟨k',O,Y⟩:=n
  cases O
  exact ite_ff ⟨o,l,Y⟩
 | true=>
  refine ite_tt (test_last (Gh (hc f F g o _ l n) λM V ⟨W,N,D,R,t⟩=>Gh (p f V g N y W u M _ D m R t) λd' s5 ⟨z2,H5,P,S,k2,G,L⟩=>?_))
  subst G
  cases S
  exact eU ⟨H5,P,L⟩
def Nh(K:b3)(x:V)(H:Hp)(k:Bool):Prop:=
 match x with
 | .non=>k=false
 | .bl b=>k=b
 | .int i=>k=(i != 0)
 | .str y=>y.length<=sizeLine/\k=((y.length:Int) != 0)
 | .byt y=>y.size<=sizeLine/\k=((y.size:Int) != 0)
 | .ref p=>(∃xs,SqL K H p xs/\k = !xs.isEmpty)\/(∃xs,SqT K H p xs/\k = !xs.isEmpty)\/∃kvs,H p=some (.dK kvs)/\k = !kvs.isEmpty
 | _=>False
theorem Bb{a:Type}{kvs:List (a×V)}{vs:List (a×cz)}(r:KV kvs vs):(!vs.isEmpty) = !kvs.isEmpty:=by
 cases r <;> rfl
theorem xU{xs:List V}{its:List cz}(r:Vals xs its):(!its.toArray.isEmpty) = !xs.isEmpty:=by
 cases r <;> simp
theorem Hh:(sizeLine:Nat)<2^63:=by rw[mO];decide
theorem FR:N4 X (λx H Q=>∃k,Nh X.K x H k/\Q k H):=by
 intro u s B H x v Q I f h;obtain⟨k,e,q⟩:=h;have D:=Hh;have C:sizeLine=16777216:=mO
 cases x with
 | non=>
  cases f;have a:k=false:=e;subst a;exact truthy_none ⟨H,I,q⟩
 | bl b=>
  cases f;have a:k=b:=e;subst a;exact eU ⟨H,I,q⟩
 | int i=>
  obtain⟨t,rfl⟩:=f;have a:k=(i != 0):=e;subst a;exact PySem.P.truthy_int ⟨H,I,q⟩
 | str y=>
  obtain⟨t,rfl⟩:=f;obtain⟨A,a⟩:y.length<=sizeLine/\k=((y.length:Int) != 0):=e;subst a;exact PySem.P.truthy_str (by omega) ⟨H,I.tok _,q⟩
 | byt y=>
  obtain⟨t,rfl⟩:=f;obtain⟨A,a⟩:y.size<=sizeLine/\k=((y.size:Int) != 0):=e;subst a;exact PySem.W.truthy_bytes (by omega) ⟨H,I.tok _,q⟩
 | ref p=>
  cases f;have a:(∃d,SqL X.K H p d/\k = !d.isEmpty)\/(∃d,SqT X.K H p d/\k = !d.isEmpty)\/∃c,H p=some (.dK c)/\k = !c.isEmpty:=e;rcases a with⟨d,j,a⟩|⟨d,j,a⟩|⟨c,j,a⟩
  ·subst a;obtain⟨o,r,l,n⟩:=I.list j;have g:=r.length;exact wpAny_truthy_list l.isList (by simp only[cW];omega) ⟨H,I.tok _,by rw[xU r];exact q⟩
  ·subst a;obtain⟨o,r,l,n⟩:=I.tuple j;have g:=r.length;exact truthy_tuple l (by simp only[cW];omega) ⟨H,I.tok _,by rw[xU r];exact q⟩
  ·subst a;obtain⟨n,z,vs,r,m⟩:c.length<=sizeLine/\(p==sysModules)=false/\∃vs,KV c vs/\s.heap.DictOf (Iq X.prog X.w) p vs:=I.hok p _ j;have g:c.length=vs.length:=nl r;exact wpAny_truthy_dict z m (by omega) ⟨H,I.tok _,by rw[Bb r];exact q⟩
 | _=>exact(show False from e).elim
theorem DX(j:PE X a ta)(l:∀whole,isTrue a X.env whole=(do let v<-whole;standAt a.pos;holding [v] (truthy v))):
  PT X a (λσ H Q=>ta σ H λx H'=>∃k,Nh X.K x H' k/\Q k H'):=by
 intro b s σ H Q I h
 exact rh (Gh (j b s σ H _ I h) λv d ⟨x,e,g,f,c⟩=>FR b d σ e x v Q g f c) (l _)
theorem uc:Hb X (binaryOp .Add) (λx y H Q=>∃i j,x = .str i/\y = .str j/\i.length+j.length<=sizeLine/\Q (.str (i++j)) H):=by
 intro b s f H x y v u Q I d a h;obtain⟨i,j,rfl,rfl,c,q⟩:=h;obtain⟨t,rfl⟩:=d;obtain⟨e,rfl⟩:=a;exact add_str (λe tk=>⟨.str (i++j),H,I.tok _,⟨_,rfl⟩,q⟩) c
theorem GT{x:V}{us:List cz}(r:Vals [x] us):∃u,us=[u]/\RelV x u:=by
 cases r with
 | cons b a=>cases a;exact⟨_,rfl,b⟩
theorem JP{x y:V}{us:List cz}(r:Vals [x,y] us):∃u w',us=[u,w']/\RelV x u/\RelV y w':=by
 cases r with
 | cons d b=>
  cases b with
  | cons c a=>cases a;exact⟨_,_,rfl,d,c⟩
theorem yu:GH X (.builtin "abs") (λxs H Q=>∃i,xs=[.int i]/\Q (.int (if i<0 then -i else i)) H):=by
 intro a s c H xs b Q I r h;obtain⟨i,rfl,q⟩:=h;obtain⟨u,rfl,t,rfl⟩:=GT r;exact call_abs_int λu tk=>⟨.int (if i<0 then -i else i),H,I.tok _,⟨_,rfl⟩,q⟩
theorem Bv:GH X (.type "int") (λxs H Q=>(∃i,xs=[.int i]/\Q (.int i) H)\/∃k,xs=[.bl k]/\Q (.int (if k then 1 else 0)) H):=by
 intro a s d H xs c Q I r h;rcases h with⟨i,rfl,q⟩|⟨k,rfl,q⟩
 ·obtain⟨u,rfl,t,rfl⟩:=GT r;exact call_int_int ⟨.int i,H,I,⟨_,rfl⟩,q⟩
 ·obtain⟨u,rfl,b⟩:=GT r
  cases b;exact call_int_bool ⟨.int (if k then 1 else 0),H,I.tok _,⟨_,rfl⟩,q⟩
end
structure ObjM(h:Heap)(x dx C:cG)(mA:Str->Option cz):Prop where
 obj:h.get? x=some (gD C dx)
 ns:h.Ns1 dx mA
 ne:dx≠x
theorem CP{h:Heap}{d:cG}{f:Str->Option cz}(n:h.Ns1 d f):∃od,h.get? d=some od/\∀name,ke name od=some (f name):=by
 obtain⟨o,c,p,g,m,hk,_,j⟩:=n;refine⟨o,g,λname=>?_⟩;have e:=j name;unfold nsFind findBy at e;rw[<-Array.find?_toList]at e;unfold ke;rw[m];dsimp only;split
 ·rename_i y q
  rw[q]at e;exact congrArg some e
 ·rename_i q
  rw[q]at e;have a:c.toList.any (·.refKey)=false:=by
   rw[List.any_eq_false];intro y k;obtain⟨z,t,b⟩:=hk y (Array.mem_toList_iff.mp k);simp[sI,b]
  have l:¬c.toList.any (·.refKey)=true:=by rw[a];exact dj
  rw[if_neg l];exact congrArg some e
theorem ObjM.look{h:Heap}{x a C:cG}{b:Str->Option cz}(I:ObjM h x a C b):∃od,PySem.W.InstAt h x (gD C a) C (some od)/\∀name,ke name od=some (b name):=
 let⟨od,d,c⟩:=CP I.ns
 ⟨od,⟨I.obj,rfl,rfl,d⟩,c⟩
section
variable{prog:cY}{w:dn}{A:dD}{E:cz->cC->Prop}{s:cC}{K:b3}{x dx C f:cG}{mA:Str->Option cz}{name:Str}{v:cz}
theorem Fh{a:Bool}{Q:cz->cC->Prop}(X:K.In s.heap)(I:ObjM s.heap x dx C mA)(d:jN K C name=true)(g:kN K C=true)
  (e:fO K (.ref C) name=some none)(f:mA name=some v)(b:oS v=true)(h:Q v {s with toks:=s.toks+1}):
  wpAny (model prog w) A (getAttr (.ref x) name a) Q E s:=by
 obtain⟨j,J,c⟩:=I.look
 exact PySem.W.get_value X J (j4 d).1 (PySem.W.findObj_own g e rfl (by rw[c,f])) b h
theorem Dj{pl:Sem Bool}{Q:cz×List cz->cC->Prop}(X:K.In s.heap)(I:ObjM s.heap x dx C mA)(a:jN K C name=true)
  (e:fO K (.ref C) name=some (some (.ref f)))(d:n9 K (.ref f)=true)(g:mA name=none)(h:Q (.ref f,[.ref x]) s):
  wpAny (model prog w) A (getMethod (.ref x) name pl) Q E s:=by
 obtain⟨b,J,c⟩:=I.look
 exact PySem.W.method_fn X J (j4 a).1 (j4 a).2 e (beq_iff_eq.mp d) (by show(ke name b).map (·.isSome)=some false;rw[c,g];rfl) h
theorem Ek{ns:List Str}{Q:Unit->cC->Prop}(X:K.In s.heap)(I:ObjM s.heap x dx C mA)
  (o:fO K (.ref C) "__setattr__"=some (some (.builtin "object.__setattr__")))(hp:oa K C=true)(n:mi K C name=some none)(m:kN K C=true)
  (hw:lW mA ns)(hsz:ns.length<=sizeLine)
  (h:∀h',ObjM h' x dx C (λy=>if y=name then some v else mA y)->fS dx s.heap h'->Q () {s with heap:=h',toks:=s.toks+2}):
  wpAny (model prog w) A (setAttr (.ref x) name v) Q E s:=by
 obtain⟨u,J,t⟩:=I.look
 refine PySem.W.set_plain X J o (PySem.W.osa_open (s:={s with toks:=s.toks+1}) (r:=none) X J hp n λb=>?_)
 obtain⟨z,l,j⟩:=PySem.W.any_some m
 have k:s.heap.get? x=some ⟨.ref C,some dx,.plain,#[]⟩:=I.obj
 refine b0 (b4 (b0 (b0 (pS k (b0 (su (s:={s with toks:=s.toks+1}) (PySem.W.looks_clsIn X l) ?_))))))
 rw[j]
 refine b4 (a:=some dx) (b0 (b4 (b0 ?_)))
 refine wpAny_nsSet1 (s:={s with toks:=s.toks+1}) I.ns λh' d c=>?_
 obtain⟨B,q,p,f,e,g⟩:=d.count (lW.cons name v hw)
 refine b0 (wpAny_lookBehind f (by rw[e];exact pastItsLine_dict (cO g (by rw[dR];omega))) ?_)
 exact b4 (h _ ⟨(c.2 _ (Ne.symm I.ne)).trans I.obj,d,I.ne⟩ c)
theorem Ag{R:Result->cC->Prop}{vs:List cz}{kw:List (Str×cz)}(X:K.In s.heap)(b:pz K C=true)
  (e:fO K (.ref C) "__init__"=some (some (.ref f)))(c:pT K (.ref f)=some (.type "function"))
  (h:codeAny (model prog w) (A.under (.builtin "type.__call__" ⟨.ref C::vs,kw⟩)) (.call (.ref f) ⟨.ref (s.heap.objs.size+1)::vs,kw⟩) (PySem.W.InitBack (s.heap.objs.size+1) R)
   {s with heap:=(s.heap.push fX).push (gD C s.heap.objs.size)}):
  codeAny (model prog w) A (.call (.ref C) ⟨vs,kw⟩) R s:=by
 obtain⟨j,g,d,t,os⟩:=s
 exact PySem.W.make_core (PySem.W.makes_of X b) (iS X e) (λa=>PySem.W.bind_fn X a c) (.inl rfl) h
end
def GL(f:Str)(v:V):List (Str×V)->List (Str×V)
 | []=>[(f,v)]
 | (g,x)::r=>if g=f then(g,v)::r else(g,x)::GL f v r
theorem w6(f g:Str)(v:V):∀fs:List (Str×V),(GL f v fs).lookup g=if g=f then some v else fs.lookup g
 | []=>by
  show ib g [(f,v)]=_
  by_cases h:g=f
  ·have a:(g==f)=true:=beq_iff_eq.mpr h
   simp only[ib,a,if_pos h]
  ·have a:(g==f)=false:=beq_eq_false_iff_ne.mpr h
   simp only[ib,a,if_neg h]
 | (k,x)::r=>by
  have b:=w6 f g v r
  rw[show GL f v ((k,x)::r)=(if k=f then(k,v)::r else(k,x)::GL f v r)from rfl]
  by_cases hk:k=f
  ·rw[if_pos hk]
   by_cases h:g=k
   ·have a:(g==k)=true:=beq_iff_eq.mpr h
    simp only[ib,a,if_pos (h.trans hk)]
   ·have a:(g==k)=false:=beq_eq_false_iff_ne.mpr h
    simp only[ib,a,if_neg (λe:g=f=>h (e.trans hk.symm))]
  ·rw[if_neg hk]
   by_cases h:g=k
   ·have a:(g==k)=true:=beq_iff_eq.mpr h
    simp only[ib,a,if_neg (λe:g=f=>hk (h.symm.trans e))]
   ·have a:(g==k)=false:=beq_eq_false_iff_ne.mpr h
    simp only[ib,a]
    exact b
theorem wP(f:Str)(v:V):∀fs:List (Str×V),f∈(GL f v fs).map (·.1)/\∀g,g∈fs.map (·.1)->g∈(GL f v fs).map (·.1)
 | []=>⟨by simp[GL],λg h=>by simp at h⟩
 | (k,x)::r=>by
  obtain⟨a,b⟩:=wP f v r
  rw[show GL f v ((k,x)::r)=(if k=f then(k,v)::r else(k,x)::GL f v r)from rfl]
  by_cases hk:k=f
  ·rw[if_pos hk]
   subst hk
   exact⟨by simp,λg h=>by simpa using h⟩
  ·rw[if_neg hk]
   refine⟨?_,λg h=>?_⟩
   ·rw[d2]
    exact cN _ a
   ·rw[d2]at h ⊢
    rcases da.mp h with e|e
    ·exact da.mpr (.inl e)
    ·exact cN _ (b g e)
theorem wO(f:Str)(v:V):∀fs:List (Str×V),(GL f v fs).length<=fs.length+1
 | []=>by simp[GL]
 | (k,x)::r=>by
  have a:=wO f v r
  rw[show GL f v ((k,x)::r)=(if k=f then(k,v)::r else(k,x)::GL f v r)from rfl]
  by_cases hk:k=f
  ·rw[if_pos hk,dR,dR];omega
  ·rw[if_neg hk,dR,dR];omega
theorem RelO.some_of{v:V}{o:Option cz}(r:RelO (some v) o):∃u,o=some u/\RelV v u:=by
 cases o with
 | none=>exact(show False from r).elim
 | some u=>exact⟨u,rfl,r⟩
theorem RelO.none_of{o:Option cz}(r:RelO none o):o=none:=by
 cases o with
 | none=>rfl
 | some u=>exact(show False from r).elim
theorem B0{v:V}{u:cz}(r:RelV v u):oS u=true:=by
 cases v with
 | non=>cases(show u=cz.none from r);rfl
 | bl b=>cases(show u=eH b from r);rfl
 | int i=>obtain⟨t,e⟩:=(show ∃t,u=d4 i t from r);cases e;rfl
 | str x=>obtain⟨t,e⟩:=(show ∃t,u=iJ x t from r);cases e;rfl
 | byt b=>obtain⟨t,e⟩:=(show ∃t,u=rH b t from r);cases e;rfl
 | flt b=>obtain⟨t,e⟩:=(show ∃t,u=rJ b t from r);cases e;rfl
 | ref a=>cases(show u=cQ a from r);rfl
 | ty n=>cases(show u=dO n from r);rfl
section
variable{P:cY}{w:dn}{H H':Hp}{h h':Heap}{a C dx:cG}{fs fs':List (Str×V)}
theorem zq(b:HOk P w H h)(e:H a=some (.ins C dx fs)):∃mA,ObjM h a dx C mA/\(∀f,RelO (fs.lookup f) (mA f))/\lW mA (fs.map (·.1))/\fs.length<=1000/\H dx=some (.own a):=by
 obtain⟨d,z,g,c,mA,n,r,q⟩:=(show ObjOk P w H h a (.ins C dx fs)from b a _ e);exact⟨mA,⟨c,n,g⟩,r,q,z,d⟩
end
structure Cls(K:b3)(C:cG):Prop where
 pg:jN K C gc=true
 hd:kN K C=true
 po:oa K C=true
 sa:fO K (.ref C) "__setattr__"=some (some (.builtin "object.__setattr__"))
theorem Cls.get{K:b3}{C:cG}(c:Cls K C)(f:Str):jN K C f=true:=c.pg
def NoAttr(K:b3)(C:cG)(f:Str):Prop:=fO K (.ref C) f=some none
theorem NoAttr.taker{K:b3}{C:cG}{f:Str}(n:NoAttr K C f):mi K C f=some none:=by
 unfold mi;rw[show fO K (.ref C) f=some none from n];rfl
structure KU(K:b3)(C:cG)(m:Str)(f:cG):Prop where
 at_:fO K (.ref C) m=some (some (.ref f))
 fn:n9 K (.ref f)=true
 kp:iT K (.ref f)=true
section
variable{X:Cx}{pins:List (cG×Obj)}{σ:St}{H:Hp}{s:cC}{a C dx:cG}{fs:List (Str×V)}{f:Str}{v:V}{A:dD}{E:cz->cC->Prop}
theorem A7{b:Bool}{Q:cz->cC->Prop}(I:Inv X pins σ H s)(e:H a=some (.ins C dx fs))(c:Cls X.K C)(n:NoAttr X.K C f)(l:fs.lookup f=some v)
  (h:∀u s',Inv X pins σ H s'->RelV v u->Q u s'):wpAny (model X.prog X.w) A (getAttr (.ref a) f b) Q E s:=by
 obtain⟨g,O,r,_,_,_⟩:=zq I.hok e
 obtain⟨u,j,d⟩:=RelO.some_of (v:=v) (o:=g f) (by rw[<-l];exact r f)
 exact Fh I.kIn O (c.get f) c.hd n j (B0 d) (h u _ (I.tok _) d)
theorem vo{m:Str}{g:cG}{pl:Sem Bool}{Q:cz×List cz->cC->Prop}(I:Inv X pins σ H s)(e:H a=some (.ins C dx fs))(c:Cls X.K C)(k:KU X.K C m g)(l:fs.lookup m=none)
  (h:Q (.ref g,[.ref a]) s):wpAny (model X.prog X.w) A (getMethod (.ref a) m pl) Q E s:=by
 obtain⟨b,O,r,_,_,_⟩:=zq I.hok e
 have d:b m=none:=RelO.none_of (by rw[<-l];exact r m)
 exact Dj I.kIn O (c.get m) k.at_ k.fn d h
theorem AA{y:V}{u:cz}{Q:Unit->cC->Prop}(I:Inv X pins σ H s)(e:H a=some (.ins C dx fs))(c:Cls X.K C)(n:NoAttr X.K C f)(hl:fs.length<1000)(G:RelV y u)
  (h:∀s',Inv X pins σ (upd H a (.ins C dx (GL f y fs))) s'->Q () s'):wpAny (model X.prog X.w) A (setAttr (.ref a) f u) Q E s:=by
 obtain⟨j,O,r,k,_,l⟩:=zq I.hok e
 have p:(fs.map (·.1)).length<=sizeLine:=by rw[cx,mO];omega
 refine Ek I.kIn O c.sa c.po n.taker c.hd k p λD d m=>h _ ?_
 have B:∃o,D.get? dx=some o:=let⟨o,_,_,v,_⟩:=d.ns;⟨o,v⟩
 refine I.write (x:=a) (e:=dx) (by rw[e];exact True.intro) (.inr l) (λb q t z=>(m.2 b t).trans z) B ?_
 refine⟨by rw[td O.ne];exact l,?_,O.ne,d.obj,_,d.ns,λg=>?_,λg F=>?_⟩
 ·have:=wO f y fs;omega
 ·show RelO ((GL f y fs).lookup g) (if g=f then some u else j g)
  rw[w6]
  by_cases q:g=f
  ·rw[if_pos q,if_pos q];exact G
  ·rw[if_neg q,if_neg q];exact r g
 ·by_cases q:g=f
  ·rw[q];exact(wP f y fs).1
  ·refine(wP f y fs).2 g (k g λz=>F ?_)
   show(if g=f then some u else j g)=none
   rw[if_neg q];exact z
theorem Inv.made(I:Inv X pins σ H s):Inv X pins σ (upd (upd H s.heap.objs.size (.own (s.heap.objs.size+1))) (s.heap.objs.size+1) (.ins C s.heap.objs.size []))
  {s with heap:=(s.heap.push fX).push (gD C s.heap.objs.size)}:=by
 have c:(s.heap.push fX).get? s.heap.objs.size=some fX:=cP s.heap rfl
 have j:((s.heap.push fX).push (gD C s.heap.objs.size)).get? (s.heap.objs.size+1)=some (gD C s.heap.objs.size):=by
  have:=cP (s.heap.push fX) (o:=gD C s.heap.objs.size) rfl
  rwa[gx]at this
 have h:(s.heap.push fX).Ns s.heap.objs.size (λ_=>none):=⟨fX,#[],_,c,rfl,(λe k=>absurd k (by simp)),λ_=>rfl⟩
 have g:=I.laid (a:=s.heap.objs.size) (o:= .own (s.heap.objs.size+1)) (h':=s.heap.push fX) (t':=s.toks) (λb u q=>cF _ q) (cI _) ⟨_,c⟩
 refine g.laid (a:=s.heap.objs.size+1) (o:= .ins C s.heap.objs.size []) (t':=s.toks) (λb u q=>cF _ q) (gi (gx _ _)) ?_
 have d:s.heap.objs.size≠s.heap.objs.size+1:=dr (du _)
 refine⟨by rw[td d,sQ],dz _,d,j,λ_=>none,(Heap.Ns1.of_empty h).at λo q=>cF _ q,λ_=>True.intro,λy f=>absurd rfl f⟩
theorem EJ{prog:cY}{w:dn}{env:Env}{e:Expr}{f:Str}{pos:Pos}{s:cC}{Q:cz->cC->Prop}(a:attributeBase e f env (eval e env)=eval e env)
  (h:wpAny (model prog w) A (eval e env) (λo s₁=>wpAny (model prog w) A (getAttr o f true) Q E s₁) E s):wpAny (model prog w) A (eval (.Attribute e f pos) env) Q E s:=
 Attribute_any_ h (by rw[arm_eval_Attribute,a])
end
def M5(K:b3)(d:TE)(f:Str):TE:=λc H Q=>d c H λx b=>∃a C dx fs v,x = .ref a/\b a=some (.ins C dx fs)/\Cls K C/\NoAttr K C f/\fs.lookup f=some v/\Q v b
def NI(K:b3)(g e:TE)(f:Str):TS:=λD b H=>e b H λy d=>g b d λx c=>∃a C dx fs,x = .ref a/\c a=some (.ins C dx fs)/\Cls K C/\NoAttr K C f/\fs.length<1000/\
 D.nx b (upd c a (.ins C dx (GL f y fs)))
section
variable{X:Cx}{o e value:Expr}{f:Str}{pos pos' tpos:Pos}{ta tv:TE}
theorem vV(w:PE X e ta)(t:attributeBase e f X.env (eval e X.env)=eval e X.env):PE X (.Attribute e f pos) (M5 X.K ta f):=by
 intro b s p H Q I h;refine EJ t (Gh (w b s p H _ I h) λu z ⟨x,d,j,k,a,C,y,D,v,r,o,c,n,l,q⟩=>?_);subst r;obtain rfl:u=cQ a:=k;exact A7 j o c n l λB A g m=>⟨v,d,g,m,q⟩
theorem B1(A:PE X o ta)(E:PE X value tv)(B:swapsWith value (some (.Attribute o f pos')) pos.line X.env=pure false):PS X (.Assign [.Attribute o f pos'] value pos) (NI X.K ta tv f):=by
 intro b s d H D I h;refine plainObj_wpAny_Assign_Attribute (Gh (E b s d H _ I h) λu p ⟨y,g,m,e,q⟩=>Gh (A b p d g _ m q) λj L ⟨x,G,k,t,a,C,F,M,z,v,c,n,l,w⟩=>?_) B;subst z;obtain rfl:j=cQ a:=t;exact AA k v c n l e λJ r=>⟨d,_,r,w⟩
theorem methcall_of{pl:Sem Bool}{m:Str}{b:Pos}{args:List Expr}{d:List (cG×Obj)}{s:cC}{j:St}{H:Hp}{Q:cz->cC->Prop}{o:TE}(y:PE X e o)(I:Inv X d j H s)
  (h:o j H λx H1=>∃a C dx fs g,x = .ref a/\H1 a=some (.ins C dx fs)/\Cls X.K C/\KU X.K C m g/\fs.lookup m=none/\
   ∀s1,Inv X d j H1 s1->wpAny (model X.prog X.w) X.A (callWith pos (.ref g) [.ref a] (backTo pos (dq args X.env)) (backToKw pos (keywordEach [] X.env))) Q X.xe s1)
  (v:eval (.Call (.Attribute e m b) args [] pos) X.env=(do
   let ov<-eval e X.env
   standAt b.atName
   let(f,first)<-holding [ov] (getMethod ov m pl)
   callWith pos f first (backTo pos (dq args X.env)) (backToKw pos (keywordEach [] X.env)))):
  wpAny (model X.prog X.w) X.A (eval (.Call (.Attribute e m b) args [] pos) X.env) Q X.xe s:=by
 refine iL (pl:=pl) (Gh (y d s j H _ I h) λu s1 ⟨x,H1,n,p,a,C,dx,fs,g,t,r,c,k,l,q⟩=>?_) v
 subst t
 obtain rfl:u=cQ a:=p
 exact vo n r c k l (q s1 n)
end
structure Room(k:Nat)(A:dD):Prop where
 hd:A.handled=none
 dp:A.depth+3*k+5<recursionLimit
 un:A.units+16*k+200<cLine
theorem Room.mono{j k:Nat}{A:dD}(r:Room k A)(h:j<=k):Room j A:=⟨r.hd,by have:=r.dp;omega,by have:=r.un;omega⟩
theorem Room.deeper{k:Nat}{A:dD}(r:Room (k+1) A)(env:Env):Room k (A.deeper env):=
 ⟨r.hd,by have:=r.dp;show A.depth+1+3*k+5<_;omega,by have:=r.un;show A.units+3+16*k+200<_;omega⟩
theorem AM{A:dD}{C:cG}{us:List cz}{kw:List (Str×cz)}:(A.under (.builtin "type.__call__" ⟨.ref C::us,kw⟩)).depth=A.depth+1:=by
 first|rfl|simp[og,Code.weight,Code.isCreation,Code.isGuard,Code.isCaller,Code.frames,Code.isFrame,guardIds]
theorem Ay{A:dD}{C:cG}{us:List cz}{kw:List (Str×cz)}:(A.under (.builtin "type.__call__" ⟨.ref C::us,kw⟩)).units=A.units+1:=by
 first|rfl|simp[og,Code.cUnits,Code.frames,Code.isFrame]
theorem Room.make{k:Nat}{A:dD}(r:Room (k+1) A)(C:cG)(us:List cz)(kw:List (Str×cz)):Room k (A.under (.builtin "type.__call__" ⟨.ref C::us,kw⟩)):=
 ⟨r.hd,by have:=r.dp;rw[AM];omega,by have:=r.un;rw[Ay];omega⟩
theorem Room.depth{k:Nat}{A:dD}(r:Room k A):A.depth<recursionLimit:=by have:=r.dp;omega
theorem Room.units{k:Nat}{A:dD}(r:Room k A):A.units+64<cLine:=by have:=r.un;omega
def MC:TA:=λ_ H Q=>Q [] H
def Nv(e:TE)(f:TA):TA:=λa H Q=>e a H λx c=>f a c λd b=>Q (x::d) b
section
variable{X:Cx}{e:Expr}{es:List Expr}{te:TE}{t:TA}{pos:Pos}
theorem sS:PA X [] MC:=λ_ _ _ _ H Q I h=>kO ⟨[],H,I,.nil,h⟩
theorem me(q:PE X e te)(r:PA X es t)(v:dq (e::es) X.env=(false,eval e X.env)::dq es X.env:=by rfl):PA X (e::es) (Nv te t):=by
 intro b a s c H Q I h;rw[v];show wpAny _ _ (spliced ((false,eval e X.env)::backTo b (dq es X.env))) _ _ s;refine fP (Gh (q a s c H _ I h) λu k ⟨x,f,j,p,o⟩=>?_);exact Gh (r b a k c f _ j o) λw y ⟨l,d,g,m,n⟩=>⟨x::l,d,g,.cons p m,n⟩
def NP(t:TA):TE:=λc H Q=>t c H λb a=>b.length<=sizeLine/\∀p,a p=none->Q (.ref p) (upd a p (.tup b))
def Nz(t:TA):TE:=λc H Q=>t c H λb a=>b.length<=sizeLine/\∀p,a p=none->Q (.ref p) (upd a p (.lst b))
theorem tQ{x1}(h:PA X es t):PE X (.Tuple es x1 pos) (NP t):=by
 intro c s l H Q I m;refine wpAny_Tuple_spliced (Gh (h pos c s l H _ I m) λg a ⟨j,d,f,r,z,q⟩=>⟨by rw[<-r.length];exact z,?_⟩);have k:d a.heap.objs.size=none:=f.hok.fresh (cI _);refine⟨.ref a.heap.objs.size,upd d a.heap.objs.size (.tup j),f.laid (t':=a.toks) (λb u e=>cF _ e) (cI _) ?_,rfl,q _ k⟩;exact⟨z,g,r,⟨_,cP _ rfl,rfl,_,rfl⟩⟩
theorem tT(h:PA X es t):PE X (.List es pos) (Nz t):=by
 intro c s l H Q I m;refine wpAny_List_spliced (Gh (h pos c s l H _ I m) λg a ⟨j,d,f,r,z,q⟩=>⟨by rw[<-r.length];exact z,?_⟩);have k:d a.heap.objs.size=none:=f.hok.fresh (cI _);refine⟨.ref a.heap.objs.size,upd d a.heap.objs.size (.lst j),f.laid (t':=a.toks) (λb u e=>cF _ e) (cI _) ?_,rfl,q _ k⟩;exact⟨z,g,0,r,cP _ rfl⟩
end
abbrev Sp:=List V->Hp->VK->XK->Prop
abbrev Jd:=List Env->Hp->cC->XK->cz->cC->Prop
structure Env0(P:cY)(w:dn)(K:b3)(mg:Str->Option cz)(base:Heap)(A:dD)(outer:List Env)(s:cC)(H:Hp):Prop where
 frames:A.frames=some outer
 mod:Mod K mg base
 bs:∀b o,base.get? b=some o->s.heap.get? b=some o/\H b=none
 bsz:base.objs.size<=s.heap.objs.size
 funs:s.heap.FunFrames base outer
 frf:∀b∈Hc outer,H b=none
 hok:HOk P w H s.heap
 bare:AllBare s.gens
def CE(outer:List Env)(P:cY)(w:dn)(H:Hp)(s:cC)(Q:VK)(u:cz)(s':cC):Prop:=
 ∃v H',s'.os=s.os/\AllBare s'.gens/\Un (Hc outer) [] H H' s.heap s'.heap/\HOk P w H' s'.heap/\RelV v u/\Q v H'
def CR(CX:Jd)(outer:List Env)(P:cY)(w:dn)(H:Hp)(s:cC)(Q:VK)(E:XK)(r:Result)(s':cC):Prop:=
 match r with
 | .ok (.ret u)=>CE outer P w H s Q u s'
 | .ok _=>False
 | .error e=>CX outer H s E e s'
structure FnOk(P:cY)(w:dn)(K:b3)(mg:Str->Option cz)(base:Heap)(CX:Jd)(k:Nat)(f:cG)(fd:FuncData)(ps:List Str)(sp:Sp):Prop where
 len:∀vs H Q E,sp vs H Q E->vs.length=ps.length
 run:∀(A:dD) (outer:List Env) (s:cC) (H:Hp) (args:Args) (us:List cz) (vs:List V) (Q:VK) (E:XK),Room k A->Env0 P w K mg base A outer s H->BindsTo s fd args (ps.zip us)->Vals vs us->sp vs H Q E->
  codeAny (model P w) A (.call (.ref f) args) (CR CX outer P w H s Q E) s
theorem FnOk.imp{P:cY}{w:dn}{K:b3}{mg:Str->Option cz}{base:Heap}{CX:Jd}{k:Nat}{f:cG}{d:FuncData}{ps:List Str}{sp b:Sp}(F:FnOk P w K mg base CX k f d ps sp)
  (h:∀vs H Q E,b vs H Q E->sp vs H Q E):FnOk P w K mg base CX k f d ps b:=
 ⟨λvs H Q E q=>F.len vs H Q E (h _ _ _ _ q),λA a s H c e vs Q E g l j n m=>F.run A a s H c e vs Q E g l j n (h _ _ _ _ m)⟩
theorem Env0.make{P:cY}{w:dn}{K:b3}{mg:Str->Option cz}{base:Heap}{A:dD}{outer:List Env}{s:cC}{H:Hp}(e:Env0 P w K mg base A outer s H)(C:cG)(us:List cz)(kw:List (Str×cz)):
  Env0 P w K mg base (A.under (.builtin "type.__call__" ⟨.ref C::us,kw⟩)) outer s H:=⟨by first|exact e.frames|(simpa [og,Code.envs,Code.isFrame,pushEnvs]using e.frames),e.mod,e.bs,e.bsz,e.funs,e.frf,e.hok,e.bare⟩
section
variable{X:Cx}{pins:List (cG×Obj)}{σ:St}{H:Hp}{s s':cC}
theorem Inv.env0(I:Inv X pins σ H s):Env0 X.prog X.w X.K X.mg X.base X.A X.stack s H:=
 ⟨I.ok.frames,I.ok.mod,I.bs,cO I.ok.bsz I.sz,I.stack,I.stkFree,I.hok,I.bare⟩
theorem Inv.after{Q:VK}{u:cz}(I:Inv X pins σ H s)(h:CE X.stack X.prog X.w H s Q u s'):EP X pins σ Q u s':=by
 obtain⟨v,f,os,a,j,e,r,q⟩:=h;obtain⟨k,g,d,t,c⟩:=s';obtain rfl:c=s.os:=os;exact⟨v,f,I.call (h':=k) (g':=g) (d':=d) (t':=t) (ch:=[]) j e a (λb z=>absurd z (by simp)),r,q⟩
end
def L0(sp:Sp)(a:List V)(E:XK)(t:TA):TE:=λb H Q=>t b H λvs c=>sp (vs++a) c Q E
def JD(C:cG)(m:Str)(sp:Sp)(d:List V)(E:XK)(f:TE)(t:TA):TE:=λb H Q=>f b H λx c=>∃a dx fs,x = .ref a/\c a=some (.ins C dx fs)/\fs.lookup m=none/\
 t b c λvs e=>sp (x::(vs++d)) e Q E
def KL(C:cG)(sp:Sp)(b:List V)(E:XK)(t:TA):TE:=λc H Q=>t c H λvs a=>∀x dx,a x=none->a dx=none->dx≠x->
 sp (.ref x::(vs++b)) (upd (upd a dx (.own x)) x (.ins C dx [])) (λv d=>v = .non/\Q (.ref x) d) E
def Binds(K:b3)(a:FuncData)(ps:List Str)(ds:List cz):Prop:=
 ∀(s:cC) (us:List cz),K.In s.heap->(us++ds).length=ps.length->BindsTo s a ⟨us,[]⟩ (ps.zip (us++ds))
theorem Binds.all{K:b3}{b:FuncData}{ps:List Str}(h:∀us:List cz,us.length=ps.length->bindArgs b ⟨us,[]⟩=pure (ps.zip us)):Binds K b ps []:=λs us _ a=>by
 rw[fC]at a ⊢;exact .of_eq (h us a)
def GF(CX:Jd)(X:Cx)(E:XK):Prop:=∀(pins:List (cG×Obj)) (σ:St) (H:Hp) (s:cC) (e:cz) (s':cC),Inv X pins σ H s->CX X.stack H s E e s'->X.xe e s'
section
variable{X:Cx}{CX:Jd}{k:Nat}{f C:cG}{fd:FuncData}{ps:List Str}{sp:Sp}{dvs:List V}{ds:List cz}{E:XK}{x m:Str}{p pos apos:Pos}{e o:Expr}{es:List Expr}{ta:TE}{t:TA}
theorem Cz{a:List (cG×Obj)}{c:St}{H:Hp}{s:cC}{Q:VK}{us:List cz}{vs:List V}(F:FnOk X.prog X.w X.K X.mg X.base CX k f fd ps sp)(o:Room k X.A)(m:Binds X.K fd ps ds)(p:Vals dvs ds)(n:GF CX X E)
  (I:Inv X a c H s)(r:Vals vs us)(h:sp (vs++dvs) H Q E):wpAny (model X.prog X.w) X.A (call (.ref f) us) (EP X a c Q) X.xe s:=by
 have d:Vals (vs++dvs) (us++ds):=r.append p
 have g:(us++ds).length=ps.length:=by rw[<-d.length];exact F.len _ _ _ _ h
 refine gY (iy (F.run X.A X.stack s H ⟨us,[]⟩ (us++ds) (vs++dvs) Q E o I.env0 (m s us I.kIn g) d h) λr l b=>?_)
 cases r with
 | error e=>exact n a c H s e l I b
 | ok j=>
  cases j with
  | ret u=>exact I.after b
  | next=>exact eI b
  | brk=>exact eI b
  | cont=>exact eI b
theorem Ey(F:FnOk X.prog X.w X.K X.mg X.base CX k f fd ps sp)(m:Room k X.A)(j:Gl X x)(o:X.mg x=some (.ref f))(hk:iT X.K (.ref f)=true)(l:Binds X.K fd ps ds)(v:Vals dvs ds)(n:GF CX X E)
  (u:PA X (e::es) t)(d:(x==("__debug__":Str))=false:=by decide)(y:dq (e::es) X.env=(false,eval e X.env)::dq es X.env:=by rfl)(c:(backTo pos (dq es X.env)).any (·.1)=false:=by rfl):
  PE X (.Call (.Name x p) (e::es) [] pos) (L0 sp dvs E t):=by
 intro a s g H Q I h
 refine fw (vA I j o ?_ d)
 refine iz (h₀:=X.base) I.ok.mod.kin hk (Gh (u pos a s g H _ I h) λz B ⟨vs,C,b,r,q⟩=>⟨b.kIn,?_⟩) y c
 exact Cz F m l v n b r q
theorem Fd{pl:Sem Bool}(S:PE X o ta)(c:Cls X.K C)(n:KU X.K C m f)(F:FnOk X.prog X.w X.K X.mg X.base CX k f fd ps sp)(N:Room k X.A)(L:Binds X.K fd ps ds)(R:Vals dvs ds)(M:GF CX X E)(O:PA X (e::es) t)
  (p:dq (e::es) X.env=(false,eval e X.env)::dq es X.env:=by rfl)(v:(backTo pos (dq es X.env)).any (·.1)=false:=by rfl)
  (P:eval (.Call (.Attribute o m apos) (e::es) [] pos) X.env=(do
   let ov<-eval o X.env
   standAt apos.atName
   let(f,first)<-holding [ov] (getMethod ov m pl)
   callWith pos f first (backTo pos (dq (e::es) X.env)) (backToKw pos (keywordEach [] X.env))):=by rfl):
  PE X (.Call (.Attribute o m apos) (e::es) [] pos) (JD C m sp dvs E ta t):=by
 intro b s j H Q I h
 refine iL (pl:=pl) (Gh (S b s j H _ I h) λu z ⟨x,y,g,B,a,T,Y,J,D,l,q⟩=>?_) P
 subst J
 obtain rfl:u=cQ a:=B
 refine vo g D c n l ?_
 refine iz (first:=[.ref a]) (h₀:=X.base) I.ok.mod.kin n.kp (Gh (O pos b z j y _ g q) λus V ⟨vs,U,d,r,G⟩=>⟨d.kIn,?_⟩) p v
 exact Cz (us:= .ref a::us) (vs:= .ref a::vs) F N L R M d (.cons rfl r) G
theorem C9{pl:Sem Bool}(B:PE X o ta)(c:Cls X.K C)(e:KU X.K C m f)(F:FnOk X.prog X.w X.K X.mg X.base CX k f fd ps sp)(v:Room k X.A)(r:Binds X.K fd ps ds)(z:Vals dvs ds)(t:GF CX X E)
  (y:eval (.Call (.Attribute o m apos) [] [] pos) X.env=(do
   let ov<-eval o X.env
   standAt apos.atName
   let(f,first)<-holding [ov] (getMethod ov m pl)
   callWith pos f first (backTo pos (dq [] X.env)) (backToKw pos (keywordEach [] X.env))):=by rfl):
  PE X (.Call (.Attribute o m apos) [] [] pos) (JD C m sp dvs E ta MC):=by
 intro b s n H Q I h
 refine iL (pl:=pl) (Gh (B b s n H _ I h) λu J ⟨x,G,d,g,a,D,L,p,j,l,q⟩=>?_) y
 subst p
 obtain rfl:u=cQ a:=g
 refine vo d j c e l ?_
 exact PySem.W.callWith_K0 (first:=[.ref a]) d.kIn e.kp (Cz (us:=[.ref a]) (vs:=[.ref a]) F v r z t d (.cons rfl .nil) q)
structure Mk(K:b3)(C f:cG):Prop where
 makes:pz K C=true
 init:fO K (.ref C) "__init__"=some (some (.ref f))
 fn:n9 K (.ref f)=true
 kp:iT K (.ref C)=true
theorem DO{b:List (cG×Obj)}{d:St}{H:Hp}{s:cC}{Q:VK}{us:List cz}{vs:List V}(M:Mk X.K C f)(F:FnOk X.prog X.w X.K X.mg X.base CX k f fd ps sp)(B:Room (k+1) X.A)(y:Binds X.K fd ps ds)(D:Vals dvs ds)
  (z:GF CX X E)(I:Inv X b d H s)(r:Vals vs us)
  (h:∀x dx,H x=none->H dx=none->dx≠x->sp (.ref x::(vs++dvs)) (upd (upd H dx (.own x)) x (.ins C dx [])) (λv H2=>v = .non/\Q (.ref x) H2) E):
  wpAny (model X.prog X.w) X.A (call (.ref C) us) (EP X b d Q) X.xe s:=by
 have g:=h (s.heap.objs.size+1) s.heap.objs.size (I.hok.fresh (d6 _)) (I.hok.fresh (cI _)) (dr (du _))
 have c:=Inv.made (C:=C) I
 have j:Vals (V.ref (s.heap.objs.size+1)::(vs++dvs)) (cQ (s.heap.objs.size+1)::(us++ds)):= .cons rfl (r.append D)
 have l:(cQ (s.heap.objs.size+1)::us++ds).length=ps.length:=by
  have e:=j.length
  rw[F.len _ _ _ _ g]at e
  exact e.symm
 refine gY (Ag (f:=f) I.kIn M.makes M.init (beq_iff_eq.mp M.fn) (iy (F.run _ X.stack _ _ ⟨cQ (s.heap.objs.size+1)::us,[]⟩ (cQ (s.heap.objs.size+1)::(us++ds)) _ _ E (B.make C us [])
  (c.env0.make C us []) (y _ (cQ (s.heap.objs.size+1)::us) c.kIn l) j g) λr t a=>?_))
 cases r with
 | error e=>exact z b d _ _ e t c a
 | ok q=>
  cases q with
  | ret u=>
   obtain⟨v,p,m,n,ev,o⟩:=c.after a
   subst ev
   exact⟨n,⟨V.ref (s.heap.objs.size+1),p,m,rfl,o⟩⟩
  | next=>exact eI a
  | brk=>exact eI a
  | cont=>exact eI a
theorem Fi(M:Mk X.K C f)(F:FnOk X.prog X.w X.K X.mg X.base CX k f fd ps sp)(m:Room (k+1) X.A)(j:Gl X x)(o:X.mg x=some (.ref C))(l:Binds X.K fd ps ds)(v:Vals dvs ds)(n:GF CX X E)
  (u:PA X (e::es) t)(d:(x==("__debug__":Str))=false:=by decide)(y:dq (e::es) X.env=(false,eval e X.env)::dq es X.env:=by rfl)(c:(backTo pos (dq es X.env)).any (·.1)=false:=by rfl):
  PE X (.Call (.Name x p) (e::es) [] pos) (KL C sp dvs E t):=by
 intro a s g H Q I h
 refine fw (vA I j o ?_ d)
 refine iz (h₀:=X.base) I.ok.mod.kin M.kp (Gh (u pos a s g H _ I h) λz B ⟨vs,D,b,r,q⟩=>⟨b.kIn,?_⟩) y c
 exact DO M F m l v n b r q
end
structure F6(N P:List Str)(sc:Scope):Prop where
 kind:sc.kind = .function
 co:sc.isCoroutine=false
 gen:sc.isGenerator=false
 nd:N.Nodup
 pre:N.take P.length=P
 par:∀x∈P,sc.names.lookup x=some .local\/sc.names.lookup x=some .cell
 nofree:∀y∈sc.names,y.2≠ .free
theorem yE{a:Str->Option iG}{x:Str}:∀{binds:List (Str×cz)} {m:Str->Option cz},(∀v,(x,v)∉binds)->bindL a binds m x=m x
 | [],_,_=>rfl
 | (n,v)::r,m,h=>by
  unfold bindL
  rw[yE λw b=>h w (cN _ b)]
  split
  ·have:x≠n:=by rintro rfl;exact h v cM
   simp[this]
  ·rfl
theorem zj{a:Str->Option iG}{x:Str}:∀{binds:List (Str×cz)} {m:Str->Option cz},(∀v,(x,v)∉binds)->bindC a binds m x=m x
 | [],_,_=>rfl
 | (n,v)::r,m,h=>by
  unfold bindC
  rw[zj λw b=>h w (cN _ b)]
  split
  ·rfl
  ·have:x≠n:=by rintro rfl;exact h v cM
   simp[this]
theorem yN{a:Str->Option iG}{x:Str}{v:cz}:∀{P:List Str} {vs:List cz} {i:Nat} {m:Str->Option cz},P.Nodup->P[i]?=some x->vs[i]?=some v->a x=some .local->
  bindL a (P.zip vs) m x=some v
 | [],_,_,_,_,h,_,_=>by simp at h
 | _::_,[],_,_,_,_,h,_=>by simp at h
 | p::P,w::vs,0,m,nd,h1,h2,hk=>by
  simp at h1 h2;subst h1;subst h2
  show bindL a ((p,w)::P.zip vs) m p=_
  unfold bindL
  rw[yE λv b=>(fD.mp nd).1 (mj b).1,if_pos hk]
  simp
 | p::P,w::vs,i+1,m,nd,h1,h2,hk=>by
  show bindL a ((p,w)::P.zip vs) m x=_
  unfold bindL
  exact yN (i:=i) (fD.mp nd).2 (by simpa using h1) (by simpa using h2) hk
theorem za{a:Str->Option iG}{x:Str}{v:cz}:∀{P:List Str} {vs:List cz} {i:Nat} {m:Str->Option cz},P.Nodup->P[i]?=some x->vs[i]?=some v->a x≠some .local->
  bindC a (P.zip vs) m x=some v
 | [],_,_,_,_,h,_,_=>by simp at h
 | _::_,[],_,_,_,_,h,_=>by simp at h
 | p::P,w::vs,0,m,nd,h1,h2,hk=>by
  simp at h1 h2;subst h1;subst h2
  show bindC a ((p,w)::P.zip vs) m p=_
  unfold bindC
  rw[zj λv b=>(fD.mp nd).1 (mj b).1,if_neg hk]
  simp
 | p::P,w::vs,i+1,m,nd,h1,h2,hk=>by
  show bindC a ((p,w)::P.zip vs) m x=_
  unfold bindC
  exact za (i:=i) (fD.mp nd).2 (by simpa using h1) (by simpa using h2) hk
def start(N:List Str)(vs:List V):St:=vs.map some++gj (N.length-vs.length) none
def IN(CX:Jd)(P:cY)(w:dn)(K:b3)(mg:Str->Option cz)(base:Heap)(N:List Str)(qual:Str)(scope:Scope)(f:cG)(b:cz)(A:dD)(outer:List Env)(s:cC)(H:Hp)(E:XK):Cx where
 prog:=P
 w:=w
 K:=K
 mg:=mg
 base:=base
 A:=A.deeper (envOfC qual scope s.heap.objs.size f b)
 N:=N
 s₀:=s
 H₀:=H
 env:=envOfC qual scope s.heap.objs.size f b
 outer:=outer
 stack:=envOfC qual scope s.heap.objs.size f b::outer
 ex:=[]
 calm:=true
 fn:=λ_=>true
 pn:=[]
 xe:=λe d=>wpAny (model P w) (A.deeper (envOfC qual scope s.heap.objs.size f b)) (leaving (envOfC qual scope s.heap.objs.size f b) e) (λ_ a=>CX outer H s E e a) (λc a=>CX outer H s E c a) d
theorem Au{a:Scope}{n:Nat}{x:Str}(h:a.names.lookup x=some .cell):∃c,(cellsFrom n a.names []).lookup x=some c:=by
 have q:=lX a.names n [] (.inl h);exact kY.mp q
theorem BW{CX:Jd}{P:cY}{w:dn}{K:b3}{mg:Str->Option cz}{base:Heap}{N ps:List Str}{qual:Str}{scope:Scope}{f:cG}{m:cz}{A:dD}{outer:List Env}{s B:cC}{H:Hp}{E:XK}{us:List cz}{vs:List V}
  (S:F6 N ps scope)(F:A.handled=none)(d:Env0 P w K mg base A outer s H)(hl:vs.length=ps.length)(r:Vals vs us)
  (x:InCallC s s.heap.objs.size (bindL (envOfC qual scope s.heap.objs.size f m).kindOf (ps.zip us) λ_=>none) (cellsFrom (s.heap.objs.size+1) scope.names []) (bindC (envOfC qual scope s.heap.objs.size f m).kindOf (ps.zip us) λ_=>none) B):
  Inv (IN CX P w K mg base N qual scope f m A outer s H E) [] (start N vs) H B:=by
 have G:ps.length<=N.length:=by have:=congrArg jp S.pre;rw[cX]at this;omega
 obtain⟨h1,tk,rfl,hk⟩:=x.done
 have j:∀b:cG,b∉(IN CX P w K mg base N qual scope f m A outer s H E).ex:=λb z=>absurd (show b∈([]:List cG)from z) (by simp)
 refine⟨⟨d.mod,S.kind,rfl,rfl,cI _,λy z c h1 h2=>?_,λy g=>?_,λy c _ h=>?_,λ_=>F,Around.frames_deeper d.frames,.inr ⟨rfl,rfl⟩,λb z=>absurd z (j b),d.bs,d.bsz,λb _ _=>j b,λb z=>absurd z (j b),d.funs,d.frf⟩,
  rfl,d.bare,Un.kept hk,⟨_,x.toInCall.ns,λi y v h1 h2 h3=>?_⟩,λy c h=>⟨_,x.cell y c h⟩,d.hok.fresh (cI _),λy c h=>?_,λp hp=>absurd (show p∈([]:List (cG×Obj))from hp) (by simp),d.hok.kept hk,?_⟩
 ·exact name_of_addr x.apart (e9 h1) (e9 h2)
 ·have g:scope.names.lookup y=some .cell\/scope.names.lookup y=some .free:=g
  rcases g with g|g
  ·exact Au g
  ·exact absurd rfl (S.nofree _ (e9 g))
 ·exact cZ (x.above y c (e9 h))
 ·have l:i<vs.length:=by
   unfold start at h2
   by_cases l:i<vs.length
   ·exact l
   ·rw[ff (by simpa using l)]at h2
    rw[List.getElem?_replicate]at h2
    split at h2 <;> cases h2
  have D:vs[i]?=some v:=by
   unfold start at h2
   rw[hV (by simpa using l),cL]at h2
   cases e:vs[i]? with
   | none=>rw[e]at h2;cases h2
   | some a=>rw[e]at h2;cases h2;rfl
  obtain⟨u,t,C⟩:=r.get D
  have hp:ps[i]?=some y:=by
   rw[<-S.pre,ie (by omega)];exact h1
  have o:ps.Nodup:=by rw[<-S.pre];exact S.nd.sublist (List.take_sublist _ _)
  refine⟨u,C,?_⟩
  rcases S.par y (dh hp)with k|k
  ·exact .inl ⟨k,yN o hp t k⟩
  ·obtain⟨c,e⟩:=Au (n:=s.heap.objs.size+1) k
   refine .inr ⟨.inl k,c,e,?_⟩
   have q:=x.cell y c e
   rw[za o hp t (by show scope.names.lookup y≠_;rw[k];decide)]at q
   exact q
 ·exact d.hok.fresh (cZ (x.above y c (e9 h)))
 ·unfold start
  show _=N.length
  rw[de,cx,hO]
  omega
theorem Dx{CX:Jd}{P:cY}{w:dn}{K:b3}{mg:Str->Option cz}{base:Heap}{k:Nat}{f:cG}{name qual:Str}{params:Arguments}{body:List Stmt}{scope:Scope}{T kV p L a ct oc:cz}{R od:Option cG}
  {M:Array (Option cz)}{N ps:List Str}{sp:Sp}(lk:K.lookup f=some ⟨oc,od,.func (gl name qual params body scope T kV p L R a ct),M⟩)(O:mP K a qual=true)(S:F6 N ps scope)
  (m:∀vs H Q E,sp vs H Q E->vs.length=ps.length)
  (j:∀(A:dD) (outer:List Env) (s:cC) (H:Hp) (vs:List V) (Q:VK) (E:XK),Room k (A.deeper (envOfC qual scope s.heap.objs.size f a))->sp vs H Q E->
   ∃t,PSs (IN CX P w K mg base N qual scope f a A outer s H E) body t/\t {nx:=λ_ H'=>Q .non H',rt:=Q} (start N vs) H):
  FnOk P w K mg base CX (k+1) f (gl name qual params body scope T kV p L R a ct) ps sp:=by
 refine⟨m,λA outer s H aa U vs Q E B g Y r l=>?_⟩
 have hl:=m _ _ _ _ l
 have D:K.In s.heap:=g.mod.kin.keeps λb o e=>(g.bs b o e).1
 have F:s.heap.NoLimit:=g.mod.nolimit.keeps λb o e=>(g.bs b o e).1
 have h:∀y∈ps.zip U,scope.names.lookup y.1=some .local\/(scope.names.lookup y.1=some .cell/\((cellsFrom (s.heap.objs.size+1) scope.names []).lookup y.1).isSome=true):=λ⟨n,v⟩ hy=>by
  rcases S.par n (mj hy).1 with q|q
  ·exact .inl q
  ·exact .inr ⟨q,lX _ _ _ (.inl q)⟩
 refine codeAny_call_function B.depth (D _ _ lk) rfl S.co S.gen rfl (PySem.W.codeRec_of D O) (Y _ _ _ _ ?_)
 refine wpAny_newFunctionEnv_cells S.kind h λab he G x=>?_
 subst he
 refine⟨F.keeps x.toInCall.keep,codeAny_func ?_⟩
 obtain⟨t,Z,hq⟩:=j A outer s H vs Q E (B.deeper _) l
 have I:Inv (IN CX P w K mg base N qual scope f a A outer s H E) [] (start N vs) H G:=BW S B.hd g hl r x
 refine fN (Z [] G (start N vs) H _ I hq) (λX C d=>?_) λe C d=>d
 have fin:∀{c:St} {H':Hp} {v:V} {u:cz},Inv (IN CX P w K mg base N qual scope f a A outer s H E) [] c H' C->RelV v u->Q v H'->CE outer P w H s Q u C:=
  λ {c H' v u} J z q=>⟨v,H',J.os,J.bare,J.base,J.hok,z,q⟩
 cases X with
 | ret u=>
  obtain⟨v,c,H',J,z,q⟩:=d
  exact fin J z q
 | next=>
  obtain⟨c,H',J,q⟩:=d
  exact fin (v:=V.non) (u:=cz.none) J rfl q
 | brk=>
  obtain⟨_,_,_,q⟩:=d
  exact eI q
 | cont=>
  obtain⟨_,_,_,q⟩:=d
  exact eI q
section
variable{X:Cx}{x:Str}{p pos:Pos}{e:Expr}{es:List Expr}{t:TA}{id T:String}{r:List V->Hp->VK->Prop}
def Oe(r:List V->Hp->VK->Prop)(t:TA):TE:=λa H Q=>t a H λvs b=>r vs b Q
theorem sV(hc:GH X (.builtin id) r)(n:Gl X x)(o:X.mg x=none)(v:bootBuiltins x=some (.builtin id))(q:PA X (e::es) t)(u:x≠"__name__":=by decide)(d:(x==("__debug__":Str))=false:=by decide)
  (w:dq (e::es) X.env=(false,eval e X.env)::dq es X.env:=by rfl)(c:(backTo pos (dq es X.env)).any (·.1)=false:=by rfl):PE X (.Call (.Name x p) (e::es) [] pos) (Oe r t):=by
 intro a s b H Q I h
 refine fw (uU I n o v ?_ u d)
 exact ij (Gh (q pos a s b H _ I h) λf j ⟨vs,k,m,l,g⟩=>hc a j b k vs f Q m l g) w c
theorem tP(hc:GH X (.type T) r)(n:Gl X x)(o:X.mg x=none)(v:bootBuiltins x=some (.type T))(q:PA X (e::es) t)(u:x≠"__name__":=by decide)(d:(x==("__debug__":Str))=false:=by decide)
  (w:dq (e::es) X.env=(false,eval e X.env)::dq es X.env:=by rfl)(c:(backTo pos (dq es X.env)).any (·.1)=false:=by rfl):PE X (.Call (.Name x p) (e::es) [] pos) (Oe r t):=by
 intro a s b H Q I h
 refine fw (uU I n o v ?_ u d)
 exact d9 (Gh (q pos a s b H _ I h) λf j ⟨vs,k,m,l,g⟩=>hc a j b k vs f Q m l g) w c
end
end L2
namespace HT
open PySem PyProof.Rows
section
variable{prog:cY}{w:dn}{A:dD}{E:cz->cC->Prop}{s:cC}
theorem cat_tup{t b:cG}{vs ws:List cz}{Q:cz->cC->Prop}(x:IsTup s.heap t vs.toArray)(v:IsTup s.heap b ws.toArray)(q:vs≠[])
  (h1:ws=[]->Q (.ref t) s)(h2:ws≠[]->Q (.ref s.heap.objs.size) {s with heap:=s.heap.push {cls:= .type "tuple",data:= .seq (vs++ws).toArray}})
  (hsz:vs.length+ws.length<=sizeLine):wpAny (model prog w) A (binaryOp .Add (.ref t) (.ref b)) Q E s:=by
 obtain⟨⟨cls,k,data,l⟩,c,m,n,p⟩:=id x
 obtain⟨⟨u,j,r,g⟩,a,f,o,h⟩:=id v
 simp only at m p f h
 subst m p f h
 have e:vs.toArray++ws.toArray=(vs++ws).toArray:=by simp
 by_cases d:ws=[]
 ·exact oh ⟨_,c,rfl⟩ ⟨_,a,rfl⟩ lB nr jx jq (ji _ _)
   (tuple_addW1 t b vs.toArray ws.toArray n o k j l g (by simpa using q) (by simp[d])) ⟨c,a,h1 d⟩
 ·refine oh ⟨_,c,rfl⟩ ⟨_,a,rfl⟩ lB nr jx jq (ji _ _)
   (tuple_addW2 t b vs.toArray ws.toArray n o k j l g (by simpa using q) (by simpa using d) (by rw[cW,cW];exact hsz)) ⟨c,a,?_⟩
  rw[e]
  exact h2 d
def sIx(n d:Nat):Option Int->Nat
 | none=>d
 | some v=>if v<0 then(v+(n:Int)).toNat else min v.toNat n
theorem sIx_none(n d:Nat):sIx n d none=d:=rfl
theorem sIx_nat(n d k:Nat):sIx n d (some (k:Int))=min k n:=by
 show(if(k:Int)<0 then((k:Int)+(n:Int)).toNat else min (k:Int).toNat n)=min k n;rw[if_neg (by omega),fY]
end
end HT
namespace L2
open PySem PySem.Spec PyProof.Rows
abbrev TO:=St->Hp->(Option Int->Hp->Prop)->Prop
def PO(X:Cx)(e:Option Expr)(t:TO):Prop:=
 ∀(pins:List (cG×Obj)) (s:cC) (σ:St) (H:Hp) (Q:Option Int->Hp->Prop),Inv X pins σ H s->t σ H Q->
  wpAny (model X.prog X.w) X.A (evalPart e X.env) (λu a=>∃o H',Inv X pins σ H' a/\IsPart u o/\Q o H') X.xe s
def LB:TO:=λ_ H Q=>Q none H
def MW(t:TE):TO:=λa H Q=>t a H λx b=>∃i,x = .int i/\Q (some i) b
section
variable{X:Cx}{e:Expr}{te:TE}{lo hi:Option Expr}{tl th:TO}{pos p2:Pos}
theorem uG:PO X none LB:=by
 intro a s b H Q I h;rw[nt];exact b4 ⟨none,H,I,.none,h⟩
theorem um(h:PE X e te):PO X (some e) (MW te):=by
 intro a s b H Q I d;rw[qL];refine Gh (h a s b H _ I d) λu k ⟨x,f,j,g,c⟩=>?_;obtain⟨i,rfl,q⟩:=c;obtain⟨t,rfl⟩:=g;exact⟨some i,f,j,.int i t,q⟩
def N0(X:Cx)(r:V->Option Int->Option Int->Hp->VK->Prop):Prop:=
 ∀(pins:List (cG×Obj)) (s:cC) (σ:St) (H:Hp) (x:V) (v vl vu:cz) (lo hi:Option Int) (sl:cG) (Q:VK),Inv X pins σ H s->RelV x v->s.heap.IsSliceOf sl vl vu .none->IsPart vl lo->IsPart vu hi->r x lo hi H Q->
  ∃T id,typeLookup (.type T) "__getitem__"=pure (some (.builtin id))/\s.TypeIs v T/\wpAny (model X.prog X.w) X.A (getItem v (.ref sl)) (EP X pins σ Q) X.xe s
def Oz(r:V->Option Int->Option Int->Hp->VK->Prop)(e:TE)(g f:TO):TE:=λa H Q=>e a H λx c=>g a c λl b=>f a b λu d=>r x l u d Q
theorem ue{r:V->Option Int->Option Int->Hp->VK->Prop}(O:N0 X r)(P:PE X e te)(hl:PO X lo tl)(N:PO X hi th):PE X (.Subscript e (.Slice lo hi none p2) pos) (Oz r te tl th):=by
 intro a s d H Q I h;refine pU (Gh (P a s d H _ I h) λv t ⟨x,m,p,M,L⟩=>?_);refine wpAny_Slice (Gh (hl a t d m _ p L) λg E ⟨l,k,n,C,D⟩=>Gh (N a E d k _ n D) λf c ⟨u,j,z,F,J⟩=>?_);rw[nt];refine b4 ?_;have o:Inv X a d j {c with heap:=c.heap.push {cls:= .type "slice",data:= .fields #[g,f,.none]}}:=z.kept (t':=c.toks) λb R q=>cF _ q;obtain⟨T,id,B,y,G⟩:=O a {c with heap:=c.heap.push {cls:= .type "slice",data:= .fields #[g,f,.none]}} d j x v g f l u c.heap.objs.size Q o M (nH ..) C F J;show wpAny (model X.prog X.w) X.A (subscriptTail e (.Slice lo hi none p2) v (.ref c.heap.objs.size)) (EP X a d Q) X.xe {c with heap:=c.heap.push {cls:= .type "slice",data:= .fields #[g,f,.none]}};exact rK (ops:=[.ref c.heap.objs.size,v]) y B G (by with_unfolding_all rfl)
def Ha(xs:List V)(lo a:Option Int):List V:=(xs.drop (HT.sIx xs.length 0 lo)).take (HT.sIx xs.length xs.length a-HT.sIx xs.length 0 lo)
theorem w4(xs:List V)(lo a:Option Int):(Ha xs lo a).length<=xs.length:=by
 unfold Ha;rw[cX,eQ];omega
def Na(K:b3):R2:=λx y H Q=>∃a b xs ys,x = .ref a/\y = .ref b/\SqT K H a xs/\SqT K H b ys/\xs≠[]/\xs.length+ys.length<=sizeLine/\
 (ys=[]->Q (.ref a) H)/\(ys≠[]->∀p,H p=none->Q (.ref p) (upd H p (.tup (xs++ys))))
theorem Vals.nil_iff{xs:List V}{us:List cz}(r:Vals xs us):us=[]↔xs=[]:=by
 cases r with
 | nil=>simp
 | cons _ _=>simp
theorem Fe:Hb X (binaryOp .Add) (Na X.K):=by
 intro g s F H x y v u Q I m f h;obtain⟨a,b,l,A,rfl,rfl,k,j,r,e,C,p⟩:=h
 cases m
 cases f;obtain⟨D,d,B,_⟩:=I.tuple k;obtain⟨t,c,n,_⟩:=I.tuple j;refine HT.cat_tup B n (λz=>r (d.nil_iff.mp z)) (λz=>⟨.ref a,H,I,rfl,C (c.nil_iff.mp z)⟩) (λz=>?_) (by rw[<-d.length,<-c.length];exact e);refine⟨.ref s.heap.objs.size,_,I.laid (t':=s.toks) (o:= .tup (l++A)) (λb E q=>cF _ q) (cI _) ?_,rfl,p (λw=>z (c.nil_iff.mpr w)) _ (I.hok.fresh (cI _))⟩;exact⟨by rw[de];exact e,_,d.append c,rd _ _⟩
end
def KY(n:Nat)(i:Int):Option Nat:=if 0<=i then(if i<n then some i.toNat else none)else if -(n:Int)<=i then some (i+n).toNat else none
def Ic{a:Type}(xs:List a)(i:Int):Option a:=(KY xs.length i).bind λj=>xs[j]?
theorem BB{n:Nat}{i:Int}{j:Nat}(h:KY n i=some j):seqIndex? i n=some j/\j<n/\ -(n:Int)<=i/\i<n:=by
 unfold KY at h;by_cases h0:0<=i
 ·rw[if_pos h0]at h;by_cases h1:i<n
  ·rw[if_pos h1]at h;have e:i.toNat=j:=Option.some.inj h;exact⟨by rw[mQ h0 h1,e],by omega,by omega,h1⟩
  ·rw[if_neg h1]at h;cases h
 ·rw[if_neg h0]at h;by_cases h1: -(n:Int)<=i
  ·rw[if_pos h1]at h;have e:(i+n).toNat=j:=Option.some.inj h;exact⟨by rw[oi (by omega) h1,e],by omega,h1,by omega⟩
  ·rw[if_neg h1]at h;cases h
theorem zJ{a:Type}{xs:List a}{i:Int}{v:a}(h:Ic xs i=some v):∃j,seqIndex? i xs.length=some j/\xs[j]?=some v/\j<xs.length/\ -(xs.length:Int)<=i/\i<xs.length:=by
 unfold Ic at h
 cases e:KY xs.length i with
 | none=>rw[e]at h;cases h
 | some j=>
  rw[e]at h;obtain⟨h1,h2,h3,h4⟩:=BB e;exact⟨j,h1,h,h2,h3,h4⟩
theorem t9{a:Type}{xs:List a}{j:Nat}{v:a}(h:xs[j]?=some v):Ic xs (j:Int)=some v:=by
 have b:j<xs.length:=(cT.mp h).1;have e:KY xs.length (j:Int)=some j:=by
  unfold KY;rw[if_pos (by omega),if_pos (by omega)];simp
 unfold Ic;rw[e];exact h
def Ky(b:Expr):Prop:=∀o i,subscripted b false o i=operate [o,i] (getItem o i)
def IxR(X:Cx)(r:R2):Prop:=
 ∀(value slice:Expr) (pins:List (cG×Obj)) (s:cC) (σ:St) (H:Hp) (x y:V) (v u:cz) (Q:VK),Inv X pins σ H s->RelV x v->RelV y u->r x y H Q->
  subscripted slice false v u=operate [v,u] (getItem v u)->wpAny (model X.prog X.w) X.A (subscriptTail value slice v u) (EP X pins σ Q) X.xe s
def MJ(X:Cx)(id:String)(r:V->List V->Hp->VK->Prop):Prop:=
 ∀(pins:List (cG×Obj)) (s:cC) (σ:St) (H:Hp) (x:V) (xs:List V) (v:cz) (us:List cz) (Q:VK),Inv X pins σ H s->RelV x v->Vals xs us->r x xs H Q->
  wpAny (model X.prog X.w) X.A (call (.builtin id) (v::us)) (EP X pins σ Q) X.xe s
section
variable{X:Cx}{a b:Expr}{ta tb:TE}{pos:Pos}
theorem IxR.or{r j:R2}(h:IxR X r)(h':IxR X j):IxR X (λx y H Q=>r x y H Q\/j x y H Q):=by
 intro a b c s d H x y v u Q I f e q g;rcases q with q|q
 ·exact h a b c s d H x y v u Q I f e q g
 ·exact h' a b c s d H x y v u Q I f e q g
theorem ti{r:R2}(m:IxR X r)(l:PE X a ta)(n:PE X b tb)(o:Ky b):PE X (.Subscript a b pos) (MH r ta tb):=by
 intro c s d H Q I h;exact pU (MA l n I h λv u k x y e j g f q=>m a b c k d e x y v u Q j g f q (o _ _))
def Mj(K:b3):R2:=λx y H Q=>∃p xs i v,x = .ref p/\y = .int i/\SqL K H p xs/\Ic xs i=some v/\Q v H
def ME(K:b3):R2:=λx y H Q=>∃p xs i v,x = .ref p/\y = .int i/\SqT K H p xs/\Ic xs i=some v/\Q v H
def M3:R2:=λx y H Q=>∃z i c,x = .str z/\y = .int i/\z.length<=sizeLine/\Ic z.cps.toList i=some c/\Q (.str ⟨#[c]⟩) H
theorem tw:IxR X (Mj X.K):=by
 intro m l a s f H x y v u Q I o n h g;obtain⟨p,F,i,z,rfl,rfl,C,D,q⟩:=h
 cases o;obtain⟨t,rfl⟩:=n;obtain⟨k,r,c,E⟩:=I.list C;obtain⟨j,h1,h2,h3,h4,h5⟩:=zJ D;obtain⟨w,d,e⟩:=r.get h2;have B:=r.length;have G:=Hh;have fin:EP X a f Q w s:=⟨z,H,I,e,q⟩;by_cases h0:0<=i
 ·have b:i.toNat=j:=by
   rw[mQ h0 h5]at h1;exact Option.some.inj h1
  exact item_listR c.isList h0 (by omega) (by rw[b];simpa using d) fin g
 ·have b:(i+(k.toArray.size:Int)).toNat=j:=by
   rw[oi (by omega) h4]at h1;rw[cW,<-B];exact Option.some.inj h1
  exact jy (x:=w) c.isList.typeIs kP.lookup
   (wpAny_getItem_list_neg (Q:=λr A=>r=w/\EP X a f Q r A) c.isList (by omega) (by rw[cW] <;> omega) (by omega) (by rw[b];simpa using d) ⟨rfl,fin⟩) g
theorem tD:IxR X (ME X.K):=by
 intro f e a s d H x y v u Q I k g h o;obtain⟨p,E,i,z,rfl,rfl,A,B,q⟩:=h
 cases k;obtain⟨t,rfl⟩:=g;obtain⟨C,r,b,D⟩:=I.tuple A;obtain⟨j,h1,h2,h3,h4,h5⟩:=zJ B;obtain⟨w,l,c⟩:=r.get h2;have n:=r.length;have F:=Hh;have fin:EP X a d Q w s:=⟨z,H,I,c,q⟩;exact jy (x:=w) b.typeIs slot_tuple_getitem.lookup
  (getItem_tuple (j:=j) (Q:=λr m=>r=w/\EP X a d Q r m) b (by omega) (by omega) (by rw[cW,<-n];exact h1) (by simpa using l) ⟨rfl,fin⟩) o
theorem yG:IxR X M3:=by
 intro b a e s r H x y v u Q I g d h m;obtain⟨z,i,c,rfl,rfl,o,n,q⟩:=h;obtain⟨t,rfl⟩:=g;obtain⟨w,rfl⟩:=d;obtain⟨j,h1,h2,h3,h4,h5⟩:=zJ n;have l:z.cps.toList.length=z.length:=by simp[kf]
 rw[l]at h1 h4 h5;have p:=Hh;exact rK (nI s z t) oU.lookup (getItem_str (c:=c) (by
  have k:decide (i < -(2^63:Int))=false:=decide_eq_false (by omega);have f:decide (i>=2^63)=false:=decide_eq_false (by omega);rw[k,f,kZ]) (by rw[h1];simpa using h2) ⟨.str ⟨#[c]⟩,H,I.tok _,⟨_,rfl⟩,q⟩) m
def OA(K:b3):R2:=λx y H Q=>Mj K x y H Q\/ME K x y H Q\/M3 x y H Q
theorem Eb:IxR X (OA X.K):=tw.or (tD.or yG)
theorem A8(its:List cz)(n j:Nat)(u:cz):d7 (·.setIfInBounds j u) {cls:= .type "list",data:= .seq its.toArray n}={cls:= .type "list",data:= .seq (its.set j u).toArray n}:=by
 simp[d7]
theorem Inv.lst{a:List (cG×Obj)}{b:St}{H:Hp}{s:cC}{p:cG}{xs:List V}(I:Inv X a b H s)(h:H p=some (.lst xs)):
  ∃(its:List cz) (n:Nat),Vals xs its/\s.heap.get? p=some {cls:= .type "list",data:= .seq its.toArray n}/\xs.length<=sizeLine:=by
 obtain⟨z,its,n,r,e⟩:=I.hok p _ h
 exact⟨its,n,r,e,z⟩
theorem Inv.lstUpd{a:List (cG×Obj)}{d:St}{H:Hp}{s:cC}{p:cG}{xs ys:List V}{its its':List cz}{n c:Nat}{f:Obj->Obj}(I:Inv X a d H s)(h:H p=some (.lst xs))
  (k:s.heap.get? p=some {cls:= .type "list",data:= .seq its.toArray n})(g:f {cls:= .type "list",data:= .seq its.toArray n}={cls:= .type "list",data:= .seq its'.toArray c})(r:Vals ys its')(l:ys.length<=sizeLine)(t:Nat):
  Inv X a d (upd H p (.lst ys)) {s with heap:=s.heap.update p f,toks:=t}:=by
 have e:(s.heap.update p f).get? p=some {cls:= .type "list",data:= .seq its'.toArray c}:=by
  rw[eS f k (by rw[g] <;> rfl),g]
 refine I.write (x:=p) (e:=p) (by rw[h];trivial) (.inl rfl) (λb u j q=>(fx _ _ (Ne.symm j)).trans q) ⟨_,e⟩ ?_
 exact⟨l,its',c,r,e⟩
def Nn:V->V->V->Hp->(Hp->Prop)->Prop:=λo i v H Q=>∃p xs k j,o = .ref p/\i = .int k/\H p=some (.lst xs)/\KY xs.length k=some j/\Q (upd H p (.lst (xs.set j v)))
theorem wC:LS X Nn:=by
 intro b s x H o i v z B u Q I m y f h;obtain⟨p,w,k,j,rfl,rfl,hp,g,q⟩:=h
 cases m;obtain⟨t,rfl⟩:=y;obtain⟨a,n,r,d,l⟩:=I.lst hp;obtain⟨h1,h2,h3,h4⟩:=BB g;have c:=r.length;have A:=Hh;have e:Inv X b x (upd H p (.lst (w.set j v))) {s with heap:=s.heap.update p (d7 (·.setIfInBounds j u))}:=
  I.lstUpd hp d (A8 a n j u) (r.set f j) (by rw[gG];exact l) s.toks
 by_cases h0:0<=k
 ·have hk:k.toNat=j:=by
   rw[mQ h0 h4]at h1;exact Option.some.inj h1
  exact PySem.W.ki_setAt d h0 (by omega) (by rw[cW,<-c];exact h4) (by rw[hk];exact⟨_,e,q⟩)
 ·have hk:(k+(a.toArray.size:Int)).toNat=j:=by
   rw[oi (by omega) h3]at h1;rw[cW,<-c];exact Option.some.inj h1
  exact PySem.W.ki_setBack d (by omega) (by rw[cW,<-c];exact h3) (by omega) (by rw[hk];exact⟨_,e,q⟩)
theorem yO(lo a:Option Int)(n:Nat):(sliceBounds lo a none n).1=((HT.sIx n 0 lo:Nat):Int)/\(sliceBounds lo a none n).2.1=((HT.sIx n n a:Nat):Int)/\(sliceBounds lo a none n).2.2=1:=by
 refine⟨?_,?_,rfl⟩
 ·cases lo with
  | none=>simp[sliceBounds,HT.sIx]
  | some i=>
   simp only[sliceBounds,HT.sIx,lC,show(1:Int)>0 by decide,if_true];by_cases h:i<0
   ·simp only[h,if_true] <;> omega
   ·simp only[h,if_false] <;> omega
 ·cases a with
  | none=>simp[sliceBounds,HT.sIx]
  | some i=>
   simp only[sliceBounds,HT.sIx,lC,show(1:Int)>0 by decide,if_true];by_cases h:i<0
   ·simp only[h,if_true] <;> omega
   ·simp only[h,if_false] <;> omega
theorem xX(its:List cz)(lo a:Option Int):slicePick its.toArray lo a none=((its.drop (HT.sIx its.length 0 lo)).take (HT.sIx its.length its.length a-HT.sIx its.length 0 lo)).toArray:=by
 obtain⟨h1,h2,h3⟩:=yO lo a its.toArray.size;unfold slicePick;rw[h1,h2,h3];simp only[sliceRange_one,pick_run,cW] <;> rfl
def NG(K:b3):V->Option Int->Option Int->Hp->VK->Prop:=λx lo b H Q=>∃a xs,x = .ref a/\SqL K H a xs/\∀p,H p=none->Q (.ref p) (upd H p (.lst (Ha xs lo b)))
theorem wh:N0 X (NG X.K):=by
 intro g s z H x v w u lo e A Q I k p l m h;obtain⟨a,c,rfl,n,q⟩:=h
 cases k;obtain⟨t,r,f,j⟩:=I.list n;have d:=r.length;refine⟨"list",_,kP.lookup,f.isList.typeIs,?_⟩;refine k6 f.isList p l m .none (by simp) ?_ (by rw[cW] <;> omega);rw[xX,<-d];refine⟨.ref s.heap.objs.size,_,I.laid (t':=s.toks) (o:= .lst (Ha c lo e)) (λb y q=>cF _ q) (cI _) ?_,rfl,q _ (I.hok.fresh (cI _))⟩;exact⟨cO (w4 c lo e) j,_,0,(r.drop (HT.sIx c.length 0 lo)).take (HT.sIx c.length c.length e-HT.sIx c.length 0 lo),cP _ rfl⟩
def Hm:V->Bool
 | .non=>true
 | .bl _=>true
 | .int _=>true
 | .str _=>true
 | _=>false
def K5:V->V->Bool
 | .non,.non=>true
 | .bl a,.bl b=>a==b
 | .bl a,.int b=>(if a then 1 else 0)==b
 | .int a,.bl b=>a==(if b then 1 else 0)
 | .int a,.int b=>a==b
 | .str a,.str b=>a==b
 | _,_=>false
theorem Ft{A:dD}{s:cC}{y x:V}{u v:cz}(e:RelV y u)(c:RelV x v)(g:Hm y=true)(f:Hm x=true):sv A s u v (K5 y x):=by
 cases y with
 | non=>
  cases e
  cases x with
  | non=>cases c;exact sM _
  | bl b=>cases c;exact rL b
  | int b=>obtain⟨t,rfl⟩:=c;exact rW b t
  | str b=>obtain⟨t,rfl⟩:=c;exact rX b t
  | _=>exact absurd (show false=true from f) dj
 | bl a=>
  cases e
  cases x with
  | non=>cases c;exact rM a
  | bl b=>cases c;exact rN a b
  | int b=>obtain⟨t,rfl⟩:=c;exact rY a b t
  | str b=>obtain⟨t,rfl⟩:=c;exact rZ a b t
  | _=>exact absurd (show false=true from f) dj
 | int a=>
  obtain⟨d,rfl⟩:=e
  cases x with
  | non=>cases c;exact sd a d
  | bl b=>cases c;exact sf a d b
  | int b=>obtain⟨t,rfl⟩:=c;exact sw a d b t
  | str b=>obtain⟨t,rfl⟩:=c;exact nC a d b t
  | _=>exact absurd (show false=true from f) dj
 | str a=>
  obtain⟨d,rfl⟩:=e
  cases x with
  | non=>cases c;exact sh a d
  | bl b=>cases c;exact si a d b
  | int b=>obtain⟨t,rfl⟩:=c;exact nD a d b t
  | str b=>obtain⟨t,rfl⟩:=c;exact sx a d b t
  | _=>exact absurd (show false=true from f) dj
 | _=>exact absurd (show false=true from g) dj
def Ki(x:V)(u:cz):Bool:=match u with
 | .none=>K5 .non x
 | .bool b=>K5 (.bl b) x
 | .int i _=>K5 (.int i) x
 | .str z _=>K5 (.str z) x
 | _=>false
theorem Eh{x y:V}{u:cz}(r:RelV y u)(f:Hm y=true):Ki x u=K5 y x:=by
 cases y with
 | non=>cases r;rfl
 | bl b=>cases r;rfl
 | int i=>obtain⟨t,rfl⟩:=r;rfl
 | str z=>obtain⟨t,rfl⟩:=r;rfl
 | _=>exact absurd (show false=true from f) dj
theorem wL{x:V}:∀{xs:List V} {us:List cz},Vals xs us->xs.all Hm=true->us.any (Ki x)=xs.any λy=>K5 y x
 | _,_,.nil,_=>rfl
 | y::xs,u::us,.cons r t,f=>by
  rw[qM,dt]at f
  rw[ig,ig,Eh r f.1,wL t f.2]
theorem vN{A:dD}{s:cC}{x:V}{v:cz}(c:RelV x v)(b:Hm x=true):∀{xs:List V} {us:List cz},Vals xs us->xs.all Hm=true->∀u∈us,sv A s u v (Ki x u)
 | _,_,.nil,_=>λu a=>by cases a
 | y::xs,u::us,.cons r t,f=>λd a=>by
  rw[qM,dt]at f
  rcases da.mp a with rfl|a
  ·rw[Eh r f.1];exact Ft r c f.1 b
  ·exact vN c b t f.2 d a
def Js(x:V)(xs:List V):Bool:=xs.any λy=>K5 y x
def NF(K:b3)(a:Bool):R2:=λx y H Q=>∃p xs,y = .ref p/\(SqL K H p xs\/SqT K H p xs)/\Hm x=true/\xs.all Hm=true/\Q (.bl (if a then !Js x xs else Js x xs)) H
theorem zn:Hb X (compareOp .In) (NF X.K false):=by
 intro k s n H x y v u Q I f j h;obtain⟨p,m,rfl,b,g,c,q⟩:=h
 cases j;rcases b with b|b
 ·obtain⟨a,r,d,l⟩:=I.list b;refine SeqAt.in_listAt (Ki x) d.isList (λw e=>vN f g r c w (by simpa using e)) ⟨.bl _,H,I,rfl,?_⟩;rw[show a.toArray.any (Ki x)=a.any (Ki x)by simp,wL r c];exact q
 ·obtain⟨a,r,d,l⟩:=I.tuple b;refine SeqAt.in_tupleAt (Ki x) d (λw e=>vN f g r c w (by simpa using e)) ⟨.bl _,H,I,rfl,?_⟩;rw[show a.toArray.any (Ki x)=a.any (Ki x)by simp,wL r c];exact q
theorem uC:Hb X (compareOp .NotIn) (NF X.K true):=by
 intro k s n H x y v u Q I f j h;obtain⟨p,m,rfl,b,g,c,q⟩:=h
 cases j;rcases b with b|b
 ·obtain⟨a,r,d,l⟩:=I.list b;refine SeqAt.notIn_listAt (Ki x) d.isList (λw e=>vN f g r c w (by simpa using e)) ⟨.bl _,H,I,rfl,?_⟩;rw[show a.toArray.any (Ki x)=a.any (Ki x)by simp,wL r c];exact q
 ·obtain⟨a,r,d,l⟩:=I.tuple b;refine SeqAt.notIn_tupleAt (Ki x) d (λw e=>vN f g r c w (by simpa using e)) ⟨.bl _,H,I,rfl,?_⟩;rw[show a.toArray.any (Ki x)=a.any (Ki x)by simp,wL r c];exact q
theorem tm:GH X (.builtin "len") (λxs H Q=>∃p ys,xs=[.ref p]/\(SqL X.K H p ys\/SqT X.K H p ys)/\Q (.int ys.length) H):=by
 intro f s m H xs k Q I r h;obtain⟨p,ys,rfl,b,q⟩:=h;obtain⟨u,rfl,j⟩:=GT r
 cases j;have l:=Hh;rcases b with b|b
 ·obtain⟨e,c,d,g⟩:=I.list b;have a:=c.length;exact Calls.call_len_list d.isList (by simp only[cW] <;> omega) ⟨.int ys.length,H,I.tok _,⟨s.toks+1,by rw[cW,a]⟩,q⟩
 ·obtain⟨e,c,d,g⟩:=I.tuple b;have a:=c.length;exact len_tuple d (by simp only[cW] <;> omega) ⟨.int ys.length,H,I.tok _,⟨s.toks+1,by rw[cW,a]⟩,q⟩
theorem vi:GH X (.builtin "len") (λxs H Q=>∃z,xs=[.str z]/\z.length<=sizeLine/\Q (.int z.length) H):=by
 intro a s c H xs b Q I r h;obtain⟨z,rfl,e,q⟩:=h;obtain⟨u,rfl,t,rfl⟩:=GT r;have d:=Hh;exact len_str (by omega) ⟨.int z.length,H,I.tok _,⟨_,rfl⟩,q⟩
theorem uf:GH X (.type "list") (λxs H Q=>∃p ys,xs=[.ref p]/\(SqL X.K H p ys\/SqT X.K H p ys)/\∀l,H l=none->Q (.ref l) (upd H l (.lst ys))):=by
 intro m s B H xs C Q I r h;obtain⟨p,ys,rfl,k,q⟩:=h;obtain⟨u,rfl,A⟩:=GT r
 cases A;have fin:∀(a:List cz),Vals ys a->ys.length<=sizeLine->∀(c:Heap) (f:Nat),(∀b o',s.heap.get? b=some o'->c.get? b=some o')->
   c.get? s.heap.objs.size=some {cls:= .type "list",dict:=none,data:= .seq a.toArray f,slots:= #[]}->EP X m B Q (.ref s.heap.objs.size) {s with heap:=c}:=λa d g c f j e=>
  ⟨.ref s.heap.objs.size,_,I.laid (t':=s.toks) j (cI _) (show ObjOk X.prog X.w _ c _ (.lst ys)from⟨g,a,f,d,e⟩),rfl,q _ (I.hok.fresh (cI _))⟩
 rcases k with k|k
 ·obtain⟨a,d,v,g⟩:=I.list k;have t:=d.length;obtain⟨o,z,y,n,x⟩:=v.isList;exact qO p (.inl rfl) z y x (λc f j e=>fin a d g c f j e) (by simp only[cW] <;> omega)
 ·obtain⟨a,d,v,g⟩:=I.tuple k;have t:=d.length;obtain⟨o,z,y,n,x⟩:=v;exact qO p (.inr rfl) z y x (λc f j e=>fin a d g c f j e) (by simp only[cW] <;> omega)
theorem ux:GH X (.type "tuple") (λxs H Q=>∃p ys,xs=[.ref p]/\((SqL X.K H p ys/\∀l,H l=none->Q (.ref l) (upd H l (.tup ys)))\/(SqT X.K H p ys/\Q (.ref p) H))):=by
 intro a s n H xs z Q I r h;obtain⟨p,ys,rfl,h⟩:=h;obtain⟨u,rfl,x⟩:=GT r
 cases x;rcases h with⟨j,q⟩|⟨j,q⟩
 ·obtain⟨c,f,g,m⟩:=I.list j;have v:=f.length;refine pA g.isList (λd y=>?_) (by simp only[cW] <;> omega);have k:Inv X a n H {s with heap:=d}:=I.kept (t':=s.toks) y;have t:Inv X a n (upd H d.objs.size (.tup ys)) {s with heap:=d.push {cls:= .type "tuple",data:= .seq c.toArray}}:=
   k.laid (t':=s.toks) (λb o e=>cF _ e) (cI _) (show ObjOk X.prog X.w _ _ _ (.tup ys)from⟨m,c,f,rd _ _⟩)
  exact⟨.ref d.objs.size,_,t,rfl,q _ (k.hok.fresh (cI _))⟩
 ·obtain⟨c,f,g,m⟩:=I.tuple j;exact call_tuple_same g ⟨.ref p,H,I,rfl,q⟩
def NT(K:b3)(T:String)(x:V)(H:Hp):Prop:=match x with
 | .str _=>T="str"
 | .int _=>T="int"
 | .ref p=>(T="list"/\∃xs,SqL K H p xs)\/(T="tuple"/\∃o,K.lookup p=some o/\o.cls = .type "tuple"/\o.dict=none)\/
   (T="dict"/\((∃kvs,H p=some (.dK kvs))\/∃kvs,H p=some (.dT kvs)))\/(T="set"/\∃S n,H p=some (.set S n))
 | _=>False
theorem D4{g:List (cG×Obj)}{m:St}{H:Hp}{s:cC}{T:String}{x:V}{v:cz}(I:Inv X g m H s)(r:RelV x v)(ty:NT X.K T x H):
  s.TypeIs v T/\∀a,v = .ref a->∃ob,s.heap.get? a=some ob/\ob.dict=none:=by
 cases x with
 | str z=>
  obtain⟨t,rfl⟩:=r
  cases(show T="str"from ty)
  exact⟨nI s z t,λ_ e=>nomatch e⟩
 | int i=>
  obtain⟨t,rfl⟩:=r
  cases(show T="int"from ty)
  exact⟨typeIs_int s i t,λ_ e=>nomatch e⟩
 | ref p=>
  cases r
  rcases ty with⟨rfl,u,l⟩|⟨rfl,o,hk,k,f⟩|⟨rfl,hk⟩|⟨rfl,S,n,hk⟩
  ·obtain⟨q,_,h,_⟩:=I.list l
   refine⟨h.isList.typeIs,λa e=>?_⟩
   cases e
   obtain⟨o,n,e,c,f,_⟩:=h
   exact⟨o,e,f⟩
  ·refine⟨⟨o,I.kIn p o hk,k⟩,λa e=>?_⟩
   cases e
   exact⟨o,I.kIn _ o hk,f⟩
  ·have z:∃o,s.heap.get? p=some o/\o.ExactDict:=by
    rcases hk with⟨j,hk⟩|⟨j,hk⟩
    ·obtain⟨_,_,_,_,o,_,_,e,b,_⟩:=I.hok p _ hk
     exact⟨o,e,b⟩
    ·obtain⟨_,_,_,_,o,_,_,e,b,_⟩:=I.hok p _ hk
     exact⟨o,e,b⟩
   obtain⟨o,e,b⟩:=z
   refine⟨⟨o,e,b.1⟩,λa d=>?_⟩
   cases d
   exact⟨o,e,b.2.1⟩
  ·obtain⟨o,_,_,_,e,b,_⟩:=I.hok p _ hk
   refine⟨⟨o,e,b.1⟩,λa d=>?_⟩
   cases d
   exact⟨o,e,b.2.1⟩
 | _=>exact eI ty
def NO(K:b3)(T:String)(r:V->List V->Hp->VK->Prop)(c:TE):TE:=λb H Q=>c b H λx a=>NT K T x a/\r x [] a Q
def Op(K:b3)(T:String)(r:V->List V->Hp->VK->Prop)(e:TE)(t:TA):TE:=λa H Q=>e a H λx b=>NT K T x b/\t a b λd c=>r x d c Q
variable{o e:Expr}{es:List Expr}{to:TE}{t:TA}{name:Str}{apos cpos:Pos}{T id:String}{r:V->List V->Hp->VK->Prop}
theorem FI(q:PlainAttrs T)(slot:Slot T name id)(g:typeOf (.builtin id)=pure (.type "method_descriptor"))(p:MJ X id r)(n:PE X o to)
  (b:attributeBase o name X.env (eval o X.env)=eval o X.env:=by rfl)(c:(apos.endLine==cpos.line)=true:=by rfl):PE X (.Call (.Attribute o name apos) [] [] cpos) (NO X.K T r to):=by
 intro a s d H Q I h
 refine lD b c (Gh (n a s d H _ I h) λv k ⟨x,l,f,e,m,j⟩=>?_)
 obtain⟨h1,h2⟩:=D4 f e m
 exact⟨T,id,q,slot,g,h1,h2,gM rfl (m9 (p a k d l x [] v [] Q f e .nil j))⟩
theorem uF(E:PlainAttrs T)(slot:Slot T name id)(l:typeOf (.builtin id)=pure (.type "method_descriptor"))(D:MJ X id r)(C:PE X o to)(F:PA X (e::es) t)
  (c:attributeBase o name X.env (eval o X.env)=eval o X.env:=by rfl)
  (g:((backTo cpos (dq (e::es) X.env)).all (λx=>!x.1)&&(backToKw cpos (keywordEach [] X.env)).all (λx=>x.1.isSome)
   && decide ((e::es).length+([]:List Keyword).length+(if([]:List Keyword).isEmpty then 0 else 1)<30))=true:=by rfl)
  (d:(apos.endLine==cpos.line)=true:=by rfl)(G:dq (e::es) X.env=(false,eval e X.env)::dq es X.env:=by rfl)(b:(backTo cpos (dq es X.env)).any (·.1)=false:=by rfl):
  PE X (.Call (.Attribute o name apos) (e::es) [] cpos) (Op X.K T r to t):=by
 intro a s f H Q I h
 refine wpAny_Call_method_late c g d rfl (Gh (C a s f H _ I h) λv u ⟨x,p,j,k,w,B⟩=>?_)
 obtain⟨h1,h2⟩:=D4 j k w
 refine⟨T,id,E,slot,l,h1,h2,?_⟩
 have hA:=F cpos a u f p _ j B
 rw[G]at hA ⊢
 refine gM (by show(false||(backTo cpos (dq es X.env)).any (·.1))=false;rw[b] <;> rfl) (iU ?_)
 exact Gh hA λm A ⟨vs,n,q,y,z⟩=>D a A f n x vs v m Q q k y z
end
def LC(X:Cx)(id:String)(r:V->List V->Hp->VK->Prop):Prop:=
 ∀(pins:List (cG×Obj)) (s:cC) (σ:St) (H:Hp) (x:V) (xs:List V) (v:cz) (us:List cz) (Q:VK),Inv X pins σ H s->RelV x v->Vals xs us->r x xs H Q->
  wpAny (model X.prog X.w) X.A (call (.builtin id) (v::us)) (EP X pins σ Q) X.xe s
theorem Vals.one:∀{x:V} {us:List cz},Vals [x] us->∃u,us=[u]/\RelV x u
 | _,_,.cons r .nil=>⟨_,rfl,r⟩
theorem Vals.two:∀{x y:V} {us:List cz},Vals [x,y] us->∃u v,us=[u,v]/\RelV x u/\RelV y v
 | _,_,_,.cons r (.cons q .nil)=>⟨_,_,rfl,r,q⟩
theorem Vals.zero:∀{us:List cz},Vals [] us->us=[]
 | _,.nil=>rfl
theorem Vals.dropLast{xs:List V}{us:List cz}(h:Vals xs us):Vals xs.dropLast us.dropLast:=by
 induction h with
 | nil=>exact .nil
 | cons r t a=>
  cases t with
  | nil=>exact .nil
  | cons q b=>exact .cons r a
theorem Vals.eraseIdx:∀{xs:List V} {us:List cz} (i:Nat),Vals xs us->Vals (xs.eraseIdx i) (us.eraseIdx i)
 | _,_,_,.nil=> .nil
 | _,_,0,.cons _ t=>t
 | _,_,i+1,.cons r t=> .cons r (Vals.eraseIdx i t)
theorem AD{d:Type}(l:List d):l.eraseIdx (l.length-1)=l.dropLast:=by
 induction l with
 | nil=>rfl
 | cons a r c=>
  cases r with
  | nil=>rfl
  | cons b r=>
   have e:(a::b::r).length-1=((b::r).length-1)+1:=by
    have h1:(a::b::r).length=r.length+2:=rfl;have h2:(b::r).length=r.length+1:=rfl;omega
   rw[e,List.eraseIdx_cons_succ,c]
   all_goals rfl
theorem zf{a:Type}:∀(l:List a) (i:Nat),(l.eraseIdx i).length<=l.length
 | [],_=>cI _
 | _::_,0=>d6 _
 | _::r,i+1=>dS (zf r i)
section
variable{X:Cx}{pins:List (cG×Obj)}{σ:St}{H:Hp}{s:cC}{l b:cG}{xs ys zs:List V}
theorem Inv.lset{its its':List cz}{n:Nat}{f:Array cz->Array cz}{t':Nat}(I:Inv X pins σ H s)(c:H l=some (.lst xs))
  (e:s.heap.get? l=some {cls:= .type "list",data:= .seq its.toArray n})(d:f its.toArray=its'.toArray)(h:Vals ys its')(g:ys.length<=sizeLine):
  Inv X pins σ (upd H l (.lst ys)) {s with heap:=s.heap.update l (d7 f),toks:=t'}:=by
 have q:=ik e f
 rw[d]at q
 refine I.write (x:=l) (e:=l) (by rw[c];exact trivial) (.inl rfl) (λj u a b=>(fx s.heap (d7 f) (Ne.symm a)).trans b) ⟨_,q⟩ ?_
 exact⟨g,its',_,h,q⟩
theorem Inv.lnew{its:List cz}{t':Nat}(I:Inv X pins σ H s)(b:Vals ys its)(a:ys.length<=sizeLine):
  Inv X pins σ (upd H s.heap.objs.size (.lst ys)) {s with heap:=s.heap.push {cls:= .type "list",data:= .seq its.toArray},toks:=t'}:=
 I.laid (λ_ _ q=>cF _ q) (cI _) ⟨a,its,0,b,cP _ rfl⟩
theorem Inv.fresh(I:Inv X pins σ H s):H s.heap.objs.size=none:=I.hok.fresh (cI _)
theorem Inv.lstM(I:Inv X pins σ H s)(a:H l=some (.lst xs)):xs.length<=sizeLine/\∃(its:List cz) (n:Nat),Vals xs its/\xs.length=its.length/\s.heap.get? l=some {cls:= .type "list",data:= .seq its.toArray n}:=by
 obtain⟨z,its,n,r,e⟩:=I.hok l _ a;exact⟨z,its,n,r,r.length,e⟩
theorem Lw{n:Nat}(h:n<=sizeLine):jj n=false:=by
 unfold jj;exact decide_eq_false (by omega)
end
section
variable{X:Cx}
def LP:V->List V->Hp->VK->Prop:=λx vs H Q=>∃l xs y,x = .ref l/\vs=[y]/\H l=some (.lst xs)/\xs.length<sizeLine/\Q .non (upd H l (.lst (xs++[y])))
theorem tL:LC X "list.append" LP:=by
 intro d s o H x vs v j Q I f c h;obtain⟨l,m,y,rfl,rfl,b,k,q⟩:=h
 cases f;obtain⟨u,rfl,g⟩:=c.one;obtain⟨z,a,n,r,p,e⟩:=I.lstM b;refine gH dB ⟨_,e,rfl⟩ na (mR _ _) (oj l a.toArray n u (by rw[cW];omega)) ⟨e,?_⟩;refine⟨.non,_,I.lset (its':=a++[u]) b e (by simp) (r.append (.cons g .nil)) ?_,rfl,q⟩;rw[de,eo];omega
def LR:V->List V->Hp->VK->Prop:=λx vs H Q=>∃l b xs zs,x = .ref l/\vs=[.ref b]/\H l=some (.lst xs)/\H b=some (.lst zs)/\xs.length+zs.length<=sizeLine/\Q .non (upd H l (.lst (xs++zs)))
theorem mt_extend:LC X "list.extend" LR:=by
 intro k s J H x vs v B Q I o j h;obtain⟨l,b,G,E,rfl,rfl,g,p,D,q⟩:=h
 cases o;obtain⟨u,rfl,y⟩:=j.one
 cases y;obtain⟨z,c,n,r,L,e⟩:=I.lstM g;obtain⟨C,a,t,w,A,m⟩:=I.lstM p;have f:c.toArray.size+a.toArray.size<=sizeLine:=by rw[cW,cW];omega
 have d:¬(!c.toArray.isEmpty&&jj (c.toArray.size+a.toArray.size))=true:=by
  rw[Lw f,kg];exact dj
 refine gH F.slot_list_extend ⟨_,e,rfl⟩ F.entry_list_extend (F.args_list_extend_2 _ _)
  (AutoSeq1.list_extend_list_list_0 l c.toArray n b a.toArray t d (by rw[cW];omega) (by omega)) ⟨e,m,?_⟩
 refine⟨.non,_,I.lset (its':=c++a) g e (by simp) (r.append w) ?_,rfl,q⟩;rw[de];omega
def NR:V->List V->Hp->VK->Prop:=λx vs H Q=>∃l xs y,x = .ref l/\vs=[]/\H l=some (.lst xs)/\xs[xs.length-1]?=some y/\Q y (upd H l (.lst xs.dropLast))
theorem mt_pop:LC X "list.pop" NR:=by
 intro j s A H x vs v t Q I k g h;obtain⟨l,w,y,rfl,rfl,d,o,q⟩:=h
 cases k;have b:=g.zero;subst b;obtain⟨z,a,n,r,m,e⟩:=I.lstM d;obtain⟨u,f,p⟩:=r.get o;have c:a.toArray[a.toArray.size-1]?=some u:=by
  show a.toArray[a.length-1]?=some u;rw[<-fZ,<-m];exact f
 refine gH pB ⟨_,e,rfl⟩ oV (F.args_list_pop_1 _) (MeetsSeq.list_pop_last l a.toArray n u c (by rw[cW];omega)) ⟨e,?_⟩;refine⟨y,_,I.lset (its':=a.dropLast) d e ?_ r.dropLast ?_,p,q⟩
 ·show a.toArray.eraseIdxIfInBounds (a.toArray.size-1)=a.dropLast.toArray;rw[cW,jJ,AD]
 ·rw[jS];omega
def Mz:V->List V->Hp->VK->Prop:=λx vs H Q=>∃l xs i k y,x = .ref l/\vs=[.int i]/\H l=some (.lst xs)/\ -(2^63)<=i/\i<2^63/\seqIndex? i xs.length=some k/\xs[k]?=some y/\Q y (upd H l (.lst (xs.eraseIdx k)))
theorem Dz:LC X "list.pop" Mz:=by
 intro f s C H x vs v B Q I j d h;obtain⟨l,g,i,k,y,rfl,rfl,b,h1,h2,hk,p,q⟩:=h
 cases j;obtain⟨u,rfl,A⟩:=d.one;obtain⟨t,rfl⟩:=A;obtain⟨z,a,n,r,o,e⟩:=I.lstM b;obtain⟨w,m,c⟩:=r.get p;refine gH pB ⟨_,e,rfl⟩ oV (F.args_list_pop_2 _ _)
  (MeetsSeq.list_pop_at l a.toArray n i t k w (fitsIndex_both h1 h2) (by rw[cW,<-o];exact hk) (by rw[<-fZ];exact m) (by rw[cW];omega)) ⟨e,?_⟩
 refine⟨y,_,I.lset (its':=a.eraseIdx k) b e ?_ (r.eraseIdx k) ?_,c,q⟩
 ·show a.toArray.eraseIdxIfInBounds k=(a.eraseIdx k).toArray;rw[jJ]
 ·have:=zf g k;omega
def Mx:V->List V->Hp->VK->Prop:=λx vs H Q=>∃l xs,x = .ref l/\vs=[]/\H l=some (.lst xs)/\Q .non (upd H l (.lst []))
theorem DB:LC X "list.clear" Mx:=by
 intro f s m H x vs v j Q I g d h;obtain⟨l,k,rfl,rfl,b,q⟩:=h
 cases g;have a:=d.zero;subst a;obtain⟨z,c,n,r,o,e⟩:=I.lstM b;refine gH F.slot_list_clear ⟨_,e,rfl⟩ F.entry_list_clear (F.args_list_clear_1 _) (AutoSeq1.list_clear_list_0 l c.toArray n (by rw[cW];omega)) ⟨e,?_⟩;exact⟨.non,_,I.lset (its':=[]) (ys:=[]) b e rfl .nil (dz _),rfl,q⟩
def NZ:R2:=λx y H Q=>∃l b xs zs,x = .ref l/\y = .ref b/\H l=some (.lst xs)/\H b=some (.lst zs)/\xs.length+zs.length<=sizeLine/\∀p,H p=none->Q (.ref p) (upd H p (.lst (xs++zs)))
theorem y4:Hb X (binaryOp .Add) NZ:=by
 intro f s E H x y v u Q I j d h;obtain⟨l,b,C,B,rfl,rfl,p,m,A,q⟩:=h
 cases j
 cases d;obtain⟨z,c,n,r,F,e⟩:=I.lstM p;obtain⟨w,a,D,o,t,g⟩:=I.lstM m;refine PySem.P.add_list e g ?_ (by rw[cW,cW];omega);have k:c.toArray++a.toArray=(c++a).toArray:=by simp
 rw[k];exact⟨.ref _,_,I.lnew (t':=s.toks) (r.append o) (by rw[de];omega),rfl,q _ I.fresh⟩
end
end L2
namespace Att
open PySem PySem.W PySem.Calls PyProof.Rows
theorem xb{P:Params}{h:Heap}:∀(ns:List Int) (vs:List cz),WellAll P h vs (ns.map sJ)->IntsAre vs ns:=by
 intro ns
 induction ns with
 | nil=>
  intro vs w;rw[List.map_nil]at w
  cases w;exact .nil
 | cons n ns c=>
  intro vs w;rw[d2]at w
  cases w with
  | cons a b=>
   cases a;exact .cons _ _ (c _ b)
theorem BV{l:OpenLaw}{n:Nat}(s:l.most=some n){P:Params}{h:Heap}{args:List WData}{c:List cz}
  (b:l.row.toRowW.claim.pre args=true)(j:WellAll P h c args):
  ∃a vs ns,c=[cQ a]/\args=[WData.list (ns.map sJ)]/\h.get? a=some {cls:= .type "list",data:= .seq vs.toArray}/\IntsAre vs ns/\ns.length<=n:=by
 have f:WShape.hasAll [] args [.list .int]=true:=(pre_splitW b).1
 have g:l.pre.holds [] {args:=args}=true:=(pre_splitW b).2
 obtain⟨d,r,rfl,h1,h2⟩:=hasAllW_cons f
 obtain rfl:=hasAllW_nil h2
 obtain⟨t,rfl,h3⟩:=hasW_list h1
 obtain⟨ns,rfl⟩:=items_int h3
 have e:ns.length<=n:=by
  unfold OpenLaw.pre at g
  have h4:(WTm.not (.lt (.lit (.int (n:Int))) (.len (.arg 0)))).holds [] {args:=[.list (ns.map .int)]}=true:=by
   have h4:=(holds_andW g).1
   rw[s]at h4
   exact h4
  have h5:=condW_of h4 (w_not (w_lt w_lit (w_len_list (w_arg rfl))))
  rw[cx]at h5
  refine fh λq=>?_
  have o:(n:Int)<((ns.length:Nat):Int):=by omega
  first
   | (rw[decide_eq_true o]at h5;exact absurd h5 (by decide))
   | (simp at h5;omega)
 cases j with
 | cons k m=>
  cases m
  cases k with
  | list p hall=>exact⟨_,_,ns,rfl,rfl,p,xb ns _ hall,e⟩
theorem B5(l:OpenLaw)(args:List WData):l.row.toRowW.claim.post args (.bool true) args=true:=
 postW_of (r:=l.row.toRowW) (X:=(true==true))
  (show sy [] (.bool true) .bool=true by first|rfl|decide|simp[sy,WShape.arms,WShape.armsAll])
  (show(WTm.eq .res (.lit (.bool true))).value [] {args:=args,res:=some (.bool true),after:=args}=some (.bool (true==true))from w_eq_bool (w_res rfl) w_lit) rfl
theorem attach_call{l:OpenLaw}{n:Nat}{q:cY}{loose:List Str}{XP:(Str->Option cz)->Heap->Prop}{YP:dn->Heap->Prop}{d:DefRec}
  (D:l.most=some n)(s:d.params.defaults=[])
  (h:∀(w:dn) (s₀ s₁:cC) (mg mb:Str->Option cz) (fa:cG) (o:Obj) (pm cd doc:cz) (a:cG) (vs:List cz) (ns:List Int),
   Ground q loose [] XP w s₀ mg mb s₁.heap->YP w s₁.heap->
   s₁.heap.get? fa=some o->o.data = .func (docDef d.name d.params d.body d.scope pm cd doc)->s₁.heap.CodeRec cd d.name->mg d.name=some (.ref fa)->
   s₁.heap.get? a=some {cls:= .type "list",data:= .seq vs.toArray}->IntsAre vs ns->ns.length<=n->s₁.gens = #[]->
   codeAny (model l.prog w) callerA (.call (.ref fa) ⟨[.ref a],[]⟩) (λr s'=>r = .ok (.ret (.bool true))/\OldK s₁.heap s'.heap/\s'.os=s₁.os/\AllBare s'.gens) s₁):
  WalkO q loose XP YP l.row.toRowW d [] (λf vs=>pV f vs):=by
 intro w s₀ s₁ mg mb G Y fa o pm cd doc u kV A v k m p x C z as e t E j F
 obtain rfl:u = .none:=Dflts.none m s
 obtain rfl:kV = .none:=Dflts.noKw m
 obtain⟨a,vs,ns,rfl,rfl,g,b,c⟩:=BV D e j
 refine enter_call (iy (h w s₀ s₁ mg mb fa o pm cd doc a vs ns G Y A (fd_plain v) k p g b c x) λr s' B=>?_)
 obtain⟨rfl,h2,h3,h4⟩:=B
 exact⟨.inl ⟨.bool true,.bool true,[],rfl,λ_=>rfl,.bool true,B5 l _,λ_=>⟨nu.nil,λ_ y=>(nomatch y)⟩⟩,h2,h3,h4⟩
end Att
namespace L2
open PySem PySem.Spec PyProof.Rows
theorem v7:∀{vs:List cz} {ns:List Int},IntsAre vs ns->Vals (ns.map V.int) vs
 | _,_,.nil=> .nil
 | _,_,.cons n t h=> .cons ⟨t,rfl⟩ (v7 h)
def Mt(H:Hp):Prop:=∀b,H b=none\/∃o xs,H b=some (.frz o (.lst xs))
theorem DM{P:cY}{w:dn}{K:b3}{mg O:Str->Option cz}{CX:Jd}{k:Nat}{M a:cG}{fd:FuncData}{x:Str}{sp:Sp}{c:cC}{vs:List cz}{ns:List Int}
  (KX:K.In c.heap)(E:c.heap.Ns fG mg)(f:c.heap.Ns builtinsNs O)(aa:∀x:Str,x≠"__name__"->O x=bootBuiltins x)(N:c.heap.NoLimit)(hg:c.gens = #[])
  (A:c.heap.get? a=some {cls:= .type "list",data:= .seq vs.toArray})(Y:IntsAre vs ns)(hl:ns.length<=sizeLine)(hr:Room k callerA)
  (F:∀base:Heap,K.In base->base.Ns fG mg->FnOk P w K mg base CX k M fd [x] sp)(B:∀(s:cC) (u:cz),BindsTo s fd ⟨[u],[]⟩ [(x,u)])
  (X:∀H:Hp,Mt H->SqL K H a (ns.map V.int)->sp [.ref a] H (λv _=>v = .bl true) λ_ _ _=>False)
  (Z:∀H e s',CX [] H c (λ_ _ _=>False) e s'->False):
  codeAny (model P w) callerA (.call (.ref M) ⟨[.ref a],[]⟩) (λr s'=>r = .ok (.ret (.bool true))/\OldK c.heap s'.heap/\s'.os=c.os/\AllBare s'.gens) c:=by
 have Q:=v7 Y
 have J:=Y.length
 have t:∀H:Hp,Mt H->SqL K H a (ns.map V.int)->HOk P w H c.heap->(∀b,H b≠none->b=a)->(H a≠none->K.lookup a=none)->
   codeAny (model P w) callerA (.call (.ref M) ⟨[.ref a],[]⟩) (λr s'=>r = .ok (.ret (.bool true))/\OldK c.heap s'.heap/\s'.os=c.os/\AllBare s'.gens) c:=by
  intro H S hS C hA hK
  have g:∀{b:cG} {o:Obj},c.heap.get? b=some o->H b=none->(Jn c.heap H).get? b=some o:=λe n=>DN e n
  have T:∀{b:cG} {o:Obj} {l:Array DictEntry} {p:Nat},c.heap.get? b=some o->o.data = .dict l p->H b=none:=λ {b o l p} e d=>by
   cases q:H b with
   | none=>rfl
   | some u=>
    have I:b=a:=hA b (by rw[q];simp)
    subst I
    rw[A]at e;cases e
    have d':iV vs.toArray _=Data.dict l p:=d
    cases d'
  have j:∀{b:cG} {m:Str->Option cz},c.heap.Ns b m->(Jn c.heap H).Ns b m:=λ {b m} ⟨o,l,p,e,d,r⟩=>⟨o,l,p,g e (T e d),d,r⟩
  have D:K.In (Jn c.heap H):=λb o e=>g (KX b o e) (by
   cases q:H b with
   | none=>rfl
   | some u=>
    have I:b=a:=hA b (by rw[q];simp)
    subst I
    rw[hK (by rw[q];simp)]at e;cases e)
  have hM:Mod K mg (Jn c.heap H):=⟨D,j E,⟨O,j f,aa⟩,let⟨mc,h1,h2⟩:=N;⟨mc,j h1,h2⟩⟩
  have e0:Env0 P w K mg (Jn c.heap H) callerA [] c H:=⟨rfl,hM,λb o e=>E4 e,gi (Cd _ _),trivial,λb f=>absurd (show b∈([]:List cG)from f) (by simp),C,.of_eq hg⟩
  refine iy ((F _ D (j E)).run callerA [] c H ⟨[.ref a],[]⟩ [.ref a] [.ref a] _ _ hr e0 (B c (.ref a)) (.cons rfl .nil) (X H S hS)) λr s' h=>?_
  cases r with
  | error e=>exact(Z H e s' h).elim
  | ok fl=>
   cases fl with
   | next=>exact eI h
   | brk=>exact eI h
   | cont=>exact eI h
   | ret u=>
    obtain⟨v,H',os,L,R,G,r',q⟩:=h
    have q':v = .bl true:=q
    subst q'
    obtain rfl:u=eH true:=r'
    refine⟨rfl,OldK.of_keep λb o e=>?_,os,L⟩
    cases q:H b with
    | none=>exact R.keep b o e q (by intro z;exact absurd (show b∈([]:List cG)from z) (by simp)) (by simp)
    | some u=>
     rcases S b with z|⟨ob,xs,z⟩
     ·rw[q]at z;cases z
     ·have z2:=R.frzs b ob _ z
      obtain⟨U,_⟩:=C b _ z
      obtain⟨e2,_⟩:=G b _ z2
      rw[e]at U;cases U
      exact e2
 cases hk:K.lookup a with
 | some o=>
  have e:=KX a o hk
  rw[A]at e
  cases e
  refine t (λ_=>none) (λ_=> .inl rfl) (.inr ⟨_,vs.toArray,_,hk,rfl,rfl,rfl,by rw[cW,J];exact hl,by simpa using Q⟩) (λb u z=>by have y:(none:Option HO)=some u:=z;cases y) (λb z=>absurd rfl z) λz=>absurd rfl z
 | none=>
  refine t (λb=>if b=a then some (.frz {cls:= .type "list",data:= .seq vs.toArray} (.lst (ns.map V.int)))else none) (λb=>?_) (.inl (.inr ⟨{cls:= .type "list",data:= .seq vs.toArray},if_pos rfl⟩)) (λb u z=>?_) (λb z=>?_) λ_=>hk
  ·by_cases f:b=a
   ·exact .inr ⟨_,_,if_pos f⟩
   ·exact .inl (if_neg f)
  ·by_cases f:b=a
   ·have y:=(if_pos f).symm.trans z
    cases y
    subst f
    exact⟨A,by rw[cx];exact hl,vs,_,Q,A⟩
   ·have y:=(if_neg f).symm.trans z
    cases y
  ·by_cases f:b=a
   ·exact f
   ·exact absurd (if_neg f) z
theorem walk_of{l:PySem.W.OpenLaw}{n k:Nat}{q:cY}{loose:List Str}{XP:(Str->Option cz)->Heap->Prop}{YP:dn->Heap->Prop}{d:DefRec}{K:Params->b3}{CX:dn->Jd}{sp:dn->Sp}{x:Str}
  (O:l.most=some n)(z:n<=sizeLine)(A:d.params.defaults=[])(M:Room k callerA)
  (N:∀(w:dn) (h:Heap),YP w h->(K w.params).In h)
  (F:∀(w:dn) (mg:Str->Option cz) (fa:cG) (h:Heap),(K w.params).In h->h.Ns fG mg->mg d.name=some (.ref fa)->
   ∃fd:FuncData,(∀(s:cC) (u:cz),BindsTo s fd ⟨[u],[]⟩ [(x,u)])/\
    ∀base:Heap,(K w.params).In base->base.Ns fG mg->FnOk l.prog w (K w.params) mg base (CX w) k fa fd [x] (sp w))
  (y:∀(w:dn) (H:Hp) (a:cG) (ns:List Int),ns.length<=n->Mt H->SqL (K w.params) H a (ns.map V.int)->sp w [.ref a] H (λv _=>v = .bl true) λ_ _ _=>False)
  (B:∀(w:dn) (H:Hp) (s:cC) (e:cz) (s':cC),CX w [] H s (λ_ _ _=>False) e s'->False):
  PySem.W.WalkO q loose XP YP l.row.toRowW d [] (λf vs=>pV f vs):=by
 refine Att.attach_call O A λw C m mg R fa o S X Q a vs ns G Y Z U P r p j c L=>?_
 have t:=N w _ Y
 obtain⟨fd,E,J⟩:=F w mg fa _ t G.T.g r
 exact DM t G.T.g G.T.b G.T.builtins G.T.nolimit L p j (cO c z) M J E (λH I D=>y w H a ns c I D) λH e s'=>B w H m e s'
def Gi(s:Stmt):Arguments:=match s with
 | .FunctionDef _ a _ _ _ _ _ _ _ _=>a
 | _=>{posonlyargs:=[],args:=[],vararg:=none,kwonlyargs:=[],kw_defaults:=[],kwarg:=none,defaults:=[]}
def Gc(s:Stmt):List Stmt:=match s with
 | .FunctionDef _ _ b _ _ _ _ _ _ _=>b
 | _=>[]
def F3(s:Stmt):Scope:=match s with
 | .FunctionDef _ _ _ _ _ _ a _ _ _=>a
 | _=>{kind:= .function,names:=[],isGenerator:=false,isCoroutine:=false}
abbrev Ge:Jd:=λ_ _ _ _ _ _=>False
abbrev E0:XK:=λ_ _ _=>False
theorem F9{X:Cx}:GF Ge X E0:=λ_ _ _ _ _ _ _ h=>h.elim
structure Fun(K:b3)(x qual:Str)(st:Stmt)(f:cG)(fd:FuncData):Prop where
 ex:∃(oc:cz) (od:Option cG) (kV doc pm:cz) (an:Option cG) (cdv ct:cz) (osl:Array (Option cz)),
  fd=gl x qual (Gi st) (Gc st) (F3 st) .none kV doc pm an cdv ct/\K.lookup f=some ⟨oc,od,.func fd,osl⟩/\mP K cdv qual=true
 kp:iT K (.ref f)=true
section
variable{P:cY}{w:dn}{K:b3}{mg:Str->Option cz}{base:Heap}
theorem Fun.ok{x qual:Str}{st:Stmt}{f:cG}{d:FuncData}{N ps:List Str}{k:Nat}{sp:Sp}(F:Fun K x qual st f d)(S:F6 N ps (F3 st))(e:∀vs H Q E,sp vs H Q E->vs.length=ps.length)
  (a:∀(cdv:cz) (A:dD) (outer:List Env) (s:cC) (H:Hp) (vs:List V) (Q:VK) (E:XK),Room k (A.deeper (envOfC qual (F3 st) s.heap.objs.size f cdv))->sp vs H Q E->
   ∃t,PSs (IN Ge P w K mg base N qual (F3 st) f cdv A outer s H E).nox (Gc st) t/\t {nx:=λ_ H'=>Q .non H',rt:=Q} (start N vs) H):FnOk P w K mg base Ge (k+1) f d ps sp:=by
 obtain⟨m,r,kV,l,n,p,cdv,o,j,rfl,lk,c⟩:=F.ex
 refine Dx lk c S e λA outer s H vs Q E g b=>?_
 obtain⟨t,h,q⟩:=a cdv A outer s H vs Q E g b
 exact⟨t,h.nox,q⟩
theorem Fun.binds{x qual:Str}{st:Stmt}{f:cG}{a:FuncData}{ps:List Str}(F:Fun K x qual st f a)
  (h:∀(kV doc pm:cz) (an:Option cG) (cdv ct:cz) (us:List cz),us.length=ps.length->bindArgs (gl x qual (Gi st) (Gc st) (F3 st) .none kV doc pm an cdv ct) ⟨us,[]⟩=pure (ps.zip us)):Binds K a ps []:=by
 obtain⟨d,e,kV,doc,pm,an,cdv,ct,b,rfl,lk,c⟩:=F.ex
 exact .all (h kV doc pm an cdv ct)
theorem zW{x qual:Str}{st:Stmt}{f:cG}{h:cz}{j g:Option cG}{d:Array (Option cz)}{kV b e a ct:cz}(l:K.lookup f=some ⟨h,j,.func (gl x qual (Gi st) (Gc st) (F3 st) .none kV b e g a ct),d⟩)
  (c:mP K a qual=true)(k:iT K (.ref f)=true):Fun K x qual st f (gl x qual (Gi st) (Gc st) (F3 st) .none kV b e g a ct):=⟨⟨h,j,kV,b,e,g,a,ct,d,rfl,l,c⟩,k⟩
end
theorem F4{n:Nat}(h:n<=1000):n<sizeLine:=dP h (by decide)
section
variable{X:Cx}
theorem pv(i:Nat){x:Str}{pos:Pos}(b:X.N[i]?=some x:=by rfl)(d:ND X.env.scope x:=by first|exact Or.inl rfl|exact Or.inr (Or.inl rfl)|exact Or.inr (Or.inr rfl))(c:(x==("__debug__":Str))=false:=by decide)
  (a:(x==("__classdict__":Str))=false:=by decide):PE X (.Name x pos) (MM i):=FO b d c a
end
theorem Gg{A B:Prop}(h:B):if false=true then A else B:=by
 rw[if_neg dj];exact h
theorem Gu{A B:Prop}(h:A):if true=true then A else B:=by
 rw[if_pos rfl];exact h
theorem KZ{c A B:Prop}[Decidable c](h1:c->A)(h2:¬c->B):if c then A else B:=by
 by_cases h:c
 ·rw[if_pos h];exact h1 h
 ·rw[if_neg h];exact h2 h
theorem HJ{c A B:Prop}[Decidable c](hc:c)(h:B):if(!decide c)=true then A else B:=by
 rw[decide_eq_true hc];exact Gg h
def Same(H a:Hp):Prop:=∀b o,H b=some o->a b=some o
theorem Same.refl(H:Hp):Same H H:=λ_ _ h=>h
theorem Same.trans{H d e:Hp}(a:Same H d)(b:Same d e):Same H e:=λc o h=>b c o (a c o h)
theorem Same.free{H a:Hp}(e:Same H a){l:cG}(h:a l=Option.none):H l=Option.none:=by
 cases q:H l with
 | none=>rfl
 | some o=>
  rw[e l o q]at h
  cases h
theorem Same.seq{K:b3}{H b:Hp}{a:cG}{xs:List V}(e:Same H b)(h:SqL K H a xs):SqL K b a xs:=by
 rcases h with(h|⟨o,h⟩)|h
 ·exact .inl (.inl (e _ _ h))
 ·exact .inl (.inr ⟨o,e _ _ h⟩)
 ·exact .inr h
def HR(scope:Scope)(env:Env):List (Str×cG):=
 (scope.names.filterMap λx=>if x.2==eJ then(env.cells.lookup x.1).map λc=>(x.1,c)else none).reverse
theorem zz{env:Env}(f:Str×iG->List (Str×cG)->Sem (ForInStep (List (Str×cG))))
  (a:∀n k r,f (n,k) r=(if(k==eJ)=true then(do let c<-cellOf env n;pure (.yield ((n,c)::r)))else pure (.yield r))):
  ∀(ns:List (Str×iG)) (cs:List (Str×cG)),(∀x∈ns,x.2 = .free->∃c,env.cells.lookup x.1=some c)->
   forIn ns cs f=pure ((ns.filterMap λx=>if x.2==eJ then(env.cells.lookup x.1).map λc=>(x.1,c)else none).reverse++cs)
 | [],cs,_=>by rw[gy];rfl
 | (n,k)::r,cs,h=>by
  rw[eA,a]
  have d:∀x∈r,x.2 = .free->∃c,env.cells.lookup x.1=some c:=λx g=>h x (cN _ g)
  by_cases hk:k = .free
  ·subst hk
   obtain⟨c,e⟩:=h (n,.free) cM rfl
   have j:cellOf env n=pure c:=by unfold cellOf;rw[e]
   rw[if_pos (by rfl),j,pure_bind,pure_bind]
   show forIn r ((n,c)::cs) f=_
   rw[zz f a r _ d,gp]
   simp[e]
  ·have b:(k==eJ)=false:=by simpa using hk
   rw[if_neg (by rw[b];decide),pure_bind]
   show forIn r cs f=_
   rw[zz f a r _ d,gp]
   simp[b]
theorem Cr{scope:Scope}{env:Env}(h:∀x∈scope.names,x.2 = .free->∃c,env.cells.lookup x.1=some c):closureFor scope env=pure (HR scope env):=by
 simp only[closureFor];rw[zz (env:=env) _ (λn k r=>by cases hk:k==eJ <;> simp[hk]) scope.names [] h];rw[fC];rfl
theorem vz{env:Env}{x:Str}:∀{l:List (Str×cG)} {c:cG},(∀p∈l,env.cells.lookup p.1=some p.2)->l.lookup x=some c->env.cells.lookup x=some c
 | [],_,_,e=>by simp at e
 | (n,d)::r,c,h,e=>by
  rw[d3]at e
  cases a:x==n with
  | true=>
   rw[a]at e
   have f:d=c:=Option.some.inj e
   have b:x=n:=by simpa using a
   subst b f
   exact h _ cM
  | false=>
   rw[a]at e
   exact vz (λp hp=>h p (cN _ hp)) e
theorem z7{scope:Scope}{env:Env}{p:Str×cG}(h:p∈HR scope env):env.cells.lookup p.1=some p.2:=by
 unfold HR at h;rw[jO,gX]at h;obtain⟨x,_,e⟩:=h;split at e
 ·cases q:env.cells.lookup x.1 with
  | none=>rw[q]at e;cases e
  | some c=>
   rw[q]at e;have a:(x.1,c)=p:=Option.some.inj e;subst a;exact q
 ·cases e
theorem yf{scope:Scope}{env:Env}{x:Str}{c:cG}(h:(x,c)∈HR scope env):(x,eJ)∈scope.names:=by
 unfold HR at h;rw[jO,gX]at h;obtain⟨⟨y,k⟩,b,e⟩:=h;split at e
 ·rename_i hk
  have a:k = .free:=by simpa using hk
  cases q:env.cells.lookup y with
  | none=>simp[q]at e
  | some d=>
   simp[q]at e;rw[<-e.1,<-a];exact b
 ·cases e
theorem uq{scope:Scope}{env:Env}{x:Str}{c:cG}(e:(HR scope env).lookup x=some c):env.cells.lookup x=some c:=
 vz (λ_ hp=>z7 hp) e
theorem uT{x:Str}:∀{l:List (Str×cG)},(∃c,(x,c)∈l)->∃c,l.lookup x=some c
 | [],⟨_,h⟩=>by cases h
 | (n,d)::r,⟨c,h⟩=>by
  rw[d3]
  cases a:x==n with
  | true=>exact⟨d,rfl⟩
  | false=>
   rcases da.mp h with q|q
   ·injection q with q1 _
    rw[q1]at a
    simp at a
   ·exact uT ⟨c,q⟩
theorem zY{scope:Scope}{env:Env}{x:Str}{c:cG}(f:(x,eJ)∈scope.names)(e:env.cells.lookup x=some c):(HR scope env).lookup x=some c:=by
 have a:(x,c)∈HR scope env:=by
  unfold HR;rw[jO,gX];exact⟨(x,.free),f,by simp[e]⟩
 obtain⟨d,b⟩:=uT ⟨c,a⟩;have:=uq b;rw[e]at this
 cases this;exact b
def GU(caps:List (Option Nat))(a:St):St:=caps.map λo=>o.bind λi=>(a[i]?).bind id
structure CompOk(scope sc:Scope)(NX N:List Str)(caps:List (Option Nat)):Prop where
 kind:scope.kind = .function
 nd:N.Nodup
 own:∀y∈scope.names,y.2 = .cell->scope.names.lookup y.1=some .cell
 loc:∀y∈scope.names,y.2 = .local->scope.names.lookup y.1=some .local
 free:∀y∈scope.names,y.2 = .free->scope.names.lookup y.1=some .free/\(sc.names.lookup y.1=some .cell\/sc.names.lookup y.1=some .free)
 len:caps.length=N.length
 cap:∀p∈(caps.zip N),∀i,p.1=some i->NX[i]?=some p.2/\scope.names.lookup p.2=some .free
def KE(scope a:Scope)(b N:List Str)(caps:List (Option Nat)):Bool:=
 (scope.kind == .function)&&decide N.Nodup&&scope.names.all (λy=>y.2 != .cell||scope.names.lookup y.1==some .cell)&&scope.names.all (λy=>y.2 != .local||scope.names.lookup y.1==some .local) &&
 scope.names.all (λy=>y.2 != .free||(scope.names.lookup y.1==some .free&&(a.names.lookup y.1==some .cell||a.names.lookup y.1==some .free)))&&(caps.length==N.length) &&
 (caps.zip N).all (λp=>match p.1 with|none=>true|some i=>b[i]?==some p.2&&scope.names.lookup p.2==some .free)
theorem CompOk.of{scope b:Scope}{c N:List Str}{caps:List (Option Nat)}(h:KE scope b c N caps=true):CompOk scope b c N caps:=by
 unfold KE at h;simp only[dt]at h;obtain⟨⟨⟨⟨⟨⟨h1,h2⟩,h3⟩,h4⟩,h5⟩,h6⟩,j⟩:=h;refine⟨by simpa using h1,of_decide_eq_true h2,λy a e=>?_,λy a d=>?_,λy a g=>?_,by simpa using h6,λp hp i f=>?_⟩
 ·have:=dX.mp h3 y a;rw[e]at this;simpa using this
 ·have:=dX.mp h4 y a;rw[d]at this;simpa using this
 ·have:=dX.mp h5 y a;rw[g]at this;simpa using this
 ·have:=dX.mp j p hp;rw[f]at this;simpa using this
def Ml(scope:Scope)(C:cG)(env:Env):List (Str×cG):=cellsFrom (C+1) scope.names (HR scope env)
theorem vp:∀(names:List (Str×iG)) (n:Nat) (acc:List (Str×cG)) {x:Str} {c:cG},(cellsFrom n names acc).lookup x=some c->(n<=c/\(x,gh)∈names)\/acc.lookup x=some c
 | [],_,_,_,_,h=> .inr h
 | (y,k)::r,n,acc,x,c,h=>by
  unfold cellsFrom at h
  split at h
  ·rename_i hk
   have b:k = .cell:=by simpa using hk
   rcases vp r (n+1) _ h with⟨h1,h2⟩|h2
   ·exact .inl ⟨by omega,cN _ h2⟩
   ·rw[d3]at h2
    cases a:x==y with
    | true=>
     rw[a]at h2
     have e:n=c:=Option.some.inj h2
     have d:x=y:=by simpa using a
     exact .inl ⟨by omega,by rw[d,b];exact cM⟩
    | false=>rw[a]at h2;exact .inr h2
  ·rcases vp r n acc h with⟨h1,h2⟩|h2
   ·exact .inl ⟨h1,cN _ h2⟩
   ·exact .inr h2
theorem v9:∀(names:List (Str×iG)) (n:Nat) (acc:List (Str×cG)) {x:Str},(x,gh)∉names->(cellsFrom n names acc).lookup x=acc.lookup x
 | [],_,_,_,_=>rfl
 | (y,k)::r,n,acc,x,h=>by
  unfold cellsFrom
  have b:(x,gh)∉r:=λz=>h (cN _ z)
  split
  ·rename_i hk
   have c:k = .cell:=by simpa using hk
   rw[v9 r _ _ b,d3]
   have a:(x==y)=false:=by
    cases a:x==y with
    | false=>rfl
    | true=>
     have d:x=y:=by simpa using a
     exact absurd (by rw[d,c];exact cM) h
   rw[a]
  ·exact v9 r n acc b
theorem vX:∀(names:List (Str×iG)) (n:Nat) (acc:List (Str×cG)) {x:Str},((x,gh)∈names\/∃c,acc.lookup x=some c)->∃c,(cellsFrom n names acc).lookup x=some c
 | [],_,_,_,h=>by
  rcases h with h|h
  ·cases h
  ·exact h
 | (y,k)::r,n,acc,x,h=>by
  unfold cellsFrom
  split
  ·rename_i hk
   refine vX r _ _ ?_
   by_cases a:x=y
   ·subst a;exact .inr ⟨n,by simp[d3]⟩
   ·rcases h with h|⟨c,h⟩
    ·rcases da.mp h with z|z
     ·injection z with z1 _;exact absurd z1 a
     ·exact .inl z
    ·exact .inr ⟨c,by rw[d3,show(x==y)=false by simpa using a];exact h⟩
  ·rename_i hk
   refine vX r _ _ ?_
   rcases h with h|h
   ·rcases da.mp h with z|z
    ·injection z with _ z2
     rw[<-z2]at hk
     exact absurd rfl hk
    ·exact .inl z
   ·exact .inr h
theorem xh:∀(names:List (Str×iG)) (n:Nat) (acc:List (Str×cG)),(∀x y c,acc.lookup x=some c->acc.lookup y=some c->x=y)->(∀x c,acc.lookup x=some c->c<n)->
  ∀x y c,(cellsFrom n names acc).lookup x=some c->(cellsFrom n names acc).lookup y=some c->x=y
 | [],_,_,hi,_=>hi
 | (w,k)::r,n,acc,hi,hb=>by
  unfold cellsFrom
  split
  ·refine xh r (n+1) _ (λx y c h1 h2=>?_) (λx c h=>?_)
   ·rw[d3]at h1 h2
    cases a:x==w <;> cases b:y==w <;> rw[a]at h1 <;> rw[b]at h2
    ·exact hi x y c h1 h2
    ·cases h2;exact absurd (hb x _ h1) (dA _)
    ·cases h1;exact absurd (hb y _ h2) (dA _)
    ·have e:x=w:=by simpa using a
     have d:y=w:=by simpa using b
     rw[e,d]
   ·rw[d3]at h
    cases a:x==w <;> rw[a]at h
    ·exact dw (hb x c h)
    ·cases h;exact du _
  ·exact xh r n acc hi hb
theorem xl:∀(names:List (Str×iG)) (h:Heap) (acc:List (Str×cG)) {x:Str} {c:cG},(x,c)∈cellsFrom h.objs.size names acc->(x,c)∈acc\/(h.objs.size<=c/\(pushCells h names).IsCell c none)
 | [],_,_,_,_,hm=> .inl hm
 | (y,k)::r,h,acc,x,c,hm=>by
  unfold cellsFrom at hm
  unfold pushCells
  split at hm
  ·rename_i hk
   rw[if_pos hk]
   have b:(x,c)∈cellsFrom (h.push {cls:= .type "cell",data:= .cell none}).objs.size r ((y,h.objs.size)::acc):=by rw[gx];exact hm
   rcases xl r _ _ b with z|⟨d,a⟩
   ·rcases da.mp z with z|z
    ·injection z with _ a
     subst a
     refine .inr ⟨cI _,_,ml r _ _ _ (cP _ rfl),rfl⟩
    ·exact .inl z
   ·rw[gx]at d
    exact .inr ⟨by omega,a⟩
  ·rename_i hk
   rw[if_neg hk]
   exact xl r h acc hm
theorem zp{M:Model}{A:dD}{E:cz->cC->Prop}{s:cC}{scope:Scope}{globals:cG}{a:List (Str×cG)}{qual:Str}{env:Env}{Q:Env->cC->Prop}(j:∀x c,(x,c)∈a->c<s.heap.objs.size)
  (h:∀h':Heap,h'.Ns s.heap.objs.size (λ_=>none)->(∀b o,s.heap.get? b=some o->h'.get? b=some o)->(∀x c,(cellsFrom (s.heap.objs.size+1) scope.names a).lookup x=some c->s.heap.objs.size+1<=c->h'.IsCell c none)->
   Q {scope:=scope,locals:=s.heap.objs.size,globals:=globals,cells:=cellsFrom (s.heap.objs.size+1) scope.names a,qual:=qual,func:=none,code:=env.code,frame:=env.frame,builtins:=env.builtins} {s with heap:=h'}):
  wpAny M A (newFunctionEnv scope globals a [] qual none .none (some env)) Q E s:=by
 simp only[newFunctionEnv,nK,if_true]
 refine b0 (pj ?_)
 refine b0 (wpAny_layCells _ (λl d cells=>by cases g:d==gh <;> simp[g]) _ _ _ _ ?_)
 rw[show({s with heap:=s.heap.push {cls:= .type "dict",data:= .dict #[]}}:cC).heap.objs.size=s.heap.objs.size+1 from gx ..]
 refine b0 ?_
 rw[gy]
 refine b4 (b4 (h _ ?_ (λb o e=>ml _ _ _ _ (cF _ e)) λx c e m=>?_))
 ·refine⟨_,#[],0,ml _ _ _ _ (cP _ rfl),rfl,?_,λx=>rfl⟩
  first|exact λe n=>by simp at n|simp
 ·have k:=e9 e
  have f:(x,c)∈cellsFrom (s.heap.push {cls:= .type "dict",data:= .dict #[]}).objs.size scope.names a:=by rw[gx];exact k
  rcases xl _ _ _ f with z|z
  ·exact absurd (cJ (j x c z) (Nat.le_of_succ_le m)) (dA _)
  ·exact z.2
def Gj(X:Cx)(scope:Scope)(N:List Str)(C:cG)(s₀:cC)(H₀:Hp)(ex:List cG):Cx where
 prog:=X.prog
 w:=X.w
 K:=X.K
 mg:=X.mg
 base:=X.base
 A:=X.A
 N:=N
 s₀:=s₀
 H₀:=H₀
 env:=compEnvC scope (Ml scope C X.env) C X.env
 outer:=X.stack
 stack:=X.stack
 ex:=ex
 fn:=λx=>scope.names.lookup x==some .cell
 calm:=X.calm
 pn:=[]
 xe:=λ_ _=>False
theorem wq{scope:Scope}{env:Env}{x:Str}{k:iG}(hk:k = .cell\/k = .free)(h:(relabel scope env).names.lookup x=some k):(x,eJ)∈scope.names\/(x,gh)∈scope.names:=by
 have b:(x,k)∈(relabel scope env).names:=e9 h;unfold relabel at b;rw[dG]at b;obtain⟨⟨n,d⟩,c,e⟩:=b;dsimp only at e;by_cases a:(d==eJ&&env.scope.kind == .function&&env.kindOf n==some .cell)=true
 ·rw[if_pos a]at e;injection e with e1 e2
  have:d = .free:=by
   rw[dt,dt]at a;simpa using a.1.1
  subst this e1;exact .inl c
 ·rw[if_neg a]at e;injection e with e1 e2
  subst e1 e2;rcases hk with hk|hk
  ·subst hk;exact .inr c
  ·subst hk;exact .inl c
theorem uO{env:Env}:∀{names:List (Str×iG)} {x:Str},names.lookup x=some .free->
  (names.map λ(n,k)=>if(k==eJ&&env.scope.kind == .function&&env.kindOf n==some .cell)then(n,gh)else(n,k)).lookup x=some .cell\/
  (names.map λ(n,k)=>if(k==eJ&&env.scope.kind == .function&&env.kindOf n==some .cell)then(n,gh)else(n,k)).lookup x=some .free
 | [],_,h=>by simp at h
 | (n,k)::r,x,h=>by
  have c:=@uO env r x
  rw[d2]
  dsimp only
  cases a:x==n with
  | true=>
   simp only[d3,a]at h
   cases h
   by_cases b:(eJ==eJ&&env.scope.kind == .function&&env.kindOf n==some .cell)=true
   ·rw[if_pos b];left;simp[d3,a]
   ·rw[if_neg b];right;simp[d3,a]
  | false=>
   simp only[d3,a]at h
   by_cases b:(k==eJ&&env.scope.kind == .function&&env.kindOf n==some .cell)=true
   ·rw[if_pos b];simp only[d3,a];exact c h
   ·rw[if_neg b];simp only[d3,a];exact c h
section
variable{X:Cx}{pins:List (cG×Obj)}{σ:St}{H:Hp}{s:cC}{scope:Scope}{N:List Str}{caps:List (Option Nat)}{fp:List cG}
theorem AQ{h1:Heap}{tk:Nat}(I:Inv X pins σ H s)(O:CompOk scope X.env.scope X.N N caps)(G:∀b∈fp,HX X pins H b)(J:∀b∈fp,b<s.heap.objs.size)
  (Y:h1.Ns (s.heap.objs.size+1) (λ_=>none))(hD:h1.get? s.heap.objs.size=some {cls:= .type "list",data:= .seq #[]})(B:∀b o,s.heap.get? b=some o->h1.get? b=some o)
  (S:∀x c,(Ml scope (s.heap.objs.size+1) X.env).lookup x=some c->s.heap.objs.size+1+1<=c->h1.IsCell c none):
  Inv (Gj X scope N (s.heap.objs.size+1) s H fp) [(s.heap.objs.size,{cls:= .type "list",data:= .seq #[]})] (GU caps σ) H {s with heap:=h1,toks:=tk}:=by
 have sub:∀b∈Hc X.stack,b<s.heap.objs.size:=λb f=>by
  obtain⟨_,o,A,_⟩:=I.stack.mem f
  exact cR A
 have h:∀x c,X.env.cells.lookup x=some c->c<s.heap.objs.size:=λx c e=>by
  obtain⟨v,o,A,_⟩:=I.cell x c e
  exact cR A
 have F:∀x c,(Ml scope (s.heap.objs.size+1) X.env).lookup x=some c->(s.heap.objs.size+1+1<=c/\(x,gh)∈scope.names)\/X.env.cells.lookup x=some c:=λx c e=>by
  rcases vp _ _ _ e with z|z
  ·exact .inl z
  ·exact .inr (uq z)
 have C:∀x,(x,eJ)∈scope.names->∃c,X.env.cells.lookup x=some c:=λx d=>by
  rcases(O.free _ d rfl).2 with q|q
  ·exact I.ok.has x (.inl q)
  ·exact I.ok.has x (.inr q)
 have n:∀x,(x,eJ)∈scope.names->(x,gh)∉scope.names:=λx d Q=>by
  have h1:=(O.free _ d rfl).1
  have h2:=O.own _ Q rfl
  dsimp only at h1 h2
  rw[h1]at h2
  cases h2
 refine⟨⟨I.ok.mod,O.kind,I.ok.glob,I.ok.blt,d6 _,λx y c h1 h2=>?_,λx D=>?_,λx c E e=>?_,I.ok.hd,I.ok.frames,.inl rfl,λb f=>⟨dr (dw (J b f)),λx c e=>?_⟩,I.bs,?_,λb o e f=>?_,λb f T=>?_,I.stack,I.stkFree⟩,
  rfl,I.bare,Un.kept B,⟨_,Y,λi x v e1 t e3=>?_⟩,λx c e=>?_,I.hok.fresh (d6 _),λx c e=>?_,λp hp=>?_,I.hok.kept B,?_⟩
 ·exact xh scope.names _ (HR scope X.env) (λx y c a b=>I.ok.inj x y c (uq a) (uq b)) (λx c a=>dw (dw (h x c (uq a)))) x y c h1 h2
 ·have d:(x,eJ)∈scope.names\/(x,gh)∈scope.names:=by
   rcases D with D|D
   ·exact wq (.inl rfl) D
   ·exact wq (.inr rfl) D
  rcases d with d|d
  ·obtain⟨c,Q⟩:=C x d
   exact vX _ _ _ (.inr ⟨c,zY d Q⟩)
  ·exact vX _ _ _ (.inl d)
 ·have W:scope.names.lookup x=some .cell:=by simpa [Gj]using E
  rcases F x c e with z|z
  ·exact cZ (cJ (dw (du _)) z.1)
  ·exfalso
   have d:=e9 W
   rcases vp _ _ _ e with w|w
   ·exact absurd (cJ (h x c z) (cO (fJ (d6 _)) w.1)) (dA _)
   ·have R:=yf (e9 w)
    exact n x R d
 ·rcases F x c e with z|z
  ·exact λw=>absurd (cJ (J b f) (cO (fJ (d6 _)) (w▸z.1))) (dA _)
  ·exact(G b f).2.2.2.2.1 x c z
 ·exact cO I.ok.bsz I.sz
 ·rcases(G b f).2.2.2.1 with z|z
  ·exact I.ok.noex b o e z
  ·exact absurd (cJ (cR (I.ok.bs b o e).1) z) (dA _)
 ·rcases da.mp (I.stkSub b T)with z|z
  ·exact(G b f).2.1 z
  ·exact(G b f).2.2.1 z
 · -- a captured name
  have hi:i<caps.length:=by
   have:=(cT.mp t).1
   unfold GU at this
   rwa[cx]at this
  have L:∃j,caps[i]?=some (some j)/\σ[j]?=some (some v):=by
   unfold GU at t
   rw[cL]at t
   cases q:caps[i]? with
   | none=>rw[q]at t;cases t
   | some o=>
    rw[q]at t
    have g:(o.bind λi=>(σ[i]?).bind id)=some v:=Option.some.inj t
    cases o with
    | none=>cases g
    | some j=>
     refine⟨j,rfl,?_⟩
     cases U:σ[j]? with
     | none=>rw[oW,U]at g;cases g
     | some Z=>
      rw[oW,U]at g
      cases Z with
      | none=>cases g
      | some v2=>cases g;rfl
  obtain⟨j,hj,hv⟩:=L
  have hN:N[i]?=some x:=e1
  have hz:(some j,x)∈caps.zip N:=by
   have:(caps.zip N)[i]?=some (some j,x):=by
    rw[kG]
    exact⟨hj,hN⟩
   exact dh this
  obtain⟨hX,E⟩:=O.cap _ hz j rfl
  have d:(x,eJ)∈scope.names:=e9 E
  have P:ND X.env.scope x:=by
   rcases(O.free _ d rfl).2 with q|q
   ·exact .inr (.inl q)
   ·exact .inr (.inr q)
  obtain⟨m,hn,hl⟩:=I.loc
  obtain⟨u,r,l⟩:=hl j x v hX hv P
  refine⟨u,r,?_⟩
  rcases l with⟨k,_⟩|⟨_,c,e,⟨o,A,M⟩⟩
  ·exfalso
   rcases(O.free _ d rfl).2 with q|q
   ·have:X.env.scope.names.lookup x=some .local:=k
    rw[q]at this;cases this
   ·have:X.env.scope.names.lookup x=some .local:=k
    rw[q]at this;cases this
  ·have V:(Gj X scope N (s.heap.objs.size+1) s H fp).env.kindOf x=some .cell\/(Gj X scope N (s.heap.objs.size+1) s H fp).env.kindOf x=some .free:=uO E
   exact .inr ⟨V,c,(v9 _ _ _ (n x d)).trans (zY d e),⟨o,B c o A,M⟩⟩
 ·rcases F x c e with z|z
  ·exact⟨none,S x c e z.1⟩
  ·obtain⟨v,o,A,M⟩:=I.cell x c z
   exact⟨v,o,B c o A,M⟩
 ·rcases F x c e with z|z
  ·exact I.hok.fresh (cO (fJ (d6 _)) z.1)
  ·exact I.freeC x c z
 ·have e:p=(s.heap.objs.size,{cls:= .type "list",data:= .seq #[]}):=by simpa [Gj]using hp
  subst e
  refine⟨hD,I.hok.fresh (cI _),dr (du _),λf=>absurd (sub _ f) (dA _),λv z=>by cases z⟩
 ·show(GU caps σ).length=N.length
  unfold GU
  rw[cx]
  exact O.len
end
def M0(X:Cx)(a:List Expr)(t:TT):Prop:=
 ∀(pins:List (cG×Obj)) (s:cC) (σ:St) (H:Hp) (Q:Bool->Hp->Prop),Inv X pins σ H s->t σ H Q->
  wpAny (model X.prog X.w) X.A (forIn a true λc r=>if r=true then do let b<-isTrue c X.env (eval c X.env);pure (jX b)else pure (jX r)) (TP X pins σ Q) X.xe s
def HN:TT:=λ_ H Q=>Q true H
theorem ud{X:Cx}:M0 X [] HN:=λ_ _ _ H _ I h=>wpAny_tests_nil ⟨H,I,h⟩
theorem vC{X:Cx}{c:Expr}{t:TT}(h:PT X c t):M0 X [c] t:=λa s b H Q I d=>wpAny_tests_one (h a s b H Q I d)
section
variable{prog:cY}{w:dn}{A:dD}{R:Result->cC->Prop}{s:cC}
theorem Cw{g a f:Expr}{j:List Expr}{scope:Scope}{pos:Pos}{it e:cz}{env:Env}(I:Nat->cC->Prop)
  (q:∀n s,I n s->wpAny (model prog w) A (pyNext it) (λr s₁=>match r with
   | none=>R (.ok .next) s₁
   | some v=>wpAny (model prog w) A (letOwnedTupleGo a it v) (λ_ s₀=>wpAny (model prog w) A (assign a env v) (λ_ s₂=>
     wpAny (model prog w) A (forIn j true λc r=>if r=true then do let ok<-isTrue c env (eval c env);pure (jX ok)else pure (jX r)) (λok s₃=>
      if ok=true then wpAny (model prog w) A (eval g env) (λx s₄=>
       wpAny (model prog w) A (call (.builtin "list.append") [e,x]) (λ_ s₅=>∃m,m<n/\I m s₅) (λ_ _=>False) s₄) (λ_ _=>False) s₃
      else ∃m,m<n/\I m s₃) (λ_ _=>False) s₂) (λ_ _=>False) s₀) (λ_ _=>False) s₁) (λ_ _=>False) s)
  (n:Nat)(h:I n s):codeAny (model prog w) A (.compLoop (.ListComp g [⟨a,f,j,0⟩] scope pos) 0 it e env) R s:=by
 refine codeAny_loop rfl I (λn s t=>?_) n h
 show wpAny _ A ((compTurn (.ListComp g [⟨a,f,j,0⟩] scope pos) 0 it e env).onRaise (λx=>do noteFrame x env;theTreesLotGoes x)) _ _ s
 refine wpAny_noted (wpAny_noRaise ?_)
 rw[compTurn_list]
 refine b0 (nq (b0 (Gh (q n s t) λr s₁ d=>?_)))
 cases r with
 | none=>exact b4 d
 | some v=>
  refine b0 (Gh d λ_ s₀ k=>?_)
  refine b0 (Gh k λ_ s₂ p=>b0 (Gh p λok s₃ b=>?_))
  cases ok with
  | false=>exact b4 ⟨rfl,b⟩
  | true=>exact b0 (b0 (Gh b λx s₄ o=>b0 (Gh o λ_ s₅ l=>b4 (b4 ⟨rfl,l⟩))))
end
def Keep(caps:List (Option Nat))(b a:St):Prop:=∀(j:Nat) (v:V),(GU caps b)[j]?=some (some v)->a[j]?=some (some v)
def GK(caps:List (Option Nat))(g:TG):Prop:=∀σ σ1 x H (Q:St->Hp->Prop),Keep caps σ σ1->g x σ1 H Q->g x σ1 H λa b=>Keep caps σ a/\Q a b
def NE(caps:List (Option Nat))(g:Lj):Prop:=∀σ σ1 xs H (Q:St->Hp->Prop),Keep caps σ σ1->g xs σ1 H Q->g xs σ1 H λa b=>Keep caps σ a/\Q a b
theorem Keep.set{caps:List (Option Nat)}{c a:St}{i:Nat}{x:Option V}(k:Keep caps c a)(h:caps[i]?=some none):Keep caps c (a.set i x):=λj v e=>by
 by_cases b:i=j
 ·subst b;unfold GU at e;rw[cL,h]at e
  cases e
 ·rw[iQ b];exact k j v e
theorem tI{caps:List (Option Nat)}{i:Nat}(h:caps[i]?=some none):GK caps (IJ i):=λ_ _ _ _ _ k q=>⟨k.set h,q⟩
theorem yv{caps:List (Option Nat)}:NE caps M7:=λ_ _ _ _ _ k q=>⟨q.1,k,q.2⟩
theorem uJ{caps:List (Option Nat)}{t:TG}{u:Lj}(a:∀x σ H (Q Q':St->Hp->Prop),(∀σ H,Q σ H->Q' σ H)->t x σ H Q->t x σ H Q')(h1:GK caps t)(h2:NE caps u):NE caps (L8 t u):=λσ b h H Q k q=>by
 obtain⟨v,r,e,q⟩:=q;refine⟨v,r,e,?_⟩;exact a _ _ _ _ _ (λc d ⟨f,g⟩=>h2 σ c r d Q f g) (h1 σ b v H _ k q)
theorem uh{i:Nat}:∀x σ H (Q Q':St->Hp->Prop),(∀σ H,Q σ H->Q' σ H)->IJ i x σ H Q->IJ i x σ H Q':=λ_ _ _ _ _ h q=>h _ _ q
theorem As{K:b3}{caps:List (Option Nat)}{n:Nat}{t:Lj}(h:NE caps t):GK caps (Mo K n t):=λf c x H Q k q=>by
 obtain⟨a,b,e,g,d,q⟩:=q;exact⟨a,b,e,g,d,h f c b H Q k q⟩
def Kn(its:List cz)(n:Nat):Obj:={cls:= .type "list",data:= .seq its.toArray n}
def GG(caps:List (Option Nat))(g:TG)(k:TT)(h:TE)(f:St)(l:List V->Hp->Prop)(J:It)(j:Hp):Prop:=
 ∃W:Nat->Nat->List V->Hp->Prop,(∃m,W 0 m [] j)/\∀i m ys H,W i m ys H->
  (J.stop i H/\l ys H)\/(J.go i H/\∃N:List V->Hp->Prop,(∀ys' H',N ys' H'->∃m',m'<m/\W (i+1) m' ys' H')/\
   ∀x H',J.yld i H x H'->g x (GU caps f) H' λa d=>k a d λb c=>if b=true then h a c λy e=>ys.length<sizeLine/\N (ys++[y]) e else N ys c)
def Ni(caps:List (Option Nat))(d:TI)(g:TG)(f:TT)(e:TE):TE:=λa H Q=>
 d a H (GG caps g f e a λc b=>∀D,b D=none->Q (.ref D) (upd b D (.lst c)))
section
variable{X:Cx}{pins:List (cG×Obj)}{σ:St}{scope:Scope}{N:List Str}{caps:List (Option Nat)}{fp:List cG}
theorem Dm{H f:Hp}{s s':cC}{l:St}{its:List cz}{n:Nat}{ys:List V}(I:Inv X pins σ H s)(w:∀b∈fp,HX X pins H b)
  (J:Inv (Gj X scope N (s.heap.objs.size+1) s H fp) [(s.heap.objs.size,Kn its n)] l f s')(x:Vals ys its)(y:ys.length<=sizeLine):
  Inv X pins σ (upd f s.heap.objs.size (.lst ys)) s'/\f s.heap.objs.size=none/\f (s.heap.objs.size+1)=none:=by
 have g:=J.pin (s.heap.objs.size,Kn its n) (dW _ (cK.mpr rfl))
 obtain⟨v,d,z,_,_⟩:=g
 have c:H s.heap.objs.size=none:=I.hok.fresh (cI _)
 have h:∀b o,s.heap.get? b=some o->b≠s.heap.objs.size:=λb o e=>dr (cR e)
 refine⟨I.call' (ch:=fp) J.os ⟨J.base.keep,J.base.slot,λb o e m t=>?_,J.base.there,λb k e=>?_,λb o u e=>?_,λb p e=>?_⟩ (λa o e=>?_) J.bare (λb r=>?_),d,J.free⟩
 ·rw[td (h b o e)];exact J.base.free b o e m t
 ·rw[td (tE e c)];exact J.base.tups b k e
 ·rw[td (tE e c)];exact J.base.frzs b o u e
 ·rw[td (tE e c)];exact J.base.tbls b p e
 ·by_cases j:a=s.heap.objs.size
  ·subst j
   rw[sQ]at e
   cases e
   exact⟨y,its,n,x,v⟩
  ·rw[td j]at e
   exact(J.hok a o e).stay (λb u _ q=>q) (λb q=>by rw[td (tE q d)];exact q) λb k q=>by rw[td (tE q d)];exact q
 ·obtain⟨_,h1,_,h3,h4,h5⟩:=w b r
  exact⟨h3,h1,h4,h5⟩
theorem xI{ak tg aj:Expr}{al:List Expr}{pos:Pos}{g:TG}{tt:TT}{te:TE}{QQ:List V->Hp->Prop}{R:cz->cG->Result->cC->Prop}{aw:cz}{a:cC}(hc:X.calm=true)(O:CompOk scope X.env.scope X.N N caps)(gk:GK caps g)
  (hg:∀C s H fp,PG (Gj X scope N C s H fp) tg g)(ht:∀C s H fp,M0 (Gj X scope N C s H fp) al tt)(he:∀C s H fp,PE (Gj X scope N C s H fp) ak te)
  (h2:NN X pins σ tg (GG caps g tt te σ QQ) aw a)
  (fin:∀(D C:cG) (s':cC) (H':Hp) (ys:List V) (m:Str->Option cz),Inv X pins σ (upd H' D (.lst ys)) s'->s'.heap.Ns C m->H' D=none->H' C=none->C≠D->X.s₀.heap.objs.size<=C->C≠X.env.locals->(∀x c,X.env.cells.lookup x=some c->c≠C)->(∀p∈X.pn++pins,p.1≠C)->
   QQ ys H'->R (.ref D) C (.ok .next) s'):
  wpAny (model X.prog X.w) X.A (newList []) (λacc s₃=>wpAny (model X.prog X.w) X.A (newFunctionEnv scope X.env.globals (HR scope X.env) [] X.env.qual none .none (some X.env)) (λcenv s₄=>
   codeAny (model X.prog X.w) X.A (.compStart (.ListComp ak [⟨tg,aj,al,0⟩] scope pos) 0 aw acc {cenv with scope:=relabel scope X.env}) (R acc cenv.locals) s₄) X.xe s₃) X.xe a:=by
 obtain⟨it,fp,tn,J,L,e,P,T,am,f2,W,⟨m0,w0⟩,ay⟩:=h2
 subst e
 have S:∀x c,X.env.cells.lookup x=some c->c<a.heap.objs.size:=λx c e=>by
  obtain⟨v,o,ho,_⟩:=P.cell x c e
  exact cR ho
 refine fj (zp (λx c U=>by rw[gx];exact dw (S x c (z7 U))) (λE t l j=>?_))
 dsimp only at t l j ⊢
 have G:∀b∈fp,b<a.heap.objs.size:=λb f=>by
  obtain⟨o,ho,_⟩:=T.obj _ _ am b f
  exact cR ho
 generalize hH2:a.heap.push {cls:= .type "list",dict:=none,data:= .seq ([]:List cz).toArray}=G2 at t l j ⊢
 have hC:G2.objs.size=a.heap.objs.size+1:=by rw[<-hH2,gx]
 rw[hC]at t j ⊢
 have ao:∀b o,a.heap.get? b=some o->E.get? b=some o:=λb o e=>l b o (hH2▸cF _ e)
 have hD:E.get? a.heap.objs.size=some {cls:= .type "list",data:= .seq #[]}:=l _ _ (hH2▸cP _ rfl)
 have I0:=AQ (scope:=scope) (N:=N) (caps:=caps) (fp:=fp) (tk:=a.toks) P O f2 G t hD ao j
 have aq:tn 0 E:=T.keep _ _ _ am λb _ o e=>ao b o e
 have f0:∀{pins':List (cG×Obj)} {H':Hp},(∀p∈pins',p.1=a.heap.objs.size)->(∀b∈fp,H' b=none)->∀b∈fp,HX (Gj X scope N (a.heap.objs.size+1) a L fp) pins' H' b:=λ {pins' H'} hp hn b f=>by
  obtain⟨_,k1,k2,k3,k4,k5⟩:=f2 b f
  refine⟨hn b f,dr (dw (G b f)),λU=>?_,.inl f,λx c e=>by
   rcases vp _ _ _ e with z|z
   ·exact λw=>absurd (cJ (G b f) (cO (fJ (d6 _)) (w▸z.1))) (dA _)
   ·exact k4 x c (uq z),λp U=>?_⟩
  ·rcases da.mp (P.stkSub b U)with z|z
   ·exact k1 z
   ·exact k2 z
  ·have q:=hp p (by simpa [Gj]using U)
   rw[q]
   exact ix (G b f)
 have ab:codeAny (model X.prog X.w) X.A (.compLoop (.ListComp ak [⟨tg,aj,al,0⟩] scope pos) 0 (.ref it) (.ref a.heap.objs.size) (Gj X scope N (a.heap.objs.size+1) a L fp).env)
   (R (.ref a.heap.objs.size) (a.heap.objs.size+1)) {a with heap:=E}:=by
  refine Cw (λn s'=>∃i ys h k H',Inv (Gj X scope N (a.heap.objs.size+1) a L fp) [(a.heap.objs.size,Kn h k)] (GU caps σ) H' s'/\Vals ys h/\ys.length<=sizeLine/\tn i s'.heap/\(∀b∈fp,H' b=none)/\W i n ys H')
   ?_ m0 ⟨0,[],[],0,L,I0,.nil,dz _,aq,λb f=>(f2 b f).1,w0⟩
  rintro n s3 ⟨i,ys,h,k,H3,I3,v3,z3,ap,au,w3⟩
  have af:∀p∈[(a.heap.objs.size,Kn h k)],p.1=a.heap.objs.size:=λp hp=>by rw[cK.mp hp]
  rcases ay i n ys H3 w3 with⟨stop,qn⟩|⟨go,M,hM,ax⟩
  ·refine Gh (T.done (Gj X scope N (a.heap.objs.size+1) a L fp) rfl rfl rfl hc i _ s3 _ H3 _ I3 (f0 af au) ap stop) λr s4 ⟨hr,I4⟩=>?_
   subst hr
   obtain⟨E1,E2,E3⟩:=Dm P f2 I4 v3 z3
   obtain⟨m,U,_⟩:=I4.loc
   refine fin _ _ s4 H3 ys m E1 U E2 E3 (ix (du _)) (fJ P.sz) (ix (dw P.lt)) (λx c e=>?_) (λp hp=>?_) qn
   ·obtain⟨v,o,ho,_⟩:=P.cell x c e
    exact dr (dw (cR ho))
   ·exact dr (dw (cR (P.pin p hp).1))
  ·refine Gh (T.item (Gj X scope N (a.heap.objs.size+1) a L fp) rfl rfl rfl hc i _ s3 _ H3 _ I3 (f0 af au) ap go) λr s4 ⟨u,hr,h4⟩=>?_
   subst hr
   refine Gh h4 λ_ s5 ⟨x,H5,I5,r5,y5,aa,aA⟩=>?_
   have aD:=I5.pinned (f0 af aA) (T.obj _ _ aa)
   refine Gh (hg _ _ _ _ _ s5 _ H5 x u _ aD r5 (gk σ _ x H5 _ (λ_ _ e=>e) (ax x H5 y5))) λ_ s6 ⟨Y,H6,I6,kp,q6⟩=>?_
   refine Gh (ht _ _ _ _ _ s6 Y H6 _ I6 q6) λok s7 ⟨H7,I7,q7⟩=>?_
   have ah:∀{an:St} {I:Hp} {B:cC} {ac:List V},Inv (Gj X scope N (a.heap.objs.size+1) a L fp) ([(a.heap.objs.size,Kn h k)]++IF fp s5.heap) an I B->M ac I->
     tn (i+1) B.heap/\(∀b∈fp,I b=none)/\∃Z,Z<n/\W (i+1) Z ac I:=λ {an I B ac} I8 m8=>by
    refine⟨T.keep _ _ _ aa λb f o e=>(I8.pin (b,o) (dW _ (dW _ (vk f e)))).1,λb f=>?_,hM _ _ m8⟩
    obtain⟨o,e,d⟩:=T.obj _ _ aa b f
    exact(I8.pin (b,o) (dW _ (dW _ (vk f e)))).2.1
   have ae:(GU caps σ).length=Y.length:=by rw[I6.len];exact I3.len
   cases ok with
   | false=>
    have ai:M ys H7:=q7
    obtain⟨b1,b2,Z,ag,w'⟩:=ah I7 ai
    exact⟨Z,ag,i+1,ys,h,k,H7,(I7.weak ae kp).unpinned,v3,z3,b1,b2,w'⟩
   | true=>
    have ai:te Y H7 λy H4=>ys.length<sizeLine/\M (ys++[y]) H4:=q7
    refine Gh (he _ _ _ _ _ s7 Y H7 _ I7 ai) λQ B ⟨y,I,I8,r8,aF,m8⟩=>?_
    obtain⟨b1,b2,Z,ag,w'⟩:=ah I8 m8
    have az:=I8.pin (a.heap.objs.size,Kn h k) (dW _ (ia _ (cK.mpr rfl)))
    obtain⟨e8,av,ar,aB,_⟩:=az
    have aE:=v3.length
    refine gH dB ⟨_,e8,rfl⟩ na (mR _ _) (oj a.heap.objs.size h.toArray k Q (by rw[cW];omega)) ⟨e8,?_⟩
    have q:=ik e8 (·.push Q)
    rw[show h.toArray.push Q=(h++[Q]).toArray by simp]at q
    obtain⟨k',q⟩:∃k',(B.heap.update a.heap.objs.size (d7 (·.push Q))).get? a.heap.objs.size=some (Kn (h++[Q]) k'):=⟨_,q⟩
    have I9:Inv (Gj X scope N (a.heap.objs.size+1) a L fp) [] (GU caps σ) I B:=(I8.weak ae kp).pins_of (pins':=[]) λp hp=>nomatch hp
    have aC:=I9.turned (h':=B.heap.update a.heap.objs.size (d7 (·.push Q))) (t':=B.toks) (it:=a.heap.objs.size) (λb o f e=>(fx B.heap _ (Ne.symm f)).trans e) av ar (.inr (cI _))
     (λx c e z=>by
      rcases vp _ _ _ e with w|w
      ·exact absurd (cJ (dw (du _)) (z▸w.1)) (dA _)
      ·exact absurd (S x c (uq w)) (by rw[z];exact dA _)) (λp hp=>nomatch hp)
    refine⟨Z,ag,i+1,ys++[y],h++[Q],k',I,aC.pins_of λp hp=>?_,v3.append (.cons r8 .nil),by rw[de,eo];omega,T.keep _ _ _ b1 λb f o e=>?_,b2,w'⟩
    ·rw[cK.mp hp]
     exact⟨q,av,ar,aB,λv z=>by cases z⟩
    ·exact(fx B.heap _ (ix (G b f))).trans e
 exact codeAny_compStart_list ab (T.self _ _ _ _ _ aq ab)
theorem ug{d j a:Expr}{f:List Expr}{pos:Pos}{F:TI}{g:TG}{E:TT}{B:TE}(hc:X.calm=true)(O:CompOk scope X.env.scope X.N N caps)(gk:GK caps g)(hi:PI X j a F)
  (Y:∀C s H fp,PG (Gj X scope N C s H fp) j g)(Z:∀C s H fp,M0 (Gj X scope N C s H fp) f E)(he:∀C s H fp,PE (Gj X scope N C s H fp) d B)
  (hs:∀x,foldedSetIterable a X.env x=pure x:=by intro _;rfl):PE X (.ListComp d [⟨j,a,f,0⟩] scope pos) (Ni caps F g E B):=by
 intro c s r H Q I h
 rw[eval_ListComp]
 have u:closureFor scope X.env=pure (HR scope X.env):=Cr λx T M=>by
  rcases(O.free x T M).2 with q|q
  ·exact I.ok.has x.1 (.inl q)
  ·exact I.ok.has x.1 (.inr q)
 refine k7 (use:=none) rfl hs u O.kind O.loc (Gh (hi c s r H _ I h) λv s1 h1=>Gh h1 λaa s2 h2=>?_)
 refine xI (R:=λn C=>compPost (model X.prog X.w) X.A X.xe none (EP X c r Q) n C) hc O gk Y Z he h2 ?_
 intro D C V H' ys m W U L P k p t l z S
 refine⟨m,U,λh' y=>?_⟩
 have G:=W.turned (h':=h') (t':=V.toks) (it:=C) (λb o J e=>y.extBut b o J e) (by rw[td k];exact P) t (.inr p) l z
 exact⟨.ref D,_,G,rfl,S D L⟩
def K8(i:Nat)(caps:List (Option Nat))(e:TI)(g:TG)(h:TT)(f:TE):TS:=λD a H=>
 e a H (GG caps g h f a λc b=>∀d,b d=none->D.nx (a.set i (some (.ref d))) (upd b d (.lst c)))
theorem ut{i:Nat}{y:Str}{l r:Pos}{j p c:Expr}{k:List Expr}{pos:Pos}{V:TI}{g:TG}{W:TT}{Y:TE}(hN:X.N.Nodup)(hy:X.N[i]?=some y)(hl:X.env.scope.names.lookup y=some .local)
  (U:swapsWith (.ListComp j [⟨p,c,k,0⟩] scope pos) (some (.Name y l)) r.line X.env=pure true)
  (hc:X.calm=true)(O:CompOk scope X.env.scope X.N N caps)(gk:GK caps g)(hi:PI X p c V)
  (hg:∀C s H fp,PG (Gj X scope N C s H fp) p g)(ht:∀C s H fp,M0 (Gj X scope N C s H fp) k W)(he:∀C s H fp,PE (Gj X scope N C s H fp) j Y)
  (hs:∀x,foldedSetIterable c X.env x=pure x:=by intro _;rfl):PS X (.Assign [.Name y l] (.ListComp j [⟨p,c,k,0⟩] scope pos) r) (K8 i caps V g W Y):=by
 intro f s σ H D I h
 rw[exec_Assign_Name_used _ _ _ _ U]
 refine b0 (nq (b0 ?_))
 show wpAny _ X.A (do let _<-comprehension (.ListComp j [⟨p,c,k,0⟩] scope pos) scope X.env _ (newList []) false (eval c X.env) (some (assign (.Name y l) X.env))) _ _ s
 have L:closureFor scope X.env=pure (HR scope X.env):=Cr λx hx hf=>by
  rcases(O.free x hx hf).2 with q|q
  ·exact I.ok.has x.1 (.inl q)
  ·exact I.ok.has x.1 (.inr q)
 refine b0 (Gh (k7 (use:=some (assign (.Name y l) X.env)) (Q:=λ_ n=>SP X f D .next n) rfl hs L O.kind O.loc
  (Gh (hi f s σ H _ I h) λv s1 h1=>Gh h1 λaa s2 h2=>?_)) λ_ n hq=>b4 (b4 hq))
 refine xI (R:=λF C=>compPost (model X.prog X.w) X.A X.xe (some (assign (.Name y l) X.env)) (λ_ n=>SP X f D .next n) F C) hc O gk hg ht he h2 ?_
 intro d C n H' ys m E1 hm E2 E3 E J u t S qq
 show wpAny _ X.A (assign (.Name y l) X.env (.ref d)) _ _ _
 refine n7 (zi (v:= .ref d) E1 hN hy (.inl hl) rfl (λP T ⟨a,B,ha⟩=>?_) (.inr hl))
 have G:C≠a:=by
  rcases ha with z|z
  ·rw[z];exact u
  ·exact λq=>t y a z q.symm
 refine⟨m,hm.sameBut B G,λh' M=>?_⟩
 have Z:=T.turned (h':=h') (t':=P.toks) (it:=C) (λb o hb e=>M.extBut b o hb e) (by rw[td E];exact E3) u (.inr J) t S
 exact⟨_,_,Z,qq d E2⟩
end
structure Dn(P:cY)(w:dn)(K:b3)(mg:Str->Option cz)(base:Heap)(CX:Jd)(k:Nat)(x:Str)(ps:List Str)(sp:Sp):Prop where
 ex:∃f fd,FnOk P w K mg base CX k f fd ps sp/\mg x=some (.ref f)/\iT K (.ref f)=true/\Binds K fd ps []
theorem tF{X:Cx}{CX:Jd}{k j:Nat}{x:Str}{ps:List Str}{sp:Sp}{E:XK}{p pos:Pos}{e:Expr}{a:List Expr}{t:TA}(D:Dn X.prog X.w X.K X.mg X.base CX k x ps sp)(n:Room j X.A)(hk:k<=j)(h:Gl X x)(l:GF CX X E)
  (o:PA X (e::a) t)(d:(x==("__debug__":Str))=false:=by decide)(q:dq (e::a) X.env=(false,eval e X.env)::dq a X.env:=by rfl)(c:(backTo pos (dq a X.env)).any (·.1)=false:=by rfl):
  PE X (.Call (.Name x p) (e::a) [] pos) (L0 sp [] E t):=by
 obtain⟨f,r,F,m,g,b⟩:=D.ex
 exact Ey F (n.mono hk) h m g b .nil l o d q c
def Def(K:b3)(mg:Str->Option cz)(x:Str)(st:Stmt):Prop:=∃f fd,Fun K x x st f fd/\mg x=some (.ref f)
section
variable{P:cY}{w:dn}{K:b3}{mg:Str->Option cz}{base:Heap}
theorem Def.ok{x:Str}{st:Stmt}{N ps:List Str}{k:Nat}{sp:Sp}(F:Def K mg x st)(S:F6 N ps (F3 st))(b:∀vs H Q E,sp vs H Q E->vs.length=ps.length)
  (d:∀(kV doc pm:cz) (an:Option cG) (cdv ct:cz) (us:List cz),us.length=ps.length->bindArgs (gl x x (Gi st) (Gc st) (F3 st) .none kV doc pm an cdv ct) ⟨us,[]⟩=pure (ps.zip us))
  (a:∀(f:cG) (cdv:cz) (A:dD) (outer:List Env) (s:cC) (H:Hp) (vs:List V) (Q:VK) (E:XK),Room k (A.deeper (envOfC x (F3 st) s.heap.objs.size f cdv))->sp vs H Q E->
   ∃t,PSs (IN Ge P w K mg base N x (F3 st) f cdv A outer s H E).nox (Gc st) t/\t {nx:=λ_ H'=>Q .non H',rt:=Q} (start N vs) H):Dn P w K mg base Ge (k+1) x ps sp:=by
 obtain⟨f,c,F,m⟩:=F
 exact⟨f,c,F.ok S b (a f),m,F.kp,F.binds d⟩
theorem Def.nothing{x:Str}{st:Stmt}{ps:List Str}(F:Def K mg x st)
  (b:∀(kV doc pm:cz) (an:Option cG) (cdv ct:cz) (us:List cz),us.length=ps.length->bindArgs (gl x x (Gi st) (Gc st) (F3 st) .none kV doc pm an cdv ct) ⟨us,[]⟩=pure (ps.zip us)):
  Dn P w K mg base Ge 0 x ps (λ_ _ _ _=>False):=by
 obtain⟨f,a,F,m⟩:=F
 exact⟨f,a,⟨λ_ _ _ _ h=>h.elim,λ_ _ _ _ _ _ _ _ _ _ _ _ _ h=>h.elim⟩,m,F.kp,F.binds b⟩
theorem Dn.imp{CX:Jd}{k:Nat}{x:Str}{ps:List Str}{sp a:Sp}(D:Dn P w K mg base CX k x ps sp)(h:∀vs H Q E,a vs H Q E->sp vs H Q E):Dn P w K mg base CX k x ps a:=by
 obtain⟨f,b,F,r⟩:=D.ex;exact⟨f,b,F.imp h,r⟩
end
def LL(K:b3)(mg:Str->Option cz)(x:Str)(xs:List V):Prop:=∃a,mg x=some (.ref a)/\∀H,SqT K H a xs
def L3(K:b3)(xs:List V):TE:=λ_ H Q=>∀a,(∀H,SqT K H a xs)->Q (.ref a) H
theorem vj{X:Cx}{x:Str}{xs:List V}{pos:Pos}(h:LL X.K X.mg x xs)(b:Gl X x:=by rfl)(c:(x==("__debug__":Str))=false:=by decide):PE X (.Name x pos) (L3 X.K xs):=λ_ _ _ H _ I q=>by
 obtain⟨a,m,r⟩:=h;exact vA I b m ⟨.ref a,H,I,rfl,q a r⟩ c
theorem CM{X:Cx}{x:Str}{i:Int}{pos:Pos}(h:∃t,X.mg x=some (.int i t))(a:Gl X x:=by rfl)(b:(x==("__debug__":Str))=false:=by decide):PE X (.Name x pos) (tC (.int i)):=λ_ _ _ H _ I q=>by
 obtain⟨t,m⟩:=h;exact vA I a m ⟨.int i,H,I,⟨t,rfl⟩,q⟩ b
theorem Gb{c A B:Prop}[Decidable c](hc:¬c)(h:B):if decide c=true then A else B:=by rw[if_neg (by simpa using hc)];exact h
theorem Gp{c A B:Prop}[Decidable c](hc:c)(h:A):if decide c=true then A else B:=by rw[if_pos (by simpa using hc)];exact h
theorem Gq{c A B:Prop}[Decidable c](h1:c->A)(h2:¬c->B):if decide c=true then A else B:=by
 by_cases h:c
 ·exact Gp h (h1 h)
 ·exact Gb h (h2 h)
theorem Ir{c A B:Prop}[Decidable c](h1:¬c->A)(h2:c->B):if(!decide c)=true then A else B:=by
 by_cases h:c
 ·rw[if_neg (by simpa using h)];exact h2 h
 ·rw[if_pos (by simpa using h)];exact h1 h
theorem Ol{i j:Int}(h:i≠j):V.int i≠V.int j:=λz=>h (V.int.inj z)
theorem Ke{i j:Int}(h:V.int i=V.int j):i=j:=V.int.inj h
theorem vm{k:Int}{m:Nat}(h:k.natAbs<2^m):nc k<=m:=by
 unfold nc;split
 ·exact dz _
 ·rcases Nat.eq_zero_or_pos k.natAbs with h0|hp
  ·rename_i hz
   exact absurd (by simpa using h0) (by simpa using hz)
  ·have:k.natAbs.log2<m:=(pq (ix hp)).mpr h;exact this
theorem M4{i j:Int}{m n:Nat}(b:i.natAbs<2^m)(a:j.natAbs<2^n)(h:m+n<=134217728):IntMulOk i j:=IntMulOk.of_le (vm b) (vm a) h
section
variable{X:Cx}
theorem t7:Hb X (binaryOp .Mult) (rI IntMulOk λi j=> .int (i*j)):=NC λ_ _ _ _ _ _ _ c h=>mul_int h c
theorem BZ:Hb X (binaryOp .FloorDiv) (rI (λ_ j=>j≠0/\j.natAbs<2^9000) λi j=> .int (i.fdiv j)):=NC λi j _ _ _ _ _ c h=>
 rj c.1 h (Or.inl (k8 ((pq (by have:=c.1;omega)).mpr c.2)))
theorem ul:Hb X (binaryOp .FloorDiv) (rI (λ_ j=>0<j/\j.natAbs<2^9000) λi j=> .int (i/j)):=NC λi j _ _ _ _ _ c h=>
 rj (by have:=c.1;exact dM this) (by rw[iW _ (by have:=c.1;exact dZ this)];exact h) (Or.inl (k8 ((pq (by have:=c.1;omega)).mpr c.2)))
theorem c9{n:Int}(h0:0<n)(h:n.natAbs<2^64):0<n/\n.natAbs<2^9000:=⟨h0,cJ h (eK (by decide) (by decide))⟩
theorem Lu{i j:Int}(h:i.natAbs<2^64):IntMulOk i j:=IntMulOk.of_left (vm h)
theorem LD{i j:Int}(h:j.natAbs<2^64):IntMulOk i j:=IntMulOk.of_right (vm h)
theorem uV{x:Str}{T:String}{pos:Pos}(a:Gl X x)(b:X.mg x=none)(c:bootBuiltins x=some (.type T))(d:x≠"__name__":=by decide)(e:(x==("__debug__":Str))=false:=by decide):PE X (.Name x pos) (tC (.ty T)):=En a b c rfl d e
def LG:V->List V->Hp->VK->Prop:=λx vs H Q=>∃l xs i y,x = .ref l/\vs=[.int i,y]/\H l=some (.lst xs)/\0<=i/\i<=(xs.length:Int)/\xs.length<sizeLine/\Q .non (upd H l (.lst (xs.take i.toNat++y::xs.drop i.toNat)))
theorem yT:LC X "list.insert" LG:=by
 intro j s B H x vs v p Q I k g h;obtain⟨l,w,i,y,rfl,rfl,d,h0,h1,t,q⟩:=h
 cases k;obtain⟨u,c,rfl,⟨tk,rfl⟩,f⟩:=g.two;obtain⟨z,a,n,r,o,e⟩:=I.lstM d;have A:=Hh;have b:¬(!kh i)=true:=by
  unfold kh;simp only[ol,Bool.not_eq_false];simp only[dt,decide_eq_true_eq];omega
 refine gH F.slot_list_insert ⟨_,e,rfl⟩ F.entry_list_insert (F.args_list_insert_3 _ _ _) (mm l a.toArray n i tk c b (by rw[cW];exact o▸z)) ⟨e,?_⟩;refine⟨.non,_,I.lset (its':=a.take i.toNat++c::a.drop i.toNat) d e ?_ (Vals.append (r.take _) (.cons f (r.drop _))) ?_,rfl,q⟩
 ·have m:(if i<0 then(i+(a.toArray.size:Int)).toNat else min i.toNat a.toArray.size)=i.toNat:=by
   rw[if_neg (lE h0),cW];omega
  show(a.toArray.extract 0 _).push c++a.toArray.extract _=_;rw[m];apply pW;simp[Array.toList_extract,List.extract];exact eh (by rw[eQ];exact gi rfl)
 ·rw[de,dR,cX,eQ];omega
def tyOf(K:b3)(H:Hp)(x:V)(t:String):Prop:=match x with
 | .non=>t="NoneType"
 | .bl _=>t="bool"
 | .int _=>t="int"
 | .str _=>t="str"
 | .ref a=>(t="list"/\∃xs,SqL K H a xs)\/(t="tuple"/\∃xs,SqT K H a xs)
 | _=>False
def Im(t T:String):Bool:=t==T||(t=="bool"&&T=="int")
def Lg:List String:=["NoneType","bool","int","str","list","tuple"]
def Lb:List String:=["bool","int","str","list","tuple"]
theorem BK{g:List (cG×Obj)}{l:St}{H:Hp}{s:cC}{A:dD}{E:cz->cC->Prop}{Q:cz->cC->Prop}{c:cz}{b:Bool}{x:V}{u:cz}{t:String}(I:Inv X g l H s)(d:RelV x u)(ty:tyOf X.K H x t)
  (e:f3 X.K (.type t) c=some b)(h:∀tk,Q (.bool b) {s with toks:=tk}):wpAny (model X.prog X.w) A (call (.builtin "isinstance") [u,c]) Q E s:=by
 cases x with
 | non=>cases(show u=cz.none from d);cases(show t="NoneType"from ty);exact gI om I.kIn True.intro e (λz=>nomatch z) h
 | bl y=>cases(show u=eH y from d);cases(show t="bool"from ty);exact gI on I.kIn True.intro e (λz=>nomatch z) h
 | int i=>obtain⟨tk,q⟩:=(show ∃t,u=d4 i t from d);cases q;cases(show t="int"from ty);exact gI oX I.kIn True.intro e (λz=>nomatch z) h
 | str y=>obtain⟨tk,q⟩:=(show ∃t,u=iJ y t from d);cases q;cases(show t="str"from ty);exact gI oY I.kIn True.intro e (λz=>nomatch z) h
 | ref a=>
  cases(show u=cQ a from d)
  rcases ty with⟨rfl,k,f⟩|⟨rfl,k,f⟩
  ·obtain⟨j,_,⟨o,n,h1,h2,_⟩,_⟩:=I.list f
   exact gI oo I.kIn ⟨o,h1,h2⟩ e (λz=>nomatch z) h
  ·obtain⟨j,_,⟨o,h1,h2,_⟩,_⟩:=I.tuple f
   exact gI nL I.kIn ⟨o,h1,h2⟩ e (λz=>nomatch z) h
 | byt _=>exact ty.elim
 | flt _=>exact ty.elim
 | ty _=>exact ty.elim
theorem w9{K:b3}{H:Hp}{x:V}{t:String}(h:tyOf K H x t):t∈Lg:=by
 cases x with
 | non=>cases(show t="NoneType"from h);decide
 | bl _=>cases(show t="bool"from h);decide
 | int _=>cases(show t="int"from h);decide
 | str _=>cases(show t="str"from h);decide
 | ref a=>rcases h with⟨rfl,_⟩|⟨rfl,_⟩ <;> decide
 | byt _=>exact h.elim
 | flt _=>exact h.elim
 | ty _=>exact h.elim
theorem BR{K:b3}{t T:String}(a:t∈Lg)(b:T∈Lb):f3 K (.type t) (.type T)=some (Im t T):=by
 simp only[Lg,Lb,da,il,or_false]at a b;rcases a with rfl|rfl|rfl|rfl|rfl|rfl <;> rcases b with rfl|rfl|rfl|rfl|rfl <;> (unfold f3 mS PySem.W.subIn;kernel_rfl)
theorem tW:GH X (.builtin "isinstance") (λxs H Q=>∃x T t,xs=[x,.ty T]/\T∈Lb/\tyOf X.K H x t/\Q (.bl (Im t T)) H):=by
 intro a s g H xs f Q I r h;obtain⟨x,T,t,rfl,b,ty,q⟩:=h;obtain⟨u,c,rfl,d,e⟩:=JP r
 cases(show c=dO T from e);exact BK I d ty (BR (w9 ty) b) λtk=>⟨.bl _,H,I.tok tk,rfl,q⟩
end
theorem Same.tup{K:b3}{H b:Hp}{a:cG}{xs:List V}(e:Same H b)(h:SqT K H a xs):SqT K b a xs:=by
 rcases h with(h|⟨o,h⟩)|h
 ·exact .inl (.inl (e _ _ h))
 ·exact .inl (.inr ⟨o,e _ _ h⟩)
 ·exact .inr h
theorem nJ{H:Hp}{p:cG}(h:H p=none)(o:HO):Same H (upd H p o):=λb u q=>by rw[td (tE q h)];exact q
theorem Same.over{H a:Hp}{p:cG}(e:Same H a)(h:H p=none)(o:HO):Same H (upd a p o):=λb u q=>by
 rw[td (tE q h)];exact e b u q
def IsF(K:b3)(H:Hp)(v:V)(p:Int×Int):Prop:=∃a,v = .ref a/\SqT K H a [.int p.1,.int p.2]
theorem IsF.mono{K:b3}{H b:Hp}{v:V}{p:Int×Int}(e:Same H b)(h:IsF K H v p):IsF K b v p:=by
 obtain⟨a,rfl,q⟩:=h;exact⟨a,rfl,e.tup q⟩
theorem vW{K:b3}{H:Hp}{a p:cG}{xs ys b:List V}(h:SqT K H a xs)(hp:H p=some (.lst ys)):SqT K (upd H p (.lst b)) a xs:=by
 rcases h with(h|⟨o,h⟩)|h
 ·exact .inl (.inl (by rw[td (vb h hp (by intro z;cases z))];exact h))
 ·exact .inl (.inr ⟨o,by rw[td (vb h hp (by intro z;cases z))];exact h⟩)
 ·exact .inr h
theorem IsF.over{K:b3}{H:Hp}{v:V}{p:cG}{ys b:List V}{q:Int×Int}(h:IsF K H v q)(hp:H p=some (.lst ys)):IsF K (upd H p (.lst b)) v q:=by
 obtain⟨a,rfl,h⟩:=h;exact⟨a,rfl,vW h hp⟩
theorem Paired.get{b a:Type}{F:b->a->Prop}:∀{xs:List b} {ys:List a} {i:Nat} {y:a},dJ F xs ys->ys[i]?=some y->∃x,xs[i]?=some x/\F x y
 | _,_,_,_,.nil,e=>by simp at e
 | _,_,0,_,.cons r _,e=>by simp at e;subst e;exact⟨_,rfl,r⟩
 | _,_,i+1,y,.cons _ t,e=>by
  obtain⟨x,h1,h2⟩:=Paired.get (i:=i) t (by simpa using e)
  exact⟨x,by simpa using h1,h2⟩
theorem Paired.get'{a b:Type}{F:a->b->Prop}:∀{xs:List a} {ys:List b} {i:Nat} {x:a},dJ F xs ys->xs[i]?=some x->∃y,ys[i]?=some y/\F x y
 | _,_,_,_,.nil,e=>by simp at e
 | _,_,0,_,.cons r _,e=>by simp at e;subst e;exact⟨_,rfl,r⟩
 | _,_,i+1,y,.cons _ t,e=>by
  obtain⟨x,h1,h2⟩:=Paired.get' (i:=i) t (by simpa using e)
  exact⟨x,by simpa using h1,h2⟩
theorem Paired.app{a b:Type}{F:a->b->Prop}:∀{xs xs':List a} {ys ys':List b},dJ F xs ys->dJ F xs' ys'->dJ F (xs++xs') (ys++ys')
 | _,_,_,_,.nil,t=>t
 | _,_,_,_,.cons r s,t=> .cons r (Paired.app s t)
theorem uE{a:Type}{xs:List a}{i:Int}{v:a}(h0:0<=i)(h:xs[i.toNat]?=some v):Ic xs i=some v:=by
 have e:i=((i.toNat:Nat):Int):=by omega
 rw[e];exact t9 h
theorem uQ{ns:List Int}{i:Nat}(h:i<ns.length):(ns.map V.int)[i]?=some (.int (ns.getD i 0)):=by
 simp[h]
theorem yn{c:TT}{f:TS}{D:H0}{a:St}{H:Hp}(d:Nat->St->Hp->Prop)(h0:∃m,d m a H)
  (g:∀m a H,d m a H->c a H λb H1=>if b=true then f {D with nx:=λσ' H'=>∃m',m'<m/\d m' σ' H',ct:=λσ' H'=>∃m',m'<m/\d m' σ' H',bk:=D.nx} a H1 else D.nx a H1)
  (e:∀a H Q Q',(∀b H1,Q b H1->Q' b H1)->c a H Q->c a H Q'):Ly c f D a H:=by
 refine⟨d,h0,λm a H p=>?_⟩
 refine e a H _ _ (λb H1 q=>?_) (g m a H p)
 cases b with
 | true=>exact⟨_,λσ' H' z=>z,q⟩
 | false=>exact q
end L2
namespace FQ
structure NA(p:Int×Int):Prop where
 pos:0<p.2
 cop:Int.gcd p.1 p.2=1
def red(t b:Int):Int×Int:=(t*b.sign/(Int.gcd t b:Int),b*b.sign/(Int.gcd t b:Int))
theorem gcd_turn{a b:Int}:Int.gcd b (a%b)=Int.gcd a b:=by
 have h:=Int.gcd_add_mul_left_right b (a%b) (a/b);rw[Int.emod_add_mul_ediv]at h;rw[<-h,oq]
theorem xO{k m n:Int}(h:Int.gcd k m=1)(d:k ∣ m*n):k ∣ n:=by
 have h1:k.natAbs ∣ m.natAbs*n.natAbs:=by
  have:=mx.mpr d;rwa[ki]at this
 exact mx.mp (oO h h1)
theorem wA{t b:Int}(f:b≠0):∃u v:Int,t*b.sign=u*(Int.gcd t b:Int)/\b*b.sign=v*(Int.gcd t b:Int)/\red t b=(u,v)/\0<v/\Int.gcd u v=1:=by
 have g:0<Int.gcd t b:=fE _ f;have d:(0:Int)<(Int.gcd t b:Int):=by omega
 have l:(Int.gcd t b:Int) ∣ t:=Int.gcd_dvd_left ..;have j:(Int.gcd t b:Int) ∣ b:=Int.gcd_dvd_right ..;obtain⟨u,c⟩:=l;obtain⟨v,a⟩:=j;refine⟨u*b.sign,v*b.sign,?_,?_,?_,?_,?_⟩
 ·rw[f9,gN u,<-c]
 ·rw[f9,gN v,<-a]
 ·unfold red
  congr 1
  ·apply kj (by omega);rw[f9,gN u,<-c]
  ·apply kj (by omega);rw[f9,gN v,<-a]
 ·have h1:0<b*b.sign:=by rw[Int.mul_sign_self];omega
  have h2:b*b.sign=(v*b.sign)*(Int.gcd t b:Int):=by rw[f9,gN v,<-a]
  rw[h2]at h1;rcases Int.lt_or_le 0 (v*b.sign)with h|h
  ·exact h
  ·exact absurd h1 (sA.mpr (Int.mul_nonpos_of_nonpos_of_nonneg h (dZ d)))
 ·have m:b.sign=1\/b.sign = -1:=by
   rcases kl f with h|h
   ·exact .inr (gZ h)
   ·exact .inl (iA h)
  have k:Int.gcd u v=1:=by
   have e:=Int.gcd_mul_left (Int.gcd t b:Int) u v;rw[<-c,<-a,jo]at e;have:Int.gcd t b*1=Int.gcd t b*Int.gcd u v:=by rw[rO];exact e
   exact(Nat.eq_of_mul_eq_mul_left g this).symm
  rcases m with h|h <;> rw[h] <;> simp[k]
theorem red_low{t b:Int}(a:b≠0):NA (red t b):=by
 obtain⟨u,v,_,_,e,h1,h2⟩:=wA (t:=t) a;rw[e];exact⟨h1,h2⟩
theorem red_worth{t b:Int}(a:b≠0):(red t b).1*b=t*(red t b).2:=by
 obtain⟨u,v,h1,h2,e,_,_⟩:=wA (t:=t) a;rw[e];have d:(Int.gcd t b:Int)≠0:=by have:=fE t a;omega
 have f:b.sign≠0:=by simpa using a
 have c:(u*b)*((Int.gcd t b:Int)*b.sign)=(t*v)*((Int.gcd t b:Int)*b.sign):=by
  calc (u*b)*((Int.gcd t b:Int)*b.sign)=(u*(Int.gcd t b:Int))*(b*b.sign):=by ac_rfl
   _=(t*b.sign)*(v*(Int.gcd t b:Int)):=by rw[<-h1,<-h2]
   _=(t*v)*((Int.gcd t b:Int)*b.sign):=by ac_rfl
 exact g7 (dN d f) c
theorem xQ{p q:Int×Int}(hp:NA p)(l:NA q)(h:p.1*q.2=q.1*p.2):p=q:=by
 obtain⟨a,b⟩:=p;obtain⟨c,d⟩:=q;obtain⟨m,g⟩:=hp;obtain⟨n,f⟩:=l;dsimp only at *;have k:b ∣ d:=by
  have:b ∣ a*d:=⟨c,by rw[h,gN]⟩;exact xO (by rw[oq];exact g) this
 have j:d ∣ b:=by
  have:d ∣ c*b:=⟨a,by rw[<-h,gN]⟩;exact xO (by rw[oq];exact f) this
 have e:b=d:=Int.dvd_antisymm (by omega) (by omega) k j;subst e;have:a=c:=g7 (by omega) h;rw[this]
theorem red_eq{t b t' a:Int}(d:b≠0)(c:a≠0)(h:t*a=t'*b):red t b=red t' a:=by
 refine xQ (red_low d) (red_low c) ?_;have g:=red_worth (t:=t) d;have f:=red_worth (t:=t') c;have e:((red t b).1*(red t' a).2)*(b*a)=((red t' a).1*(red t b).2)*(b*a):=by
  calc ((red t b).1*(red t' a).2)*(b*a)=((red t b).1*b)*((red t' a).2*a):=by ac_rfl
   _=(t*(red t b).2)*((red t' a).2*a):=by rw[g]
   _=(t*a)*((red t b).2*(red t' a).2):=by ac_rfl
   _=(t'*b)*((red t b).2*(red t' a).2):=by rw[h]
   _=(t'*(red t' a).2)*((red t b).2*b):=by ac_rfl
   _=((red t' a).1*a)*((red t b).2*b):=by rw[f]
   _=((red t' a).1*(red t b).2)*(b*a):=by ac_rfl
 exact g7 (dN d c) e
theorem red_eq_iff{t b:Int}(a:b≠0){p:Int×Int}(hp:NA p)(h:p.1*b=t*p.2):red t b=p:=by
 refine xQ (red_low a) hp ?_;have d:=red_worth (t:=t) a;have c:((red t b).1*p.2)*b=(p.1*(red t b).2)*b:=by
  calc ((red t b).1*p.2)*b=((red t b).1*b)*p.2:=by ac_rfl
   _=(t*p.2)*(red t b).2:=by rw[d];ac_rfl
   _=(p.1*(red t b).2)*b:=by rw[<-h];ac_rfl
 exact g7 a c
theorem red_small{t b:Int}(a:b≠0):(red t b).1.natAbs<=t.natAbs/\(red t b).2.natAbs<=b.natAbs:=by
 obtain⟨u,v,h1,h2,e,_,_⟩:=wA (t:=t) a;rw[e];have c:1<=Int.gcd t b:=fE _ a;have g:b.sign.natAbs=1:=by
  rcases kl a with h|h
  ·rw[gZ h];rfl
  ·rw[iA h];rfl
 have d:=congrArg sB h1;have f:=congrArg sB h2;rw[ki,ki,g,rO,jo]at d f;constructor
 ·show u.natAbs<=_;rw[d];exact lF _ c
 ·show v.natAbs<=_;rw[f];exact lF _ c
theorem fdiv_red{t b:Int}(a:b≠0):((t.fdiv ((Int.gcd t b:Int)*b.sign),b.fdiv ((Int.gcd t b:Int)*b.sign)):Int×Int)=red t b:=by
 obtain⟨u,v,h1,h2,e,_,_⟩:=wA (t:=t) a;rw[e];have k:(Int.gcd t b:Int)≠0:=by have:=fE t a;omega
 have l:b.sign≠0:=by simpa using a
 have c:b.sign*b.sign=1:=by
  rcases kl a with h|h
  ·rw[gZ h];rfl
  ·rw[iA h];rfl
 have g:t=u*((Int.gcd t b:Int)*b.sign):=by
  calc t=t*(b.sign*b.sign):=by rw[c,ir]
   _=(t*b.sign)*b.sign:=by ac_rfl
   _=u*((Int.gcd t b:Int)*b.sign):=by rw[h1];ac_rfl
 have j:b=v*((Int.gcd t b:Int)*b.sign):=by
  calc b=b*(b.sign*b.sign):=by rw[c,ir]
   _=(b*b.sign)*b.sign:=by ac_rfl
   _=v*((Int.gcd t b:Int)*b.sign):=by rw[h2];ac_rfl
 generalize hd:(Int.gcd t b:Int)*b.sign=d at g j ⊢;have f:d≠0:=by rw[<-hd];exact dN k l
 rw[g,j,ng _ f,ng _ f]
end FQ
namespace LM
def cellAt(ns:List Int)(k:Int):Int:=if k<ns.length then ns.getD k.toNat 0 else 0
def oddGo(n:Int):Nat->List Int×Int
 | 0=>([],n)
 | k+1=>((oddGo n k).1++[(oddGo n k).2%5040],(oddGo n k).2/5040)
def evenX(n k:Int):Int:=(n*n+48271*n+k+1)%2147483647
def evenGo(n:Int):Nat->List Int×Int
 | 0=>([],n)
 | k+1=>((evenGo n k).1++[evenX (evenGo n k).2 k],evenX (evenGo n k).2 k)
def mixed(c:Int)(m:Nat):List Int:=if c%2=1 then(oddGo (c/2) m).1 else(evenGo ((c/2%2147483647*16807+11)%2147483647) m).1
theorem oddGo_len(n:Int):∀m,(oddGo n m).1.length=m
 | 0=>rfl
 | m+1=>by simp[oddGo,oddGo_len n m]
theorem evenGo_len(n:Int):∀m,(evenGo n m).1.length=m
 | 0=>rfl
 | m+1=>by simp[evenGo,evenGo_len n m]
theorem mixed_len(c:Int)(m:Nat):(mixed c m).length=m:=by
 unfold mixed;split <;> simp[oddGo_len,evenGo_len]
theorem DI(n k:Int):0<=evenX n k/\evenX n k<2147483647:=⟨dQ _ (by decide),dH _ (by decide)⟩
theorem evenGo_num(n:Int)(h0:0<=n)(h1:n<2147483647):∀m,0<=(evenGo n m).2/\(evenGo n m).2<2147483647
 | 0=>⟨h0,h1⟩
 | m+1=>DI _ _
def ins(xs:List Int)(i:Nat)(x:Int):List Int:=xs.take i++x::xs.drop i
theorem DL(xs:List Int)(i:Nat)(x:Int):(ins xs i x).Perm (x::xs):=by
 unfold ins;refine oZ.trans ?_;rw[my]
def permGo(num:Int):Nat->List Int×Int
 | 0=>([],num)
 | k+1=>(ins (permGo num k).1 ((permGo num k).2%(k+1)).toNat k,(permGo num k).2/(k+1))
def perm(num:Int)(n:Nat):List Int:=(permGo num n).1
theorem perm_succ_perm:∀(num:Int) (n:Nat),(perm num n).Perm ((dc n).map im)
 | _,0=>iX _
 | num,n+1=>by
  unfold perm
  rw[gq,cV]
  refine(DL _ _ _).trans ?_
  refine re.trans ?_ List.perm_append_comm
  exact(perm_succ_perm num n).cons _
theorem perm_len(num:Int)(n:Nat):(perm num n).length=n:=by
 have:=(perm_succ_perm num n).length_eq;simpa using this
theorem xw(a:List Int):(dc a.length).map (λi=>a.getD i 0)=a:=by
 apply lG
 ·simp
 ·intro i h1 h2;simp at h1;simp[h1]
def addOne(r:List Int)(t:Int)(w:Int):List Int:=r.set t.toNat (r.getD t.toNat 0+w)
theorem AZ(r:List Int)(t w:Int):(addOne r t w).length=r.length:=by simp[addOne]
def addDeal(M:List (List Int))(o:List Int)(w:Int):List (List Int):=rk (λr t=>addOne r t w) M o
end LM
namespace L2
open PySem PySem.Spec PyProof.Rows
def Kz:Sp:=λvs H Q _=>∃i:Int,vs=[.int i]/\Q (.bl true) H
def LZ:Sp:=λvs H Q _=>∃i j:Int,vs=[.int i,.int j]/\Q (.int (Int.gcd i j:Int)) H
def Le(p:Int×Int):HO:= .tup [.int p.1,.int p.2]
def Sz(n:Nat)(p:Int×Int):Prop:=p.1.natAbs<2^n/\p.2.natAbs<2^n/\p.2≠0
def Hr(x y:Int×Int):Int×Int:=FQ.red (x.1*y.2+y.1*x.2) (x.2*y.2)
def Km(x y:Int×Int):Int×Int:=FQ.red (x.1*y.2-y.1*x.2) (x.2*y.2)
def Kc(x y:Int×Int):Int×Int:=FQ.red (x.1*y.1) (x.2*y.2)
def IS(f:(Int×Int)->(Int×Int)->(Int×Int))(K:b3):Sp:=λvs H Q _=>∃a b x y,vs=[.ref a,.ref b]/\SqT K H a [.int x.1,.int x.2]/\SqT K H b [.int y.1,.int y.2]/\Sz 4000 x/\Sz 4000 y/\
 ∀p H',Same H H'->H' p=some (Le (f x y))->Q (.ref p) H'
def Kg(K:b3):Sp:=λvs H Q _=>∃a ns k,vs=[.ref a,.int k]/\SqL K H a (ns.map V.int)/\0<=k/\Q (.int (LM.cellAt ns k)) H
def KQ:Sp:=λvs H Q _=>∃(c:Int) (m:Nat),vs=[.int c,.int m]/\m<=63/\∀p H',Same H H'->H p=none->H' p=some (.lst ((LM.mixed c m).map V.int))->Q (.ref p) H'
def Ln:Sp:=λvs H Q _=>∃(num:Int) (n:Nat),vs=[.int num,.int n]/\n<=63/\∀p H',Same H H'->H p=none->H' p=some (.lst ((LM.perm num n).map V.int))->Q (.ref p) H'
def Je:Sp:=λvs H Q _=>∃i j:Int,vs=[.int i,.int j]/\0<=j/\Q (.int (Int.gcd i j:Int)) H
def JL:Sp:=λvs H Q _=>∃t b:Int,vs=[.int t,.int b]/\0<b/\b.natAbs<2^9000/\∀p H',Same H H'->H' p=some (Le (FQ.red t b))->Q (.ref p) H'
theorem Fw{t b:Int}(a:b≠0):Int.gcd t b<=b.natAbs:=Nat.le_of_dvd (by omega) (Int.gcd_dvd_natAbs_right ..)
theorem wm{t b:Int}(a:b≠0)(f:b.natAbs<2^9000):
  (b<0->(-(Int.gcd t b:Int)≠0/\(-(Int.gcd t b:Int)).natAbs<2^9000)/\t.fdiv (-(Int.gcd t b:Int))=(FQ.red t b).1/\b.fdiv (-(Int.gcd t b:Int))=(FQ.red t b).2)/\
  (¬b<0->((Int.gcd t b:Int)≠0/\(Int.gcd t b:Int).natAbs<2^9000)/\t.fdiv (Int.gcd t b:Int)=(FQ.red t b).1/\b.fdiv (Int.gcd t b:Int)=(FQ.red t b).2):=by
 have g:0<Int.gcd t b:=fE _ a
 have d:=Fw (t:=t) a
 have e:=FQ.fdiv_red (t:=t) a
 constructor
 ·intro c
  rw[gZ c,Int.mul_neg_one]at e
  exact⟨⟨by omega,by rw[Int.natAbs_neg,jo];exact dP d f⟩,congrArg Prod.fst e,congrArg Prod.snd e⟩
 ·intro c
  rw[iA (by omega),ir]at e
  exact⟨⟨by omega,by rw[jo];exact dP d f⟩,congrArg Prod.fst e,congrArg Prod.snd e⟩
theorem Bd{a b m n:Nat}(h1:a<2^m)(h2:b<2^n):a*b<2^(m+n):=by
 rw[Nat.pow_add];exact Nat.mul_lt_mul'' h1 h2
theorem wD{a b:Int}{m n:Nat}(h1:a.natAbs<2^m)(h2:b.natAbs<2^n):(a*b).natAbs<2^(m+n):=by
 rw[ki];exact Bd h1 h2
theorem wM{a:Int}{m n:Nat}(h:a.natAbs<2^m)(b:m<=n):a.natAbs<2^n:=cJ h (eK (by decide) b)
theorem IR{a b:Int}(h1:a.natAbs<2^4000)(h2:b.natAbs<2^4000):IntMulOk a b:=M4 h1 h2 (by decide)
theorem Ms{a b:Int}(h1:a.natAbs<2^4000)(h2:b.natAbs<2^4000):(a*b).natAbs<2^9000:=wM (wD h1 h2) (by decide)
mutual
inductive Rep(K:b3)(H:Hp):V->iY->Prop
 | non:Rep K H .non .none
 | bl (b:Bool):Rep K H (.bl b) (.bool b)
 | int (i:Int):Rep K H (.int i) (.int i)
 | str (x:Str):Rep K H (.str x) (.str x)
 | lst {a:cG} {xs:List V} {ds:List iY}:SqL K H a xs->Reps K H xs ds->xs.length<=1000->Rep K H (.ref a) (.list ds)
 | tup {a:cG} {xs:List V} {ds:List iY}:SqT K H a xs->Reps K H xs ds->xs.length<=1000->Rep K H (.ref a) (.tuple ds)
inductive Reps(K:b3)(H:Hp):List V->List iY->Prop
 | nil:Reps K H [] []
 | cons {x:V} {d:iY} {xs:List V} {ds:List iY}:Rep K H x d->Reps K H xs ds->Reps K H (x::xs) (d::ds)
end
section
variable{X:Cx}{pins:List (cG×Obj)}{σ:St}{H:Hp}{s:cC}
mutual
theorem Rep.reads(I:Inv X pins σ H s){x:V}{d:iY}{u:cz}(r:Rep X.K H x d)(q:RelV x u):∃as,Reads s.heap u d as:=by
 cases r with
 | non=>cases(show u=cz.none from q);exact⟨_,.none⟩
 | bl b=>cases(show u=eH b from q);exact⟨_,.bool b⟩
 | int i=>obtain⟨t,e⟩:=(show ∃t,u=d4 i t from q);cases e;exact⟨_,.int i t⟩
 | str x=>obtain⟨t,e⟩:=(show ∃t,u=iJ x t from q);cases e;exact⟨_,.str x t⟩
 | @lst a xs ds hq hs hl=>
  cases(show u=cQ a from q);obtain⟨g,f,⟨o,n,h1,h2,_,h3⟩,_⟩:=I.list hq;obtain⟨as,c⟩:=Reps.reads I hs f;exact⟨_,.list h1 h2 h3 (by simpa using c)⟩
 | @tup a xs ds hq hs hl=>
  cases(show u=cQ a from q);obtain⟨g,f,⟨o,h1,h2,n,h3⟩,_⟩:=I.tuple hq;obtain⟨as,c⟩:=Reps.reads I hs f;exact⟨_,.tuple h1 h2 h3 (by simpa using c)⟩
theorem Reps.reads(I:Inv X pins σ H s){xs:List V}{ds:List iY}{us:List cz}(r:Reps X.K H xs ds)(q:Vals xs us):∃as,ReadsAll s.heap us ds as:=by
 cases r with
 | nil=>cases q;exact⟨_,.nil⟩
 | cons r b=>
  cases q with
  | cons q a=>
   obtain⟨as,h1⟩:=Rep.reads I r q;obtain⟨c,h2⟩:=Reps.reads I b a;exact⟨_,.cons h1 h2⟩
end
def No(K:b3):R2:=λx y H Q=>∃d e,Rep K H x d/\Rep K H y e/\fy d=true/\fy e=true/\Q (.bl (fz d e)) H
def Nb(K:b3):R2:=λx y H Q=>∃d e,Rep K H x d/\Rep K H y e/\fy d=true/\fy e=true/\Q (.bl (!fz d e)) H
theorem vP{k:Nat}(m:Room k X.A):Hb X (compareOp .Eq) (No X.K):=by
 intro b s n H x y v u Q I f a h;obtain⟨d,e,l,g,c,j,q⟩:=h;obtain⟨as,h1⟩:=l.reads I f;obtain⟨o,h2⟩:=g.reads I a;exact eq_dataH h1 h2 c j m.units ⟨.bl _,H,I,rfl,q⟩
theorem xf{k:Nat}(m:Room k X.A):Hb X (compareOp .NotEq) (Nb X.K):=by
 intro b s n H x y v u Q I f a h;obtain⟨d,e,l,g,c,j,q⟩:=h;obtain⟨as,h1⟩:=l.reads I f;obtain⟨o,h2⟩:=g.reads I a;exact ne_dataH h1 h2 c j m.units ⟨.bl _,H,I,rfl,q⟩
end
theorem Reps.length{K:b3}{H:Hp}:∀{xs:List V} {ds:List iY},Reps K H xs ds->xs.length=ds.length
 | _,_,.nil=>rfl
 | _,_,.cons _ r=>by simp[Reps.length r]
theorem Reps.get{K:b3}{H:Hp}:∀{xs:List V} {ds:List iY} {i:Nat} {d:iY},Reps K H xs ds->ds[i]?=some d->∃x,xs[i]?=some x/\Rep K H x d
 | _,_,_,_,.nil,e=>by simp at e
 | _,_,0,_,.cons r _,e=>by simp at e;subst e;exact⟨_,rfl,r⟩
 | _,_,i+1,d,.cons _ t,e=>by
  obtain⟨x,h1,h2⟩:=Reps.get (i:=i) t (by simpa using e)
  exact⟨x,by simpa using h1,h2⟩
def dF(p:Int×Int):iY:= .tuple [.int p.1,.int p.2]
theorem IsF.rep{K:b3}{H:Hp}{v:V}{p:Int×Int}(h:IsF K H v p):Rep K H v (dF p):=by
 obtain⟨a,rfl,q⟩:=h;exact .tup q (.cons (.int _) (.cons (.int _) .nil)) (by simp)
theorem Paired.len{a b:Type}{F:a->b->Prop}{xs:List a}{ys:List b}(h:dJ F xs ys):xs.length=ys.length:=nl h
theorem xL{lo:Int}{n:Nat}{caps:List (Option Nat)}{g:TG}{h:TT}{f:TE}{d:St}{j:List V->Hp->Prop}{H:Hp}(a:Nat->List V->Hp->Prop)(h0:a 0 [] H)
  (q:∀i ys H,i<n->a i ys H->g (.int (lo+i)) (GU caps d) H λσ2 H2=>h σ2 H2 λb H3=>if b=true then f σ2 H3 λy H4=>ys.length<sizeLine/\a (i+1) (ys++[y]) H4 else a (i+1) ys H3)
  (o:∀ys H,a n ys H->j ys H):GG caps g h f d j (LA lo n) H:=by
 refine⟨λi m ys H=>m=n-i/\i<=n/\a i ys H,⟨n,by simp,dz _,h0⟩,?_⟩
 rintro i m ys H ⟨rfl,s,p⟩
 by_cases c:i<n
 ·refine .inr ⟨c,a (i+1),λr k l=>⟨n-(i+1),by omega,rfl,c,l⟩,λx k y=>?_⟩
  obtain⟨e,y⟩:=y
  subst e y
  exact q i ys _ c p
 ·have e:i=n:=by omega
  subst e
  exact .inl ⟨cI _,o ys H p⟩
theorem wY{K:b3}{a:cG}{xs:List V}{caps:List (Option Nat)}{g:TG}{j:TT}{h:TE}{f:St}{k:List V->Hp->Prop}{H:Hp}(c:Nat->List V->Hp->Prop)(h0:c 0 [] H)
  (hl:∀i ys H,i<=xs.length->c i ys H->SqL K H a xs)
  (s:∀i x ys H,xs[i]?=some x->c i ys H->g x (GU caps f) H λσ2 H2=>j σ2 H2 λb H3=>if b=true then h σ2 H3 λy H4=>ys.length<sizeLine/\c (i+1) (ys++[y]) H4 else c (i+1) ys H3)
  (r:∀ys H,c xs.length ys H->k ys H):GG caps g j h f k (Mm K a) H:=by
 refine⟨λi m ys H=>m=xs.length-i/\i<=xs.length/\c i ys H,⟨xs.length,by simp,dz _,h0⟩,?_⟩
 rintro i m ys H ⟨rfl,l,p⟩
 have q:=hl i ys H l p
 by_cases d:i<xs.length
 ·refine .inr ⟨⟨xs,xs[i],q,by simp[d]⟩,c (i+1),λt n o=>⟨xs.length-(i+1),by omega,rfl,d,o⟩,λx n y=>?_⟩
  obtain⟨e,y⟩:=y
  subst e
  exact s i x ys _ (y xs q) p
 ·have e:i=xs.length:=by omega
  subst e
  exact .inl ⟨⟨xs,q,cI _⟩,r ys H p⟩
theorem vO{K:b3}{a:cG}{xs:List V}{caps:List (Option Nat)}{g:TG}{j:TT}{h:TE}{f:St}{k:List V->Hp->Prop}{H:Hp}(c:Nat->List V->Hp->Prop)(h0:c 0 [] H)
  (hl:∀i ys H,i<=xs.length->c i ys H->SqT K H a xs)
  (s:∀i x ys H,xs[i]?=some x->c i ys H->g x (GU caps f) H λσ2 H2=>j σ2 H2 λb H3=>if b=true then h σ2 H3 λy H4=>ys.length<sizeLine/\c (i+1) (ys++[y]) H4 else c (i+1) ys H3)
  (r:∀ys H,c xs.length ys H->k ys H):GG caps g j h f k (Mf K a) H:=by
 refine⟨λi m ys H=>m=xs.length-i/\i<=xs.length/\c i ys H,⟨xs.length,by simp,dz _,h0⟩,?_⟩
 rintro i m ys H ⟨rfl,l,p⟩
 have q:=hl i ys H l p
 by_cases d:i<xs.length
 ·refine .inr ⟨⟨xs,xs[i],q,by simp[d]⟩,c (i+1),λt n o=>⟨xs.length-(i+1),by omega,rfl,d,o⟩,λx n y=>?_⟩
  obtain⟨e,y⟩:=y
  subst e
  exact s i x ys _ (y xs q) p
 ·have e:i=xs.length:=by omega
  subst e
  exact .inl ⟨⟨xs,q,cI _⟩,r ys H p⟩
theorem uW{a:St}{H:Hp}{A:Hp->Prop}{B:Hp->Prop}:(HN a H λb H3=>if b=true then A H3 else B H3)=A H:=by
 unfold HN;exact if_pos rfl
theorem uY{lo:Int}{n:Nat}{caps:List (Option Nat)}{g:TG}{c:TE}{b:St}{d:List V->Hp->Prop}{H:Hp}(a:Nat->List V->Hp->Prop)(h0:a 0 [] H)
  (h:∀i ys H,i<n->a i ys H->g (.int (lo+i)) (GU caps b) H λσ2 H2=>c σ2 H2 λy H4=>ys.length<sizeLine/\a (i+1) (ys++[y]) H4)
  (f:∀ys H,a n ys H->d ys H):GG caps g HN c b d (LA lo n) H:=
 xL a h0 (λi ys H e p=>by simp only[uW];exact h i ys H e p) f
theorem ur{K:b3}{a:cG}{xs:List V}{caps:List (Option Nat)}{g:TG}{d:TE}{c:St}{e:List V->Hp->Prop}{H:Hp}(b:Nat->List V->Hp->Prop)(h0:b 0 [] H)
  (hl:∀i ys H,i<=xs.length->b i ys H->SqL K H a xs)
  (j:∀i x ys H,xs[i]?=some x->b i ys H->g x (GU caps c) H λσ2 H2=>d σ2 H2 λy H4=>ys.length<sizeLine/\b (i+1) (ys++[y]) H4)
  (h:∀ys H,b xs.length ys H->e ys H):GG caps g HN d c e (Mm K a) H:=
 wY b h0 hl (λi x ys H f p=>by simp only[uW];exact j i x ys H f p) h
theorem yS{K:b3}{a:cG}{xs:List V}{caps:List (Option Nat)}{g:TG}{d:TE}{c:St}{e:List V->Hp->Prop}{H:Hp}(b:Nat->List V->Hp->Prop)(h0:b 0 [] H)
  (hl:∀i ys H,i<=xs.length->b i ys H->SqT K H a xs)
  (j:∀i x ys H,xs[i]?=some x->b i ys H->g x (GU caps c) H λσ2 H2=>d σ2 H2 λy H4=>ys.length<sizeLine/\b (i+1) (ys++[y]) H4)
  (h:∀ys H,b xs.length ys H->e ys H):GG caps g HN d c e (Mf K a) H:=
 vO b h0 hl (λi x ys H f p=>by simp only[uW];exact j i x ys H f p) h
theorem yq{a b T:Int}(c:T≠0):Hr (FQ.red a T) (FQ.red b T)=FQ.red (a+b) T:=by
 have h1:=FQ.red_worth (t:=a) c;have h2:=FQ.red_worth (t:=b) c;have d:=(FQ.red_low (t:=a) c).pos;have e:=(FQ.red_low (t:=b) c).pos;unfold Hr;refine FQ.red_eq (dN (dM d) (dM e)) c ?_;generalize FQ.red a T=p at *;generalize FQ.red b T=q at *
 calc (p.1*q.2+q.1*p.2)*T=(p.1*T)*q.2+(q.1*T)*p.2:=by rw[ic];ac_rfl
  _=(a*p.2)*q.2+(b*q.2)*p.2:=by rw[h1,h2]
  _=(a+b)*(p.2*q.2):=by rw[ic];ac_rfl
theorem wI{T:Int}(a:T≠0):FQ.red 0 T=(0,1):=FQ.red_eq_iff a ⟨by decide,by decide⟩ (by simp)
theorem zM{T:Int}(a:T≠0):FQ.red T T=(1,1):=FQ.red_eq_iff a ⟨by decide,by decide⟩ (by simp)
theorem wW{a T:Int}(b:T≠0)(h1:a.natAbs<2^100)(h2:T.natAbs<2^100):Sz 4000 (FQ.red a T):=by
 have s:=FQ.red_small (t:=a) b;have p:=(FQ.red_low (t:=a) b).pos;refine⟨dP s.1 (cJ h1 (eK (by decide) (by decide))),dP s.2 (cJ h2 (eK (by decide) (by decide))),dM p⟩
def KG(K:b3):Sp:=λvs H Q _=>∃(a:cG) (ns:List Int),vs=[.ref a]/\SqL K H a (ns.map V.int)/\ns.length<=63/\∀H',Q (.bl true) H'
def Ho:Nat->iY->Bool
 | _,.none=>true
 | _,.bool _=>true
 | _,.int _=>true
 | _,.str x=>fy (.str x)
 | n+1,.tuple ds=>ds.all (Ho n)
 | n+1,.list ds=>ds.all (Ho n)
 | _,_=>false
def Ko(K:b3)(n:Nat):Sp:=λvs H Q _=>∃v u d,vs=[v,u]/\Rep K H v d/\Rep K H u d/\Ho n d=true/\Q (.bl true) H
def Lh(sp:Nat->Sp):Nat->Sp
 | 0=>λ_ _ _ _=>False
 | n+1=>sp n
structure Flies(P:cY)(w:dn)(outer:List Env)(H:Hp)(s:cC)(a C:cG)(B:Heap)(a0:cz)(H':Hp)(s':cC):Prop where
 os:s'.os=s.os
 bare:AllBare s'.gens
 un:Un (Hc outer) [] H H' s.heap s'.heap
 hok:HOk P w H' B
 keep:∀b o,s.heap.get? b=some o->H b=none->b∉Hc outer->B.get? b=some o
 has:∀b o,s.heap.get? b=some o->b∉Hc outer->∃o',B.get? b=some o'
 fly:lY B outer a (.ref C) a0 s'.heap
def Hj(P:cY)(w:dn):Jd:=λb H s E e c=>∃a C B a0 H',e = .ref a/\Flies P w b H s a C B a0 H' c/\E (.ref C) none H'
theorem ObjOk.is{P:cY}{w:dn}{H:Hp}{h:Heap}{a:cG}{o:HO}(x:ObjOk P w H h a o):∃u,h.get? a=some u:=by
 cases o with
 | lst d=>obtain⟨_,_,_,_,e⟩:=x;exact⟨_,e⟩
 | tup d=>obtain⟨_,_,_,o,e,_⟩:=x;exact⟨_,e⟩
 | dK b=>obtain⟨_,_,_,_,o,_,_,e,_⟩:=x;exact⟨_,e⟩
 | dT b=>obtain⟨_,_,_,_,o,_,_,e,_⟩:=x;exact⟨_,e⟩
 | set S n=>obtain⟨o,_,_,_,e,_⟩:=x;exact⟨_,e⟩
 | ins C g c=>obtain⟨_,_,_,e,_⟩:=x;exact⟨_,e⟩
 | own y=>obtain⟨_,e⟩:=x;exact⟨_,e⟩
 | xd c=>obtain⟨_,⟨_,_,_,e,_⟩,_⟩:=x;exact⟨_,e⟩
 | rng lo k=>obtain⟨_,_,_,e⟩:=x;exact⟨_,e⟩
 | frz j u=>obtain⟨e,_⟩:=x;exact⟨_,e⟩
 | tbl m=>exact⟨_,(show h.get? a=some _ from x)⟩
 | met f y=>exact⟨_,(show h.get? a=some _ from x)⟩
 | ext l=>obtain⟨_,⟨_,e⟩,_⟩:=x;exact⟨_,e⟩
theorem Flies.free{P:cY}{w:dn}{outer:List Env}{H b:Hp}{s s':cC}{a C:cG}{B:Heap}{d:cz}(f:Flies P w outer H s a C B d b s'):b a=none:=by
 cases q:b a with
 | none=>rfl
 | some o=>
  obtain⟨x,c⟩:=(f.hok a o q).is;rw[f.fly.2.1]at c;cases c
theorem DW{P:cY}{w:dn}{H:Hp}{h:Heap}{l:List cG}(x:HOk P w H h)(n:∀b∈l,H b=none):HOk P w H (mh h l):=λa o e=>
 (x a o e).stay (λb u c q=>gK _ q λz=>by
  rcases c with rfl|c
  ·rw[n _ z]at e;cases e
  ·rw[n _ z]at c;cases c) (λ_ q=>q) λ_ _ q=>q
section
variable{P:cY}{w:dn}{K:b3}{mg:Str->Option cz}{base:Heap}{N:List Str}{qual:Str}{scope:Scope}{f:cG}{cd:cz}{A:dD}{outer:List Env}{s₀:cC}{H₀:Hp}{E:XK}
abbrev JO(P:cY)(w:dn)(K:b3)(mg:Str->Option cz)(base:Heap)(N:List Str)(qual:Str)(scope:Scope)(f:cG)(a:cz)(A:dD)(outer:List Env)(s₀:cC)(H₀:Hp)(E:XK):Cx:=IN (Hj P w) P w K mg base N qual scope f a A outer s₀ H₀ E
theorem xZ{env:Env}{l:List Env}{L:cG}(h:env.frame=some L):Hc (env::l)=L::Hc l:=by unfold Hc;rw[gp,h]
theorem zL{x:List (cG×Obj)}{R:St}{H:Hp}{s:cC}{h':Heap}{e C:cG}{vs:List cz}(I:Inv (JO P w K mg base N qual scope f cd A outer s₀ H₀ E) x R H s)(v:Heap.MadeExcOf s.heap h' e (.ref C) vs)(S:E (.ref C) none H):
  (JO P w K mg base N qual scope f cd A outer s₀ H₀ E).xe (.ref e) {s with heap:=h'}:=by
 have D:(envOfC qual scope s₀.heap.objs.size f cd).frame=some s₀.heap.objs.size:=rfl
 have T:(JO P w K mg base N qual scope f cd A outer s₀ H₀ E).stack=envOfC qual scope s₀.heap.objs.size f cd::outer:=rfl
 have F:∀k∈(envOfC qual scope s₀.heap.objs.size f cd::outer),∀b,k.frame=some b->b∈Hc (envOfC qual scope s₀.heap.objs.size f cd::outer):=λk Q b a=>gX.mpr ⟨k,Q,a⟩
 have M:s.heap.FunFrames base (envOfC qual scope s₀.heap.objs.size f cd::outer):=I.stack
 have J:∀b∈Hc (envOfC qual scope s₀.heap.objs.size f cd::outer),H b=none:=I.stkFree
 have d:∀b o,s₀.heap.get? b=some o->b∉Hc outer->b∉Hc (envOfC qual scope s₀.heap.objs.size f cd::outer):=λb o q nb=>by
  rw[xZ D]
  intro z
  rcases da.mp z with z|z
  ·exact absurd (cR q) (by rw[z];exact dA _)
  ·exact nb z
 have U:Un (Hc outer) [] H₀ H s₀.heap s.heap:=I.base
 show wpAny _ _ (leaving _ _) _ _ _
 refine wpAny_leaves_madeW (base:=mh s.heap (Hc (envOfC qual scope s₀.heap.objs.size f cd::outer))) (h:=s.heap) I.ok.frames D (λb o q=>nE _ q) (PySem.W.funFrames_hide M F) v λV t G _ _ B=>?_
 have j:=G.1
 refine⟨e,C,_,_,H,rfl,⟨I.os,I.bare,⟨λb o q n nb _=>?_,λb o q n a _=>?_,λb o q n y=>U.free b o q n y,λb o q _=>?_,U.tups,U.frzs,U.tbls⟩,DW I.hok J,λb o q n nb=>?_,λb o q nb=>?_,G⟩,S⟩
 ·exact j _ _ (gK _ (U.keep b o q n nb (by simp)) (d b o q nb))
 ·obtain⟨O,l⟩:=U.slot b o q n a (by simp)
  obtain⟨_,m,c,g⟩:=I.funs.mem a
  have L:m={o with slots:=O}:=Option.some.inj (c.symm.trans l)
  obtain⟨r,p⟩:=B b m (v.keeps _ _ c) g
  rw[L]at p
  exact⟨r,p⟩
 ·obtain⟨u,l⟩:=U.there b o q (by simp)
  by_cases a:b∈Hc outer
  ·obtain⟨_,m,c,g⟩:=I.funs.mem a
   obtain⟨r,p⟩:=B b m (v.keeps _ _ c) g
   exact⟨_,p⟩
  ·exact⟨u,j _ _ (gK _ l (d b o q a))⟩
 ·exact gK _ (U.keep b o q n nb (by simp)) (d b o q nb)
 ·obtain⟨u,l⟩:=U.there b o q (by simp)
  exact⟨u,gK _ l (d b o q nb)⟩
theorem JE{S:XK}(hE:∀c d H',S c d H'->E c d H'):GF (Hj P w) (JO P w K mg base N qual scope f cd A outer s₀ H₀ E) S:=by
 intro Y σ H s e R I hc;obtain⟨a,C,B,W,H',rfl,F,q⟩:=hc;have y:(envOfC qual scope s₀.heap.objs.size f cd).frame=some s₀.heap.objs.size:=rfl;have t:∀b o,s₀.heap.get? b=some o->b∉Hc outer->b∉Hc (envOfC qual scope s₀.heap.objs.size f cd::outer):=λb o q nb=>by
  rw[xZ y];intro z;rcases da.mp z with z|z
  ·exact absurd (cR q) (by rw[z];exact dA _)
  ·exact nb z
 have sub:∀b∈Hc outer,b∈Hc (envOfC qual scope s₀.heap.objs.size f cd::outer):=λb g=>by rw[xZ y];exact cN _ g
 have U:Un (Hc outer) [] H₀ H s₀.heap s.heap:=I.base;have p:Un (Hc (envOfC qual scope s₀.heap.objs.size f cd::outer)) [] H H' s.heap R.heap:=F.un;have V:R.heap.FunFrames B (envOfC qual scope s₀.heap.objs.size f cd::outer):=F.fly.2.2.1;show wpAny _ _ (leaving _ _) _ _ _;refine wpAny_leaves_onW I.ok.frames y F.fly λD M x4=>?_;have m:=M.1;have L:∀b o,s₀.heap.get? b=some o->H₀ b=none->b∉Hc outer->B.get? b=some o:=λb o q n nb=>F.keep b o (U.keep b o q n nb (by simp)) (U.free b o q n (by simp)) (t b o q nb);have Q:∀b o,s₀.heap.get? b=some o->b∉Hc outer->∃j,B.get? b=some j:=λb o q nb=>by
  obtain⟨j,h⟩:=U.there b o q (by simp);exact F.has b j h (t b o q nb)
 have k:∀b o,s₀.heap.get? b=some o->H₀ b=none->b∈Hc outer->∃k,D.get? b=some {o with slots:=k}:=λb o q n g=>by
  obtain⟨k,h⟩:=U.slot b o q n g (by simp);obtain⟨aa,q2⟩:=p.slot b _ h (U.free b o q n (by simp)) (sub b g) (by simp);obtain⟨_,T,r,G⟩:=V.mem (sub b g);have x:=Option.some.inj (r.symm.trans q2);obtain⟨v,O⟩:=x4 b T r G;rw[x]at O;exact⟨v,O⟩
 refine⟨a,C,B,W,H',rfl,⟨F.os.trans I.os,F.bare,⟨λb o q n nb _=>m _ _ (L b o q n nb),λb o q n g _=>k b o q n g,λb o q n l=>?_,λb o q _=>?_,λb J q=>p.tups b J (U.tups b J q),λb o u q=>p.frzs b o u (U.frzs b o u q),λb Z q=>?_⟩,F.hok,L,Q,M⟩,hE _ _ _ q⟩
 ·obtain⟨j,h⟩:=U.there b o q l;exact p.free b j h (U.free b o q n l) l
 ·by_cases g:b∈Hc outer
  ·obtain⟨k,h⟩:=k b o q (I.ok.frf b g) g;exact⟨_,h⟩
  ·obtain⟨j,h⟩:=Q b o q g;exact⟨j,m _ _ h⟩
 ·obtain⟨X,e1⟩:=U.tbls b Z q;obtain⟨m2,x⟩:=p.tbls b _ e1;exact⟨X++m2,by rw[x,nF]⟩
end
def MF:List cz:=[.type "ValueError",.type "Exception",.type "BaseException",.type "object"]
structure HW(K:b3)(mg:Str->Option cz)(x:Str)(C:cG):Prop where
 bound:mg x=some (.ref C)
 exc:gS K C MF "ValueError.__new__"=true
theorem x0{K:b3}{h:Heap}{C:cG}{bmB:List cz}{a:String}(X:K.In h)(q:gS K C bmB a=true):
  ∃bm N nm qn bs hdct sn sub ab col dd k0 k1 k2 k3 k5 mN,h.get? C=some (excClassObj nm qn C N bs bm hdct sn sub ab col dd k0 k1 k2 k3 k5 a)/\h.Ns N mN/\mN "__init__"=none/\OwnTail h bmB bm:=by
 unfold gS at q
 split at q
 ·rename_i dd cd sl hlk
  split at q
  ·rename_i C' bm u0 u1 u2 u3 n u5 hmro hsl
   simp only[dt,beq_iff_eq,ol]at q
   obtain⟨⟨⟨⟨⟨rfl,rfl⟩,c⟩,e⟩,b⟩,d⟩:=q
   obtain⟨nm,bs,k,f,qn,g,sn,sub,ab,col,j⟩:=cd
   dsimp only at hmro c b d
   subst hmro c
   obtain⟨l⟩:=sl
   simp only at hsl
   subst hsl
   exact⟨bm,f,nm,qn,bs,g,sn,sub,ab,col,dd,u0,u1,u2,u3,u5,_,X _ _ hlk,.of_isNs (PySem.W.isNs_of_in X b),PySem.W.nsMap_none_of_in X b d,PySem.W.tail_of_in X e⟩
  ·cases q
 ·cases q
section
variable{P:cY}{w:dn}{K:b3}{mg:Str->Option cz}{base:Heap}{N:List Str}{qual:Str}{scope:Scope}{f:cG}{cd:cz}{A:dD}{outer:List Env}{s₀:cC}{H₀:Hp}{E:XK}
def Mp(C:cG)(E:XK)(t:TA):TS:=λ_ a H=>t a H λvs b=>vs.length<=sizeLine/\E (.ref C) none b
theorem u8{x:Str}{C:cG}{a:Expr}{c:List Expr}{Q b pos:Pos}{t:TA}(n:HW K mg x C)(L:Gl (JO P w K mg base N qual scope f cd A outer s₀ H₀ E) x)
  (M:PA (JO P w K mg base N qual scope f cd A outer s₀ H₀ E).nox (a::c) t)
  (O:(x==("__debug__":Str))=false:=by decide)(j:dq (a::c) (JO P w K mg base N qual scope f cd A outer s₀ H₀ E).env=(false,eval a (JO P w K mg base N qual scope f cd A outer s₀ H₀ E).env)::dq c (JO P w K mg base N qual scope f cd A outer s₀ H₀ E).env:=by rfl)
  (o:(backTo b (dq c (JO P w K mg base N qual scope f cd A outer s₀ H₀ E).env)).any (·.1)=false:=by rfl):
  PS (JO P w K mg base N qual scope f cd A outer s₀ H₀ E) (.Raise (some (.Call (.Name x Q) (a::c) [] b)) none pos) (Mp C E t):=by
 intro g s y H D I h
 obtain⟨bm,p,nm,B,bs,hdct,sn,sub,ab,col,dd,k0,k1,k2,k3,k5,mN,l,G,k,T⟩:=x0 I.ok.mod.kin n.exc
 refine wpAny_Raise_call_subT (C:=C) (nm:=nm) (q:=B) (N:=p) (bs:=bs) (bm:=bm) (hdct:=hdct) (sn:=sn) (sub:=sub) (ab:=ab) (col:=col) (dd:=dd) (k0:=k0) (k1:=k1) (k2:=k2) (k3:=k3) (k5:=k5) (mN:=mN) (bmB:=MF) (newId:="ValueError.__new__")
  PySem.F.excBase_ValueError (T.hasType (by decide)) (I.ok.hd rfl) (by rw[j];exact o) k (vA I L n.bound ⟨rfl,?_⟩ O)
 have z:=M b g s y H _ (I.wish _) h
 have m:dq (a::c) (JO P w K mg base N qual scope f cd A outer s₀ H₀ E).nox.env=(false,eval a (JO P w K mg base N qual scope f cd A outer s₀ H₀ E).env)::dq c (JO P w K mg base N qual scope f cd A outer s₀ H₀ E).env:=j
 rw[m]at z
 rw[j]
 refine iU ?_
 refine fN z (λR U h1=>?_) λ_ _ z=>eI z
 obtain⟨vs,S,d,r,J,u⟩:=h1
 have d:=d.unwish
 exact⟨rfl,by rw[<-r.length];exact J,d.bk _ _ l,G.keeps d.bk,T.keeps d.bk,λV e v=>zL d v u⟩
end
section
variable{M:Model}{A:dD}{E:cz->cC->Prop}{K:b3}{h:Heap}{g:Array GenState}{d:Drawn}{t:Nat}{os:OsState}{a C CW:cG}{oe:Obj}
theorem ze{Q:Bool->cC->Prop}(X:K.In h)(k:gS K CW MF "ValueError.__new__"=true)(m:fk K C (.ref CW)=some true)(l:h.get? a=some oe)(hc:oe.cls = .ref C)
  (n:Q true ⟨h,g,d,t,os⟩):wpAny M A (excMatches (.ref a) (.ref CW)) Q E ⟨h,g,d,t,os⟩:=by
 obtain⟨c,q,s,F,H,f,B,sub,y,o,w,x,r,u,I,v,D,b,G,p,T⟩:=x0 X k
 have j:c.contains (.type "BaseException")=true:=T.hasType (by decide)
 have e:(cQ CW::c).contains (.type "BaseException")=true:=by rw[List.contains_cons,j,Bool.or_true]
 have z:=tc_notTuple
 have L:=j5 (M:=M) X m
 unfold excMatches
 repeat (first|(with_reducible refine ou l ?_;rw[hc])|with_reducible refine ou b ?_|(with_reducible refine wpAny_isSubtype_exc b ?_;rw[e])|with_reducible refine L.at ?_|wp_step)
 exact n
end
def Kr(C a:cG):HO:= .ext λh=>∃o,h.get? a=some o/\o.cls = .ref C/\∃vs,o.data = .fields vs
section
variable{X:Cx}{pins:List (cG×Obj)}{σ:St}{H:Hp}{s:cC}
theorem Inv.caught{a C:cG}{B:Heap}{M:cz}{A:Hp}{s':cC}{h6:Heap}(I:Inv X pins σ H s)(F:Flies X.prog X.w X.stack H s a C B M A s')(g:lY B X.stack a (.ref C) M h6)(T:s'.heap.UpToSlots h6):
  Inv X pins σ (upd A a (Kr C a)) {s' with heap:=h6}:=by
 have fr:=F.free
 have l:=F.un
 have N:=F.fly.2.2.1
 obtain⟨J,vs,j,G,t,_⟩:=g.first
 have m:∀b u,A b=some u->b≠a:=λb u q z=>by rw[z,fr]at q;cases q
 have L:∀b o,s.heap.get? b=some o->H b=none->b≠a:=λb o q n z=>by
  by_cases e:b∈Hc X.stack
  ·obtain⟨_,x,d,h⟩:=g.2.2.1.mem e
   rw[z,j]at d
   cases d
   exact h _ t
  ·have:=F.keep b o q n e
   rw[z,g.2.1]at this
   cases this
 refine I.call' (s':={s' with heap:=h6}) (ch:=[]) F.os ⟨λb o q n nb _=>g.1 _ _ (F.keep b o q n nb),λb o q n e _=>?_,λb o q n Q=>?_,λb o q _=>?_,λb E q=>?_,λb o u q=>?_,λb O q=>?_⟩ ?_ F.bare (λb z=>absurd z (by simp))
 ·obtain⟨U,p⟩:=l.slot b o q n e (by simp)
  obtain⟨_,x,d,h⟩:=N.mem e
  have P:=Option.some.inj (d.symm.trans p)
  obtain⟨D,r⟩:=T b x d h
  rw[P]at r
  exact⟨D,r⟩
 ·rw[td (L b o q n)]
  exact l.free b o q n Q
 ·by_cases e:b∈Hc X.stack
  ·obtain⟨_,x,d,h⟩:=g.2.2.1.mem e
   exact⟨_,d⟩
  ·obtain⟨S,p⟩:=F.has b o q e
   exact⟨S,g.1 _ _ p⟩
 ·have f:=l.tups b E q
  rw[td (m _ _ f)];exact f
 ·have f:=l.frzs b o u q
  rw[td (m _ _ f)];exact f
 ·obtain⟨y,f⟩:=l.tbls b O q
  exact⟨y,by rw[td (m _ _ f)];exact f⟩
 ·intro b u q
  by_cases e:b=a
  ·subst e
   rw[sQ]at q
   cases q
   exact⟨⟨J,j,G,vs,t⟩,⟨J,j⟩,λh1 h2 ⟨o,p,r,R⟩ k=>⟨o,k o p,r,R⟩⟩
  ·rw[td e]at q
   exact(F.hok b u q).stay (λc v _ z=>g.1 _ _ z) (λc z=>by rw[td (m _ _ z)];exact z) λc E z=>by rw[td (m _ _ z)];exact z
theorem vI{M:Model}{A:dD}{E:cz->cC->Prop}{i:Nat}{x:Str}{pos:Pos}{Q:Unit->cC->Prop}(I:Inv X pins σ H s)(Z:X.N.Nodup)(G:X.N[i]?=some x)(hk:X.env.scope.names.lookup x=some .local)
  (h:∀s',Inv X pins (σ.set i none) H s'->Q () s'):wpAny M A (do bindName X.env x .none;unbindBehindTheSuite X.env x pos) Q E s:=by
 obtain⟨m,R,V⟩:=id I.loc
 have w:(X.env.scope.kind == .class||(X.env.scope.kind == .module&&X.env.locals != X.env.globals))=false:=by rw[I.ok.kind];rfl
 have t:i<σ.length:=by rw[I.len];exact(cT.mp G).1
 have u:∀b o,X.s₀.heap.get? b=some o->b≠X.env.locals:=λb o q=>dr (cJ (cR q) I.ok.above)
 refine wpAny_nameGoes_keeps hk R w λh' v D a=>?_
 refine h _ ⟨I.ok,I.os,I.bare,⟨λb o e n r f=>(a.2 b (u b o e)).trans (I.base.keep b o e n r f),λb o e n r f=>?_,I.base.free,λb o e f=>?_,I.base.tups,I.base.frzs,I.base.tbls⟩,⟨_,D,λj y O C g J=>?_⟩,λy c e=>?_,I.free,I.freeC,λp hp=>?_,λb P q=>?_,by simpa using I.len⟩
 ·obtain⟨Y,q⟩:=I.base.slot b o e n r f
  exact⟨Y,(a.2 b (u b o e)).trans q⟩
 ·obtain⟨W,q⟩:=I.base.there b o e f
  exact⟨W,(a.2 b (u b o e)).trans q⟩
 ·by_cases l:j=i
  ·subst l
   rw[jv t]at g
   cases g
  ·rw[iQ (Ne.symm l)]at g
   obtain⟨U,L,q⟩:=V j y O C g J
   refine⟨U,L,?_⟩
   rcases q with⟨k,e⟩|⟨k,c,e,z⟩
   ·have T:y≠x:=λz=>l (ye Z C (z▸G))
    exact .inl ⟨k,by dsimp only;rw[if_neg T];exact e⟩
   ·exact .inr ⟨k,c,e,z.sameBut a (I.cne y c e)⟩
 ·obtain⟨B,z⟩:=I.cell y c e
  exact⟨B,z.sameBut a (I.cne y c e)⟩
 ·obtain⟨e,n,F,nf,d⟩:=I.pin p hp
  exact⟨(a.2 p.1 F).trans e,n,F,nf,d⟩
 ·refine(I.hok b P q).stay (λc B S z=>(a.2 c ?_).trans z) (λ_ z=>z) λ_ _ z=>z
  rintro rfl
  rcases S with z|z
  ·rw[<-z,I.free]at q;cases q
  ·rw[I.free]at z;cases z
end
def Cx.hold(X:Cx)(a:cG):Cx:={X with A:=X.A.mark (some (.ref a)),calm:=false,xe:=λ_ _=>False}
theorem Cx.Ok.hold{X:Cx}(ok:X.Ok)(a:cG):(X.hold a).Ok:=
 ⟨ok.mod,ok.kind,ok.glob,ok.blt,ok.above,ok.inj,ok.has,ok.cab,(λz=>by cases z),ok.frames,ok.stk,ok.exf,ok.bs,ok.bsz,ok.noex,ok.exfs,ok.funs,ok.frf⟩
section
variable{X:Cx}{pins:List (cG×Obj)}{σ:St}{H:Hp}{s:cC}
theorem Inv.hold(I:Inv X pins σ H s)(a:cG):Inv (X.hold a) pins σ H s:=⟨I.ok.hold a,I.os,I.bare,I.base,I.loc,I.cell,I.free,I.freeC,I.pin,I.hok,I.len⟩
theorem Inv.unhold{a:cG}(ok:X.Ok)(I:Inv (X.hold a) pins σ H s):Inv X pins σ H s:=⟨ok,I.os,I.bare,I.base,I.loc,I.cell,I.free,I.freeC,I.pin,I.hok,I.len⟩
end
def Ng(X:Cx)(e:Expr)(t:XK->TE):Prop:=∀(pins:List (cG×Obj)) (s:cC) (σ:St) (H:Hp) (Q:VK) (E:XK) (xe:cz->cC->Prop),Inv X pins σ H s->
 (∀H1 s1 e' s',Inv X pins σ H1 s1->Hj X.prog X.w X.stack H1 s1 E e' s'->xe e' s')->t E σ H Q->wpAny (model X.prog X.w) X.A (eval e X.env) (EP X pins σ Q) xe s
def MG(X:Cx)(a:List Stmt)(t:XK->TS):Prop:=∀(pins:List (cG×Obj)) (s:cC) (σ:St) (H:Hp) (D:H0) (E:XK) (xe:cz->cC->Prop),Inv X pins σ H s->
 (∀H1 s1 e' s',Inv X pins σ H1 s1->Hj X.prog X.w X.stack H1 s1 E e' s'->xe e' s')->t E D σ H->wpAny (model X.prog X.w) X.A (execs a X.env) (SP X pins D) xe s
section
variable{X:Cx}
theorem BG{i:Nat}{x:Str}{e:Expr}{c:XK->TE}{pos b:Pos}(w:X.N.Nodup)(t:X.N[i]?=some x)(r:Loc X.env.scope x)(A:Ng X e c)(B:swapsWith e (some (.Name x b)) pos.line X.env=pure false:=by rfl)(u:X.fn x=true\/X.env.scope.names.lookup x=some .local:=by first|exact .inl rfl|exact .inr rfl|assumption):
  MG X [.Assign [.Name x b] e pos] (λE=>Lz (c E) (IJ i)):=by
 intro a s n H D E l I j h
 refine i9 (fN (Q:=SP X a D) (n8 (Gh (A a s n H _ E l I j h) λv m ⟨y,d,k,p,o⟩=>wF k w t r p (λC g=>⟨_,d,g,o⟩) u) B) (λf m q=>?_) λ_ _ z=>z)
 cases f with
 | next=>exact gE q
 | ret v=>exact q
 | brk=>exact q
 | cont=>exact q
theorem Eu{e:Expr}{c:XK->TE}{pos:Pos}(n:Ng X e c)(o:swapsWith e none pos.line X.env=pure false:=by rfl):MG X [.Expr e pos] (λE=>L9 (c E)):=by
 intro a s b H D E k I g h;refine i9 (fN (Q:=SP X a D) (pR (Gh (n a s b H _ E k I g h) λv l ⟨x,d,j,p,m⟩=>⟨b,d,j,m⟩) I.quiet o) (λf l q=>?_) λ_ _ z=>z)
 cases f with
 | next=>exact gE q
 | ret v=>exact q
 | brk=>exact q
 | cont=>exact q
def NL(K:b3)(h:cG)(ni:Nat)(g:XK->TS)(ts:TS):TS:=λD e H=>
 g (λc _ f=>∃C,c = .ref C/\fk K C (.ref h)=some true/\∀a,f a=none->
  ts {nx:=λb d=>D.nx (b.set ni none) d,rt:=D.rt,bk:=λb d=>D.bk (b.set ni none) d,ct:=λb d=>D.ct (b.set ni none) d} (e.set ni (some (.ref a))) (upd f a (Kr C a))) D e H
theorem Ec{W n:Str}{CW:cG}{ni:Nat}{body d:List Stmt}{k:Stmt}{np l pos:Pos}{tb:XK->TS}{ts:TS}(p:X.stack=X.env::X.outer)(ae:X.env.frame=some X.env.locals)(x:X.N.Nodup)(t:X.N[ni]?=some n)(c:X.env.scope.names.lookup n=some .local)
  (hW:HW X.K X.mg W CW)(hg:Gl X W)(hb:MG X body tb)(hs:∀a,PSs (X.hold a) (k::d) ts)(hd:(W==("__debug__":Str))=false:=by decide):
  PS X (.Try body [.ExceptHandler (some (.Name W np)) (some n) (k::d) l] [] [] pos) (NL X.K CW ni tb ts):=by
 intro g s σ H D I h
 refine wpAny_Try_except (fN (hb g s σ H D _ (λe O=>wpAny (model X.prog X.w) X.A (noteFrame e X.env) (λ_ U=>wpAny (model X.prog X.w) X.A (setFlight e none) (λ_ S=>wpAny (model X.prog X.w) X.A (handleBy e X.env [.ExceptHandler (some (.Name W np)) (some n) (k::d) l]) (SP X g D) X.xe S) X.xe U) X.xe O) I ?_ h) (λf s1 q=>?_) λ_ _ z=>z)
 ·rintro H1 s1 e' s' M ⟨a,C,B,V,y,rfl,F,C',ab,hm,hk⟩
  cases ab
  have Y:=F.fly
  have b:=M.ok.frames
  rw[p]at Y b
  refine wpAny_looks_onW b ae Y λh4 L E=>?_
  refine wpAny_landsW L λh5 o G=>?_
  have T:lY B X.stack a (.ref C) V h5:=by rw[p];exact o
  have R:=M.caught F T (E.trans G)
  obtain⟨oe,ho,hc⟩:=o.there
  have ac:h5.Ns X.env.globals X.mg:=by rw[I.ok.glob];exact R.mod.glob.keeps R.bk
  refine wpAny_handleBy_cons (codeAny_handlers_test (iR I.ok.kind hg (lA ac hW.bound ?_) hd)) (by intro q;cases q)
  refine ze R.kIn hW.exc hm ho hc (codeAny_handlers_suite_as ?_)
  refine lands_againW o λh6 Z aa=>?_
  have P:lY B X.stack a (.ref C) V h6:=by rw[p];exact Z
  have J6:=M.caught F P ((E.trans G).trans aa)
  refine wF (X:=X.hold a) (v:= .ref a) (J6.hold a) x t (.inl c) rfl (λs7 J7=>?_) (.inr c)
  refine fN (hs a g s7 _ _ _ J7 (hk a F.free)) (λf s8 q=>?_) λ_ _ z=>eI z
  show wpAny _ X.A (do bindName X.env n .none;unbindBehindTheSuite X.env n l) _ _ _
  cases f with
  | next=>obtain⟨m,y,J,q⟩:=q;exact vI (J.unhold I.ok) x t c λQ j=>⟨_,_,j,q⟩
  | brk=>obtain⟨m,y,J,q⟩:=q;exact vI (J.unhold I.ok) x t c λQ j=>⟨_,_,j,q⟩
  | cont=>obtain⟨m,y,J,q⟩:=q;exact vI (J.unhold I.ok) x t c λQ j=>⟨_,_,j,q⟩
  | ret u=>obtain⟨v,m,y,J,r,q⟩:=q;exact vI (J.unhold I.ok) x t c λQ j=>⟨v,_,_,j,r,q⟩
 ·cases f with
  | next=>exact gE q
  | ret v=>exact q
  | brk=>exact q
  | cont=>exact q
end
structure Ma(K:b3)(C:cG):Prop where
 exc:gS K C MF "ValueError.__new__"=true
 ga:fO K (.ref C) "__getattribute__"=some (some (.builtin "BaseException.__getattribute__"))
 noG:fO K (.ref C) "__getattr__"=some none
 cl:fO K (.ref C) "__class__"=some (some (.builtin "object.__class__"))
 mo:fk K C (.type "object")=some true
 sg:PySem.W.specialIn K (.builtin "object.__class__") "__get__"=some (some (.builtin "getset_descriptor.__get__"))
 tk:PySem.W.takesIn K (.builtin "object.__class__")=some true
 mB:fk K C (.type "BaseException")=some true
section
variable{prog:cY}{w:dn}{A:dD}{E:cz->cC->Prop}{K:b3}{h:Heap}{g:Array GenState}{d:Drawn}{t:Nat}{os:OsState}{a C:cG}{o:Obj}
theorem FN{R:Result->cC->Prop}{c:cz}(X:K.In h)(F:Ma K C)(b:h.get? a=some o)(hc:o.cls = .ref C)(e:R (.ok (.ret (.ref C))) ⟨h,g,d,t,os⟩):
  codeAny (model prog w) A (.call (.builtin "getset_descriptor.__get__") ⟨[.builtin "object.__class__",.ref a,c],[]⟩) R ⟨h,g,d,t,os⟩:=by
 have j:gT (model prog w) h (typeOf (.ref a)) (.ref C):=hc▸(gT.ld b).andThen .now
 have f:=j5 (M:=model prog w) X F.mo
 refine iZ nM.plain sj (nM.check _ _ _ _ _ _ _ _ rD (sC _ _ _) ?_)
 unfold Builtin.«getset_descriptor.__get__» nN
 rw[PySem.W.dga_obj]
 refine b0 (b4 ?_)
 unfold m7 lH lV isInstance
 simp only[rl]
 repeat lk
 refine⟨g8 _ (by decide +kernel),eT rm ?_⟩
 unfold Builtin.«object.__class__» shownTypeOf
 repeat lk
 exact e
theorem DK{tk:Tok}{Q:Fin->cC->Prop}(X:K.In h)(F:Ma K C)(b:h.get? a=some o)(hc:o.cls = .ref C)(c:Q (.done (.ret (.ref C))) ⟨h,g,d,t,os⟩):
  wpAny (model prog w) A (Builtin.«object.__getattribute__» ⟨[.ref a,.str "__class__" tk],[]⟩) Q E ⟨h,g,d,t,os⟩:=by
 have j:gT (model prog w) h (typeOf (.ref a)) (.ref C):=hc▸(gT.ld b).andThen .now
 have f:=iS (M:=model prog w) X F.cl
 have e:=PySem.W.looks_specialIn (M:=model prog w) X F.sg
 unfold Builtin.«object.__getattribute__»
 repeat (first|with_reducible refine gY ?_|lk)
 refine FN X F b hc ?_
 repeat lk
 exact c
theorem EX{tk:Tok}{R:Result->cC->Prop}(X:K.In h)(F:Ma K C)(e:h.get? a=some o)(hc:o.cls = .ref C)(j:R (.ok (.ret (.ref C))) ⟨h,g,d,t,os⟩):
  codeAny (model prog w) A (.call (.builtin "BaseException.__getattribute__") ⟨[.ref a,.str "__class__" tk],[]⟩) R ⟨h,g,d,t,os⟩:=by
 refine iZ km.ga.plain PySem.F.entry_bexc_ga ?_
 have k:gT (model prog w) h (typeOf (.ref a)) (.ref C):=hc▸(gT.ld e).andThen .now
 have l:=j5 (M:=model prog w) X F.mB
 have b:builtinKind "BaseException.__getattribute__"=some .slot:=by decide +kernel
 have c:splitId "BaseException.__getattribute__"=some ("BaseException","__getattribute__"):=by decide +kernel
 have f:=PySem.F.args_bexc_ga (.ref a) (.str "__class__" tk)
 simp only[checkBuiltinCall,b,c]
 refine b0 ?_
 unfold isInstance
 repeat (first|with_reducible refine DK X F e hc ?_|lk)
 exact j
theorem EL{Q:Option cz->cC->Prop}(X:K.In h)(F:Ma K C)(c:h.get? a=some o)(hc:o.cls = .ref C)(k:Q (some (.ref C)) ⟨h,g,d,t+1,os⟩):
  wpAny (model prog w) A (getAttr? (.ref a) "__class__") Q E ⟨h,g,d,t,os⟩:=by
 have e:gT (model prog w) h (typeOf (.ref a)) (.ref C):=hc▸(gT.ld c).andThen .now
 have j:=iS (M:=model prog w) X F.ga
 have f:=iS (M:=model prog w) X F.noG
 have b:(onTheHeap (cQ C)&&jQ "BaseException.__getattribute__"==jQ "object.__getattribute__")=false:=by
  have z:(jQ "BaseException.__getattribute__"==jQ "object.__getattribute__")=false:=by decide +kernel
  rw[z,kg]
 unfold getAttr? getAttrBy? getAttrBy
 refine b0 (wpAny_mkText (b0 (gU (dI (b0 (e.at (b0 (j.at ?_))))))))
 dsimp only
 rw[if_neg (by rw[b];decide)]
 unfold getAttrByItsOwn
 refine b0 ?_
 unfold hookBefore
 rw[if_pos (by rfl)]
 refine f.at ?_
 refine b0 (gU (dI ?_))
 unfold callGetattribute
 rw[if_neg (by decide)]
 unfold boundAndCalled
 rw[km.ga.bind (.ref a)]
 refine b0 (b4 ?_)
 refine gY (EX X F c hc ?_)
 refine fQ (a:=cQ C) rfl ?_
 exact b4 k
theorem Am(F:Ma K C):PySem.W.KitX K (.ref a) (.ref C) (λh=>∃o,h.get? a=some o/\o.cls = .ref C) where
 ty:=λ_ _ _ ⟨o,j,f⟩=>f▸(gT.ld j).andThen .now
 it:=λM h X _=>by
  obtain⟨G,r,v,L,O,c,J,sub,I,l,m,H,u,x,P,B,N,b,_⟩:=x0 X F.exc
  intro U S V Y k q
  unfold isType loadHead
  exact b0 (pS (k _ _ b) (b4 q))
 ne:=λh D m R n Z X p=>by
  obtain⟨G,r,v,L,O,c,J,sub,I,l,m,H,u,x,P,B,N,b,_⟩:=x0 X F.exc
  refine ow.mpr λq=>?_
  have e:C=D:=cQ.inj (beq_iff_eq.mp q)
  rw[e,p]at b
  have z:=congrArg sO (Option.some.inj b)
  exact nomatch z
 ca:=λ {y w A E Q s} X ⟨o,j,f⟩ k=>by
  obtain⟨T,g,d,t,os⟩:=s
  exact EL X F j f k
end
section
variable{X:Cx}
theorem uA:GH X (.builtin "isinstance") (λxs H Q=>∃a C c b,xs=[.ref a,c]/\H a=some (Kr C a)/\Ma X.K C/\((∃W,c = .ref W/\f3 X.K (.ref C) (.ref W)=some b)\/(∃T,c = .ty T/\f3 X.K (.ref C) (.type T)=some b))/\Q (.bl b) H):=by
 intro j s n H xs m Q I r h;obtain⟨a,C,c,b,rfl,l,F,hk,q⟩:=h;obtain⟨u,d,rfl,k,e⟩:=JP r
 cases(show u=cQ a from k);obtain⟨⟨o,g,f,_⟩,_,_⟩:=I.hok a _ l;rcases hk with⟨W,rfl,hk⟩|⟨T,rfl,hk⟩
 ·cases(show d=cQ W from e);exact gI (Am F) I.kIn ⟨o,g,f⟩ hk (λz=>nomatch z) λtk=>⟨.bl b,H,I.tok tk,rfl,q⟩
 ·cases(show d=dO T from e);exact gI (Am F) I.kIn ⟨o,g,f⟩ hk (λz=>nomatch z) λtk=>⟨.bl b,H,I.tok tk,rfl,q⟩
theorem vJ{x:Str}{C:cG}{pos:Pos}(h:HW X.K X.mg x C)(a:Gl X x:=by rfl)(b:(x==("__debug__":Str))=false:=by decide):PE X (.Name x pos) (tC (.ref C)):=El a h.bound rfl b
end
section
variable{P:cY}{w:dn}{K:b3}{mg:Str->Option cz}{base:Heap}
theorem Def.okE{x:Str}{st:Stmt}{N ps:List Str}{k:Nat}{sp:Sp}(F:Def K mg x st)(S:F6 N ps (F3 st))(e:∀vs H Q E,sp vs H Q E->vs.length=ps.length)
  (j:∀(kV doc pm:cz) (an:Option cG) (cdv ct:cz) (us:List cz),us.length=ps.length->bindArgs (gl x x (Gi st) (Gc st) (F3 st) .none kV doc pm an cdv ct) ⟨us,[]⟩=pure (ps.zip us))
  (a:∀(f:cG) (cdv:cz) (A:dD) (outer:List Env) (s:cC) (H:Hp) (vs:List V) (Q:VK) (E:XK),Room k (A.deeper (envOfC x (F3 st) s.heap.objs.size f cdv))->sp vs H Q E->
   ∃t,PSs (JO P w K mg base N x (F3 st) f cdv A outer s H E) (Gc st) t/\t {nx:=λ_ H'=>Q .non H',rt:=Q} (start N vs) H):Dn P w K mg base (Hj P w) (k+1) x ps sp:=by
 obtain⟨f,n,F,m⟩:=F
 have d:=F.binds j
 have g:=F.kp
 obtain⟨o,p,kV,doc,pm,an,cdv,ct,l,rfl,lk,c⟩:=F.ex
 exact⟨f,_,Dx lk c S e λA outer s H vs Q E h b=>a f cdv A outer s H vs Q E h b,m,g,d⟩
theorem JZ{X:Cx}:GF (Hj X.prog X.w) X E0:=λ_ _ _ _ _ _ _ ⟨_,_,_,_,_,_,_,z⟩=>z.elim
end
structure Xs where
 WishError:cG
 NoFraction:cG
 NoWishes:cG
 NoTable:cG
 NoPick:cG
 NoOrder:cG
 NoRoll:cG
 NoPerson:cG
 Unready:cG
 NoWay:cG
theorem Et{K:b3}{C:cG}{bmB:List cz}{a:String}(q:gS K C bmB a=true):∃(d:Option cG) (cd:ClassData) (sl:Array (Option cz)) (bm:List cz),K.lookup C=some ⟨.type "type",d,.cls cd,sl⟩/\cd.mro = .ref C::bm:=by
 unfold gS at q;split at q
 ·rename_i dd cd sl hlk
  split at q
  ·rename_i C' bm u0 u1 u2 u3 n u5 hmro hsl
   simp only[dt,beq_iff_eq]at q;obtain⟨⟨⟨⟨⟨rfl,_⟩,_⟩,_⟩,_⟩,_⟩:=q;exact⟨dd,cd,sl,bm,hlk,hmro⟩
  ·cases q
 ·cases q
theorem FM{K:b3}{C W:cG}{b:Bool}(j:gS K W MF "ValueError.__new__"=true)(m:fk K C (.ref W)=some b):f3 K (.ref C) (.ref W)=some b:=by
 obtain⟨d,f,l,k,a,e⟩:=Et j;have c:qQ K W=some f:=by unfold qQ;rw[a]
 unfold f3;by_cases h:C=W
 ·subst h;rw[if_pos (by simp)];unfold fk at m;rw[c]at m;simp[e]at m;rw[m]
 ·rw[if_neg (by simpa using h)];unfold mS;have g:pT K (.ref W)=some (.type "type"):=by
   show(K.lookup W).map _=_;rw[a];rfl
  simp only[c,g,nK,beq_self_eq_true,qS,if_true];exact m
theorem EN{K:b3}{C:cG}{b:Bool}(m:fk K C (.type "ValueError")=some b):f3 K (.ref C) (.type "ValueError")=some b:=by
 unfold f3;rw[if_neg (by simp)];unfold mS;dsimp only;rw[if_pos (by decide +kernel)];exact m
def GI(x:Xs):Sp:=λvs H Q E=>∃t b:Int,vs=[.int t,.int b]/\(b=0->E (.ref x.NoFraction) none H)/\(b≠0->b.natAbs<2^9000/\∀p H',Same H H'->H' p=some (Le (FQ.red t b))->Q (.ref p) H')
def Iz(K:b3):Sp:=λvs H Q _=>∃a b x y,vs=[.ref a,.ref b]/\SqT K H a [.int x.1,.int x.2]/\SqT K H b [.int y.1,.int y.2]/\Sz 4000 x/\Sz 4000 y/\Q (.bl (decide (x.1*y.2<y.1*x.2))) H
theorem Sz.up{m n:Nat}{p:Int×Int}(h:Sz m p)(a:m<=n):Sz n p:=⟨wM h.1 a,wM h.2.1 a,h.2.2⟩
theorem Dw{a b:Int}{m:Nat}(h1:a.natAbs<2^m)(h2:b.natAbs<2^m):(a+b).natAbs<2^(m+1):=by
 have:=Int.natAbs_add_le a b;rw[rn];omega
section
variable{X:Cx}
theorem ED{xs:List V}{us:List cz}(r:Vals xs us){i:Nat}{u:cz}(h:us[i]?=some u):∃x,xs[i]?=some x/\RelV x u:=by
 have a:=r.length;have b:i<us.length:=(cT.mp h).1;have e:xs[i]?=some xs[i]:=by simp[show i<xs.length by omega]
 obtain⟨c,h1,h2⟩:=r.get e;rw[h]at h1
 cases h1;exact⟨_,e,h2⟩
theorem Ab(hc:X.calm=true):GH X (.builtin "all") (λxs H Q=>∃(p:cG) (bs:List Bool),xs=[.ref p]/\SqL X.K H p (bs.map V.bl)/\Q (.bl (bs.all id)) H):=by
 intro C s L H xs F Q I r h;obtain⟨p,bs,rfl,D,q⟩:=h;obtain⟨u,rfl,l⟩:=GT r
 cases(show u=cQ p from l);obtain⟨c,n,m,G⟩:=I.list D;have z:=n.length;rw[cx]at z;have hp:p<s.heap.objs.size:=by obtain⟨_,e,_⟩:=m.isList;exact cR e
 have t:TruthOf X.prog X.w X.A.in1 (λi v=>c.toArray[i]?=some v) (λi=>bs.getD i false):=λi v s Q E g k=>by
  dsimp only at g k;rw[jL]at g;obtain⟨x,a,l⟩:=ED n g;rw[cL]at a
  cases j:bs[i]? with
  | none=>rw[j]at a;cases a
  | some b=>
   rw[j]at a
   cases a
   cases(show v=eH b from l);have e:bs.getD i false=b:=by simp[cA,j]
   rw[e]at k;exact b4 k
 refine call_all_walk (iM m.isList ⟨s.heap.objs.size,_,_,_,_,_,_,rfl,pX (A:=X.A.in1) (I.ok.hd hc) s.heap.objs.size p (dr hp) c.toArray,⟨⟨_,cP _ rfl,rfl,rfl⟩,m.isList.push _⟩,t,λJ tk hk=>?_⟩);have e:(dc c.toArray.size).all (λi=>bs.getD i false)=bs.all id:=by
  rw[cW,<-z];apply gF.mpr;rw[dX,dX];constructor
  ·intro h x a;obtain⟨i,d,rfl⟩:=eV.mp a;have:=h i (d5.mpr d);simpa [d]using this
  ·intro h i d;have f:=d5.mp d;have:=h bs[i] (db f);simpa [f]using this
 rw[e];refine⟨.bl _,H,I.kept λb o B=>hk b o (λy=>?_) (cF _ B),rfl,q⟩;rw[cK]at y;subst y;exact absurd (cR B) (dA _)
theorem wG{ns:List Int}:∀{vs:List cz},Vals (ns.map V.int) vs->IntsAre vs ns:=by
 induction ns with
 | nil=>intro vs r;cases r;exact .nil
 | cons n ns b=>
  intro vs r
  cases r with
  | cons r a=>
   obtain⟨t,rfl⟩:=(show ∃t,_=d4 n t from r);exact .cons _ _ (b a)
theorem wN{prog:cY}{w:dn}{A:dD}{E:cz->cC->Prop}{s:cC}{l:cG}{vs:List cz}{Q:List cz->cC->Prop}(g:IsTup s.heap l vs.toArray)(hsz:vs.length<=sizeLine)
  (h:Q vs {s with heap:=(s.heap.push (seqObj "list" #[] 0)).update s.heap.objs.size (d7 (· ++ vs.toArray))}):wpAny (model prog w) A (collect (.ref l)) Q E s:=by
 obtain⟨o,d,c,n,f⟩:=g
 have b:(s.heap.push (seqObj "list" #[] 0)).get? l=some o:=cF _ d
 have a:(s.heap.push (seqObj "list" #[] 0)).get? s.heap.objs.size=some (seqObj "list" #[] 0):=cP _ rfl
 unfold collect
 refine b0 (ko (eT mz ?_))
 change wpAny _ _ (do again (.builtin "list.__iadd__" ⟨[<-newList [],.ref l],[]⟩)) _ _ s
 refine b0 (jk (b4 ⟨g8 _ (by decide +kernel),eT ox ?_⟩))
 change wpAny _ _ (gg (.ref s.heap.objs.size) (.ref l) (.ref s.heap.objs.size)) _ _ {s with heap:=s.heap.push (seqObj "list" #[] 0)}
 unfold gg
 refine b0 (iB (T:="tuple") ⟨o,b,c⟩ ?_)
 rw[if_pos (by rw[show(dO "tuple"==dO "tuple")=true from rfl];simp)]
 refine b0 (ro b f ?_)
 refine b0 (ro (xs:= #[]) (n:=0) a rfl ?_)
 rw[if_neg (by simp)]
 refine b0 (iK (xs:= #[]) (n:=0) a rfl ?_ (dz _) (by change (#[]++vs.toArray).size<=sizeLine+1;simp only[Array.size_append,cW,mn];omega))
 refine b4 ?_
 change wpAny (model prog w) A (do
   let o<-load s.heap.objs.size
   match o.data with
   | .seq xs _=>pure xs.toList
   | _=>unsupported "internal:collect") Q E {s with heap:=(s.heap.push (seqObj "list" #[] 0)).update s.heap.objs.size (d7 (· ++ vs.toArray))}
 refine b0 (wpAny_load (get?_update_seq a _) ?_)
 change wpAny _ _ (pure ((#[]:Array cz)++vs.toArray).toList) Q E _
 have e:((#[]:Array cz)++vs.toArray).toList=vs:=by simp
 rw[e]
 exact b4 h
theorem A9{prog:cY}{w:dn}{A:dD}{E:cz->cC->Prop}{s:cC}{l:cG}{vs:List cz}{ns:List Int}{Q:cz->cC->Prop}(k:IsTup s.heap l vs.toArray)(j:IntsAre vs ns)(a:vs.length<64)
  (h:∀(out:Array cz) (ns':List Int),IntsAre out.toList ns'->ns'.Perm ns->ns'.Pairwise (· <= ·)->Q (.ref (s.heap.objs.size+1)) {s with heap:=sortedAll s.heap vs out}):
  wpAny (model prog w) A (call (.builtin "sorted") [.ref l]) Q E s:=by
 have b:((s.heap.push (seqObj "list" #[] 0)).update s.heap.objs.size (d7 (· ++ vs.toArray))).objs.size=s.heap.objs.size+1:=by rw[o0,lZ]
 have c:(((s.heap.push (seqObj "list" #[] 0)).update s.heap.objs.size (d7 (· ++ vs.toArray))).push (seqObj "list" vs.toArray 0)).get? (s.heap.objs.size+1)=some (seqObj "list" vs.toArray 0):=by
  rw[<-b];exact cP _ rfl
 refine hY pu oy oz (oA _) ?_
 unfold Builtin.«sorted»
 refine b0 (m:=checkCount "sorted" 1 1 _) (b4 ?_)
 have f:vs.length<=sizeLine:=cZ (F4 (cZ (cJ a (by decide))))
 refine b0 (wN k f (b0 (jk ?_)))
 change wpAny _ _ _ _ _ {s with heap:=((s.heap.push (seqObj "list" #[] 0)).update s.heap.objs.size (d7 (· ++ vs.toArray))).push (seqObj "list" vs.toArray 0)}
 rw[b]
 refine b0 (dI (dY mT ⟨_,c,rfl⟩ mq (pY c j a λout ns' e d g=>⟨_,rfl,?_⟩) (mU _)))
 exact b4 ⟨_,rfl,h out ns' e d g⟩
theorem zA:GH X (.builtin "sorted") (λxs H Q=>∃(p:cG) (ns:List Int),xs=[.ref p]/\(SqL X.K H p (ns.map V.int)\/SqT X.K H p (ns.map V.int))/\ns.length<64/\∀(l:cG) (ns':List Int),H l=none->ns'.Perm ns->ns'.Pairwise (· <= ·)->Q (.ref l) (upd H l (.lst (ns'.map V.int)))):=by
 intro k s x H xs C Q I r h;obtain⟨p,ns,rfl,f,j,q⟩:=h;obtain⟨u,rfl,v⟩:=GT r
 cases(show u=cQ p from v);have fin:∀(a:List cz),Vals (ns.map V.int) a->∀(d:Array cz) (ns':List Int),IntsAre d.toList ns'->ns'.Perm ns->ns'.Pairwise (· <= ·)->EP X k x Q (.ref (s.heap.objs.size+1)) {s with heap:=sortedAll s.heap a d}:=λa c d ns' y n A=>by
  obtain⟨e,B⟩:=rq s.heap a d;refine⟨.ref (s.heap.objs.size+1),_,I.laid (t':=s.toks) (λb o z=>qT z) (d6 _) (show ObjOk X.prog X.w _ _ _ (.lst (ns'.map V.int))from⟨?_,d.toList,e,v7 y,by rw[B]⟩),rfl,q _ ns' (I.hok.fresh (d6 _)) n A⟩;rw[cx,n.length_eq];exact cZ (F4 (cZ (cJ j (by decide))))
 rcases f with f|f
 ·obtain⟨a,c,m,t⟩:=I.list f;have g:=c.length;rw[cx]at g;exact sorted_ints m.isList (wG c) (g▸j) (fin a c)
 ·obtain⟨a,c,m,t⟩:=I.tuple f;have g:=c.length;rw[cx]at g;exact A9 m (wG c) (by omega) (fin a c)
theorem A4{j:List (cG×Obj)}{m:St}{H:Hp}{s:cC}{A:dD}{E:cz->cC->Prop}{Q:cz->cC->Prop}{k:cG}{dd:Option cG}{its:List cz}{n:Nat}{p:Array (Option cz)}{b:Bool}{x:V}{u:cz}{t:String}(I:Inv X j m H s)(d:RelV x u)(ty:tyOf X.K H x t)
  (c:s.heap.get? k=some ⟨.type "tuple",dd,.seq its.toArray n,p⟩)(e:pZ X.K (.type t) its=some b)(h:∀tk,Q (.bool b) {s with toks:=tk}):wpAny (model X.prog X.w) A (call (.builtin "isinstance") [u,.ref k]) Q E s:=by
 cases x with
 | non=>cases(show u=cz.none from d);cases(show t="NoneType"from ty);exact iH om I.kIn True.intro c e (λz=>nomatch z) h
 | bl y=>cases(show u=eH y from d);cases(show t="bool"from ty);exact iH on I.kIn True.intro c e (λz=>nomatch z) h
 | int i=>obtain⟨tk,q⟩:=(show ∃t,u=d4 i t from d);cases q;cases(show t="int"from ty);exact iH oX I.kIn True.intro c e (λz=>nomatch z) h
 | str y=>obtain⟨tk,q⟩:=(show ∃t,u=iJ y t from d);cases q;cases(show t="str"from ty);exact iH oY I.kIn True.intro c e (λz=>nomatch z) h
 | ref a=>
  cases(show u=cQ a from d)
  rcases ty with⟨rfl,l,g⟩|⟨rfl,l,g⟩
  ·obtain⟨f,_,⟨o,r,h1,h2,_⟩,_⟩:=I.list g
   exact iH oo I.kIn ⟨o,h1,h2⟩ c e (λz=>nomatch z) h
  ·obtain⟨f,_,⟨o,h1,h2,_⟩,_⟩:=I.tuple g
   exact iH nL I.kIn ⟨o,h1,h2⟩ c e (λz=>nomatch z) h
 | byt _=>exact ty.elim
 | flt _=>exact ty.elim
 | ty _=>exact ty.elim
theorem CN:GH X (.builtin "isinstance") (λxs H Q=>∃x p t,xs=[x,.ref p]/\SqT X.K H p [.ty "list",.ty "tuple"]/\tyOf X.K H x t/\Q (.bl (Im t "list"||Im t "tuple")) H):=by
 intro j s D H xs B Q I r h;obtain⟨x,p,t,rfl,w,ty,q⟩:=h;obtain⟨u,k,rfl,l,v⟩:=JP r
 cases(show k=cQ p from v);obtain⟨c,f,⟨o,h1,h2,n,h3⟩,_⟩:=I.tuple w;have e:c=[dO "list",dO "tuple"]:=by
  cases f with
  | cons y a=>
   cases a with
   | cons m a=>
    cases a
    cases(show _=dO "list"from y)
    cases(show _=dO "tuple"from m);rfl
 subst e;obtain⟨C,E,z,A⟩:=o;dsimp only at h2 h3;subst h2 h3;refine A4 I l ty h1 (b:=Im t "list"||Im t "tuple") ?_ λtk=>⟨.bl _,H,I.tok tk,rfl,q⟩;have d:=BR (K:=X.K) (T:="list") (w9 ty) (by decide);have g:=BR (K:=X.K) (T:="tuple") (w9 ty) (by decide);simp only[pZ,d,g]
 cases Im t "list" <;> cases Im t "tuple" <;> rfl
end
mutual
theorem CL:∀(n:Nat) (d:iY),Ho n d=true->d.canLay0=true/\d.depth<=n
 | _,.none,_=>by simp[i0,ja]
 | _,.bool _,_=>by simp[i0,ja]
 | _,.int _,_=>by simp[i0,ja]
 | n,.str x,h=>by
  have a:fy (.str x)=true:=by cases n <;> simpa [Ho]using h
  exact⟨SeqAt.canLay_of_shaped a,by simp[ja]⟩
 | n+1,.tuple ds,h=>by
  have:=yy n ds (by simpa [Ho]using h)
  simp[i0,ja,this]
 | n+1,.list ds,h=>by
  have:=yy n ds (by simpa [Ho]using h)
  simp[i0,ja,this]
 | 0,.tuple _,h=>by simp[Ho]at h
 | 0,.list _,h=>by simp[Ho]at h
 | 0,.dict _,h=>by simp[Ho]at h
 | _+1,.dict _,h=>by simp[Ho]at h
theorem yy:∀(n:Nat) (ds:List iY),(∀d∈ds,Ho n d=true)->kQ ds=true/\mr ds<=n
 | n,[],_=>by simp[kQ,mr]
 | n,d::ds,h=>by
  have h1:=CL n d (h d cM)
  have h2:=yy n ds λx a=>h x (cN _ a)
  simp only[kQ,mr,h1.1,h2.1,qS,true_and]
  omega
end
theorem tN{n:Nat}{d:iY}(h:Ho n d=true)(a:n<=64):fy d=true:=by
 have:=CL n d h;unfold fy;rw[this.1];simp;omega
theorem tyOf.mono{K:b3}{H d:Hp}{x:V}{t:String}(e:Same H d)(h:tyOf K H x t):tyOf K d x t:=by
 cases x with
 | ref a=>
  rcases h with⟨h1,b,c⟩|⟨h1,b,c⟩
  ·exact .inl ⟨h1,b,e.seq c⟩
  ·exact .inr ⟨h1,b,e.tup c⟩
 | non=>exact h
 | bl _=>exact h
 | int _=>exact h
 | str _=>exact h
 | byt _=>exact h
 | flt _=>exact h
 | ty _=>exact h
theorem Fo{X:Cx}{c l:Expr}{b:TE}(hl:PE X l b):PI X c l (λσ H R=>LX X.K b σ H R\/Nj X.K b σ H R):=by
 intro a s σ H R I h;rcases h with h|h
 ·exact uy hl a s σ H R I h
 ·exact wV hl a s σ H R I h
section
variable{X:Cx}{K:b3}
theorem xW(h:X.K=K):GH X (.type "list") (λxs H Q=>∃p ys,xs=[.ref p]/\(SqL K H p ys\/SqT K H p ys)/\∀l,H l=none->Q (.ref l) (upd H l (.lst ys))):=by subst h;exact uf
theorem u6(h:X.K=K):IxR X (Mj K):=by subst h;exact tw
theorem yl(h:X.K=K):IxR X (ME K):=by subst h;exact tD
theorem vZ(h:X.K=K):GH X (.builtin "len") (λxs H Q=>∃p ys,xs=[.ref p]/\(SqL K H p ys\/SqT K H p ys)/\Q (.int ys.length) H):=by subst h;exact tm
theorem Em{k:Nat}(h:X.K=K)(a:Room k X.A):Hb X (compareOp .Eq) (No K):=by subst h;exact vP a
theorem Bw{k:Nat}(h:X.K=K)(a:Room k X.A):Hb X (compareOp .NotEq) (Nb K):=by subst h;exact xf a
theorem v6(h:X.K=K):Hb X (compareOp .NotIn) (NF K true):=by subst h;exact uC
theorem wB{x:Str}{xs:List V}{pos:Pos}(e:X.K=K)(h:LL K X.mg x xs)(a:Gl X x:=by rfl)(b:(x==("__debug__":Str))=false:=by decide):PE X (.Name x pos) (L3 K xs):=by subst e;exact vj h a b
structure Oc(X:Cx)(st:Stmt)(t:TS):Prop where
 h:PS X st t
structure KT(X:Cx)(ss:List Stmt)(t:TS):Prop where
 h:PSs X ss t
theorem Fq{a:List Stmt}{t:TS}(h:PSs X a t):KT X a t:=⟨h⟩
theorem wE{st:Stmt}{a:List Stmt}{t u:TS}(h1:PS X st t)(h2:KT X a u):KT X (st::a) (Lm t u):=⟨sR h1 h2.h⟩
theorem Ca{st:Stmt}{a:List Stmt}{t u:TS}(h1:Oc X st t)(h2:KT X a u):KT X (st::a) (Lm t u):=⟨sR h1.h h2.h⟩
end
end L2
namespace LM
def rng(n:Nat):List Int:=(dc n).map im
theorem rng_len(n:Nat):(rng n).length=n:=by simp[rng]
theorem mem_rng{n:Nat}{x:Int}:x∈rng n↔0<=x/\x<n:=by
 unfold rng;simp only[dG,d5];constructor
 ·rintro⟨a,h,rfl⟩;simp;omega
 ·rintro⟨h0,h1⟩;exact⟨x.toNat,by omega,by simp;omega⟩
theorem Ba(n:Nat):(rng n).Pairwise (· <= ·):=by
 unfold rng;rw[jz];refine kR ?_ (l3 (n:=n));intro a b h;simp;omega
theorem rng_nodup(n:Nat):(rng n).Nodup:=by
 unfold rng;rw[List.nodup_iff_pairwise_ne,jz];refine kR ?_ (l3 (n:=n));intro a b h z;have:a=b:=im.inj z;omega
theorem zO{a b r:List Int}(c:a.Perm r)(e:a.Pairwise (· <= ·))(d:r.Pairwise (· <= ·)):a=r:=
 k9 (λx y _ _ h1 h2=>Int.le_antisymm h1 h2) e d c
end LM
namespace L2
open PySem PySem.Spec PyProof.Rows
def Jc(K:b3):Sp:=λvs H Q _=>∃v t,vs=[v]/\tyOf K H v t/\∀H',Same H H'->Q (.bl (Im t "list"||Im t "tuple")) H'
def JC(K:b3):Sp:=λvs H Q _=>∃a us,vs=[.ref a]/\(SqL K H a us\/SqT K H a us)/\∀H',Same H H'->Q (.bl (decide (1<=us.length/\us.length<=6))) H'
theorem SqL.over{K:b3}{H:Hp}{a p:cG}{o:HO}{xs:List V}(h:SqL K H a xs)(b:a≠p):SqL K (upd H p o) a xs:=by
 rcases h with(h|⟨u,h⟩)|h
 ·exact .inl (.inl (by rw[td b];exact h))
 ·exact .inl (.inr ⟨u,by rw[td b];exact h⟩)
 ·exact .inr h
def fr(T:Int)(m:List Int):List (Int×Int):=m.map λx=>FQ.red x T
def RwFT(K:b3)(H:Hp)(T:Int)(v:V)(m:List Int):Prop:=∃a gs,v = .ref a/\SqT K H a gs/\dJ (IsF K H) gs (fr T m)
theorem tq{K:b3}{H b:Hp}{a:List V}{ps:List (Int×Int)}(e:Same H b)(h:dJ (IsF K H) a ps):dJ (IsF K b) a ps:=Paired.mapP h λ_ _ q=>q.mono e
theorem RwFT.mono{K:b3}{H b:Hp}{T:Int}{v:V}{m:List Int}(e:Same H b)(h:RwFT K H T v m):RwFT K b T v m:=by
 obtain⟨a,c,rfl,q,d⟩:=h;exact⟨a,c,rfl,e.tup q,tq e d⟩
end L2
namespace LN
open LM
def Pm(n:Nat)(l:List Int):Prop:=l.Perm (rng n)
theorem Pm.len{n:Nat}{l:List Int}(h:Pm n l):l.length=n:=by rw[sk h,rng_len]
theorem Pm.mem{n:Nat}{l:List Int}(h:Pm n l){x:Int}:x∈l↔0<=x/\x<n:=by rw[sF h];exact mem_rng
theorem Pm.nodup{n:Nat}{l:List Int}(h:Pm n l):l.Nodup:=(sq h).mpr (rng_nodup n)
theorem findSome_snoc{a:Type}{f:Nat->Option a}{i:Nat}(h:(dc i).findSome? f=none):(dc (i+1)).findSome? f=f i:=by
 rw[gq,mC,h];simp
theorem findSome_up{a:Type}{f:Nat->Option a}{i n:Nat}{r:a}(h:(dc i).findSome? f=some r)(b:i<=n):(dc n).findSome? f=some r:=by
 have e:dc n=dc i++(dc (n-i)).map (i + ·):=by
  rw[<-List.range_add]
  congr 1
  exact Eq.symm (iN b)
 rw[e,mC,h];rfl
end LN
namespace L2
open PySem PySem.Spec PyProof.Rows
section
variable{X:Cx}{pins:List (cG×Obj)}{σ:St}{H:Hp}{s:cC}{h':Heap}
theorem Inv.turnedL{t':Nat}{fp:List cG}(I:Inv X pins σ H s)(k:∀b o,b∉fp->s.heap.get? b=some o->h'.get? b=some o)(f:∀b∈fp,HX X pins H b):Inv X pins σ H {s with heap:=h',toks:=t'}:=by
 have d:∀b u,H b=some u->b∉fp:=λb u e z=>by rw[(f b z).1]at e;cases e
 refine I.step (g':=s.gens) (d':=s.drawn) (ch:=fp) (λb p=>?_) (λb o _ _ a e _=>k b o a e) (λb o _ _ a e _=>⟨o.slots,k b o a e⟩) (λ_ _ _ _ n=>n)
  (λb o a e=>⟨o,k b o a e⟩) (λ_ _ e=>e) (λ_ _ _ e=>e) (λb A e=>⟨#[],by rw[e];simp⟩) (λm w=>?_) (λb u e=>?_) I.bare
 ·obtain⟨C,j,B,g,y,h⟩:=f b p;exact⟨g,j,y,h⟩
 ·obtain⟨o,l,t,x,r⟩:=w;exact⟨o,l,t,k _ o (λz=>(f _ z).2.1 rfl) x,r⟩
 ·refine(I.hok b u e).stay (λc v a q=>k c v ?_ q) (λ_ q=>q) λ_ _ q=>q;rcases a with z|z
  ·rw[z];exact d b u e
  ·exact d c _ z
theorem uN{h:Heap}{o u:Obj}{b:cG}(e:(h.push o).get? b=some u)(f:o.isFreed=false):h.get? b=some u\/(b=h.objs.size/\u=o):=by
 rcases oB b h.objs.size with q|q|q
 ·left
  cases a:h.get? b with
  | some g=>rw[cF _ a]at e;exact e
  | none=>
   exfalso;unfold Heap.get? at a e;unfold lI at e;simp only[Array.getElem?_push]at e;rw[if_neg (by omega)]at e;rw[a]at e
   cases e
 ·right
  subst q;rw[cP _ f]at e
  cases e;exact⟨rfl,rfl⟩
 ·exfalso;have d:(h.push o).objs.size=h.objs.size+1:=by unfold lI;simp
  have c:b<h.objs.size+1:=by rw[<-d];exact cR e
  exact dA _ (cJ q (jA c))
def Mg(K:b3)(a:cG):It:=
 ⟨λi H=>∃xs x,SqL K H a xs/\xs[i]?=some x,λi H x b=>∃y t,(∀xs,SqL K H a xs->xs[i]?=some y)/\x = .ref t/\H t=none/\b=upd H t (.tup [.int i,y]),λi H=>∃xs,SqL K H a xs/\xs.length<=i⟩
theorem CC{P:cY}{w:dn}{K:b3}{L:List Expr}{x1:Nat}{pos:Pos}(a it e:cG)(y:e≠it):JN P w K (.Tuple L x1 pos) (Mg K a) [e,it] e (λi h=>(∃old,IsEnum h e it i old)/\h.IsListIter it a i) where
 mem:=by simp
 obj:=λi h st b f=>by
  obtain⟨⟨old,j⟩,o,l,c,d⟩:=st
  rcases da.mp f with z|z
  ·subst z
   exact⟨_,j,λv z=>by cases z⟩
  ·have e:=cK.mp z
   subst e
   exact⟨o,l,λv z=>by rw[d]at z;cases z⟩
 keep:=λi h m st k=>by
  obtain⟨⟨old,j⟩,l⟩:=st
  exact⟨⟨old,k e (by simp) _ j⟩,l.at λo q=>k it (by simp) o q⟩
 item:=by
  intro X J F G O i g s r H E I B st C
  subst J F G
  obtain⟨xs,x,t,D⟩:=C
  obtain⟨R,A,p,hz⟩:=I.list t
  obtain⟨u,T,ru⟩:=A.get D
  obtain⟨⟨old,j⟩,l⟩:=st
  refine wpAny_pyNext_enum_item j l p.isList (x:=u) (by simpa using T) y λm so V ht aa S=>?_
  have Q:∀b o,s.heap.get? b=some o->b≠s.heap.objs.size:=λb o q=>dr (cR q)
  have le:e≠s.heap.objs.size:=Q _ _ j
  have li:it≠s.heap.objs.size:=by obtain⟨o,q,_⟩:=l;exact Q _ _ q
  have hn:H s.heap.objs.size=none:=I.hok.fresh (cI _)
  have I0:Inv X g r (upd H s.heap.objs.size (.tup [.int i,x])) {s with heap:=s.heap.push {cls:= .type "tuple",data:= .seq #[.int i s.toks,u]},toks:=s.toks}:=
   I.laid (t':=s.toks) (λb o q=>cF _ q) (cI _) ⟨by show 2<=sizeLine;decide,[.int i s.toks,u],.cons ⟨_,rfl⟩ (.cons ru .nil),⟨_,cP _ rfl,rfl,_,rfl⟩⟩
  have n:∀b∈[e,it],HX X g (upd H s.heap.objs.size (.tup [.int i,x])) b:=λb f=>by
   have q:=B b f
   refine⟨?_,q.2⟩
   have N:b≠s.heap.objs.size:=by
    rcases da.mp f with z|z
    ·rw[z];exact le
    ·rw[cK.mp z];exact li
   rw[td N]
   exact q.1
  have I1:Inv X g r (upd H s.heap.objs.size (.tup [.int i,x])) {s with heap:=m,toks:=s.toks+1}:=
   Inv.turnedL (s:={s with heap:=s.heap.push {cls:= .type "tuple",data:= .seq #[.int i s.toks,u]},toks:=s.toks}) I0 (fp:=[e,it]) (t':=s.toks+1) (λb o f q=>by
    rcases uN q rfl with q|⟨rfl,rfl⟩
    ·exact S b o (λz=>f (by simp[z])) (λz=>f (by simp[z])) q
    ·exact ht) n
  refine⟨_,rfl,wpAny_letOwnedTupleGo_enum (s:={s with heap:=m,toks:=s.toks+1}) so λh2 Z M=>?_⟩
  have U:Inv X g r (upd H s.heap.objs.size (.tup [.int i,x])) {s with heap:=h2,toks:=s.toks+1}:=
   Inv.turnedL (s:={s with heap:=m,toks:=s.toks+1}) I1 (fp:=[e,it]) (t':=s.toks+1) (λb o f q=>(M.2 b (λz=>f (by simp[z]))).trans q) n
  refine⟨.ref s.heap.objs.size,_,U,rfl,⟨x,_,λys hy=>by rw[I.list_inj hy t];exact D,rfl,hn,rfl⟩,⟨⟨_,Z⟩,V.at λo q=>(M.2 it (Ne.symm y)).trans q⟩,λb f=>(n b f).1⟩
 done:=by
  intro X J F G O i g s r H E I B st C
  subst J F G
  obtain⟨xs,t,D⟩:=C
  obtain⟨R,A,p,hz⟩:=I.list t
  obtain⟨⟨old,j⟩,l⟩:=st
  have hl:=A.length
  exact wpAny_pyNext_enum_end (I.ok.hd O) j l p.isList (by simp;omega) λm Y=>⟨rfl,I.turnedL (fp:=[e,it]) (t':=s.toks) (λb o f q=>Y b o (λz=>f (by simp[z])) q) B⟩
 self:=λ_ _ _ _ _ st h=>by
  obtain⟨⟨old,j⟩,l⟩:=st
  exact oC j h
def Nd(K:b3)(d:TA):TI:=λc H R=>d c H λvs b=>∃a,vs=[.ref a]/\(∃xs,SqL K b a xs)/\R (Mg K a) b
theorem Bx{g:List Expr}{F:Nat}{j:Pos}{a:Expr}{t:TA}{p pos:Pos}(E:Gl X "enumerate")(G:X.mg "enumerate"=none)(J:PA X [a] t)(L:dq [a] X.env=[(false,eval a X.env)]:=by rfl):
  PI X (.Tuple g F j) (.Call (.Name "enumerate" p) [a] [] pos) (Nd X.K t):=by
 intro d s o H R I h
 refine sE (uU I E G pO (d9 (Gh (J pos d s o H _ I h) λO f ⟨vs,k,c,D,B⟩=>?_) L rfl))
 obtain⟨l,e,⟨S,C⟩,q⟩:=B
 subst e
 cases D with
 | cons r x=>
  cases x
  cases r
  obtain⟨N,P,A,Q⟩:=c.list C
  refine call_enumerate_list A.isList λn m w M u=>?_
  refine oC (s:={f with heap:=n}) m ?_
  have v:Inv X d o k {f with heap:=n}:=c.kept (t':=f.toks) u
  refine⟨_,[f.heap.objs.size+1,f.heap.objs.size],_,_,k,rfl,v,CC l _ _ (Nat.succ_ne_self _),⟨⟨_,m⟩,w⟩,λb y=>?_,q⟩
  rcases da.mp y with z|z
  ·subst z
   exact c.fpOk (d6 _) (c.hok.fresh (d6 _))
  ·rw[cK.mp z]
   exact c.fpOk (cI _) (c.hok.fresh (cI _))
end
section
variable{X:Cx}{K:b3}
theorem yx{a:List Expr}{k:Nat}{pos:Pos}{t:Lj}(c:X.K=K)(n:Nat)(hc:X.calm=true)(h:Ny X a t)(d:(assignEach a X.env).length=n:=by rfl)(b:(assignEach a X.env).findIdx? (·.1)=none:=by rfl):
  PG X (.Tuple a k pos) (Mo K n t):=by subst c;exact zd hc h d b
theorem Ef{T:String}{name:Str}{id:String}{r:V->List V->Hp->VK->Prop}{o e:Expr}{b:List Expr}{c a:Pos}{j:TE}{t:TA}(q:X.K=K)(l:PlainAttrs T)(slot:Slot T name id)(k:typeOf (.builtin id)=pure (.type "method_descriptor"))(m:MJ X id r)(n:PE X o j)(p:PA X (e::b) t)
  (f:attributeBase o name X.env (eval o X.env)=eval o X.env:=by rfl)
  (h:((backTo a (dq (e::b) X.env)).all (λx=>!x.1)&&(backToKw a (keywordEach [] X.env)).all (λx=>x.1.isSome)
   && decide ((e::b).length+([]:List Keyword).length+(if([]:List Keyword).isEmpty then 0 else 1)<30))=true:=by rfl)
  (g:(c.endLine==a.line)=true:=by rfl)(s:dq (e::b) X.env=(false,eval e X.env)::dq b X.env:=by rfl)(d:(backTo a (dq b X.env)).any (·.1)=false:=by rfl):
  PE X (.Call (.Attribute o name c) (e::b) [] a) (Op K T r j t):=by subst q;exact uF l slot k m n p f h g s d
end
theorem C8{K:b3}{a:cG}{xs:List V}{g:TG}{f:TS}{D:H0}{b:St}{H:Hp}(c:Nat->St->Hp->Prop)(h0:c 0 b H)(hl:∀i b H,i<=xs.length->c i b H->SqL K H a xs)
  (l:∀i x b H t,xs[i]?=some x->H t=none->c i b H->g (.ref t) b (upd H t (.tup [.int i,x])) λσ2 H2=>f {D with nx:=c (i+1),ct:=c (i+1),bk:=D.nx} σ2 H2)(k:∀b H,c xs.length b H->D.nx b H):
  ∃W:Nat->Nat->St->Hp->Prop,(∃m,W 0 m b H)/\∀i m b H,W i m b H->
   ((Mg K a).stop i H/\D.nx b H)\/((Mg K a).go i H/\∃N:St->Hp->Prop,(∀σ' H',N σ' H'->∃m',m'<m/\W (i+1) m' σ' H')/\∀x H',(Mg K a).yld i H x H'->g x b H' λσ2 H2=>f {D with nx:=N,ct:=N,bk:=D.nx} σ2 H2):=by
 refine⟨λi m b H=>m=xs.length-i/\i<=xs.length/\c i b H,⟨xs.length,by simp,dz _,h0⟩,?_⟩
 rintro i m b H ⟨rfl,h,p⟩
 have q:=hl i b H h p
 by_cases d:i<xs.length
 ·refine .inr ⟨⟨xs,xs[i],q,by simp[d]⟩,c (i+1),λσ' H' j=>⟨xs.length-(i+1),by omega,rfl,d,j⟩,λx H' y=>?_⟩
  obtain⟨y,t,h1,rfl,h3,rfl⟩:=y
  exact l i y b H t (h1 xs q) h3 p
 ·have e:i=xs.length:=by omega
  subst e
  exact .inl ⟨⟨xs,q,cI _⟩,k b H p⟩
theorem BQ{K:b3}{a:cG}{xs:List V}{caps:List (Option Nat)}{g:TG}{j:TT}{h:TE}{f:St}{k:List V->Hp->Prop}{H:Hp}(c:Nat->List V->Hp->Prop)(h0:c 0 [] H)
  (hl:∀i ys H,i<=xs.length->c i ys H->SqL K H a xs)
  (s:∀i x ys H t,xs[i]?=some x->H t=none->c i ys H->g (.ref t) (GU caps f) (upd H t (.tup [.int i,x])) λσ2 H2=>j σ2 H2 λb H3=>if b=true then h σ2 H3 λy H4=>ys.length<sizeLine/\c (i+1) (ys++[y]) H4 else c (i+1) ys H3)
  (r:∀ys H,c xs.length ys H->k ys H):GG caps g j h f k (Mg K a) H:=by
 refine⟨λi m ys H=>m=xs.length-i/\i<=xs.length/\c i ys H,⟨xs.length,by simp,dz _,h0⟩,?_⟩
 rintro i m ys H ⟨rfl,l,p⟩
 have q:=hl i ys H l p
 by_cases d:i<xs.length
 ·refine .inr ⟨⟨xs,xs[i],q,by simp[d]⟩,c (i+1),λu n o=>⟨xs.length-(i+1),by omega,rfl,d,o⟩,λx n y=>?_⟩
  obtain⟨y,t,h1,rfl,h3,rfl⟩:=y
  exact s i y ys H t (h1 xs q) h3 p
 ·have e:i=xs.length:=by omega
  subst e
  exact .inl ⟨⟨xs,q,cI _⟩,r ys H p⟩
theorem A5{K:b3}{a:cG}{xs:List V}{caps:List (Option Nat)}{g:TG}{d:TE}{c:St}{e:List V->Hp->Prop}{H:Hp}(b:Nat->List V->Hp->Prop)(h0:b 0 [] H)
  (hl:∀i ys H,i<=xs.length->b i ys H->SqL K H a xs)
  (k:∀i x ys H t,xs[i]?=some x->H t=none->b i ys H->g (.ref t) (GU caps c) (upd H t (.tup [.int i,x])) λσ2 H2=>d σ2 H2 λy H4=>ys.length<sizeLine/\b (i+1) (ys++[y]) H4)
  (j:∀ys H,b xs.length ys H->e ys H):GG caps g HN d c e (Mg K a) H:=
 BQ b h0 hl (λi x ys H t f h p=>by simp only[uW];exact k i x ys H t f h p) j
def IsR(K:b3)(H:Hp)(v:V)(b:List Int):Prop:=∃a,v = .ref a/\SqT K H a (b.map V.int)
theorem IsR.mono{K:b3}{H c:Hp}{v:V}{b:List Int}(e:Same H c)(h:IsR K H v b):IsR K c v b:=by
 obtain⟨a,rfl,q⟩:=h;exact⟨a,rfl,e.tup q⟩
def Gx(x y:Int×Int):Bool:=decide (x.1*y.2<y.1*x.2)
mutual
theorem x8:∀(n:Nat) (d:iY),Ho n d=true->fz d d=true
 | _,.none,_=>by simp[fz]
 | _,.bool _,_=>by simp[fz]
 | _,.int _,_=>by simp[fz]
 | n,.str x,h=>by simp[fz]
 | n+1,.tuple ds,h=>by
  have:=wX n ds (by simpa [Ho]using h)
  simp[fz,this]
 | n+1,.list ds,h=>by
  have:=wX n ds (by simpa [Ho]using h)
  simp[fz,this]
 | 0,.tuple _,h=>by simp[Ho]at h
 | 0,.list _,h=>by simp[Ho]at h
 | 0,.dict _,h=>by simp[Ho]at h
 | _+1,.dict _,h=>by simp[Ho]at h
theorem wX:∀(n:Nat) (ds:List iY),(∀d∈ds,Ho n d=true)->gV ds ds=true
 | n,[],_=>by simp[gV]
 | n,d::ds,h=>by
  have h1:=x8 n d (h d cM)
  have h2:=wX n ds λx a=>h x (cN _ a)
  simp[gV,h1,h2]
end
end L2
namespace EM
open LM
def at0(ms:List Int)(t:Int):Int:=ms.getD t.toNat 0
def best(ms:List Int)(w:List Int):Int:=(w.filter λt=>decide (at0 ms t≠0)).headD 0
def dishes(W:List (List Int))(ms:List Int):List Int:=W.map (best ms)
def cnt(ds:List Int)(t:Int):Int:=(ds.count t:Nat)
def GX(ds ms:List Int):Int->List Int->Int
 | s,[]=>s
 | s,t::r=>GX ds ms (if at0 ms t*cnt ds s<at0 ms s*cnt ds t then t else s) r
def pick(ds ms:List Int):Int:=GX ds ms (ds.headD 0) ds
def nextMs(ds ms:List Int):List Int:=(rng ms.length).map λj=>at0 ms j*cnt ds (pick ds ms)-cnt ds j*at0 ms (pick ds ms)
structure Course where
 m:Int
 D:Int
 ds:List Int
 gone:List Int
def goneOf(ds a:List Int):List Int:=(rng a.length).filter λt=>decide (t∈ds)&&decide (at0 a t=0)
def Hs(W:List (List Int))(D:Int)(ms:List Int):Course:=
 ⟨at0 ms (pick (dishes W ms) ms),D*cnt (dishes W ms) (pick (dishes W ms) ms),dishes W ms,goneOf (dishes W ms) (nextMs (dishes W ms) ms)⟩
def nz(ms:List Int):Nat:=((rng ms.length).filter λt=>decide (at0 ms t≠0)).length
theorem at0_mem{ms:List Int}{t:Int}(h0:0<=t)(h:t<ms.length):at0 ms t∈ms:=by
 unfold at0;have h1:t.toNat<ms.length:=by omega
 rw[cA,cD h1];exact db h1
theorem BA{ms w:List Int}(h:∃t∈w,at0 ms t≠0):best ms w∈w/\at0 ms (best ms w)≠0:=by
 obtain⟨t,e,f⟩:=h;have b:t∈w.filter λt=>decide (at0 ms t≠0):=ef.mpr ⟨e,decide_eq_true f⟩;unfold best
 cases c:w.filter λt=>decide (at0 ms t≠0)with
 | nil=>rw[c]at b;cases b
 | cons a r=>
  have d:a∈w.filter λt=>decide (at0 ms t≠0):=by rw[c];exact cM
  have:=ef.mp d;exact⟨this.1,of_decide_eq_true this.2⟩
theorem zg{a b e c d f:Int}(l:0<d)(hc:0<=c)(k:0<=f)(h1:a*d<=b*c)(h2:b*f<=e*d):a*f<=e*c:=by
 have h3:a*d*f<=b*c*f:=fT h1 k;have h4:b*f*c<=e*d*c:=fT h2 hc;refine Int.le_of_mul_le_mul_right (a:=d) ?_ l;have g:a*f*d=a*d*f:=by rw[f9]
 have j:b*c*f=b*f*c:=by rw[f9]
 have h:e*c*d=e*d*c:=by rw[f9]
 rw[g,h];rw[j]at h3;exact gm h3 h4
theorem cnt_pos{ds:List Int}{t:Int}(h:t∈ds):0<cnt ds t:=by
 have:=List.count_pos_iff.mpr h;unfold cnt;exact gv.mpr this
theorem cnt_nn(ds:List Int)(t:Int):0<=cnt ds t:=by unfold cnt;exact ea _
theorem yt{ds:List Int}{t:Int}(h:t∉ds):cnt ds t=0:=by
 unfold cnt;rw[nO.mpr h];rfl
theorem cnt_le(ds:List Int)(t:Int):cnt ds t<=ds.length:=by
 have:=List.count_le_length (a:=t) (l:=ds);unfold cnt;exact f8.mpr this
theorem vE{ds ms:List Int}:∀(r:List Int) (s:Int),s∈ds->(∀t∈r,t∈ds)->
  GX ds ms s r∈ds/\at0 ms (GX ds ms s r)*cnt ds s<=at0 ms s*cnt ds (GX ds ms s r)/\∀t∈r,at0 ms (GX ds ms s r)*cnt ds t<=at0 ms t*cnt ds (GX ds ms s r)
 | [],s,hs,_=>⟨hs,fH _,λt f=>by cases f⟩
 | t::r,s,hs,hr=>by
  have f:=hr t cM
  have g:∀u∈r,u∈ds:=λu e=>hr u (cN _ e)
  unfold GX
  by_cases c:at0 ms t*cnt ds s<at0 ms s*cnt ds t
  ·rw[if_pos c]
   obtain⟨a,b,d⟩:=vE (ms:=ms) r t f g
   refine⟨a,?_,λu e=>?_⟩
   ·exact zg (cnt_pos f) (cnt_nn _ _) (cnt_nn _ _) b (dZ c)
   ·rcases da.mp e with rfl|e
    ·exact b
    ·exact d u e
  ·rw[if_neg c]
   obtain⟨a,b,d⟩:=vE (ms:=ms) r s hs g
   refine⟨a,b,λu e=>?_⟩
   rcases da.mp e with rfl|e
   ·exact zg (cnt_pos hs) (cnt_nn _ _) (cnt_nn _ _) b (sA.mp c)
   ·exact d u e
theorem yL{ds ms:List Int}(h:ds≠[]):pick ds ms∈ds/\∀t∈ds,at0 ms (pick ds ms)*cnt ds t<=at0 ms t*cnt ds (pick ds ms):=by
 cases ds with
 | nil=>exact absurd rfl h
 | cons a r=>
  have:=vE (ds:=a::r) (ms:=ms) (a::r) a cM λ_ h=>h;exact⟨this.1,this.2.2⟩
theorem FG(ms:List Int):(rng ms.length).map (at0 ms)=ms:=by
 conv=>rhs;rw[<-xw ms]
 unfold rng;rw[jb];rfl
theorem DJ(ds ms:List Int):(nextMs ds ms).length=ms.length:=by
 unfold nextMs;rw[cx,rng_len]
theorem rng_get{n k:Nat}(h:k<n):(rng n)[k]?=some (k:Int):=by
 unfold rng;rw[cL,eg h];rfl
theorem at0_next{ds ms:List Int}{t:Int}(h0:0<=t)(h:t<ms.length):at0 (nextMs ds ms) t=at0 ms t*cnt ds (pick ds ms)-cnt ds t*at0 ms (pick ds ms):=by
 have h1:t.toNat<ms.length:=by omega
 have e:((t.toNat:Nat):Int)=t:=gL h0
 conv=>lhs;unfold at0 nextMs
 rw[cA,cL,rng_get h1,e];rfl
theorem sum_zero:∀{ms:List Int},(∀m∈ms,0<=m)->ms.sum=0->∀m∈ms,m=0
 | [],_,_,m,h=>by cases h
 | a::r,hn,hs,m,h=>by
  have f:=hn a cM
  have e:0<=r.sum:=by
   have:∀{r:List Int},(∀m∈r,0<=m)->0<=r.sum:=by
    intro r
    induction r with
    | nil=>intro _;exact fH 0
    | cons b q d=>intro h;rw[fR];have:=h b cM;have:=d λm c=>h m (cN _ c);omega
   exact this λm c=>hn m (cN _ c)
  rw[fR]at hs
  rcases da.mp h with rfl|h
  ·omega
  ·exact sum_zero (λm c=>hn m (cN _ c)) (by omega) m h
theorem vh:∀{ms:List Int},(∀m∈ms,m=0)->ms.sum=0
 | [],_=>rfl
 | a::r,h=>by rw[fR,h a cM,vh λm b=>h m (cN _ b)];rfl
theorem some_left{ms:List Int}(h:ms.sum≠0):∃t:Int,0<=t/\t<ms.length/\at0 ms t≠0:=
 dU λc=>h (vh λm a=>by
  obtain⟨k,hk,e⟩:=eV.mp a
  refine dU λz=>c ⟨(k:Nat),ea _,gv.mpr hk,?_⟩
  unfold at0
  rw[cA,fY,cD hk,e]
  exact z)
theorem Ce{d:Int}:∀{l:List Int},l.Nodup->((d∈l->(l.map λj=>if d=j then(1:Int)else 0).sum=1)/\(d∉l->(l.map λj=>if d=j then(1:Int)else 0).sum=0))
 | [],_=>⟨λh=>(by cases h),λ_=>rfl⟩
 | a::r,hn=>by
  obtain⟨h1,h2⟩:=fD.mp hn
  obtain⟨c,b⟩:=Ce (d:=d) h2
  rw[d2,fR]
  by_cases e:d=a
  ·subst e
   exact⟨λ_=>by rw[if_pos rfl,b h1];rfl,λh=>absurd cM h⟩
  ·rw[if_neg e]
   exact⟨λh=>by rw[c ((da.mp h).resolve_left e)];rfl,λh=>by rw[b λz=>h (cN _ z)];rfl⟩
theorem w8{f g:Int->Int}:∀l:List Int,(l.map λj=>f j+g j).sum=(l.map f).sum+(l.map g).sum
 | []=>rfl
 | a::r=>by rw[d2,d2,d2,fR,fR,fR,w8 r];omega
theorem wT{f g:Int->Int}{a b:Int}:∀l:List Int,(l.map λj=>f j*a-g j*b).sum=(l.map f).sum*a-(l.map g).sum*b
 | []=>by simp
 | x::r=>by
  rw[d2,d2,d2,fR,fR,fR,wT r,ic,ic]
  omega
theorem Db(d:Int)(ds:List Int)(j:Int):cnt (d::ds) j=cnt ds j+if d=j then 1 else 0:=by
 unfold cnt;rw[List.count_cons];by_cases e:d=j
 ·rw[if_pos e,if_pos (by simp[e])];rfl
 ·rw[if_neg e,if_neg (by simp[e])];rfl
theorem B8{n:Nat}:∀{ds:List Int},(∀d∈ds,0<=d/\d<n)->((rng n).map (cnt ds)).sum=ds.length
 | [],_=>vh λm b=>by
  obtain⟨j,_,rfl⟩:=dG.mp b
  rfl
 | d::ds,h=>by
  have c:=B8 (n:=n) (ds:=ds) λx a=>h x (cN _ a)
  have e:(rng n).map (cnt (d::ds))=(rng n).map λj=>cnt ds j+if d=j then 1 else 0:=fW λj _=>Db d ds j
  rw[e,w8,c,(Ce (rng_nodup n)).1 (mem_rng.mpr (h d cM)),dR]
  omega
theorem zh{p q:Int->Bool}:∀{l:List Int},(∀x∈l,q x=true->p x=true)->(l.filter q).length<=(l.filter p).length/\((∃x∈l,p x=true/\q x=false)->(l.filter q).length<(l.filter p).length)
 | [],_=>⟨cI _,λ⟨x,h,_⟩=>by cases h⟩
 | a::r,h=>by
  obtain⟨d,g⟩:=zh (p:=p) (q:=q) (l:=r) λx b=>h x (cN _ b)
  have j:=h a cM
  rw[o3,o3]
  cases f:q a with
  | true=>
   rw[if_pos rfl,if_pos (j f),dR,dR]
   refine⟨dS d,λ⟨x,b,hp,c⟩=>?_⟩
   rcases da.mp b with rfl|b
   ·rw[f]at c;cases c
   ·have:=g ⟨x,b,hp,c⟩;exact fK this
  | false=>
   rw[if_neg (by decide)]
   cases e:p a with
   | true=>rw[if_pos rfl,dR];exact⟨fJ d,λ_=>fK d⟩
   | false=>
    rw[if_neg (by decide)]
    refine⟨d,λ⟨x,b,hp,c⟩=>?_⟩
    rcases da.mp b with rfl|b
    ·rw[e]at hp;cases hp
    ·exact g ⟨x,b,hp,c⟩
structure St(n:Nat)(D:Int)(ms:List Int)(T:Int)(G:List Int):Prop where
 pos:0<D
 len:ms.length=n
 nn:∀m∈ms,0<=m
 le:∀m∈ms,m<=D
 sum:ms.sum=n*(D-T)
 T0:0<=T
 gone:∀t:Int,0<=t->t<n->(t∈G↔at0 ms t=0)
 inG:∀t∈G,0<=t/\t<n
 nd:G.Nodup
 big:D<=8^(n-nz ms)
theorem Fv(ms:List Int):nz ms<=ms.length:=by
 unfold nz;exact cO (er ..) (by rw[rng_len];exact cI _)
theorem St.start{n:Nat}:St n 1 (gj n 1) 0 []:=by
 have a:∀t:Int,0<=t->t<n->at0 (gj n (1:Int)) t=1:=λt h0 h=>by
  unfold at0;rw[cA,List.getElem?_replicate_of_lt (by omega)];rfl
 refine⟨by decide,hO,λm h=>?_,λm h=>?_,?_,fH 0,λt h0 h=>⟨λz=>(by cases z),λz=>?_⟩,λt h=>(by cases h),io,?_⟩
 ·rw[(nP.mp h).2];decide
 ·rw[(nP.mp h).2];decide
 ·have:∀n:Nat,(gj n (1:Int)).sum=n:=by
   intro n
   induction n with
   | zero=>rfl
   | succ k b=>rw[nh,fR,b];omega
  rw[this];omega
 ·rw[a t h0 h]at z;cases z
 ·exact_mod_cast Nat.one_le_pow _ _ (by decide)
section
variable{n:Nat}{W:List (List Int)}{D T:Int}{ms G:List Int}
theorem EE(S:St n D ms T G)(c:∀w∈W,w.Perm (rng n))(e:ms.sum≠0){w:List Int}(hw:w∈W):(0<=best ms w/\best ms w<n)/\at0 ms (best ms w)≠0/\best ms w∈w:=by
 obtain⟨t,h0,h1,d⟩:=some_left e;rw[S.len]at h1;obtain⟨a,b⟩:=BA (ms:=ms) (w:=w) ⟨t,(c w hw).mem_iff.mpr (mem_rng.mpr ⟨h0,h1⟩),d⟩;exact⟨mem_rng.mp ((c w hw).mem_iff.mp a),b,a⟩
theorem dish_ok(S:St n D ms T G)(b:∀w∈W,w.Perm (rng n))(e:ms.sum≠0){d:Int}(c:d∈dishes W ms):(0<=d/\d<n)/\at0 ms d≠0:=by
 obtain⟨w,a,rfl⟩:=dG.mp c;have:=EE S b e a;exact⟨this.1,this.2.1⟩
theorem Bs(S:St n D ms T G)(hl:W.length=n)(aa:1<=n)(P:n<=6)(Z:∀w∈W,w.Perm (rng n))(hs:ms.sum≠0):
  0<(Hs W D ms).m/\0<cnt (dishes W ms) (pick (dishes W ms) ms)/\cnt (dishes W ms) (pick (dishes W ms) ms)<=6/\pick (dishes W ms) ms∈(Hs W D ms).gone/\
  nz (nextMs (dishes W ms) ms)<nz ms/\
  St n (Hs W D ms).D (nextMs (dishes W ms) ms) (T*cnt (dishes W ms) (pick (dishes W ms) ms)+(Hs W D ms).m) (G++(Hs W D ms).gone):=by
 have k:(dishes W ms).length=n:=by unfold dishes;rw[cx,hl]
 have N:dishes W ms≠[]:=λz=>by rw[z]at k;simp at k;omega
 have y:=λ {d:Int} (h:d∈dishes W ms)=>dish_ok S Z hs h
 unfold Hs
 dsimp only
 generalize dishes W ms=f at *
 obtain⟨I,J⟩:=yL (ms:=ms) N
 have g:=cnt_pos I
 have E:=cnt_le f (pick f ms)
 rw[k]at E
 obtain⟨⟨B,A⟩,pn⟩:=y I
 have s:0<at0 ms (pick f ms):=by
  have:=S.nn _ (at0_mem B (by rw[S.len];exact A));omega
 have u:∀t:Int,0<=t->t<n->at0 (nextMs f ms) t=at0 ms t*cnt f (pick f ms)-cnt f t*at0 ms (pick f ms):=λt h0 h1=>at0_next h0 (by rw[S.len];exact h1)
 have r:(nextMs f ms).length=n:=by rw[DJ,S.len]
 have l:∀t:Int,0<=t->t<n->at0 ms t=0->at0 (nextMs f ms) t=0:=λt h0 h1 z=>by
  have:t∉f:=λq=>(y q).2 z
  rw[u t h0 h1,z,yt this];omega
 have H:∀t:Int,0<=t->t<n->at0 ms t≠0->at0 (nextMs f ms) t=0->t∈f:=λt h0 h1 z q=>dU λc=>by
  rw[u t h0 h1,yt c,kb,rr]at q
  rcases pC.mp q with q|q
  ·exact z q
  ·omega
 have F:at0 (nextMs f ms) (pick f ms)=0:=by
  rw[u _ B A,gN];omega
 have o:∀t:Int,t∈goneOf f (nextMs f ms)↔(0<=t/\t<n)/\t∈f/\at0 (nextMs f ms) t=0:=λt=>by
  unfold goneOf
  rw[ef,r,mem_rng,dt,decide_eq_true_iff,decide_eq_true_iff]
 have O:nz (nextMs f ms)<nz ms:=by
  unfold nz
  rw[r,S.len]
  refine(zh λx V h=>?_).2 ⟨pick f ms,mem_rng.mpr ⟨B,A⟩,decide_eq_true pn,by rw[F];rfl⟩
  have C:=mem_rng.mp V
  exact decide_eq_true λz=>of_decide_eq_true h (l x C.1 C.2 z)
 refine⟨s,g,gm E (f8.mpr P),(o _).mpr ⟨⟨B,A⟩,I,F⟩,O,i3 S.pos g,r,?_,?_,?_,?_,λt h0 h1=>?_,λt h=>?_,?_,?_⟩
 ·intro m v
  unfold nextMs at v
  obtain⟨j,p,rfl⟩:=dG.mp v
  rw[S.len]at p
  obtain⟨L,M⟩:=mem_rng.mp p
  by_cases c:j∈f
  ·have:=J j c
   rw[gN (cnt f j)];omega
  ·rw[yt c,kb]
   have:=jB (S.nn _ (at0_mem L (by rw[S.len];exact M))) (dZ g)
   omega
 ·intro m v
  unfold nextMs at v
  obtain⟨j,p,rfl⟩:=dG.mp v
  rw[S.len]at p
  obtain⟨L,M⟩:=mem_rng.mp p
  have h1:=fT (S.le _ (at0_mem L (by rw[S.len];exact M))) (dZ g)
  have h2:=jB (cnt_nn f j) (dZ s)
  omega
 ·unfold nextMs
  rw[wT,FG,S.len,B8 (n:=n) (λd h=>(y h).1),k,S.sum]
  rw[qV,<-Int.mul_sub,jT,Int.sub_sub]
 ·have:=jB S.T0 (dZ g);exact mV this (dZ s)
 ·rw[dE,S.gone t h0 h1,o]
  constructor
  ·rintro(z|z)
   ·exact l t h0 h1 z
   ·exact z.2.2
  ·intro z
   by_cases c:at0 ms t=0
   ·exact .inl c
   ·exact .inr ⟨⟨h0,h1⟩,H t h0 h1 c z,z⟩
 ·rcases dE.mp h with h|h
  ·exact S.inG t h
  ·exact((o t).mp h).1
 ·refine gB.mpr ⟨S.nd,?_,λa U b R e=>?_⟩
  ·unfold goneOf
   exact(rng_nodup _).filter _
  ·subst e
   obtain⟨q,X,_⟩:=(o a).mp R
   exact(y X).2 ((S.gone a q.1 q.2).mp U)
 ·have Y:cnt f (pick f ms)<=8:=by omega
  have h1:=jC S.big Y (dZ g) (by exact_mod_cast dz _)
  refine gm h1 ?_
  have e:(8:Int)^(n-nz ms)*8=8^(n-nz ms+1):=(Int.pow_succ ..).symm
  rw[e]
  have Q:=Fv ms
  rw[S.len]at Q
  exact_mod_cast eK (by decide) (show n-nz ms+1<=n-nz (nextMs f ms)by omega)
theorem EO(S:St n D ms T G)(c:1<=n)(a:ms.sum=0):T=D/\G.Perm (rng n):=by
 have b:=sum_zero S.nn a;refine⟨?_,?_⟩
 ·have:=S.sum;rw[a]at this;rcases pC.mp this.symm with h|h <;> omega
 ·refine(gn S.nd (rng_nodup n)).mpr λt=>?_;rw[mem_rng];exact⟨S.inG t,λh=>(S.gone t h.1 h.2).mpr (b _ (at0_mem h.1 (by rw[S.len];exact h.2)))⟩
end
end EM
namespace EM
open LM
structure MB where
 D:Int
 ms:List Int
 T:Int
 G:List Int
def s0(n:Nat):MB:=⟨1,gj n 1,0,[]⟩
def cs(W:List (List Int))(s:MB):Course:=Hs W s.D s.ms
def cn(W:List (List Int))(s:MB):Int:=cnt (dishes W s.ms) (pick (dishes W s.ms) s.ms)
def nxt(W:List (List Int))(s:MB):MB:=⟨s.D*cn W s,nextMs (dishes W s.ms) s.ms,s.T*cn W s+(cs W s).m,s.G++(cs W s).gone⟩
def st(W:List (List Int))(n:Nat):Nat->MB
 | 0=>s0 n
 | i+1=>nxt W (st W n i)
def Upto(W:List (List Int))(n N:Nat):Prop:=∀i,i<N->(st W n i).ms.sum≠0
theorem Upto.mono{W:List (List Int)}{n N M:Nat}(h:Upto W n N)(b:M<=N):Upto W n M:=λi a=>h i (cJ a b)
theorem Upto.snoc{W:List (List Int)}{n N:Nat}(h:Upto W n N)(b:(st W n N).ms.sum≠0):Upto W n (N+1):=λi a=>by
 rcases f4.mp a with z|z
 ·exact h i z
 ·rw[z];exact b
structure Stops(W:List (List Int))(n N:Nat):Prop where
 up:Upto W n N
 last:(st W n N).ms.sum=0
structure Ws(n:Nat)(W:List (List Int)):Prop where
 n1:1<=n
 n6:n<=6
 len:W.length=n
 pm:∀w∈W,w.Perm (rng n)
section
variable{W:List (List Int)}{n:Nat}
theorem st_ok(h:Ws n W):∀i,Upto W n i->St n (st W n i).D (st W n i).ms (st W n i).T (st W n i).G/\nz (st W n i).ms+i<=n
 | 0,_=>⟨St.start,by
  have:=Fv (gj n 1)
  rw[hO]at this
  exact this⟩
 | i+1,hu=>by
  obtain⟨S,d⟩:=st_ok h i (hu.mono (d6 _))
  have b:=hu i (du _)
  obtain⟨_,_,_,_,c,a⟩:=Bs S h.len h.n1 h.n6 h.pm b
  refine⟨a,?_⟩
  show nz (nextMs (dishes W (st W n i).ms) (st W n i).ms)+(i+1)<=n
  omega
theorem upto_le(h:Ws n W){i:Nat}(a:Upto W n i):i<=n:=by have:=(st_ok h i a).2;exact cO (Nat.le_add_left _ _) this
theorem D_le{D T:Int}{ms G:List Int}(S:St n D ms T G)(a:n<=6):D<=262144:=by
 have h:=S.big;have h2:(8:Int)^(n-nz ms)<=8^6:=by
  have:(8:Nat)^(n-nz ms)<=8^6:=eK (by decide) (cO (sD _ _) a)
  exact_mod_cast this
 have e:(8:Int)^6=262144:=by decide
 exact gm h h2
structure NJ(W:List (List Int))(n:Nat)(s:MB):Prop where
 S:St n s.D s.ms s.T s.G
 S':St n (nxt W s).D (nxt W s).ms (nxt W s).T (nxt W s).G
 m0:0<(cs W s).m
 mD:(cs W s).m<=s.D
 c0:0<cn W s
 c6:cn W s<=6
 ne:(cs W s).gone≠[]
 dl:(dishes W s.ms).length=n
 dm:∀d∈dishes W s.ms,(0<=d/\d<n)/\at0 s.ms d≠0
theorem step_of(h:Ws n W){i:Nat}(m:Upto W n i)(j:(st W n i).ms.sum≠0):NJ W n (st W n i):=by
 obtain⟨S,_⟩:=st_ok h i m;obtain⟨a,b,c,d,_,k⟩:=Bs S h.len h.n1 h.n6 h.pm j;have e:(dishes W (st W n i).ms).length=n:=by unfold dishes;rw[cx,h.len]
 have f:∀d∈dishes W (st W n i).ms,(0<=d/\d<n)/\at0 (st W n i).ms d≠0:=λd l=>dish_ok S h.pm j l;have g:dishes W (st W n i).ms≠[]:=λz=>by rw[z]at e;have:=h.n1;simp at e;omega
 have hp:=f _ (yL (ms:=(st W n i).ms) g).1;refine⟨S,k,a,?_,b,c,(λz=>by unfold cs at z;rw[z]at d;cases d),e,f⟩;exact S.le _ (at0_mem hp.1.1 (by rw[S.len];exact hp.1.2))
def et(W:List (List Int))(n:Nat):Nat->Nat->Int->Int
 | 0,_,_=>0
 | i+1,p,t=>et W n i p t*cn W (st W n i)+if(dishes W (st W n i).ms).getD p 0=t then(cs W (st W n i)).m else 0
theorem et_bd(h:Ws n W)(p:Nat)(t:Int):∀i,Upto W n i->0<=et W n i p t/\et W n i p t<=(st W n i).T
 | 0,_=>⟨fH _,fH _⟩
 | i+1,hu=>by
  obtain⟨a,b⟩:=et_bd h p t i (hu.mono (by omega))
  have s:=step_of h (hu.mono (d6 i)) (hu i (du i))
  have h1:=jB a (dZ s.c0)
  have h2:=fT b (dZ s.c0)
  have h3:=s.m0
  show 0<=et W n i p t*cn W (st W n i)+_/\et W n i p t*cn W (st W n i)+_<=(st W n i).T*cn W (st W n i)+(cs W (st W n i)).m
  split <;> omega
theorem all_gone(h:Ws n W){N:Nat}(a:Stops W n N):(st W n N).T=(st W n N).D/\(st W n N).G.Perm (rng n):=EO (st_ok h N a.up).1 h.n1 a.last
end
theorem nodup_len:∀(n:Nat) {l:List Int},l.Nodup->(∀x∈l,0<=x/\x<(n:Int))->l.length<=n
 | 0,l,_,h=>by
  cases l with
  | nil=>exact cI _
  | cons x r=>have:=h x cM;omega
 | n+1,l,hn,h=>by
  have c:=nodup_len n (l:=l.erase (n:Int)) (hn.erase _) λx b=>by
   have h1:=h x (List.mem_of_mem_erase b)
   have h2:x≠(n:Int):=λz=>by rw[z]at b;exact(hn.not_mem_erase) b
   omega
  have:=List.length_erase (a:=(n:Int)) (l:=l)
  split at this <;> omega
theorem gone_eq{ns ds ms:List Int}(e:∀i,i∈ns↔i∈ds)(f:ns.Nodup)(g:ns.Pairwise (· <= ·))(c:∀d∈ds,0<=d/\d<ms.length):ns.filter (λt=>decide (at0 ms t=0))=goneOf ds ms:=by
 refine zO (b:=[]) ?_ (g.filter _) ((Ba _).filter _);refine(gn (f.filter _) ((rng_nodup _).filter _)).mpr λt=>?_;rw[ef,ef,e,mem_rng];constructor
 ·rintro⟨a,b⟩;exact⟨c t a,by rw[decide_eq_true a,b];rfl⟩
 ·rintro⟨_,b⟩;have:=(dt _ _).mp b;exact⟨of_decide_eq_true this.1,this.2⟩
end EM
namespace L2
open PySem PySem.Spec PyProof.Rows
def F5(b:Nat->Bool):List Nat:=(dc 6).filter b
def Gw(S:List Nat)(led:Bool):SetTable:=⟨if S.length<=4 then 7 else 31,S.toArray,#[],0,led,if S.length<=4 then 0 else 1,true⟩
def JM:List Nat->List (List Nat)
 | []=>[[]]
 | a::r=>JM r++(JM r).map (a :: ·)
theorem yc:∀{l S:List Nat},S.Sublist l->S∈JM l
 | _,_,.slnil=>cK.mpr rfl
 | _,_,.cons a h=>dE.mpr (.inl (yc h))
 | _,_,.cons₂ a h=>dE.mpr (.inr (dG.mpr ⟨_,yc h,rfl⟩))
theorem u4(b:Nat->Bool):F5 b∈JM (dc 6):=yc List.filter_sublist
def Hq(S:List Nat)(v:Nat):Nat:=(S.filter (· < v)).length
def II(S:List Nat)(v:Nat):List Nat:=S.take (Hq S v)++v::S.drop (Hq S v)
def Jh(S:List Nat)(v:Nat)(led:Bool):Bool:=
 match(Gw S led).freeSlot (v:Int)with
 | some (j,d)=>
  let q:=(Gw S led).put j
  decide (j=v) && !d&&decide (q.2=Hq S v)&&q.1.fits (S.length+1)&&decide (q.1.plain=true) &&
  (if q.1.tooFull then
   match q.1.relaid ((II S v).map im).toArray (kq (S.length+1))with
   | some (t',o)=>decide (t'=Gw (II S v) led)&&decide (o=(dc (S.length+1)).toArray)&&t'.fits (S.length+1)&&coversAll o (S.length+1)
   | none=>false
  else decide (q.1=Gw (II S v) led))
 | none=>false
theorem EI:∀S∈JM (dc 6),∀v∈dc 6,v∉S->Jh S v true=true/\Jh S v false=true:=by decide +kernel
theorem EZ:∀S∈JM (dc 6),∀v∈dc 6,v∉S->II S v=(dc 6).filter λx=>decide (x∈S)||x==v:=by decide +kernel
theorem Dv:∀S∈JM (dc 6),(Gw S true).fits S.length=true/\(Gw S false).fits S.length=true:=by decide +kernel
def Jf(S:List Nat)(led:Bool):Bool:=
 (dc (S.length+1)).all λi=>decide (p7 (Gw S led).place (if i=0 then 0 else(S.getD (i-1) 0)+1)=i)
theorem Di:∀S∈JM (dc 6),Jf S true=true/\Jf S false=true:=by decide +kernel
def Iw(a:Nat->Tok)(v:Nat):Int×cz:=((v:Int),d4 (v:Int) (a v))
def SetIs(h:Heap)(a:cG)(b:Nat->Bool)(led:Bool):Prop:=
 ∃(o:Obj) (es:Array (Int×cz)) (ep:Nat) (tok:Nat->Tok),h.get? a=some o/\o.ExactSet/\o.data = .set es ep (Gw (F5 b) led)/\es.toList=(F5 b).map (Iw tok)
theorem uD{b:Nat->Bool}{v:Nat}:v∈F5 b↔v<6/\b v=true:=by
 unfold F5;rw[ef,d5]
theorem vU(b:Nat->Bool):(F5 b).length<=6:=by
 unfold F5;exact cO (er ..) (by rw[fL];exact cI _)
theorem uM(b:Nat->Bool)(led:Bool):(Gw (F5 b) led).fits (F5 b).length=true:=by
 have:=Dv _ (u4 b)
 cases led
 ·exact this.2
 ·exact this.1
theorem yM{b:Nat->Bool}{v:Nat}(d:v<6)(a:b v=false):II (F5 b) v=F5 λx=>b x||x==v:=by
 rw[EZ _ (u4 b) v (d5.mpr d) λz=>by rw[(uD.mp z).2]at a;cases a];unfold F5;refine gC λx c=>?_;have:decide (x∈rP b (dc 6))=b x:=by
  rw[gF,decide_eq_true_iff,ef];exact⟨λh=>h.2,λh=>⟨c,h⟩⟩
 rw[this]
theorem yC{b:Nat->Bool}{v:Nat}(a:b v=true):(F5 λx=>b x||x==v)=F5 b:=by
 unfold F5;refine gC λx c=>?_;by_cases e:x=v
 ·subst e;rw[a];rfl
 ·rw[beq_false_of_ne e,kZ]
theorem xV(v:Nat)(a:v<6):hashInt (v:Int)=v:=
 (show ∀v∈dc 6,hashInt ((v:Nat):Int)=v by decide +kernel) v (d5.mpr a)
theorem yi{b:Type}(xs:Array b):Array.filterMap (λx=>xs[x]?) (dc xs.size).toArray=xs:=by
 apply pW;rw[Array.toList_filterMap];have:∀(l:List b),p9 (λx=>l[x]?) (dc l.length)=l:=by
  intro l
  induction l with
  | nil=>rfl
  | cons a r c=>
   rw[dR,List.range_succ_eq_map,gp,List.filterMap_map];show a::p9 (λx=>r[x]?) (dc r.length)=a::r;rw[c]
 have:=this xs.toList;simpa using this
theorem AR{prog:cY}{w:dn}{b:Nat->Bool}{c:Nat->Tok}{d:Array (Int×cz)}(g:d.toList=(F5 b).map (Iw c)):ElemsOf (intKind prog w) d.toList:=by
 intro e a;rw[g]at a;obtain⟨u,f,rfl⟩:=dG.mp a;exact⟨⟨(u:Int),beq_self_eq_true _,(xV u (uD.mp f).1).symm⟩,rfl⟩
theorem Cg{b:Nat->Bool}{v:Nat}{led:Bool}{c:Array (Int×cz)}{x:cz}{q:Nat->Tok}(D:v<6)(p:b v=false)(E:c.toList=(F5 b).map (Iw q)):
  ∃t,layNew (Gw (F5 b) led) c (v:Int) x=(iO c (Hq (F5 b) v) ((v:Int),x),t,false,false)/\t.plain=true/\t.fits (c.size+1)=true/\
   (t.tooFull=false->t=Gw (II (F5 b) v) led)/\(t.tooFull=true->t.relaid ((II (F5 b) v).map im).toArray (kq (c.size+1))=some (Gw (II (F5 b) v) led,(dc (c.size+1)).toArray)/\
    (Gw (II (F5 b) v) led).fits (c.size+1)=true/\coversAll (dc (c.size+1)).toArray (c.size+1)=true):=by
 have k:c.size=(F5 b).length:=by rw[<-eF,E,cx]
 have h:=EI _ (u4 b) v (d5.mpr D) λz=>by rw[(uD.mp z).2]at p;cases p
 have h1:Jh (F5 b) v led=true:=by
  cases led
  ·exact h.2
  ·exact h.1
 unfold Jh at h1
 cases f:(Gw (F5 b) led).freeSlot (v:Int)with
 | none=>rw[f]at h1;cases h1
 | some A=>
  obtain⟨j,d⟩:=A
  rw[f]at h1
  dsimp only at h1
  rw[dt,dt,dt,dt,dt,decide_eq_true_iff,decide_eq_true_iff,decide_eq_true_iff]at h1
  obtain⟨⟨⟨⟨⟨rfl,w⟩,hp⟩,e⟩,l⟩,a⟩:=h1
  have n:d=false:=by cases d <;> first|rfl|cases w
  subst n
  rw[<-k]at e a
  have m:(iO c (Hq (F5 b) j) ((j:Int),x)).size=c.size+1:=by
   have:=(l4 c (Hq (F5 b) j) ((j:Int),x)).length_eq
   simpa using this
  refine⟨((Gw (F5 b) led).put j).1,?_,l,e,λu=>?_,λs=>?_⟩
  ·unfold layNew
   rw[f]
   dsimp only
   rw[hp,m,e]
   have B:((Gw (F5 b) led).put j).1.orStandIn (c.size+1)=((Gw (F5 b) led).put j).1:=by
    unfold SetTable.orStandIn;rw[if_pos e]
   rw[B]
   rfl
  ·rw[u,if_neg (by decide)]at a
   exact of_decide_eq_true a
  ·rw[s,if_pos rfl]at a
   cases g:((Gw (F5 b) led).put j).1.relaid ((II (F5 b) j).map im).toArray (kq (c.size+1))with
   | none=>rw[g]at a;cases a
   | some C=>
    obtain⟨F,o⟩:=C
    rw[g]at a
    dsimp only at a
    rw[dt,dt,dt,decide_eq_true_iff,decide_eq_true_iff]at a
    obtain⟨⟨⟨rfl,rfl⟩,y⟩,r⟩:=a
    exact⟨rfl,y,r⟩
theorem yU{prog:cY}{w:dn}{A:dD}{E:cz->cC->Prop}{s:cC}{a:cG}{b:Nat->Bool}{led:Bool}{v:Nat}{tk:Tok}{Q:Bool->cC->Prop}(F:v<6)(hS:SetIs s.heap a b led)
  (q:∀h',fS a s.heap h'->SetIs h' a (λx=>b x||x==v) led->Q (!b v) {s with heap:=h'}):
  wpAny (model prog w) A (setAddHashed a (.int v tk) ((intKind prog w).hash (v:Int))) Q E s:=by
 obtain⟨o,f,r,d,D,I,y,n⟩:=hS
 have L:f.size=(F5 b).length:=by rw[<-eF,n,cx]
 have h6:=vU b
 have P:(Gw (F5 b) led).fits f.size=true:=by rw[L];exact uM b led
 have M:ElemsOf (intKind prog w) f.toList:=AR n
 have X:(intKind prog w).hash (v:Int)=v:=xV v F
 have aa:64<=scanBound:=by decide +kernel
 unfold setAddHashed
 refine dI ?_
 rw[rE]
 dsimp only
 refine b0 (d0 D y P ?_)
 dsimp only
 rw[if_pos (byScan_of (knd:=intKind prog w) (x:= .int v tk) rfl (by omega) M)]
 unfold setAddByScan
 refine b0 (b0 (i4 ?_))
 refine b0 (wpAny_setScan_of (knd:=intKind prog w) (k:=(v:Int)) (beq_self_eq_true _) D y P M ?_)
 cases g:b v with
 | true=>
  cases B:qX (λe:Int×cz=>(intKind prog w).is (v:Int) e.2) f.toList with
  | none=>
   have:=List.findIdx?_eq_none_iff.mp B (Iw d v) (by rw[n];exact dG.mpr ⟨v,uD.mpr ⟨F,g⟩,rfl⟩)
   rw[show(intKind prog w).is (v:Int) (Iw d v).2=true from beq_self_eq_true _]at this
   cases this
  | some j=>
   refine b4 (b4 ?_)
   have:=q s.heap (sG a _) ⟨o,f,r,d,D,I,by rw[yC g];exact y,by rw[yC g];exact n⟩
   rw[g]at this
   exact this
 | false=>
  cases B:qX (λe:Int×cz=>(intKind prog w).is (v:Int) e.2) f.toList with
  | some j=>
   obtain⟨e,h1,h2⟩:=List.findIdx?_eq_some_iff_getElem.mp B
   have J:f.toList[j]∈(F5 b).map (Iw d):=by rw[<-n];exact db e
   obtain⟨u,G,R⟩:=dG.mp J
   have h3:=(uD.mp G).2
   have h4:(intKind prog w).is (v:Int) (Iw d u).2=true:=by rw[R];exact h1
   have h5:(u:Int)=v:=eq_of_beq h4
   have:u=v:=by omega
   rw[this,g]at h3
   cases h3
  | none=>
   obtain⟨t,hl,N,V,C,p⟩:=Cg (led:=led) (x:= .int v tk) F g n
   dsimp only
   rw[X,hl]
   dsimp only
   refine b0 (b4 ?_)
   rw[if_pos N,hashByValue_scannable 8 (x:= .int v tk) rfl]
   refine b0 (b4 ?_)
   rw[if_pos (show plainKind (d4 (v:Int) tk)=true from rfl)]
   have m:(iO f (Hq (F5 b) v) ((v:Int),d4 (v:Int) tk)).toList=(F5 λx=>b x||x==v).map (Iw λu=>if u=v then tk else d u):=by
    rw[SetTable.toList_insertAt,n,<-yM F g]
    have Z:(F5 b).map (Iw d)=(F5 b).map (Iw λu=>if u=v then tk else d u):=fW λu G=>by
     have:u≠v:=λz=>by rw[z]at G;rw[(uD.mp G).2]at g;cases g
     show((u:Int),d4 (u:Int) (d u))=((u:Int),d4 (u:Int) (if u=v then tk else d u))
     rw[if_neg this]
    rw[Z]
    unfold II
    rw[cV,d2,lb,lg]
    have U:Iw (λu=>if u=v then tk else d u) v=((v:Int),d4 (v:Int) tk):=by
     show((v:Int),d4 (v:Int) (if v=v then tk else d v))=_
     rw[if_pos rfl]
    rw[U]
   have h:(iO f (Hq (F5 b) v) ((v:Int),d4 (v:Int) tk)).size=f.size+1:=by
    have:=(l4 f (Hq (F5 b) v) ((v:Int),d4 (v:Int) tk)).length_eq
    simpa using this
   rw[yM F g]at C p
   generalize iO f (Hq (F5 b) v) ((v:Int),d4 (v:Int) tk)=c at *
   have l:c.size<=sizeLine:=cZ (F4 (by omega))
   rw[h]at l
   have S:=putSet_of c t y
   have g1:(s.heap.update a (nQ c t)).get? a=some ⟨o.cls,o.dict,.set c (r+1) t,o.slots⟩:=by
    rw[<-S]
    exact eS _ D (by rw[S];rfl)
   refine b0 (oD D y ?_ (by rw[h];exact l))
   cases H:t.tooFull with
   | false=>
    rw[if_neg (by simp)]
    refine b4 (b4 ?_)
    have:=q _ (fb s.heap a (nQ c t)) ⟨_,c,r+1,_,g1,I,by rw[C H],m⟩
    rw[g]at this
    exact this
   | true=>
    obtain⟨r1,W,T⟩:=p H
    have J:Array.map (λx:Int×cz=>x.1) c=((F5 λx=>b x||x==v).map im).toArray:=by
     apply pW
     rw[Array.toList_map,m,jb]
     rfl
    have Y:relayAll t c (kq c.size)=(c,Gw (F5 λx=>b x||x==v) led,false):=by
     unfold relayAll
     rw[J,h,r1]
     dsimp only
     rw[<-h,yi,h,W,T]
     rfl
    rw[if_pos (by simp),Y]
    dsimp only
    refine b0 (b4 (b0 (oD g1 rfl (b4 (b4 ?_)) (by rw[h];exact l))))
    have O:=putSet_of (o:=⟨o.cls,o.dict,.set c (r+1) t,o.slots⟩) c (Gw (F5 λx=>b x||x==v) led) rfl
    have g2:((s.heap.update a (nQ c t)).update a (nQ c (Gw (F5 λx=>b x||x==v) led))).get? a=some ⟨o.cls,o.dict,.set c (r+1+1) (Gw (F5 λx=>b x||x==v) led),o.slots⟩:=by
     rw[<-O]
     exact eS _ g1 (by rw[O];rfl)
    have:=q _ ((fb s.heap a _).trans (fb _ a _)) ⟨_,c,r+1+1,_,g2,I,rfl,m⟩
    rw[g]at this
    exact this
def Gd(w:dn):Bool:=!w.params.followText "set-order"
theorem BY{prog:cY}{w:dn}{A:dD}{E:cz->cC->Prop}{s:cC}(a:cz){Q₁:cz->cC->Prop}
  (h:Q₁ (.ref s.heap.objs.size) {s with heap:=s.heap.push {cls:= .type "set",data:= .set #[] 0 (f5 0 0 (Gd w))}}):
  codeAny (model prog w) A (.call (.builtin "set.__new__") ⟨[.type "set",a],[]⟩) (wants Q₁ E) s:=by
 refine mu ?_
 refine b0 (fQ (F.newCall_set_1 a) (b4 ⟨jR pD _,eT F.entry_set_new ?_⟩))
 rw[gd pD _]
 have b:=ry
 unfold Builtin.«set.__new__» qa
 refine b0 (b0 (b4 ?_))
 refine cS rfl (b0 (fQ b (cS rfl (b4 ?_))))
 unfold newSet setsByText
 refine b0 (b0 (b0 (fU (b4 ?_))))
 show wpAny _ _ (newObj _ _) _ _ _
 unfold newObj
 dsimp only
 rw[if_neg (by decide)]
 unfold newObjAsIs
 exact b0 (pj (b4 (b4 h)))
theorem SetIs.congr{h h':Heap}{a:cG}{b:Nat->Bool}{led:Bool}(H:SetIs h a b led)(e:∀o,h.get? a=some o->h'.get? a=some o):SetIs h' a b led:=by
 obtain⟨o,g,f,c,d,r⟩:=H;exact⟨o,g,f,c,e o d,r⟩
theorem SetIs.by{h:Heap}{a:cG}{b c:Nat->Bool}{led:Bool}(H:SetIs h a b led)(e:∀x,x<6->b x=c x):SetIs h a c led:=by
 have:F5 b=F5 c:=gC λx d=>e x (d5.mp d);unfold SetIs at H ⊢;rw[this]at H;exact H
theorem D1{prog:cY}{w:dn}{A:dD}{R:Result->cC->Prop}{I:cG}{fp u:List cG}{G:Array GenState->Array GenState->Prop}{n:Nat}{P:Nat->cz->Prop}{St:Nat->cC->Prop}{led:Bool}
  (W:WalksS prog w A.in1 I fp u G n P St)(S:cG)(H:S∉fp)(val:Nat->Nat)(N:∀i v,P i v->val i<6/\∃t,v=d4 (val i:Nat) t):
  ∀(k i:Nat) (s:cC) (b:Nat->Bool),n-i=k->i<=n->St i s->SetIs s.heap S b led->
   (∀s',Moved (S::u) G s s'->SetIs s'.heap S (λx=>b x||(kS i (n-i)).any λj=>x==val j) led->R (.ok (.ret .none)) s')->
   codeAny (model prog w) A (.builtin "set.update.loop" ⟨[.ref S,.ref I],[]⟩) R s:=by
 have p:S∉u:=λz=>H (W.sub S z)
 intro k
 induction k with
 | zero=>
  intro i s b hk M f a h
  have e:i=n:=by omega
  subst e
  refine eT ip ?_
  rw[gd gf _]
  unfold Builtin.«set.update.loop»
  refine b0 (W.done s _ _ f λs' m=>?_)
  refine b4 (h s' ⟨λc o d=>m.heap c o λz=>d (cN _ z),m.gens,m.drawn,m.os,m.toks⟩ ((a.congr λo=>m.heap S o p).by λx _=>?_))
  rw[iC]
  simp
 | succ k L=>
  intro i s b hk M f a h
  refine eT ip ?_
  rw[gd gf _]
  unfold Builtin.«set.update.loop»
  refine b0 (W.item i s _ _ (by omega) f λv s' J q m=>?_)
  obtain⟨E,t,rfl⟩:=N i v J
  dsimp only
  refine b0 (dI ?_)
  unfold setAdd
  refine dI (b0 ((intKind prog w).pyHash (k:=((val i:Nat):Int)) (beq_self_eq_true _) ?_))
  refine yU E (SetIs.congr a λo=>m.heap S o p) λB y C=>?_
  refine b4 ⟨jR gf _,L (i+1) _ _ (by omega) (by omega) (W.frame (i+1) s' B (s'.toks+1) q (d6 _) λc d o r=>by rw[y.2 c λz=>H (z▸d)];exact r) C λD g l=>h D ?_ (l.by λx _=>?_)⟩
  ·refine⟨λc o d r=>g.heap c o d ?_,W.gtrans _ _ _ m.gens g.gens,g.drawn.trans m.drawn,g.os.trans m.os,cO m.toks (cO (d6 _) g.toks)⟩
   show B.get? c=some o
   rw[y.2 c λz=>d (by rw[z];exact cM)]
   exact m.heap c o (λz=>d (cN _ z)) r
  ·have e:n-i=(n-(i+1))+1:=by omega
   rw[e,lJ,ig,Bool.or_assoc]
theorem xA{prog:cY}{w:dn}{A:dD}{E:cz->cC->Prop}{s:cC}{l:cG}{a:Array cz}{Q:cz->cC->Prop}(W:A.handled=none)(hl:s.heap.IsList l a)(val:Nat->Nat)
  (X:∀i v,a[i]?=some v->val i<6/\∃t,v=d4 (val i:Nat) t)
  (h:∀(h':Heap) (tk:Nat),SetIs h' s.heap.objs.size (λx=>(kS 0 a.size).any λj=>x==val j) (Gd w)->(∀b o,s.heap.get? b=some o->h'.get? b=some o)->Q (.ref s.heap.objs.size) {s with heap:=h',toks:=tk}):
  wpAny (model prog w) A (call (.type "set") [.ref l]) Q E s:=by
 obtain⟨c,Y,y⟩:=fA.mro
 have k:=fA.made
 have C:=fA.sub
 refine gY (mu (b4 ⟨g8 _ (by decide +kernel),eT oE ?_⟩))
 rw[nR (mE "set" [.ref l] []) rfl]
 have h1:=fA.notType
 have h2:=fA.canCreate
 have G:=o4 (.ref l)
 unfold Builtin.«type.__call__»
 refine cS (by rw[h1];rfl) (cS (by rw[h2];rfl) (b0 (fQ G (b0 (fQ y (cS rfl (b0 (fQ k (b0 (b4 ?_))))))))))
 refine b0 (dI (gY (iy (BY (E:=E) (.ref l) (Q₁:=λv O=>v = .ref s.heap.objs.size/\O=_) ⟨rfl,rfl⟩) λr u B=>?_)))
 cases r with
 | error e=>exact B
 | ok I=>
  cases I with
  | ret v=>
   obtain⟨rfl,rfl⟩:=(show v=_/\u=_ from B)
   have d:(s.heap.push {cls:=dO "set",data:=Data.set #[] 0 (f5 0 0 (Gd w))}).get? s.heap.objs.size=some {cls:=dO "set",data:=Data.set #[] 0 (f5 0 0 (Gd w))}:=cP _ rfl
   refine b0 (eR (T:="set") ⟨_,d,rfl⟩ C (cS rfl (b0 (dI ?_))))
   unfold callSpecial?
   refine b0 (gr (T:="set") ⟨_,d,rfl⟩ fA.init.lookup ?_)
   refine dI (b0 (fQ (fA.init.bind _) (b0 (gY (iZ fA.init.plain o5 (o6 ⟨_,d,rfl⟩ ?_))))))
   unfold Builtin.«set.__init__»
   refine b0 (b4 ?_)
   dsimp only[o7,pE]
   unfold typeNameOfCut
   unfold shownTypeOf
   refine b0 (b0 ?_)
   refine b0 (iB (T:="set") ⟨_,d,rfl⟩ (cS rfl (b4 (b4 (b0 (b4 (b0 (b4 ?_))))))))
   unfold setUsed
   refine b0 (b0 (d0 d rfl (by cases Gd w <;> rfl) (b4 (cS rfl ?_))))
   have f:=hl.push {cls:=dO "set",data:=Data.set #[] 0 (f5 0 0 (Gd w))}
   have q:lh {s with heap:=s.heap.push {cls:=dO "set",data:=Data.set #[] 0 (f5 0 0 (Gd w))}} (.ref l) "list":=by
    obtain⟨o,h1,h2,_⟩:=f
    exact⟨o,h1,h2⟩
   unfold jY kr orM
   refine b0 (b0 (b0 (eR q qb (eR q mW ?_))))
   refine cS rfl (b0 (iB q (cS rfl (b0 (iM f ?_)))))
   refine b0 (ko ?_)
   have p:s.heap.get? s.heap.objs.size=none:=by
    cases e:s.heap.get? s.heap.objs.size with
    | none=>rfl
    | some o=>exact absurd (cR e) (dA _)
   have H:l≠s.heap.objs.size:=λz=>by
    obtain⟨o,h1,_⟩:=hl
    rw[z,p]at h1;cases h1
   have n:(s.heap.push {cls:=dO "set",data:=Data.set #[] 0 (f5 0 0 (Gd w))}).objs.size=s.heap.objs.size+1:=lZ ..
   have D:l≠s.heap.objs.size+1:=λz=>by
    obtain⟨o,h1,_⟩:=hl
    rw[z]at h1
    exact absurd (eX (cR h1)) (dA _)
   dsimp only
   rw[n]
   refine D1 (sK (pX (A:=A.in1.in1.in1) W (s.heap.objs.size+1) l D a)) s.heap.objs.size (λz=>?_) val X a.size 0 _ (λ_=>false) rfl (dz _) ⟨?_,f.push _⟩ (led:=Gd w) ?_ λS m R=>?_
   ·rcases da.mp z with z|z
    ·exact absurd z (dr (du _))
    ·exact H (cK.mp z).symm
   ·exact⟨_,(by rw[<-n];exact cP _ rfl),rfl,rfl⟩
   ·exact⟨_,#[],0,λ_=>0,cF _ d,⟨rfl,rfl,rfl⟩,rfl,rfl⟩
   ·refine b4 (b4 (b4 (cS rfl (b4 ?_))))
    obtain⟨h',L,M,U,V⟩:=S
    have P:L=s.gens:=m.gens
    have N:M=s.drawn:=m.drawn
    have J:V=s.os:=m.os
    subst P N J
    refine h h' U (R.by λx _=>by rw[qY];rfl) λb o g=>m.heap b o (λz=>?_) (cF _ (cF _ g))
    rcases da.mp z with z|z
    ·rw[z,p]at g;cases g
    ·rw[cK.mp z]at g
     exact absurd (eX (cR g)) (dA _)
  | _=>exact B.elim
theorem tK:Slot "set_iterator" (cU "__next__") "set_iterator.__next__":=by
 refine Slot.of (owner:="set_iterator") (n:="__next__") ?_ ?_ ?_ ?_ ?_ ?_
 ·rw[pF,mF];rfl
 ·decide +kernel
 ·decide +kernel
 ·decide +kernel
 ·exact Or.inl (by decide +kernel)
 ·rw[qc];rfl
theorem uB:entryFor table "set_iterator.__next__"=some Builtin.«set_iterator.__next__»:=entryFor_of_tree rfl
theorem uK(a:cz):argsOk "set_iterator.__next__" ⟨[a],[]⟩:=by
 show _=_;rw[qZ (rows:=kH) rfl rfl];rfl
theorem xx:entryFor table "set.__iter__"=some Builtin.«frozenset.__iter__»:=ks (id':="frozenset.__iter__") rfl rfl (by decide +kernel) rfl
def Go(a:cG)(slot i n b:Nat):Obj:={cls:= .type "set_iterator",data:= .fields #[rawInt slot,rawInt i,.ref a,rawInt n,rawInt b]}
theorem C6{prog:cY}{w:dn}{A:dD}{E:cz->cC->Prop}{s:cC}{a:cG}{o:Obj}{e:Array (Int×cz)}{g:Nat}{t:SetTable}{Q:cz->cC->Prop}(b:s.heap.get? a=some o)(j:o.ExactSet)(d:o.data = .set e g t)
  (c:t.fits e.size=true)(hp:t.plain=true)
  (h:Q (.ref s.heap.objs.size) {s with heap:=s.heap.push (Go a 0 0 e.size g)}):wpAny (model prog w) A (pyIter (.ref a)) Q E s:=by
 have f:s.TypeIs (.ref a) "set":=⟨o,b,j.1⟩
 refine jD f pG (dY pG f xx ?_ (F.args_set_iter_1 _))
 unfold Builtin.«frozenset.__iter__» rf slotArgs lj setEntries setDrawn setsByText
 refine b0 (b0 (b4 (b4 (b0 (b0 (b0 (d0 b d c (b4 (b4 (b0 (b0 (d0 b d c ?_))))))))))))
 refine b0 (b0 (fU (b4 (b4 (cS ?_ ?_)))))
 ·show decide ((_&&(!t.plain&&_))=true)=false
  rw[hp]
  simp
 refine b0 (b4 ?_)
 unfold setEpoch newFields
 refine b0 (b0 (d0 b d c (b4 (b0 ?_))))
 unfold newObj
 dsimp only
 rw[if_neg (by show ¬5>sizeLine+2;decide +kernel)]
 unfold newObjAsIs
 refine b0 (pj (b4 (b4 ⟨_,rfl,"set_iterator",_,⟨_,cP _ rfl,rfl⟩,tK.lookup,h⟩)))
def GD(S:List Nat)(k:Nat):Nat:=if k=0 then 0 else S.getD (k-1) 0+1
theorem vR:firstArgMember (dO "StopIteration") []=pure cz.none:=by
 unfold firstArgMember;dsimp only;rw[pure_bind];split <;> rfl
theorem w5(b:Nat->Bool)(led:Bool){k:Nat}(hk:k<=(F5 b).length):p7 (Gw (F5 b) led).place (GD (F5 b) k)=k:=by
 have h:=Di _ (u4 b);have h1:Jf (F5 b) led=true:=by
  cases led
  ·exact h.2
  ·exact h.1
 unfold Jf at h1;have h2:=dX.mp h1 k (d5.mpr (by omega));exact of_decide_eq_true h2
theorem DZ{prog:cY}{w:dn}{A:dD}{E:cz->cC->Prop}{s:cC}{I a:cG}{o:Obj}{c:Array (Int×cz)}{f i:Nat}{b:Nat->Bool}{Q:Option cz->cC->Prop}(hw:Gd w=true)
  (g:s.heap.get? I=some (Go a (GD (F5 b) i) i c.size f))(m:s.heap.get? a=some o)(n:o.data = .set c f (Gw (F5 b) (Gd w)))(p:c.size=(F5 b).length)(r:i<c.size)(t:a≠I)
  (h:∀h',fS I s.heap h'->h'.get? I=some (Go a (GD (F5 b) (i+1)) (i+1) c.size f)->Q (some c[i].2) {s with heap:=h'}):
  wpAny (model prog w) A (pyNext (.ref I)) Q E s:=by
 have k:(Gw (F5 b) (Gd w)).fits c.size=true:=by rw[p];exact uM b _
 have j:s.TypeIs (.ref I) "set_iterator":=⟨_,g,rfl⟩
 unfold pyNext
 refine b0 (gU (ej j tK (dY tK j uB ?_ (uK _))))
 unfold Builtin.«set_iterator.__next__» slotArgs
 refine b0 (b4 (b0 (i5 g rfl ?_)))
 dsimp only[rawInt]
 unfold setEntries
 refine b0 (b0 (d0 m n k (b4 (cS (by simp) ?_))))
 unfold setNext setsByText
 refine b0 (b0 (d0 m n k ?_))
 dsimp only
 have q:w.params.followText "set-order"=false:=by
  unfold Gd at hw
  cases e:w.params.followText "set-order"with
  | false=>rfl
  | true=>rw[e]at hw;cases hw
 refine b0 (b0 (fU (b4 ?_)))
 rw[if_neg (show ¬(model prog w).w.params.followText "set-order"=true by intro z;exact absurd (q.symm.trans z) (by decide))]
 refine cS (by show decide ((!true&&_)=true)=false;rfl) (b0 ?_)
 have u:∀(x:Bool) (P:Sem Unit),(if(!true&&x)=true then P else pure ())=pure ():=λx P=>rfl
 rw[hw]
 refine(show ∀(R:Unit->cC->Prop),R () s->wpAny (model prog w) A.in1 (if(!true&&_)=true then _ else pure ()) R _ s from λR z=>b4 z) _ ?_
 have d:i<(F5 b).length:=by omega
 have l:(Gw (F5 b) true).place[i]?=some (F5 b)[i]:=by
  show(F5 b).toArray[i]?=_
  simp[d]
 rw[fY,w5 b true (cZ d),l,fu r]
 refine b4 ?_
 dsimp only
 have g1:(s.heap.update I (q4 λx=>x.setIfInBounds 0 (d4 (((F5 b)[i]+1:Nat):Int) 0))).get? I=some {cls:= .type "set_iterator",data:= .fields #[d4 (((F5 b)[i]+1:Nat):Int) 0,rawInt i,.ref a,rawInt c.size,rawInt f]}:=
  eS (o:=Go a (GD (F5 b) i) i c.size f) _ g rfl
 refine b0 (gz g rfl (by show 0<5;decide) (b0 (gz g1 rfl (by show 1<5;decide) (b4 ⟨_,rfl,b4 ?_⟩))))
 refine h _ ((fb s.heap I _).trans (fb _ I _)) ?_
 have e:GD (F5 b) (i+1)=(F5 b)[i]+1:=by
  unfold GD
  rw[if_neg (Nat.succ_ne_zero i),Nat.add_sub_cancel,cA,cD d]
  rfl
 rw[e]
 exact eS _ g1 rfl
theorem y2{prog:cY}{w:dn}{A:dD}{E:cz->cC->Prop}{s:cC}{I a:cG}{o:Obj}{d:Array (Int×cz)}{m:Nat}{b:Nat->Bool}{Q:Option cz->cC->Prop}(hA:A.handled=none)(hw:Gd w=true)
  (f:s.heap.get? I=some (Go a (GD (F5 b) d.size) d.size d.size m))(l:s.heap.get? a=some o)(n:o.data = .set d m (Gw (F5 b) (Gd w)))(p:d.size=(F5 b).length)
  (h:∀h',(∀c ob,c≠I->s.heap.get? c=some ob->h'.get? c=some ob)->Q none {s with heap:=h'}):
  wpAny (model prog w) A (pyNext (.ref I)) Q E s:=by
 have k:(Gw (F5 b) (Gd w)).fits d.size=true:=by rw[p];exact uM b _
 have g:s.TypeIs (.ref I) "set_iterator":=⟨_,f,rfl⟩
 unfold pyNext
 refine b0 (gU (ej g tK (dY tK g uB ?_ (uK _))))
 unfold Builtin.«set_iterator.__next__» slotArgs
 refine b0 (b4 (b0 (i5 f rfl ?_)))
 dsimp only[rawInt]
 unfold setEntries
 refine b0 (b0 (d0 l n k (b4 (cS (by simp) ?_))))
 unfold setNext setsByText
 refine b0 (b0 (d0 l n k ?_))
 dsimp only
 have q:w.params.followText "set-order"=false:=by
  unfold Gd at hw
  cases e:w.params.followText "set-order"with
  | false=>rfl
  | true=>rw[e]at hw;cases hw
 refine b0 (b0 (fU (b4 ?_)))
 rw[if_neg (show ¬(model prog w).w.params.followText "set-order"=true by intro z;exact absurd (q.symm.trans z) (by decide))]
 refine cS (by show decide ((!true&&_)=true)=false;rfl) (b0 ?_)
 rw[hw]
 refine(show ∀(R:Unit->cC->Prop),R () s->wpAny (model prog w) A.in1 (if(!true&&_)=true then _ else pure ()) R _ s from λR z=>b4 z) _ ?_
 rw[fY,w5 b true (by omega),gO (cI _)]
 refine b4 ?_
 dsimp only
 refine b0 (gz f rfl (by show 2<5;decide) ?_)
 unfold newExc raiseNew newTuple
 refine b0 (b0 (fj (b0 (fQ (a:=cz.none) vR (fj ?_ (lK ..)))) (dz _)))
 refine b0 (lm ?_)
 rw[show A.in1.handled=none from hA]
 refine mX (b0 (eR (T:="StopIteration") ⟨_,cP _ rfl,rfl⟩ kt (i6 rfl (b4 ?_))))
 refine h _ λc ob r j=>cF _ (cF _ ?_)
 rw[je _ _ _ _ r]
 exact j
theorem wS{b:Type}(next:Nat->Nat):∀(fuel k:Nat) (left:List b) (out:Array b),left.length=fuel->(sP next fuel k left out).toList.Perm (out.toList++left)
 | 0,k,left,out,h=>by
  rw[pickOrder.go.eq_1,jr.mp h,fC]
 | fuel+1,k,left,out,h=>by
  have a:next k%left.length<left.length:=Nat.mod_lt _ (by omega)
  rw[pickOrder.go.eq_2,cD a]
  dsimp only
  refine(wS next fuel (k+1) _ _ (by rw[List.length_eraseIdx,if_pos a];omega)).trans ?_
  rw[Array.toList_push,oF]
  refine rF _ ?_
  generalize next k%left.length=j at a
  have e:left.eraseIdx j=left.take j++left.drop (j+1):=List.eraseIdx_eq_take_drop_succ ..
  rw[e]
  have c:left=left.take j++left[j]::left.drop (j+1):=by
   rw[<-List.drop_eq_getElem_cons a,my]
  conv=>rhs;rw[c]
  rw[List.singleton_append]
  exact oZ.symm
theorem xi{a:Type}(next:Nat->Nat)(xs:Array a):(pickOrder next xs).toList.Perm xs.toList:=by
 unfold pickOrder;have:=wS next xs.size 0 xs.toList #[] (eF ..)
 simpa using this
theorem xY{prog:cY}{w:dn}{A:dD}{E:cz->cC->Prop}{s:cC}{I a:cG}{o:Obj}{c:Array (Int×cz)}{d i:Nat}{b:Nat->Bool}{Q:Option cz->cC->Prop}(hw:Gd w=false)
  (f:s.heap.get? I=some (Go a 0 i c.size d))(j:s.heap.get? a=some o)(k:o.data = .set c d (Gw (F5 b) (Gd w)))(p:c.size=(F5 b).length)(r:i<c.size)
  {x:Int×cz}(q:(pickOrder (w.params.setOrder a d) c)[i]?=some x)
  (h:∀h',fS I s.heap h'->h'.get? I=some (Go a 0 (i+1) c.size d)->Q (some x.2) {s with heap:=h'}):
  wpAny (model prog w) A (pyNext (.ref I)) Q E s:=by
 have g:(Gw (F5 b) (Gd w)).fits c.size=true:=by rw[p];exact uM b _
 have l:s.TypeIs (.ref I) "set_iterator":=⟨_,f,rfl⟩
 have m:w.params.followText "set-order"=true:=by
  unfold Gd at hw
  cases e:w.params.followText "set-order"with
  | true=>rfl
  | false=>rw[e]at hw;cases hw
 unfold pyNext
 refine b0 (gU (ej l tK (dY tK l uB ?_ (uK _))))
 unfold Builtin.«set_iterator.__next__» slotArgs
 refine b0 (b4 (b0 (i5 f rfl ?_)))
 dsimp only[rawInt]
 unfold setEntries
 refine b0 (b0 (d0 j k g (b4 (cS (by simp) ?_))))
 unfold setNext setWalk setsByText
 refine b0 (b0 (d0 j k g ?_))
 dsimp only
 refine b0 (b0 (fU (b4 ?_)))
 rw[if_pos (show(model prog w).w.params.followText "set-order"=true from m)]
 refine cS (by simp) (b0 (b0 (d0 j k g ?_)))
 dsimp only
 refine b0 (b0 (fU (b4 ?_)))
 rw[if_pos (show(model prog w).w.params.followText "set-order"=true from m)]
 refine b0 (fU (b4 ?_))
 have n:(pickOrder ((model prog w).w.params.setOrder a d) c)[((i:Nat):Int).toNat]?=some x:=by rw[fY];exact q
 dsimp only
 rw[n]
 refine b4 ?_
 dsimp only[Option.map]
 have g1:(s.heap.update I (q4 λy=>y.setIfInBounds 0 (d4 (((0:Int).toNat:Nat):Int) 0))).get? I=some {cls:= .type "set_iterator",data:= .fields #[d4 (((0:Int).toNat:Nat):Int) 0,rawInt i,.ref a,rawInt c.size,rawInt d]}:=
  eS (o:=Go a 0 i c.size d) _ f rfl
 refine b0 (gz f rfl (by show 0<5;decide) (b0 (gz g1 rfl (by show 1<5;decide) (b4 ⟨_,rfl,b4 ?_⟩))))
 refine h _ ((fb s.heap I _).trans (fb _ I _)) ?_
 exact eS _ g1 rfl
theorem yK{prog:cY}{w:dn}{A:dD}{E:cz->cC->Prop}{s:cC}{I a:cG}{o:Obj}{d:Array (Int×cz)}{f:Nat}{b:Nat->Bool}{Q:Option cz->cC->Prop}(hA:A.handled=none)(hw:Gd w=false)
  (k:s.heap.get? I=some (Go a 0 d.size d.size f))(j:s.heap.get? a=some o)(l:o.data = .set d f (Gw (F5 b) (Gd w)))(r:d.size=(F5 b).length)
  (h:∀h',(∀c ob,c≠I->s.heap.get? c=some ob->h'.get? c=some ob)->Q none {s with heap:=h'}):
  wpAny (model prog w) A (pyNext (.ref I)) Q E s:=by
 have g:(Gw (F5 b) (Gd w)).fits d.size=true:=by rw[r];exact uM b _
 have m:s.TypeIs (.ref I) "set_iterator":=⟨_,k,rfl⟩
 have n:w.params.followText "set-order"=true:=by
  unfold Gd at hw
  cases e:w.params.followText "set-order"with
  | true=>rfl
  | false=>rw[e]at hw;cases hw
 unfold pyNext
 refine b0 (gU (ej m tK (dY tK m uB ?_ (uK _))))
 unfold Builtin.«set_iterator.__next__» slotArgs
 refine b0 (b4 (b0 (i5 k rfl ?_)))
 dsimp only[rawInt]
 unfold setEntries
 refine b0 (b0 (d0 j l g (b4 (cS (by simp) ?_))))
 unfold setNext setWalk setsByText
 refine b0 (b0 (d0 j l g ?_))
 dsimp only
 refine b0 (b0 (fU (b4 ?_)))
 rw[if_pos (show(model prog w).w.params.followText "set-order"=true from n)]
 refine cS (by simp) (b0 (b0 (d0 j l g ?_)))
 dsimp only
 refine b0 (b0 (fU (b4 ?_)))
 rw[if_pos (show(model prog w).w.params.followText "set-order"=true from n)]
 refine b0 (fU (b4 ?_))
 have q:(pickOrder ((model prog w).w.params.setOrder a f) d)[((d.size:Nat):Int).toNat]?=none:=by
  rw[fY]
  refine gO ?_
  have:=(xi (w.params.setOrder a f) d).length_eq
  rw[eF,eF]at this
  exact gi this
 dsimp only
 rw[q]
 refine b4 ?_
 dsimp only[Option.map]
 refine b0 (gz k rfl (by show 2<5;decide) ?_)
 unfold newExc raiseNew newTuple
 refine b0 (b0 (fj (b0 (fQ (a:=cz.none) vR (fj ?_ (lK ..)))) (dz _)))
 refine b0 (lm ?_)
 rw[show A.in1.handled=none from hA]
 refine mX (b0 (eR (T:="StopIteration") ⟨_,cP _ rfl,rfl⟩ kt (i6 rfl (b4 ?_))))
 refine h _ λc ob t p=>cF _ (cF _ ?_)
 rw[je _ _ _ _ t]
 exact p
theorem vQ:Slot "set_iterator" (cU "__iter__") "set_iterator.__iter__":=by
 refine Slot.of (owner:="set_iterator") (n:="__iter__") ?_ ?_ ?_ ?_ ?_ ?_
 ·rw[pF,mF];rfl
 ·decide +kernel
 ·decide +kernel
 ·decide +kernel
 ·exact Or.inl (by decide +kernel)
 ·rw[qc];rfl
theorem xz:entryFor table "set_iterator.__iter__"=some Builtin.«dict_keyiterator.__iter__»:=ks (id':="dict_keyiterator.__iter__") rfl rfl (by decide +kernel) rfl
theorem ym(a:cz):argsOk "set_iterator.__iter__" ⟨[a],[]⟩:=by
 show _=_;rw[qZ (rows:=kH) rfl rfl];rfl
def Kj(w:dn)(a:cG)(c:Nat)(b:Array (Int×cz)):Array (Int×cz):=if Gd w=true then b else pickOrder (w.params.setOrder a c) b
theorem x6(w:dn)(a:cG)(c:Nat)(b:Array (Int×cz)):(Kj w a c b).toList.Perm b.toList:=by
 unfold Kj;split
 ·exact iX _
 ·exact xi _ _
theorem Cv{prog:cY}{w:dn}{A:dD}{I a:cG}{o:Obj}{j:Array (Int×cz)}{r:Nat}{b:Nat->Bool}(hA:A.handled=none)(C:o.data = .set j r (Gw (F5 b) (Gd w)))(p:j.size=(F5 b).length)(B:a≠I):
  WalksS prog w A I [I,a] [I] (λx y=>y=x) j.size (λi v=>∃x,(Kj w a r j)[i]?=some x/\v=x.2)
   (λi s=>s.heap.get? I=some (Go a (if Gd w=true then GD (F5 b) i else 0) i j.size r)/\s.heap.get? a=some o):=by
 refine⟨λc n=>by rw[cK.mp n];exact cM,λ_=>rfl,λx y z h1 h2=>h2.trans h1,λi s f tk g _ hk=>⟨hk I cM _ g.1,hk a (cN _ cM) _ g.2⟩,λi s Q E G g h=>?_,λs Q E g h=>?_,λi s Q E g q=>?_⟩
 ·cases d:Gd w with
  | true=>
   obtain⟨e,m⟩:=g
   rw[if_pos d]at e
   refine DZ d e m C p G B λf t u=>h _ _ ⟨j[i],?_,rfl⟩ ⟨?_,?_⟩ ?_
   ·unfold Kj;rw[if_pos d,fu G]
   ·rw[if_pos d];exact u
   ·show f.get? a=some o
    rw[t.2 a B];exact m
   ·exact⟨λc l n k=>by show f.get? c=some l;rw[t.2 c λz=>n (by rw[z];exact cM)];exact k,rfl,rfl,rfl,cI _⟩
  | false=>
   obtain⟨e,m⟩:=g
   rw[if_neg (by rw[d];decide)]at e
   have D:=(xi (w.params.setOrder a r) j).length_eq
   rw[eF,eF]at D
   have H:(pickOrder (w.params.setOrder a r) j)[i]?=some (pickOrder (w.params.setOrder a r) j)[i]:=fu (by omega)
   refine xY d e m C p G H λf t u=>h _ _ ⟨_,?_,rfl⟩ ⟨?_,?_⟩ ?_
   ·unfold Kj;rw[if_neg (by rw[d];decide)];exact H
   ·rw[if_neg (by rw[d];decide)];exact u
   ·show f.get? a=some o
    rw[t.2 a B];exact m
   ·exact⟨λc l n k=>by show f.get? c=some l;rw[t.2 c λz=>n (by rw[z];exact cM)];exact k,rfl,rfl,rfl,cI _⟩
 ·obtain⟨e,m⟩:=g
  have fin:∀f,(∀c l,c≠I->s.heap.get? c=some l->f.get? c=some l)->Q none {s with heap:=f}:=λf hk=>h _ ⟨λc l n k=>hk c l (λz=>n (by rw[z];exact cM)) k,rfl,rfl,rfl,cI _⟩
  cases d:Gd w with
  | true=>rw[if_pos d]at e;exact y2 hA d e m C p fin
  | false=>rw[if_neg (by rw[d];decide)]at e;exact yK hA d e m C p fin
 ·have F:s.TypeIs (.ref I) "set_iterator":=⟨_,g.1,rfl⟩
  refine jD F vQ (dY vQ F xz ?_ (ym _))
  exact b0 (b4 (b4 ⟨_,rfl,"set_iterator",_,F,tK.lookup,q⟩))
theorem Dl{prog:cY}{w:dn}{A:dD}{E:cz->cC->Prop}{s:cC}{a:cG}{Q:Bool->cC->Prop}(b:s.TypeIs (.ref a) "set")(h:Q false s):wpAny (model prog w) A (iP (.ref a)) Q E s:=by
 have c:splitId "set.__len__"=some ("set","__len__"):=by decide +kernel
 unfold iP;refine b0 (gr b F.slot_set_len.lookup ?_);dsimp only;rw[c];dsimp only;refine b0 (eR b ry (cS rfl ?_));refine i6 (by decide +kernel) ?_;refine b0 (iB b ?_);exact b4 h
theorem xD:∀{l:List (Int×cz)},(∀x∈l,∃t,x.2=d4 x.1 t)->IntsAre (l.map (·.2)) (l.map (·.1))
 | [],_=> .nil
 | x::r,h=>by
  obtain⟨t,e⟩:=h x cM
  rw[d2,d2,e]
  exact .cons _ _ (xD λy a=>h y (cN _ a))
theorem zx{prog:cY}{w:dn}{A:dD}{E:cz->cC->Prop}{s:cC}{a:cG}{b:Nat->Bool}{Q:List cz->cC->Prop}(hA:A.handled=none)(hS:SetIs s.heap a b (Gd w))
  (h:∀(h':Heap) (tk:Nat) (vs:List cz) (ns:List Int),s.heap.objs.size<h'.objs.size->(∀c ob,s.heap.get? c=some ob->h'.get? c=some ob)->IntsAre vs ns->ns.Perm ((F5 b).map im)->Q vs {s with heap:=h',toks:=tk}):wpAny (model prog w) A (collect (.ref a)) Q E s:=by
 obtain⟨o,d,f,aa,M,l,U,N⟩:=hS
 have C:d.size=(F5 b).length:=by rw[<-eF,N,cx]
 have hf:(Gw (F5 b) (Gd w)).fits d.size=true:=by rw[C];exact uM b _
 have p:(s.heap.push (seqObj "list" #[] 0)).get? a=some o:=cF _ M
 have J:(s.heap.push (seqObj "list" #[] 0)).get? s.heap.objs.size=some (seqObj "list" #[] 0):=cP _ rfl
 unfold collect
 refine b0 (ko (eT mz ?_))
 change wpAny _ _ (do again (.builtin "list.__iadd__" ⟨[<-newList [],.ref a],[]⟩)) _ _ s
 refine b0 (jk (b4 ⟨g8 _ (by decide +kernel),eT ox ?_⟩))
 change wpAny _ _ (gg (.ref s.heap.objs.size) (.ref a) (.ref s.heap.objs.size)) _ _ {s with heap:=s.heap.push (seqObj "list" #[] 0)}
 unfold gg
 have q:s.heap.objs.size≠a:=λz=>by
  have:=cR M
  rw[z]at this
  exact absurd this (dA _)
 refine b0 (iB (T:="set") ⟨o,p,l.1⟩ (cS ?_ (b0 (C6 p l U hf rfl (b0 (dI (Dl ⟨o,cF _ p,l.1⟩ ?_)))))))
 ·show decide ((ln (.ref s.heap.objs.size) (.ref a)||_||_)=true)=false
  have:ln (.ref s.heap.objs.size) (.ref a)=false:=by
   show(s.heap.objs.size==a)=false
   exact beq_false_of_ne q
  rw[this]
  rfl
 refine i6 (by decide +kernel) (b0 (i4 ?_))
 have L:(s.heap.push (seqObj "list" #[] 0)).objs.size=s.heap.objs.size+1:=lZ ..
 have V:a≠s.heap.objs.size+1:=λz=>by
  have:=cR M
  rw[z]at this
  exact absurd (eX this) (dA _)
 dsimp only
 have P:((s.heap.push (seqObj "list" #[] 0)).push (Go a 0 0 d.size f)).get? (s.heap.push (seqObj "list" #[] 0)).objs.size=some (Go a 0 0 d.size f):=cP _ rfl
 have G:((s.heap.push (seqObj "list" #[] 0)).push (Go a 0 0 d.size f)).get? s.heap.objs.size=some (seqObj "list" #[] 0):=cF _ J
 have O:((s.heap.push (seqObj "list" #[] 0)).push (Go a 0 0 d.size f)).get? a=some o:=cF _ p
 have t:∀c ob,s.heap.get? c=some ob->c≠s.heap.objs.size/\((s.heap.push (seqObj "list" #[] 0)).push (Go a 0 0 d.size f)).get? c=some ob:=λc ob k=>⟨λz=>(by
  have:=cR k
  rw[z]at this
  exact absurd this (dA _)),cF _ (cF _ k)⟩
 rw[L]at P ⊢
 generalize(s.heap.push (seqObj "list" #[] 0)).push (Go a 0 0 d.size f)=g at *
 unfold l5
 have D:(g.update s.heap.objs.size (d7 λx=>x.push cz.none)).get? s.heap.objs.size=some (seqObj "list" #[cz.none] 1):=eS (o:=seqObj "list" #[] 0) _ G rfl
 have S:((g.update s.heap.objs.size (d7 λx=>x.push cz.none)).update s.heap.objs.size (d7 λx=>x.pop)).get? s.heap.objs.size=some (seqObj "list" #[] 2):=eS (o:=seqObj "list" #[cz.none] 1) _ D rfl
 have y:∀c ob,c≠s.heap.objs.size->g.get? c=some ob->((g.update s.heap.objs.size (d7 λx=>x.push cz.none)).update s.heap.objs.size (d7 λx=>x.pop)).get? c=some ob:=λc ob k hg=>by
  rw[je _ _ _ _ k,je _ _ _ _ k];exact hg
 refine b0 (b0 (iK G rfl (iK D rfl ?_ (by show 1<=sizeLine;decide +kernel) (dz _)) (dz _) (by show 1<=sizeLine+1;decide +kernel)))
 generalize(g.update s.heap.objs.size (d7 λx=>x.push cz.none)).update s.heap.objs.size (d7 λx=>x.pop)=g4 at *
 refine b4 ⟨g8 _ (by decide +kernel),?_⟩
 refine codeAny_extend_loopS (Cv (A:=A.in1) (I:=s.heap.objs.size+1) (a:=a) (o:=o) hA U C V) (by have:=vU b;exact cZ (F4 (by omega))) s.heap.objs.size (λz=>?_) _ d.size 0 _ #[] 2 rfl (dz _) ⟨?_,y a o (λz=>q z.symm) O⟩ S ⟨rfl,λj v B=>?_⟩ λs' n c m r H=>?_
 ·rcases da.mp z with z|z
  ·exact absurd z (dr (du _))
  ·exact q (cK.mp z)
 ·have:(if Gd w=true then GD (F5 b) 0 else 0)=0:=by split <;> rfl
  rw[this]
  exact y _ _ (λz=>absurd z.symm (dr (du _))) P
 ·simp at B
 ·obtain⟨h',X,Y,t',o'⟩:=s'
  have e1:X=s.gens:=m.gens
  have Z:Y=s.drawn:=m.drawn
  have W:o'=s.os:=m.os
  subst e1 Z W
  refine b0 (wpAny_load' r (b4 ?_))
  refine h h' t' n.toList ((Kj w a f d).toList.map (·.1)) (cR r) (λc ob k=>m.heap c ob (λz=>?_) (y c ob (t c ob k).1 (t c ob k).2)) ?_ ?_
  ·rcases da.mp z with z|z
   ·exact(t c ob k).1 z
   ·have:=cR k
    rw[cK.mp z]at this
    exact absurd (eX this) (dA _)
  ·have R:=(x6 w a f d).length_eq
   rw[eF,eF]at R
   have e:n.toList=(Kj w a f d).toList.map (·.2):=by
    refine List.ext_getElem? λj=>?_
    rw[cL,fZ,fZ]
    cases B:n[j]? with
    | none=>
     have:n.size<=j:=Array.getElem?_eq_none_iff.mp B
     rw[gO (by have:=H.1;omega)];rfl
    | some v=>
     obtain⟨x,l,rfl⟩:=H.2 j v B
     rw[l];rfl
   rw[e]
   refine xD λx l=>?_
   have:=(x6 w a f d).mem_iff.mp l
   rw[N]at this
   obtain⟨u,_,rfl⟩:=dG.mp this
   exact⟨_,rfl⟩
  ·refine((x6 w a f d).map _).trans ?_
   rw[N,jb]
   exact iX _
theorem AT{prog:cY}{w:dn}{A:dD}{E:cz->cC->Prop}{s:cC}{a:cG}{b:Nat->Bool}{Q:cz->cC->Prop}(hA:A.handled=none)(v:SetIs s.heap a b (Gd w))
  (h:∀(l:cG) (h':Heap) (tk:Nat) (out:Array cz) (ns:List Int),s.heap.objs.size<=l->(∀c ob,s.heap.get? c=some ob->h'.get? c=some ob)->(∃n,h'.get? l=some (seqObj "list" out n))->IntsAre out.toList ns->ns.Perm ((F5 b).map im)->ns.Pairwise (· <= ·)->Q (.ref l) {s with heap:=h',toks:=tk}):
  wpAny (model prog w) A (call (.builtin "sorted") [.ref a]) Q E s:=by
 refine hY pu oy oz (oA _) ?_
 unfold Builtin.«sorted»
 refine b0 (m:=checkCount "sorted" 1 1 _) (b4 ?_)
 refine b0 (zx (A:=A.in1) hA v λh' tk vs ns o hk f hp=>b0 (jk ?_ (by have:=vU b;have:=hp.length_eq;rw[cx]at this;have:=f.length;exact cZ (F4 (by omega)))))
 have p:ns.length=(F5 b).length:=by rw[hp.length_eq,cx]
 have h6:=vU b
 have x:vs.length=ns.length:=f.length
 have g:(h'.push (seqObj "list" vs.toArray 0)).get? h'.objs.size=some (seqObj "list" vs.toArray 0):=cP _ rfl
 refine b0 (dI (dY mT ⟨_,g,rfl⟩ mq (pY g f (by omega) λout j t q u=>⟨_,rfl,?_⟩) (mU _)))
 refine b4 ⟨_,rfl,?_⟩
 refine h _ _ _ out j (cZ o) (λc ob r=>?_) (sortedHeap_at g) t (q.trans hp) u
 have d:=hk c ob r
 have k:=cR d
 have e:(h'.push (seqObj "list" vs.toArray 0)).get? c=some ob:=cF _ d
 exact(sortedHeap_old (dr k) (cR e)).trans e
theorem BD:∀{vs:List cz} {ns:List Int},IntsAre vs ns->∀(i:Nat) (v:cz),vs[i]?=some v->i<ns.length/\∃t,v=d4 (ns.getD i 0) t
 | _,_,.nil,i,v,h=>by simp at h
 | _,_,.cons n t hr,0,v,h=>by
  rw[List.getElem?_cons_zero]at h
  cases h
  exact⟨Nat.zero_lt_succ _,t,rfl⟩
 | _,_,.cons n t hr,i+1,v,h=>by
  rw[List.getElem?_cons_succ]at h
  obtain⟨h1,a,e⟩:=BD hr i v h
  exact⟨Nat.succ_lt_succ h1,a,e⟩
theorem zC(b:Nat->Bool):((F5 b).map im).Nodup:=by
 unfold F5;exact jz.mpr ((o8.filter _).imp λh z=>h (im.inj z))
section
variable{X:Cx}
def Ku(K:b3)(c:TE):TE:=λb H Q=>c b H λx a=>∃(p:cG) (ns:List Int),x = .ref p/\SqL K a p (ns.map V.int)/\(∀i∈ns,0<=i/\i<6)/\
 ∀(l:cG) (ns':List Int),a l=none->(∀i,i∈ns'↔i∈ns)->ns'.Nodup->ns'.Pairwise (· <= ·)->Q (.ref l) (upd a l (.lst (ns'.map V.int)))
theorem y8{e:Expr}{te:TE}{p p2 pos n:Pos}(hc:X.calm=true)(h1:Gl X "sorted")(m1:X.mg "sorted"=none)(h2:Gl X "set")(m2:X.mg "set"=none)(ha:PE X e te)
  (he:dq [e] X.env=(false,eval e X.env)::dq [] X.env:=by rfl):PE X (.Call (.Name "sorted" p) [.Call (.Name "set" p2) [e] [] n] [] pos) (Ku X.K te):=by
 intro F s σ H Q I h
 refine fw (uU I h1 m1 Boot.sorted ?_)
 refine ij ?_ rfl rfl
 show wpAny _ _ (spliced ((false,eval (.Call (.Name "set" p2) [e] [] n) X.env)::[])) _ _ s
 refine fP ?_
 refine fw (uU I h2 m2 Boot.set ?_)
 refine d9 ?_ he rfl
 rw[he]
 show wpAny _ _ (spliced ((false,eval e X.env)::[])) _ _ s
 refine fP (Gh (ha F s σ H _ I h) λu R ⟨x,H1,r,r1,q1⟩=>?_)
 obtain⟨l,a,rfl,hq,G,q⟩:=q1
 cases(show u=cQ l from r1)
 obtain⟨C,rv,pl,hz⟩:=r.list hq
 have M:=wG rv
 have f:C.length=a.length:=M.length
 have hA:X.A.handled=none:=r.ok.hd hc
 refine b4 (xA hA pl.isList (λi=>(a.getD i 0).toNat) (λi v N=>?_) λh' tk g hk=>b4 (AT hA g λT h2 Z U d W Y k L b B=>?_))
 ·rw[<-fZ]at N
  obtain⟨m,t,e⟩:=BD M i v (by simpa using N)
  have z:a.getD i 0∈a:=by
   rw[cA,cD m]
   exact db m
  have:=G _ z
  refine⟨by omega,t,?_⟩
  rw[e]
  congr 1
  exact Eq.symm (gL this.1)
 ·have J:∀i,i∈d↔i∈a:=λi=>by
   rw[b.mem_iff,dG]
   constructor
   ·rintro⟨u,hu,rfl⟩
    obtain⟨_,S⟩:=uD.mp hu
    obtain⟨j,y,e⟩:=jc.mp S
    have e':u=(a.getD j 0).toNat:=eq_of_beq e
    have D:j<a.length:=by
     have:=pH.mp y
     simp at this
     exact f▸this
    have z:a.getD j 0∈a:=by
     rw[cA,cD D]
     exact db D
    have:=G _ z
    have:im u=a.getD j 0:=by rw[e'];show((a.getD j 0).toNat:Int)=_;exact gL this.1
    rw[this];exact z
   ·intro m
    have aa:=G i m
    obtain⟨j,y,e⟩:=eV.mp m
    refine⟨i.toNat,uD.mpr ⟨by omega,jc.mpr ⟨j,?_,?_⟩⟩,by show((i.toNat:Nat):Int)=i;exact gL aa.1⟩
    ·rw[pH]
     exact⟨j,by simp;exact f▸y,by omega⟩
    ·rw[cA,cD y,Option.getD_some,e]
     exact beq_self_eq_true _
  obtain⟨n2,k⟩:=k
  have ab:R.heap.objs.size<=h'.objs.size:=by
   obtain⟨o,_,_,_,ho,_⟩:=g
   exact cZ (cR ho)
  have E:R.heap.objs.size<=T:=cO ab W
  have P:d.Nodup:=b.nodup_iff.mpr (zC _)
  refine⟨.ref T,_,r.laid (t':=Z) (λc O hc=>Y c O (hk c O hc)) E (show ObjOk X.prog X.w _ _ _ (.lst (d.map V.int))from⟨?_,U.toList,n2,v7 L,by rw[k]⟩),rfl,q _ d (r.hok.fresh E) J P B⟩
  have h6:=vU (λx=>(kS 0 C.toArray.size).any λj=>x==(a.getD j 0).toNat)
  have:=b.length_eq
  rw[cx]at this ⊢
  exact cZ (F4 (by omega))
end
section
variable{X:Cx}
theorem C3:LC X "list.count" (λx vs H Q=>∃(l:cG) (ns:List Int) (k:Int),x = .ref l/\vs=[.int k]/\SqL X.K H l (ns.map V.int)/\Q (.int (ns.count k:Nat)) H):=by
 intro b s m H x vs v g Q I c a h;obtain⟨l,ns,k,rfl,rfl,e,q⟩:=h
 cases c;obtain⟨u,rfl,tk,rfl⟩:=a.one;obtain⟨f,r,d,j⟩:=I.list e;exact count_list_ints d.isList (wG r) ⟨.int _,H,I.tok _,⟨_,rfl⟩,q⟩
theorem yV{K:b3}(h:X.K=K):LC X "list.count" (λx vs H Q=>∃(l:cG) (ns:List Int) (k:Int),x = .ref l/\vs=[.int k]/\SqL K H l (ns.map V.int)/\Q (.int (ns.count k:Nat)) H):=by
 subst h;exact C3
end
theorem wc(p q:Int×Int):fz (dF p) (dF q)=decide (p=q):=by
 obtain⟨a,b⟩:=p;obtain⟨c,d⟩:=q;unfold dF;by_cases h1:a=c <;> by_cases h2:b=d <;> simp[fz,gV,h1,h2]
theorem Fn(p:Int×Int):Ho 1 (dF p)=true:=rfl
theorem ub(p:Int×Int):fy (dF p)=true:=tN (Fn p) (by decide)
structure Wt(p:Int×Int)(a D:Int):Prop where
 w:p.1*D=a*p.2
 p2:p.2≠0
 d:D≠0
theorem wn{a D:Int}(b:D≠0):Wt (FQ.red a D) a D:=⟨FQ.red_worth b,by have:=(FQ.red_low (t:=a) b).pos;exact dM this,b⟩
theorem Cn{a D:Int}(b:D≠0):Wt (a,D) a D:=⟨rfl,b,b⟩
theorem Fc{p q:Int×Int}{a D b E:Int}(h:Wt p a D)(k:Wt q b E):Hr p q=FQ.red (a*E+b*D) (D*E):=by
 unfold Hr;refine FQ.red_eq (dN h.p2 k.p2) (dN h.d k.d) ?_
 calc (p.1*q.2+q.1*p.2)*(D*E)=(p.1*D)*(q.2*E)+(q.1*E)*(p.2*D):=by rw[ic];ac_rfl
  _=(a*p.2)*(q.2*E)+(b*q.2)*(p.2*D):=by rw[h.w,k.w]
  _=(a*E+b*D)*(p.2*q.2):=by rw[ic];ac_rfl
theorem EF{p q:Int×Int}{a D b E:Int}(h:Wt p a D)(k:Wt q b E):Km p q=FQ.red (a*E-b*D) (D*E):=by
 unfold Km;refine FQ.red_eq (dN h.p2 k.p2) (dN h.d k.d) ?_
 calc (p.1*q.2-q.1*p.2)*(D*E)=(p.1*D)*(q.2*E)-(q.1*E)*(p.2*D):=by rw[jT];ac_rfl
  _=(a*p.2)*(q.2*E)-(b*q.2)*(p.2*D):=by rw[h.w,k.w]
  _=(a*E-b*D)*(p.2*q.2):=by rw[jT];ac_rfl
theorem Cf{p q:Int×Int}{a D b E:Int}(h:Wt p a D)(k:Wt q b E):Kc p q=FQ.red (a*b) (D*E):=by
 unfold Kc;refine FQ.red_eq (dN h.p2 k.p2) (dN h.d k.d) ?_
 calc (p.1*q.1)*(D*E)=(p.1*D)*(q.1*E):=by ac_rfl
  _=(a*p.2)*(b*q.2):=by rw[h.w,k.w]
  _=(a*b)*(p.2*q.2):=by ac_rfl
theorem Bp{a D c:Int}(b:D≠0)(hc:c≠0):FQ.red (a*c) (D*c)=FQ.red a D:=FQ.red_eq (dN b hc) b (by ac_rfl)
theorem BX{T D m c:Int}(a:D≠0)(hc:c≠0):Hr (FQ.red T D) (FQ.red m (D*c))=FQ.red (T*c+m) (D*c):=by
 rw[Fc (wn a) (wn (dN a hc))];refine FQ.red_eq (dN a (dN a hc)) (dN a hc) ?_;rw[ic,ic]
 congr 1 <;> ac_rfl
theorem yY{a b D c:Int}(d:D≠0)(hc:c≠0):Km (FQ.red a D) (FQ.red b (D*c))=FQ.red (a*c-b) (D*c):=by
 rw[EF (wn d) (wn (dN d hc))];refine FQ.red_eq (dN d (dN d hc)) (dN d hc) ?_;rw[jT,jT]
 congr 1 <;> ac_rfl
theorem tY{m D:Int}(a:D≠0):FQ.red m D=(0,1)↔m=0:=by
 constructor
 ·intro h;have:=FQ.red_worth (t:=m) a;rw[h]at this;simp at this;exact Eq.symm this
 ·rintro rfl;exact wI a
theorem Bm{m D:Int}(a:D≠0):FQ.red m D=(1,1)↔m=D:=by
 constructor
 ·intro h;have:=FQ.red_worth (t:=m) a;rw[h]at this;simp at this;exact Eq.symm this
 ·rintro rfl;exact zM a
theorem Dr{p q:Int×Int}{a D b E:Int}(h:Wt p a D)(k:Wt q b E)(hp:0<p.2)(d:0<q.2)(f:0<D)(e:0<E):Gx p q=decide (a*E<b*D):=by
 have c:(p.1*q.2)*(D*E)=(a*E)*(p.2*q.2)/\(q.1*p.2)*(D*E)=(b*D)*(p.2*q.2):=by
  constructor
  ·calc (p.1*q.2)*(D*E)=(p.1*D)*(q.2*E):=by ac_rfl
    _=(a*p.2)*(q.2*E):=by rw[h.w]
    _=_:=by ac_rfl
  ·calc (q.1*p.2)*(D*E)=(q.1*E)*(p.2*D):=by ac_rfl
    _=(b*q.2)*(p.2*D):=by rw[k.w]
    _=_:=by ac_rfl
 have h1:0<D*E:=i3 f e;have h2:0<p.2*q.2:=i3 hp d;unfold Gx;refine decide_eq_decide.mpr ⟨λz=>?_,λz=>?_⟩
 ·have:=gP z h1;rw[c.1,c.2]at this;exact g9 this (dZ h2)
 ·have:=gP z h2;rw[<-c.1,<-c.2]at this;exact g9 this (dZ h1)
theorem zl{a D b E:Int}(d:0<D)(c:0<E):Gx (FQ.red a D) (FQ.red b E)=decide (a*E<b*D):=
 Dr (wn (dM d)) (wn (dM c)) (FQ.red_low (by omega)).pos (FQ.red_low (by omega)).pos d c
theorem uX{a D:Int}{n:Nat}(b:D≠0)(h1:a.natAbs<2^n)(h2:D.natAbs<2^n):Sz n (FQ.red a D):=by
 have s:=FQ.red_small (t:=a) b;have p:=(FQ.red_low (t:=a) b).pos;exact⟨dP s.1 h1,dP s.2 h2,dM p⟩
def Hd(ps:List (Int×Int)):Int×Int:=ps.foldl Hr (0,1)
theorem vT(ps:List (Int×Int))(p:Int×Int):Hd (ps++[p])=Hr (Hd ps) p:=by unfold Hd;rw[oG];rfl
theorem yR{D:Int}(b:D≠0):∀(ms:List Int) (a:Int),(fr D ms).foldl Hr (FQ.red a D)=FQ.red (a+ms.sum) D
 | [],a=>by simp[fr]
 | m::ms,a=>by
  show(fr D ms).foldl Hr (Hr (FQ.red a D) (FQ.red m D))=_
  rw[yq b,yR b ms,fR,nv]
theorem EC{D:Int}(a:D≠0)(ms:List Int):Hd (fr D ms)=FQ.red ms.sum D:=by
 have:=yR a ms 0;rw[wI a,fe]at this;exact this
theorem CH{m n:Nat}{x y:Int×Int}(g:Sz m x)(h:Sz n y):Sz (m+n+1) (Hr x y):=by
 obtain⟨c,b,d⟩:=g;obtain⟨e,a,f⟩:=h;refine uX (dN d f) (Dw (wD c a) (by rw[Nat.add_comm];exact wD e b)) (wM (wD b a) (d6 _))
theorem yZ:∀(k:Nat) {ps:List (Int×Int)},ps.length=k->(∀p∈ps,Sz 30 p)->Sz (31*k+1) (Hd ps)
 | 0,ps,hl,_=>by rw[iu hl];exact⟨by decide,by decide,by decide⟩
 | k+1,ps,hl,h=>by
  have a:ps≠[]:=λz=>by rw[z]at hl;cases hl
  have e:=jZ a
  rw[<-e,vT]
  have h1:=yZ k (ps:=ps.dropLast) (by rw[jS];omega) λp hp=>h p (List.dropLast_subset _ hp)
  have h2:=h _ (List.getLast_mem a)
  exact(CH h1 h2).up (cI _)
theorem Ff{ps:List (Int×Int)}(hl:ps.length<=60)(h:∀p∈ps,Sz 30 p):Sz 4000 (Hd ps):=(yZ _ rfl h).up (by omega)
def Kp(K:b3):Sp:=λvs H Q _=>∃(a:cG) (gs:List V) (ps:List (Int×Int)),vs=[.ref a]/\SqL K H a gs/\dJ (IsF K H) gs ps/\(∀p∈ps,Sz 30 p)/\ps.length<=60/\∀v H',Same H H'->IsF K H' v (Hd ps)->Q v H'
def Gs(s:Int×Int)(ps:List (Int×Int)):Int×Int:=ps.foldl (λs p=>if Gx p s=true then p else s) s
def IH(ps:List (Int×Int)):Int×Int:=Gs (ps.headD (0,1)) ps
def Jk(K:b3):Sp:=λvs H Q _=>∃(a:cG) (gs:List V) (ps:List (Int×Int)),vs=[.ref a]/\SqL K H a gs/\dJ (IsF K H) gs ps/\ps≠[]/\ps.length<=60/\(∀p∈ps,Sz 4000 p)/\∀v,IsF K H v (IH ps)->Q v H
open EM in
def GB(D:Int)(ds ms:List Int)(t:Int):Int×Int:=FQ.red (at0 ms t) (D*cnt ds t)
open EM in
theorem vd{D:Int}{ds ms:List Int}(a:0<D):∀(r:List Int) (s:Int),s∈ds->(∀t∈r,t∈ds)->Gs (GB D ds ms s) (r.map (GB D ds ms))=GB D ds ms (GX ds ms s r)
 | [],s,_,_=>rfl
 | t::r,s,hs,hr=>by
  have d:=hr t cM
  have b:∀u∈r,u∈ds:=λu f=>hr u (cN _ f)
  have j:0<D*cnt ds s:=i3 a (cnt_pos hs)
  have g:0<D*cnt ds t:=i3 a (cnt_pos d)
  have e:Gx (GB D ds ms t) (GB D ds ms s)=decide (at0 ms t*cnt ds s<at0 ms s*cnt ds t):=by
   unfold GB
   rw[zl g j]
   refine decide_eq_decide.mpr ?_
   have h:at0 ms t*(D*cnt ds s)=(at0 ms t*cnt ds s)*D:=by ac_rfl
   have k:at0 ms s*(D*cnt ds t)=(at0 ms s*cnt ds t)*D:=by ac_rfl
   rw[h,k]
   exact⟨λz=>g9 z (dZ a),λz=>gP z a⟩
  show Gs (if Gx (GB D ds ms t) (GB D ds ms s)=true then GB D ds ms t else GB D ds ms s) (r.map (GB D ds ms))=GB D ds ms (GX ds ms (if at0 ms t*cnt ds s<at0 ms s*cnt ds t then t else s) r)
  rw[e]
  by_cases c:at0 ms t*cnt ds s<at0 ms s*cnt ds t
  ·rw[if_pos (decide_eq_true c),if_pos c]
   exact vd a r t d b
  ·rw[if_neg (by simpa using c),if_neg c]
   exact vd a r s hs b
theorem Av{D:Int}{ds ms:List Int}(c:0<D)(b:ds≠[]):IH (ds.map (GB D ds ms))=GB D ds ms (EM.pick ds ms):=by
 cases ds with
 | nil=>exact absurd rfl b
 | cons a r=>exact vd (ds:=a::r) c (a::r) a cM λ_ h=>h
def KH(K:b3):Sp:=λvs H Q _=>∃(w l:cG) (row ms:List Int) (D:Int) (gs:List V),vs=[.ref w,.ref l]/\SqT K H w (row.map V.int)/\SqL K H l gs/\dJ (IsF K H) gs (fr D ms)/\0<D/\
 (∀t∈row,0<=t/\t<ms.length)/\row.length<=63/\(∃t∈row,EM.at0 ms t≠0)/\∀H',Same H H'->Q (.int (EM.best ms row)) H'
def KA(K:b3):Sp:=λvs H Q _=>∃(d l:cG) (ds ms:List Int) (D:Int) (gs:List V),vs=[.ref d,.ref l]/\SqL K H d (ds.map V.int)/\SqL K H l gs/\dJ (IsF K H) gs (fr D ms)/\0<D/\D<=262144/\ds≠[]/\ds.length<=6/\
 (∀t∈ds,0<=t/\t<ms.length)/\(∀m∈ms,0<=m/\m<=D)/\∀v H',Same H H'->IsF K H' v (GB D ds ms (EM.pick ds ms))->Q v H'
def KD(K:b3):Sp:=λvs H Q _=>∃(d l p:cG) (ds ms:List Int) (D c m:Int) (gs:List V),vs=[.ref d,.ref l,.ref p]/\SqL K H d (ds.map V.int)/\SqL K H l gs/\dJ (IsF K H) gs (fr D ms)/\IsF K H (.ref p) (FQ.red m (D*c))/\
 0<D/\D<=262144/\0<c/\c<=6/\0<=m/\m<=D/\ds.length<=6/\ms.length<=6/\(∀m∈ms,0<=m/\m<=D)/\
 ∀q gs' H',Same H H'->H q=none->H' q=some (.lst gs')->dJ (IsF K H') gs' (fr (D*c) ((LM.rng ms.length).map λj=>EM.at0 ms j*c-EM.cnt ds j*m))->Q (.ref q) H'
def IsC(K:b3)(P:cG)(H:Hp)(v:V)(c:EM.Course):Prop:=∃a l d g,v = .ref a/\SqT K H a [.ref l,.ref d,.ref g]/\IsF K H (.ref l) (FQ.red c.m c.D)/\H d=some (.lst (c.ds.map V.int))/\SqT K H g (c.gone.map V.int)/\d≠P
theorem IsC.mono{K:b3}{P:cG}{H b:Hp}{v:V}{c:EM.Course}(e:Same H b)(h:IsC K P H v c):IsC K P b v c:=by
 obtain⟨a,l,d,g,rfl,h1,h2,h3,h4,h5⟩:=h;exact⟨a,l,d,g,rfl,e.tup h1,h2.mono e,e _ _ h3,e.tup h4,h5⟩
theorem IsC.over{K:b3}{P:cG}{H:Hp}{v:V}{c:EM.Course}{ys b:List V}(h:IsC K P H v c)(hp:H P=some (.lst ys)):IsC K P (upd H P (.lst b)) v c:=by
 obtain⟨a,l,d,g,rfl,h1,h2,h3,h4,h5⟩:=h;exact⟨a,l,d,g,rfl,vW h1 hp,h2.over hp,by rw[td h5];exact h3,vW h4 hp,h5⟩
def GO(W:List (List Int))(n N:Nat):List EM.Course:=(dc N).map λi=>EM.cs W (EM.st W n i)
theorem AB{W:List (List Int)}{n N i:Nat}{c:EM.Course}(h:(GO W n N)[i]?=some c):i<N/\c=EM.cs W (EM.st W n i):=by
 unfold GO at h;rw[cL]at h;by_cases a:i<N
 ·rw[eg a]at h;exact⟨a,(Option.some.inj h).symm⟩
 ·rw[gt (by rw[fL];exact fh a)]at h
  cases h
def Jb(K:b3):Sp:=λvs H Q _=>∃(a:cG) (ws:List V) (W:List (List Int)) (n:Nat),vs=[.ref a]/\SqL K H a ws/\dJ (IsR K H) ws W/\EM.Ws n W/\
 ∀p cs N H',Same H H'->H p=none->H' p=some (.lst cs)->EM.Stops W n N->dJ (IsC K p H') cs (GO W n N)->Q (.ref p) H'
def IX(K:b3):Sp:=λvs H Q _=>∃(c:cG) (cs:List V) (W:List (List Int)) (n N p:Nat) (t:Int),vs=[.ref c,.int p,.int t]/\H c=some (.lst cs)/\EM.Ws n W/\EM.Upto W n N/\dJ (IsC K c H) cs (GO W n N)/\p<n/\
 ∀v H',Same H H'->IsF K H' v (FQ.red (EM.et W n N p t) (EM.st W n N).D)->Q v H'
def G7(W:List (List Int))(n N p:Nat):List Int:=(LM.rng n).map (EM.et W n N p)
def GC(W:List (List Int))(n N:Nat):List (List Int):=(dc n).map (G7 W n N)
def Ja(K:b3):Sp:=λvs H Q _=>∃(c:cG) (cs:List V) (W:List (List Int)) (n N p:Nat),vs=[.ref c,.int p,.int n]/\H c=some (.lst cs)/\EM.Ws n W/\EM.Upto W n N/\dJ (IsC K c H) cs (GO W n N)/\p<n/\
 ∀v H',Same H H'->RwFT K H' (EM.st W n N).D v (G7 W n N p)->Q v H'
def KO(K:b3):Sp:=λvs H Q _=>∃(a:cG) (ws:List V) (W:List (List Int)) (n:Nat),vs=[.ref a]/\SqL K H a ws/\dJ (IsR K H) ws W/\EM.Ws n W/\
 ∀p us N H',Same H H'->H p=none->H' p=some (.lst us)->EM.Stops W n N->dJ (RwFT K H' (EM.st W n N).D) us (GC W n N)->Q (.ref p) H'
theorem yb(t:Int):∀G:List Int,Js (.int t) (G.map V.int)=decide (t∈G)
 | []=>by simp[Js]
 | x::G=>by
  have a:=yb t G
  unfold Js at a ⊢
  rw[d2,ig,a]
  by_cases h1:x=t
  ·subst h1;simp[K5]
  ·by_cases h2:t∈G
   ·simp[h2]
   ·have h3:t≠x:=λz=>h1 z.symm
    simp[K5,h1,h2,h3]
theorem xk(G:List Int):(G.map V.int).all Hm=true:=by
 rw[dX];intro v a;obtain⟨i,_,rfl⟩:=dG.mp a;rfl
theorem xJ{a b:Type}{F:a->b->Prop}{x:a}{y:b}:∀{xs:List a} {ys:List b} {k:Nat},dJ F xs ys->F x y->dJ F (xs.set k x) (ys.set k y)
 | _,_,_,.nil,_=> .nil
 | _,_,0,.cons _ t,h=> .cons h t
 | _,_,k+1,.cons r t,h=> .cons r (xJ t h)
theorem Bh{D:Int}{m:List Int}{k:Nat}(h:k<m.length):(fr D m)[k]?=some (FQ.red (m.getD k 0) D):=by
 unfold fr;rw[cL,cA,cD h];rfl
abbrev K7:=Int×List Int
def cw(a:List K7)(i:Nat):Int:=((a.take i).map Prod.fst).sum
theorem cw_succ{a:List K7}{i:Nat}{l:K7}(h:a[i]?=some l):cw a (i+1)=cw a i+l.1:=by
 unfold cw;rw[dg,h,cV,List.sum_append];simp
structure LotsOk(n:Nat)(Ls:List K7)(T:Int):Prop where
 tot:cw Ls Ls.length=T
 w1:∀l∈Ls,1<=l.1
 w2:∀l∈Ls,l.1<=1000000000000
 ne:1<=Ls.length
 le:Ls.length<=40
 dl:∀l∈Ls,l.2.length=n
section
variable{n:Nat}{Ls:List K7}{T:Int}
theorem LotsOk.up(h:LotsOk n Ls T){i:Nat}(a:i<Ls.length):cw Ls i<cw Ls (i+1)/\cw Ls (i+1)=cw Ls i+(Ls[i]).1:=by
 have e:=cw_succ (cD a);have:=h.w1 _ (db a);omega
theorem LotsOk.mono(h:LotsOk n Ls T){i:Nat}:∀k,i+k<=Ls.length->cw Ls i<=cw Ls (i+k)
 | 0,_=>fH _
 | k+1,hk=>by
  have h1:=h.mono (i:=i) k (cZ hk)
  have h2:=(h.up (i:=i+k) (hk)).1
  rw[<-nw]
  exact dZ (ku h1 h2)
theorem LotsOk.mono'(h:LotsOk n Ls T){i j:Nat}(a:i<=j)(b:j<=Ls.length):cw Ls i<=cw Ls j:=by
 have:=h.mono (i:=i) (j-i) (by omega);rw[show i+(j-i)=j from iN a]at this;exact this
theorem cw_zero(a:List K7):cw a 0=0:=rfl
theorem LotsOk.bd(h:LotsOk n Ls T){i:Nat}(a:i<=Ls.length):0<=cw Ls i/\cw Ls i<=T:=by
 have h1:=h.mono' (dz i) a;have h2:=h.mono' a (cI _);rw[cw_zero]at h1;rw[h.tot]at h2;exact⟨h1,h2⟩
theorem LotsOk.cwle(h:LotsOk n Ls T):∀i,i<=Ls.length->cw Ls i<=i*1000000000000
 | 0,_=>by rw[cw_zero];simp
 | i+1,hi=>by
  have h1:=h.cwle i (cZ hi)
  have h2:=(h.up (i:=i) (hi)).2
  have h3:=h.w2 _ (db (show i<Ls.length by omega))
  rw[h2]
  push_cast
  omega
theorem LotsOk.T0(h:LotsOk n Ls T):0<T/\T<2^80:=by
 have h1:=(h.up (i:=0) (by have:=h.ne;exact this)).1;have h2:=h.bd (i:=1) h.ne;rw[cw_zero,oH]at h1;have h3:=h.cwle Ls.length (cI _);rw[h.tot]at h3;have h4:=h.le;have:(Ls.length:Int)*1000000000000<=40*1000000000000:=fT (f8.mpr h4) (by decide);constructor <;> omega
end
structure L6(Ls:List K7)(T:Int)(p:Int×Int)(i:Nat):Prop where
 lt:i<Ls.length
 yes:Gx p (FQ.red (cw Ls (i+1)) T)=true
 no:∀j,j<i->Gx p (FQ.red (cw Ls (j+1)) T)=false
def IsLot(K:b3)(H:Hp)(T:Int)(v:V)(l:K7):Prop:=∃a f g,v = .ref a/\SqT K H a [.ref f,.ref g]/\IsF K H (.ref f) (FQ.red l.1 T)/\SqT K H g (l.2.map V.int)
theorem IsLot.mono{K:b3}{H b:Hp}{T:Int}{v:V}{l:K7}(e:Same H b)(h:IsLot K H T v l):IsLot K b T v l:=by
 obtain⟨a,f,g,rfl,h1,h2,h3⟩:=h;exact⟨a,f,g,rfl,e.tup h1,h2.mono e,e.tup h3⟩
def G6(p:Int×Int):Prop:=Gx p (0,1)=true\/Gx p (1,1)=false
def J3(K:b3)(x:Xs):Sp:=λvs H Q E=>∃(L m:cG) (ls:List V) (Ls:List K7) (T:Int) (n:Nat) (p:Int×Int),vs=[.ref L,.ref m]/\SqL K H L ls/\dJ (IsLot K H T) ls Ls/\LotsOk n Ls T/\IsF K H (.ref m) p/\Sz 2000 p/\0<p.2/\
 (G6 p->E (.ref x.NoPick) none H)/\(¬G6 p->∀i v H',L6 Ls T p i->Same H H'->IsR K H' v (Ls.getD i (0,[])).2->Q v H')
theorem we{prog:cY}{w:dn}{A:dD}{E:cz->cC->Prop}{s:cC}{it l:cG}{i:Nat}{a:Array cz}{x:cz}{Q:cz->cC->Prop}(c:s.heap.IsTupleIter it l i)(hl:s.heap.IsTuple l a)(j:a[i]?=some x)
  (h:∀h':Heap,h'.IsTupleIter it l (i+1)->fS it s.heap h'->Q x {s with heap:=h'}):wpAny (model prog w) A (d8 (.ref it)) Q E s:=by
 obtain⟨o,d,g,b⟩:=id c
 obtain⟨n,f,k,m,e⟩:=hl
 unfold d8
 refine b0 (ej (iq c) hH (dY hH (iq c) kc ?_ (j0 _)))
 refine b0 (b4 ?_)
 refine b0 (eO d b rfl ?_)
 refine cS rfl ?_
 refine b0 (eO d b rfl ?_)
 refine b0 (f6 f e ?_)
 dsimp only
 rw[show a[((i:Nat):Int).toNat]?=some x from j]
 refine b0 (gz d b (by simp) ?_)
 refine b4 ⟨x,rfl,b4 (h _ ⟨_,eS _ d (Obj.isFreed_of_fields (nS b _)),(Obj.cls_mapFields o _).trans g,?_⟩ (fb _ _ _))⟩
 rw[nS b]
 rfl
theorem wx{prog:cY}{w:dn}{A:dD}{E:cz->cC->Prop}{s:cC}{it l:cG}{i:Nat}{a:Array cz}{Q:cz->cC->Prop}(k:A.handled=none)(b:s.heap.IsTupleIter it l i)(hl:s.heap.IsTuple l a)(h:a[i]?=none)
  (j:∀(h':Heap) (e:cG),rQ it s.heap h'->(∃o,h'.get? e=some o/\o.cls = .type "StopIteration")->E (.ref e) {s with heap:=h'}):wpAny (model prog w) A (d8 (.ref it)) Q E s:=by
 obtain⟨o,c,q,d⟩:=id b
 obtain⟨p,g,m,n,f⟩:=hl
 unfold d8
 refine b0 (ej (iq b) hH (dY hH (iq b) kc ?_ (j0 _)))
 refine b0 (b4 ?_)
 refine b0 (eO c d rfl ?_)
 refine cS rfl ?_
 refine b0 (eO c d rfl ?_)
 refine b0 (f6 g f ?_)
 dsimp only
 rw[show a[((i:Nat):Int).toNat]?=none from h]
 refine b0 (i4 (b0 (gz c d (by simp) ?_)))
 unfold oI newExc raiseNew
 refine b0 (b0 (i7 ?_ (by show(0:Nat)<=sizeLine;decide)))
 refine b0 (fQ rfl (fj ?_ ?_))
 ·refine b0 (lm ?_)
  rw[show A.in1.handled=none from k]
  refine mX ?_
  exact j _ _ (((fb _ _ _).extBut.push _).push _) ⟨_,cP _ rfl,rfl⟩
 ·exact lK _ _ _ _ _ _ _ _
theorem zr{prog:cY}{w:dn}{A:dD}(m:A.handled=none)(it l:cG)(hl:l≠it)(a:Array cz):Draws prog w A it [it,l] a.size (λi v=>a[i]?=some v) (λi h=>h.IsTupleIter it l i/\h.IsTuple l a) where
 live:=λi h st=>by obtain⟨⟨o,g,_⟩,_⟩:=st;exact⟨o,g⟩
 frame:=λi h j st k=>by
  obtain⟨c,o,b,r⟩:=st
  exact⟨c.at λo q=>k it (by simp) o q,o,k l (by simp) o b,r⟩
 item:=λi s Q E e st h=>by
  obtain⟨c,b⟩:=st
  refine we c b (x:=a[i]) (by simp[e]) λj f d=>h _ _ s.toks (by simp[e]) ⟨f,?_⟩ d
  obtain⟨o,q,r⟩:=b
  exact⟨o,(d.2 l hl).trans q,r⟩
 done:=λs Q E st h=>by
  obtain⟨c,b⟩:=st
  exact wx m c b (by simp) h
structure LU(z TI TO i1 i2:cG)(fp1 fp2:List cG):Prop where
 TIz:TI≠z
 TOz:TO≠z
 i1z:i1≠z
 i2z:i2≠z
 TITO:TI≠TO
 TIi1:TI≠i1
 TIi2:TI≠i2
 TOi1:TO≠i1
 TOi2:TO≠i2
 i12:i1≠i2
 z1:z∉fp1
 T1:TO∉fp1
 i21:i2∉fp1
 z2:z∉fp2
 T2:TO∉fp2
 i12':i1∉fp2
theorem zU{prog:cY}{w:dn}{A:dD}{E:cz->cC->Prop}{s:cC}{z TI TO r t:cG}{N O:List cG}{n1 n2 k1 k2:Nat}{P1 P2:Nat->cz->Prop}{h j:Nat->Heap->Prop}{a b:cz}{Q:cz->cC->Prop}
  (H:Draws prog w A r N n1 P1 h)(I:Draws prog w A t O n2 P2 j)(f:LU z TI TO r t N O)(G:IsZip s.heap z TI TO .none)(al:IsPair s.heap TI (.ref r) (.ref t))(aj:IsPair s.heap TO a b)
  (s1:h k1 s.heap)(s2:j k2 s.heap)(ak:k1<n1)(am:k2<n2)
  (hQ:∀(x y:cz) (h':Heap) (tk:Nat),P1 k1 x->P2 k2 y->IsZip h' z TI TO (rawInt s.heap.objs.size)->IsPair h' TO x y->h (k1+1) h'->j (k2+1) h'->IsPair h' s.heap.objs.size x y->h'.objs.size=s.heap.objs.size+1->
   (∀c o,c≠z->c≠TO->c≠r->c≠t->s.heap.get? c=some o->h'.get? c=some o)->Q (.ref s.heap.objs.size) {s with heap:=h',toks:=tk}):
  wpAny (model prog w) A (Builtin.«zip.__next__» {pos:=[.ref z]}) (λfin s'=>∃v,fin=rR (Flow.ret v)/\Q v s') E s:=by
 unfold Builtin.«zip.__next__»
 refine b0 (b4 ?_)
 refine b0 (eO G rfl rfl ?_)
 refine b0 (eO G rfl rfl ?_)
 refine b0 (f6 al rfl ?_)
 refine cS rfl ?_
 unfold f7
 refine b0 (b0 (eO G rfl rfl (b4 ?_)))
 refine b0 (i4 (b0 (eO G rfl rfl ?_)))
 refine b0 (eZ G (by simp) λh1 ac p=>?_)
 rw[show #[cQ r,cQ t].toList.zipIdx=[(cQ r,0),(cQ t,1)]from rfl,eA,bind_assoc]
 have R:IsPair h1 TO a b:=(p.2 TO f.TOz).trans aj
 have ab:h k1 h1:=H.frame _ _ _ s1 λc d o q=>(p.2 c (λe=>f.z1 (e▸d))).trans q
 have ag:j k2 h1:=I.frame _ _ _ s2 λc d o q=>(p.2 c (λe=>f.z2 (e▸d))).trans q
 refine b0 (b0 (ny ?_))
 refine(show wpAny (model prog w) A (if(eH false==eH true)=true then fF (.ref r)else do let x<-d8 (.ref r);pure (some x)) _ _ _ from cS rfl (b0 (H.item k1 _ _ _ ak ab λx h2 an px ae n=>b4 ?_)))
 have C:IsPair h2 TO a b:=(n.2 TO f.TOi1).trans R
 refine b0 (f6 C rfl ?_)
 refine b0 (mY C λh3 T m=>?_)
 refine b0 (kU (b4 ?_))
 dsimp only
 have J:IsPair h3 TO x b:=T
 have aa:h (k1+1) h3:=H.frame _ _ _ ae λc d o q=>(m.2 c (λe=>f.T1 (e▸d))).trans q
 have ah:j k2 h3:=I.frame _ _ _ ag λc d o q=>(m.2 c (λe=>f.T2 (e▸d))).trans ((n.2 c (λe=>f.i12' (e▸d))).trans q)
 rw[eA,bind_assoc]
 refine b0 (b0 (ny ?_))
 refine(show wpAny (model prog w) A (if(eH false==eH true)=true then fF (.ref t)else do let x<-d8 (.ref t);pure (some x)) _ _ _ from cS rfl (b0 (I.item k2 _ _ _ am ah λy h4 V py af l=>b4 ?_)))
 have B:IsPair h4 TO x b:=(l.2 TO f.TOi2).trans J
 refine b0 (f6 B rfl ?_)
 refine b0 (mY B λh5 S k=>?_)
 refine b0 (kU (b4 ?_))
 dsimp only
 have u:IsPair h5 TO x y:=S
 rw[gy]
 refine b0 (b4 ?_)
 refine b0 (f6 u rfl ?_)
 refine b0 (i7 ?_ (by show 2<=sizeLine;decide))
 have M:h5.get? z=some {cls:=dO "zip",data:=mM #[Value.ellipsis,eH false,eH false,cQ TI,cQ TO]}:=
  (k.2 z (Ne.symm f.TOz)).trans ((l.2 z (Ne.symm f.i2z)).trans ((m.2 z (Ne.symm f.TOz)).trans ((n.2 z (Ne.symm f.i1z)).trans ac)))
 unfold nj
 dsimp only
 have X:=cF (o:={cls:=dO "tuple",data:=iV [x,y].toArray}) M
 refine b0 (b0 (eZ X (by simp) λh7 Y D=>?_))
 refine eZ Y (by simp) λh8 W F=>?_
 have L:h5.objs.size=s.heap.objs.size:=by rw[k.1,l.1,m.1,n.1,p.1]
 have P:(h5.push {cls:=dO "tuple",data:=iV [x,y].toArray}).get? h5.objs.size=some {cls:=dO "tuple",data:=iV [x,y].toArray}:=cP _ rfl
 have nz:h5.objs.size≠z:=Ne.symm (dr (cR M))
 have ai:h (k1+1) h5:=H.frame _ _ _ aa λc d o q=>(k.2 c (λe=>f.T1 (e▸d))).trans ((l.2 c (λe=>f.i21 (e▸d))).trans q)
 have Z:j (k2+1) h5:=I.frame _ _ _ af λc d o q=>(k.2 c (λe=>f.T2 (e▸d))).trans q
 have g:∀c o,c≠z->h5.get? c=some o->h8.get? c=some o:=λc o d q=>(F.2 c d).trans ((D.2 c d).trans (cF _ q))
 refine b4 ⟨_,rfl,?_⟩
 dsimp only
 rw[L]
 refine hQ x y h8 V px py ?_ (g TO _ f.TOz u) (H.frame _ _ _ ai λc d o q=>g c o (λe=>f.z1 (e▸d)) q) (I.frame _ _ _ Z λc d o q=>g c o (λe=>f.z2 (e▸d)) q) ?_ ?_ (λc o U c2 c3 c4 q=>?_)
 ·rw[<-L];exact W
 ·rw[<-L];exact(F.2 _ nz).trans ((D.2 _ nz).trans P)
 ·rw[F.1,D.1]
  show(h5.push _).objs.size=_
  unfold lI
  simp[L]
 ·exact g c o U ((k.2 c c2).trans ((l.2 c c4).trans ((m.2 c c2).trans ((n.2 c c3).trans ((p.2 c U).trans q)))))
theorem vn{prog:cY}{w:dn}{A:dD}{E:cz->cC->Prop}{s:cC}{z:cG}{Q:Option cz->cC->Prop}(c:s.TypeIs (.ref z) "zip")
  (h:wpAny (model prog w) A.in1 (Builtin.«zip.__next__» {pos:=[.ref z]}) (λfin s'=>∃v,fin=rR (Flow.ret v)/\Q (some v) s') (λe s'=>(∃a o,e = .ref a/\s'.heap.get? a=some o/\o.cls = .type "StopIteration")/\Q none s') s):
  wpAny (model prog w) A (pyNext (.ref z)) Q E s:=by
 unfold pyNext
 refine b0 (gU (ej c pI (dY pI c F.entry_zip_next ?_ (F.args_zip_next_1 _))))
 refine fN h (λfin s' b=>?_) (λe s' b=>?_)
 ·obtain⟨v,e,q⟩:=b
  exact⟨v,e,b4 q⟩
 ·obtain⟨⟨a,o,rfl,d,f⟩,q⟩:=b
  refine b0 (eR (T:="StopIteration") ⟨o,d,f⟩ kt ?_)
  exact b4 q
theorem CS{prog:cY}{w:dn}{A:dD}{E:cz->cC->Prop}{s:cC}{z TI TO d t:cG}{p:List cG}{r:Nat}{I:Nat->cz->Prop}{g:Nat->Heap->Prop}{a b:cz}{Q:PySem.Fin->cC->Prop}
  (C:Draws prog w A d p r I g)(D:d≠z)(L:z∉p)(h:IsZip s.heap z TI TO .none)(F:IsPair s.heap TI (.ref d) (.ref t))(N:IsPair s.heap TO a b)(H:g r s.heap)
  (J:∀(h':Heap) (e:cG),(∀c o,c≠z->c≠d->s.heap.get? c=some o->h'.get? c=some o)->(∃o,h'.get? e=some o/\o.cls = .type "StopIteration")->E (.ref e) {s with heap:=h'}):
  wpAny (model prog w) A (Builtin.«zip.__next__» {pos:=[.ref z]}) Q E s:=by
 unfold Builtin.«zip.__next__»
 refine b0 (b4 ?_)
 refine b0 (eO h rfl rfl ?_)
 refine b0 (eO h rfl rfl ?_)
 refine b0 (f6 F rfl ?_)
 refine cS rfl ?_
 unfold f7
 refine b0 (b0 (eO h rfl rfl (b4 ?_)))
 refine b0 (i4 (b0 (eO h rfl rfl ?_)))
 refine b0 (eZ h (by simp) λh1 y n=>?_)
 rw[show #[cQ d,cQ t].toList.zipIdx=[(cQ d,0),(cQ t,1)]from rfl,eA,bind_assoc]
 have B:g r h1:=C.frame _ _ _ H λc j o q=>(n.2 c (λe=>L (e▸j))).trans q
 refine b0 (b0 (ny ?_))
 refine(show wpAny (model prog w) A (if(eH false==eH true)=true then fF (.ref d)else do let x<-d8 (.ref d);pure (some x)) _ _ _ from cS rfl (b0 (C.done _ _ _ B λh2 e k f=>?_)))
 have l:h2.get? z=some _:=k z _ (Ne.symm D) y
 refine eZ l (by simp) λh3 M m=>?_
 obtain⟨o,f,j⟩:=f
 have u:e≠z:=λq=>by
  rw[q,l]at f
  cases f
  exact absurd (dO.inj j) (by decide)
 exact J h3 e (λc o v G q=>(m.2 c v).trans (k c o G ((n.2 c v).trans q))) ⟨o,(m.2 e u).trans f,j⟩
def Sqx(h:Heap)(b:Bool)(l:cG)(a:Array cz):Prop:=if b=true then h.IsTuple l a else h.IsList l a
def Itx(h:Heap)(a:Bool)(it l:cG)(i:Nat):Prop:=if a=true then h.IsTupleIter it l i else h.IsListIter it l i
def HQ(a:Bool)(l:cG):Obj:={cls:= .type (if a=true then"tuple_iterator"else"list_iterator"),data:= .fields #[.ref l,.int 0 0]}
theorem xG{prog:cY}{w:dn}{A:dD}{E:cz->cC->Prop}{s:cC}{b:Bool}{l:cG}{a:Array cz}{Q:cz->cC->Prop}(h:Sqx s.heap b l a)(c:Q (.ref s.heap.objs.size) {s with heap:=s.heap.push (HQ b l)}):wpAny (model prog w) A (pyIter (.ref l)) Q E s:=by
 cases b with
 | true=>exact nG h c
 | false=>exact iM h c
theorem Sqx.keep{h h':Heap}{c:Bool}{l:cG}{a:Array cz}(q:Sqx h c l a)(k:∀o,h.get? l=some o->h'.get? l=some o):Sqx h' c l a:=by
 cases c with
 | true=>obtain⟨o,b,r⟩:=(show h.IsTuple l a from q);exact⟨o,k o b,r⟩
 | false=>obtain⟨o,b,r⟩:=(show h.IsList l a from q);exact⟨o,k o b,r⟩
theorem Sqx.lt{h:Heap}{c:Bool}{l:cG}{a:Array cz}(q:Sqx h c l a):l<h.objs.size:=by
 cases c with
 | true=>obtain⟨o,b,r⟩:=(show h.IsTuple l a from q);exact cR b
 | false=>obtain⟨o,b,r⟩:=(show h.IsList l a from q);exact cR b
theorem Itx.new{h:Heap}{a:Bool}{it l:cG}(e:h.get? it=some (HQ a l)):Itx h a it l 0:=by
 cases a with
 | true=>exact⟨_,e,rfl,rfl⟩
 | false=>exact⟨_,e,rfl,rfl⟩
theorem Itx.keep{h h':Heap}{a:Bool}{it l:cG}{i:Nat}(q:Itx h a it l i)(k:∀o,h.get? it=some o->h'.get? it=some o):Itx h' a it l i:=by
 cases a with
 | true=>exact Heap.IsTupleIter.at q k
 | false=>exact Heap.IsListIter.at q k
theorem Itx.get{h:Heap}{a:Bool}{it l:cG}{i:Nat}(q:Itx h a it l i):∃vs n,h.get? it=some {cls:= .type n,data:= .fields vs}\/∃o,h.get? it=some o/\o.data = .fields vs:=by
 cases a with
 | true=>obtain⟨o,e,c,d⟩:=(show h.IsTupleIter it l i from q);exact⟨_,"",.inr ⟨o,e,d⟩⟩
 | false=>obtain⟨o,e,c,d⟩:=(show h.IsListIter it l i from q);exact⟨_,"",.inr ⟨o,e,d⟩⟩
theorem vf{prog:cY}{w:dn}{A:dD}(c:A.handled=none)(b:Bool)(it l:cG)(hl:l≠it)(a:Array cz):Draws prog w A it [it,l] a.size (λi v=>a[i]?=some v) (λi h=>Itx h b it l i/\Sqx h b l a):=by
 cases b with
 | true=>exact zr c it l hl a
 | false=>exact Draws.list c it l hl a
theorem Az(a c:cG)(b e:Bool)(xs ys:Array cz):Meets (Builtin.«zip.__new__» {pos:=[.type "zip",.ref a,.ref c]}) (λ_ R s=>Sqx s.heap b a xs/\Sqx s.heap e c ys/\
  R (.ok (.ret (.ref (s.heap.objs.size+4)))) {s with heap:=((((s.heap.push (HQ b a)).push (HQ e c)).push {cls:= .type "tuple",data:= .seq #[.ref s.heap.objs.size,.ref (s.heap.objs.size+1)]}).push {cls:= .type "tuple",data:= .seq #[.none,.none]}).push {cls:= .type "zip",data:= .fields #[.none,.bool false,.bool false,.ref (s.heap.objs.size+2),.ref (s.heap.objs.size+3)]}}):=by
 refine Meets.of_wp λk w A R s h=>?_
 obtain⟨h1,h2,g⟩:=h
 have d:=sub_zip
 unfold Builtin.«zip.__new__» pP
 refine b0 (b0 (b4 ?_))
 refine cS rfl (b0 (fQ d (cS rfl (b4 ?_))))
 refine cS rfl ?_
 unfold qd
 dsimp only
 rw[eA]
 refine b0 (b0 (b0 (b0 (dI (xG h1 (b4 ?_))))))
 dsimp only
 rw[eA]
 have f:Sqx (s.heap.push (HQ b a)) e c ys:=h2.keep λo q=>cF _ q
 refine b0 (b0 (dI (xG (s:={s with heap:=s.heap.push (HQ b a)}) f (b4 ?_))))
 dsimp only
 rw[gy]
 have j:∀(h:Heap) (o:Obj),(h.push o).objs.size=h.objs.size+1:=λh o=>by unfold lI;simp
 refine b4 (b4 ?_)
 refine b0 (i7 ?_ (by show 2<=sizeLine;decide))
 refine b0 (i7 ?_ (by show 2<=sizeLine;decide))
 unfold pJ
 refine b0 (fj ?_ (by show(5:Nat)<=sizeLine+2;decide))
 refine b4 ⟨_,rfl,?_⟩
 simp only[j]
 exact g
def KJ(K:b3)(H:Hp)(b:Bool)(a:cG)(xs:List V):Prop:=if b=true then SqT K H a xs else SqL K H a xs
structure ZipB(z TI TO i1 i2 l1 l2:cG):Prop where
 TIz:TI≠z
 TOz:TO≠z
 i1z:i1≠z
 i2z:i2≠z
 TITO:TI≠TO
 TIi1:TI≠i1
 TIi2:TI≠i2
 TOi1:TO≠i1
 TOi2:TO≠i2
 i12:i1≠i2
 l1z:l1≠z
 l1T:l1≠TO
 l1i:l1≠i1
 l1j:l1≠i2
 l2z:l2≠z
 l2T:l2≠TO
 l2i:l2≠i1
 l2j:l2≠i2
theorem ZipB.a{z TI TO c d f e:cG}(b:ZipB z TI TO c d f e):LU z TI TO c d [c,f] [d,e]:=
 ⟨b.TIz,b.TOz,b.i1z,b.i2z,b.TITO,b.TIi1,b.TIi2,b.TOi1,b.TOi2,b.i12,by simp[Ne.symm b.i1z,Ne.symm b.l1z],by simp[b.TOi1,Ne.symm b.l1T],by simp[Ne.symm b.i12,Ne.symm b.l1j],by simp[Ne.symm b.i2z,Ne.symm b.l2z],by simp[b.TOi2,Ne.symm b.l2T],by simp[b.i12,Ne.symm b.l2i]⟩
section
variable{X:Cx}{pins:List (cG×Obj)}{σ:St}{H:Hp}{s:cC}
theorem Inv.sqx(I:Inv X pins σ H s){b:Bool}{a:cG}{xs:List V}(h:KJ X.K H b a xs):∃its:List cz,Vals xs its/\Sqx s.heap b a its.toArray:=by
 cases b with
 | true=>obtain⟨its,r,p,_⟩:=I.tuple h;exact⟨its,r,p⟩
 | false=>obtain⟨its,r,p,_⟩:=I.list h;exact⟨its,r,p.isList⟩
theorem Inv.sqb_inj(I:Inv X pins σ H s){b:Bool}{a:cG}{xs ys:List V}(h:KJ X.K H b a xs)(h':KJ X.K H b a ys):xs=ys:=by
 cases b with
 | true=>exact I.tuple_inj h h'
 | false=>exact I.list_inj h h'
end
def NV(K:b3)(c d:Bool)(a b:cG):It:=
 ⟨λi H=>∃xs ys x y,KJ K H c a xs/\KJ K H d b ys/\xs[i]?=some x/\ys[i]?=some y,
  λi H v e=>∃x y t,(∀xs,KJ K H c a xs->xs[i]?=some x)/\(∀ys,KJ K H d b ys->ys[i]?=some y)/\v = .ref t/\H t=none/\e=upd H t (.tup [x,y]),
  λi H=>∃xs,KJ K H c a xs/\xs.length=i⟩
theorem Df{P:cY}{w:dn}{K:b3}{af:List Expr}{x1:Nat}{pos:Pos}(S Z:Bool)(T l2 z TI TO j m:cG)(g:ZipB z TI TO j m T l2):
  JN P w K (.Tuple af x1 pos) (NV K S Z T l2) [z,TI,TO,j,m] z (λi h=>IsZip h z TI TO .none/\IsPair h TI (.ref j) (.ref m)/\(∃a b,IsPair h TO a b)/\Itx h S j T i/\Itx h Z m l2 i) where
 mem:=by simp
 obj:=λi h st b f=>by
  obtain⟨p,t,⟨a,c,D⟩,B,C⟩:=st
  simp only[da,il,or_false]at f
  rcases f with rfl|rfl|rfl|rfl|rfl
  ·exact⟨_,p,λv z=>by cases z⟩
  ·exact⟨_,t,λv z=>by cases z⟩
  ·exact⟨_,D,λv z=>by cases z⟩
  ·cases S with
   | true=>obtain⟨o,e,_,d⟩:=(show h.IsTupleIter _ _ _ from B);exact⟨o,e,λv z=>by rw[d]at z;cases z⟩
   | false=>obtain⟨o,e,_,d⟩:=(show h.IsListIter _ _ _ from B);exact⟨o,e,λv z=>by rw[d]at z;cases z⟩
  ·cases Z with
   | true=>obtain⟨o,e,_,d⟩:=(show h.IsTupleIter _ _ _ from C);exact⟨o,e,λv z=>by rw[d]at z;cases z⟩
   | false=>obtain⟨o,e,_,d⟩:=(show h.IsListIter _ _ _ from C);exact⟨o,e,λv z=>by rw[d]at z;cases z⟩
 keep:=λi h L st k=>by
  obtain⟨p,t,⟨a,c,D⟩,B,C⟩:=st
  exact⟨k z (by simp) _ p,k TI (by simp) _ t,⟨a,c,k TO (by simp) _ D⟩,B.keep λo q=>k j (by simp) o q,C.keep λo q=>k m (by simp) o q⟩
 item:=by
  intro X hP hw hK hc i r s V H E I hf st hg
  subst hP hw hK
  obtain⟨xs,ys,x,y,J,aa,hx,hy⟩:=hg
  obtain⟨l,R,p1⟩:=I.sqx J
  obtain⟨F,an,p2⟩:=I.sqx aa
  obtain⟨u,hu,ru⟩:=R.get hx
  obtain⟨v,hv,rv⟩:=an.get hy
  obtain⟨p,t,⟨a,c,D⟩,B,C⟩:=st
  have U:=I.ok.hd hc
  have ak:i<l.toArray.size:=by rw[cW];exact(cT.mp hu).1
  have aq:i<F.toArray.size:=by rw[cW];exact(cT.mp hv).1
  refine vn ⟨_,p,rfl⟩ (zU (vf (A:=X.A.in1) U S j T g.l1i l.toArray) (vf (A:=X.A.in1) U Z m l2 g.l2j F.toArray) g.a p t D ⟨B,p1⟩ ⟨C,p2⟩ ak aq λM O L tk px py ah ae am aj ac ar Y=>?_)
  have ex:M=u:=by
   have:l.toArray[i]?=some M:=px
   rw[jL,hu]at this
   exact(Option.some.inj this).symm
  have ey:O=v:=by
   have:F.toArray[i]?=some O:=py
   rw[jL,hv]at this
   exact(Option.some.inj this).symm
  subst ex ey
  have G:∀b o,s.heap.get? b=some o->b≠s.heap.objs.size:=λb o q=>dr (cR q)
  have hn:H s.heap.objs.size=none:=I.hok.fresh (cI _)
  have ai:∀b∈[z,TI,TO,j,m],b≠s.heap.objs.size:=λb f=>by
   simp only[da,il,or_false]at f
   rcases f with rfl|rfl|rfl|rfl|rfl
   ·exact G _ _ p
   ·exact G _ _ t
   ·exact G _ _ D
   ·obtain⟨vs,n,e|⟨o,e,_⟩⟩:=B.get
    ·exact G _ _ e
    ·exact G _ _ e
   ·obtain⟨vs,n,e|⟨o,e,_⟩⟩:=C.get
    ·exact G _ _ e
    ·exact G _ _ e
  have I0:Inv X r V (upd H s.heap.objs.size (.tup [x,y])) {s with heap:=s.heap.push {cls:= .type "tuple",data:= .seq #[M,O]},toks:=s.toks}:=
   I.laid (t':=s.toks) (λb o q=>cF _ q) (cI _) ⟨by show 2<=sizeLine;decide,[M,O],.cons ru (.cons rv .nil),⟨_,cP _ rfl,rfl,_,rfl⟩⟩
  have N:∀b∈[z,TI,TO,j,m],HX X r (upd H s.heap.objs.size (.tup [x,y])) b:=λb f=>by
   have q:=hf b f
   exact⟨by rw[td (ai b f)];exact q.1,q.2⟩
  have I1:Inv X r V (upd H s.heap.objs.size (.tup [x,y])) {s with heap:=L,toks:=tk}:=
   Inv.turnedL (s:={s with heap:=s.heap.push {cls:= .type "tuple",data:= .seq #[M,O]},toks:=s.toks}) I0 (fp:=[z,TI,TO,j,m]) (t':=tk) (λb o f q=>by
    simp only[da,il,or_false,not_or]at f
    rcases uN q rfl with q|⟨rfl,rfl⟩
    ·exact Y b o f.1 f.2.2.1 f.2.2.2.1 f.2.2.2.2 q
    ·exact ac) N
  refine⟨_,rfl,wpAny_letOwnedTupleGo_zip (s:={s with heap:=L,toks:=tk}) ah λh2 ag Q=>?_⟩
  have I2:Inv X r V (upd H s.heap.objs.size (.tup [x,y])) {s with heap:=h2,toks:=tk}:=
   Inv.turnedL (s:={s with heap:=L,toks:=tk}) I1 (fp:=[z,TI,TO,j,m]) (t':=tk) (λb o f q=>(Q.2 b (λe=>f (by simp[e]))).trans q) N
  have ab:IsPair L TI (.ref j) (.ref m):=Y TI _ g.TIz g.TITO g.TIi1 g.TIi2 t
  refine⟨.ref s.heap.objs.size,_,I2,rfl,⟨x,y,_,λav h=>by rw[I.sqb_inj h J];exact hx,λau h=>by rw[I.sqb_inj h aa];exact hy,rfl,hn,rfl⟩,⟨ag,(Q.2 TI g.TIz).trans ab,⟨_,_,(Q.2 TO g.TOz).trans ae⟩,am.1.keep λo q=>(Q.2 j g.i1z).trans q,aj.1.keep λo q=>(Q.2 m g.i2z).trans q⟩,λb f=>(N b f).1⟩
 done:=by
  intro X hP hw hK hc i r s V H E I hf st hg
  subst hP hw hK
  obtain⟨xs,J,ao⟩:=hg
  obtain⟨l,R,p1⟩:=I.sqx J
  obtain⟨p,t,⟨a,c,D⟩,B,C⟩:=st
  have U:=I.ok.hd hc
  have hl:=R.length
  have en:i=l.toArray.size:=by rw[cW];exact ao▸hl
  subst en
  refine vn ⟨_,p,rfl⟩ (CS (vf (A:=X.A.in1) U S j T g.l1i l.toArray) g.i1z (by simp[Ne.symm g.i1z,Ne.symm g.l1z]) p t D ⟨B,p1⟩ λL e Y ho=>?_)
  obtain⟨o,ho,al⟩:=ho
  exact⟨⟨e,o,rfl,ho,al⟩,rfl,I.turnedL (fp:=[z,TI,TO,j,m]) (t':=s.toks) (λb o f q=>Y b o (λz=>f (by simp[z])) (λz=>f (by simp[z])) q) hf⟩
 self:=λ_ _ _ _ _ st h=>by
  obtain⟨p,_⟩:=st
  exact lL p h
theorem yz{prog:cY}{w:dn}{A:dD}{E:cz->cC->Prop}{s:cC}{p m:cG}{v x:Bool}{xs ys:Array cz}{Q:cz->cC->Prop}(h1:Sqx s.heap v p xs)(h2:Sqx s.heap x m ys)
  (h:∀h':Heap,IsZip h' (s.heap.objs.size+4) (s.heap.objs.size+2) (s.heap.objs.size+3) .none->IsPair h' (s.heap.objs.size+2) (.ref s.heap.objs.size) (.ref (s.heap.objs.size+1))->IsPair h' (s.heap.objs.size+3) .none .none->
   Itx h' v s.heap.objs.size p 0->Itx h' x (s.heap.objs.size+1) m 0->h'.objs.size=s.heap.objs.size+5->(∀c o,s.heap.get? c=some o->h'.get? c=some o)->Q (.ref (s.heap.objs.size+4)) {s with heap:=h'}):
  wpAny (model prog w) A (call (.type "zip") [.ref p,.ref m]) Q E s:=by
 refine callType_new F.called_zip (by decide) (F.typeCall_zip_2 _ _) (F.newCall_zip_2 _ _) (λC=>F.args_object_init_3 C _ _) F.entry_zip_new (Az p m v x xs ys) ⟨h1,h2,?_⟩
 have g:∀(h:Heap) (o:Obj),(h.push o).objs.size=h.objs.size+1:=λh o=>by unfold lI;simp
 have r:∀(h:Heap) (o:Obj) (n:Nat),h.objs.size=n->o.isFreed=false->(h.push o).get? n=some o:=λh o n e f=>by rw[<-e];exact cP _ f
 have fr:∀J l,(HQ J l).isFreed=false:=λJ l=>rfl
 generalize ho1:HQ v p=B
 generalize ho2:HQ x m=y
 have N:B.isFreed=false:=by rw[<-ho1];rfl
 have P:y.isFreed=false:=by rw[<-ho2];rfl
 generalize hq1:s.heap.push B=k
 have I:k.objs.size=s.heap.objs.size+1:=by rw[<-hq1];exact g _ _
 have g1:k.get? s.heap.objs.size=some B:=by rw[<-hq1];exact cP _ N
 have M:∀c o,s.heap.get? c=some o->k.get? c=some o:=λc o q=>by rw[<-hq1];exact cF _ q
 generalize hq2:k.push y=d
 have H:d.objs.size=s.heap.objs.size+2:=by rw[<-hq2,g,I]
 have g2:d.get? (s.heap.objs.size+1)=some y:=by rw[<-hq2];exact r _ _ _ I P
 have D:∀c o,k.get? c=some o->d.get? c=some o:=λc o q=>by rw[<-hq2];exact cF _ q
 generalize hq3:d.push {cls:=dO "tuple",data:=iV #[cQ s.heap.objs.size,cQ (s.heap.objs.size+1)]}=j
 have G:j.objs.size=s.heap.objs.size+3:=by rw[<-hq3,g,H]
 have g3:j.get? (s.heap.objs.size+2)=some {cls:=dO "tuple",data:=iV #[cQ s.heap.objs.size,cQ (s.heap.objs.size+1)]}:=by rw[<-hq3];exact r _ _ _ H rfl
 have z:∀c o,d.get? c=some o->j.get? c=some o:=λc o q=>by rw[<-hq3];exact cF _ q
 generalize hq4:j.push {cls:=dO "tuple",data:=iV #[cz.none,cz.none]}=a
 have L:a.objs.size=s.heap.objs.size+4:=by rw[<-hq4,g,G]
 have g4:a.get? (s.heap.objs.size+3)=some {cls:=dO "tuple",data:=iV #[cz.none,cz.none]}:=by rw[<-hq4];exact r _ _ _ G rfl
 have u:∀c o,j.get? c=some o->a.get? c=some o:=λc o q=>by rw[<-hq4];exact cF _ q
 generalize hq5:a.push {cls:=dO "zip",data:=mM #[cz.none,eH false,eH false,cQ (s.heap.objs.size+2),cQ (s.heap.objs.size+3)]}=t
 have O:t.objs.size=s.heap.objs.size+5:=by rw[<-hq5,g,L]
 have g5:t.get? (s.heap.objs.size+4)=some {cls:=dO "zip",data:=mM #[cz.none,eH false,eH false,cQ (s.heap.objs.size+2),cQ (s.heap.objs.size+3)]}:=by rw[<-hq5];exact r _ _ _ L rfl
 have b:∀c o,a.get? c=some o->t.get? c=some o:=λc o q=>by rw[<-hq5];exact cF _ q
 exact⟨⟨_,g5,rfl⟩,h t g5 (b _ _ (u _ _ g3)) (b _ _ g4) (Itx.new (by rw[ho1];exact b _ _ (u _ _ (z _ _ (D _ _ g1))))) (Itx.new (by rw[ho2];exact b _ _ (u _ _ (z _ _ g2)))) O λc o q=>b _ _ (u _ _ (z _ _ (D _ _ (M _ _ q))))⟩
theorem zP{n e c:Nat}(h1:e<n)(h2:c<n):ZipB (n+4) (n+2) (n+3) n (n+1) e c:=by
 have d:∀a b:Nat,a<b->a≠b:=λa b h=>dr h;exact⟨d _ _ (j6 (by decide) _),d _ _ (du _),d _ _ (fK (ec _ _)),d _ _ (j6 (by decide) _),d _ _ (du _),(d _ _ (fK (d6 _))).symm,(d _ _ (du _)).symm,(d _ _ (fK (ec _ _))).symm,(d _ _ (j6 (by decide) _)).symm,d _ _ (du _),
  d _ _ (cJ h1 (ec _ _)),d _ _ (cJ h1 (ec _ _)),d _ _ (by omega),d _ _ (dw h1),d _ _ (cJ h2 (ec _ _)),d _ _ (cJ h2 (ec _ _)),d _ _ (by omega),d _ _ (dw h2)⟩
def N8(K:b3)(e:TA):TI:=λd H R=>e d H λvs c=>∃(t1 t2:Bool) (a b:cG),vs=[.ref a,.ref b]/\(∃xs,KJ K c t1 a xs)/\(∃ys,KJ K c t2 b ys)/\R (NV K t1 t2 a b) c
section
variable{X:Cx}
theorem Ed{k:List Expr}{W:Nat}{l:Pos}{a b:Expr}{C:TA}{p pos:Pos}(V:Gl X "zip")(Y:X.mg "zip"=none)(Z:PA X [a,b] C)(hs:dq [a,b] X.env=[(false,eval a X.env),(false,eval b X.env)]:=by rfl)(j:dq [b] X.env=[(false,eval b X.env)]:=by rfl):
  PI X (.Tuple k W l) (.Call (.Name "zip" p) [a,b] [] pos) (N8 X.K C):=by
 intro d s y H R I h
 refine sE (uU I V Y mG (d9 (Gh (Z pos d s y H _ I h) λus c ⟨vs,m,f,U,P⟩=>?_) (by rw[hs,j]) (by rw[j];rfl)))
 obtain⟨O,G,S,L,e,⟨xs,M⟩,⟨ys,Q⟩,q⟩:=P
 subst e
 obtain⟨u,v,rfl,J,E⟩:=JP U
 cases J
 cases E
 obtain⟨T,ab,B⟩:=f.sqx M
 obtain⟨N,ac,t⟩:=f.sqx Q
 refine yz B t λw o A z x n aa D=>?_
 refine lL (s:={c with heap:=w}) o ?_
 have F:Inv X d y m {c with heap:=w}:=f.kept (t':=c.toks) D
 refine⟨_,[c.heap.objs.size+4,c.heap.objs.size+2,c.heap.objs.size+3,c.heap.objs.size,c.heap.objs.size+1],_,_,m,rfl,F,Df O G S L _ _ _ _ _ (zP B.lt t.lt),⟨o,A,⟨_,_,z⟩,x,n⟩,λb r=>?_,q⟩
 have g:c.heap.objs.size<=b:=by
  simp only[da,il,or_false]at r
  rcases r with rfl|rfl|rfl|rfl|rfl <;> omega
 exact f.fpOk g (f.hok.fresh g)
end
theorem yP{K:b3}{k o:Bool}{a b:cG}{xs ys:List V}{caps:List (Option Nat)}{g:TG}{n:TE}{l:St}{q:List V->Hp->Prop}{H:Hp}(c:Nat->List V->Hp->Prop)(C:xs.length=ys.length)(h0:c 0 [] H)
  (hl:∀i zs H,i<=xs.length->c i zs H->KJ K H k a xs/\KJ K H o b ys)
  (A:∀i x y zs H t,xs[i]?=some x->ys[i]?=some y->H t=none->c i zs H->g (.ref t) (GU caps l) (upd H t (.tup [x,y])) λσ2 H2=>n σ2 H2 λv H4=>zs.length<sizeLine/\c (i+1) (zs++[v]) H4)
  (z:∀zs H,c xs.length zs H->q zs H):GG caps g HN n l q (NV K k o a b) H:=by
 refine⟨λi m zs H=>m=xs.length-i/\i<=xs.length/\c i zs H,⟨xs.length,by simp,dz _,h0⟩,?_⟩
 rintro i m zs H ⟨rfl,j,p⟩
 obtain⟨f,h⟩:=hl i zs H j p
 by_cases d:i<xs.length
 ·refine .inr ⟨⟨xs,ys,xs[i],ys[i],f,h,by simp[d],by simp[show i<ys.length by omega]⟩,c (i+1),λB r w=>⟨xs.length-(i+1),by omega,rfl,d,w⟩,λx r y=>?_⟩
  obtain⟨u,s,t,h1,h2,rfl,h3,rfl⟩:=y
  simp only[uW]
  exact A i u s zs H t (h1 xs f) (h2 ys h) h3 p
 ·have e:i=xs.length:=jn j (fh d)
  subst e
  exact .inl ⟨⟨xs,f,rfl⟩,z zs H p⟩
theorem DP{M:Model}{A:dD}{E:cz->cC->Prop}{s:cC}{a:cG}{Q:Option Obj->cC->Prop}(h:Q (s.heap.get? a) s):wpAny M A (loadIfAlive a) Q E s:=λb p hA=>by
 show Sem.wp M b (Sem.loadIfAlive a Sem.pure) _ _ p s;rw[Sem.wp_loadIfAlive];exact b4 h b p hA
def GR(h:Heap)(z TI TO T:cG):Prop:=∃(f1:Bool) (o:Obj),h.get? z=some {cls:= .type "zip",data:= .fields #[rawInt T,.bool f1,.bool false,.ref TI,.ref TO]}/\h.get? T=some o
theorem vM{prog:cY}{w:dn}{A:dD}{E:cz->cC->Prop}{s:cC}{z TI TO T:cG}{Q:Bool->cC->Prop}(a:GR s.heap z TI TO T)(f:T≠z)(e:∀h':Heap,GR h' z TI TO T->fS z s.heap h'->Q false {s with heap:=h'}):
  wpAny (model prog w) A (f7 (.ref z)) Q E s:=by
 obtain⟨g,o,a,b⟩:=a
 unfold f7
 refine b0 (eO a rfl rfl ?_)
 refine b0 (DP ?_)
 rw[show s.heap.get? ((T:Int)).toNat=some o from b]
 refine cS rfl ?_
 refine b0 (eO a rfl rfl ?_)
 cases g with
 | false=>
  refine i6 rfl (b0 (eZ a (by simp) λh' d c=>b4 (e h' ⟨true,o,d,(c.2 T f).trans b⟩ c)))
 | true=>
  refine cS rfl (b4 (e s.heap ⟨true,o,a,b⟩ ⟨rfl,λ_ _=>rfl⟩))
theorem Bo{prog:cY}{w:dn}{A:dD}{E:cz->cC->Prop}{s:cC}{z TI TO a b T:cG}{r t:List cG}{Y Z k1 k2:Nat}{U X:Nat->cz->Prop}{g h:Nat->Heap->Prop}{Q:cz->cC->Prop}
  (m:Draws prog w A a r Y U g)(n:Draws prog w A b t Z X h)(l:LU z TI TO a b r t)(W:GR s.heap z TI TO T)(af:T≠z)(ae:T≠a)(V:T≠b)(ab:IsPair s.heap TI (.ref a) (.ref b))
  (s1:g k1 s.heap)(s2:h k2 s.heap)(aa:k1<Y)(ac:k2<Z)
  (hQ:∀(x y:cz) (h':Heap) (tk:Nat),U k1 x->X k2 y->GR h' z TI TO T->g (k1+1) h'->h (k2+1) h'->IsPair h' s.heap.objs.size x y->h'.objs.size=s.heap.objs.size+1->
   (∀c o,c≠z->c≠a->c≠b->s.heap.get? c=some o->h'.get? c=some o)->Q (.ref s.heap.objs.size) {s with heap:=h',toks:=tk}):
  wpAny (model prog w) A (Builtin.«zip.__next__» {pos:=[.ref z]}) (λfin s'=>∃v,fin=rR (Flow.ret v)/\Q v s') E s:=by
 have J:=W
 obtain⟨f1,o,p,hT⟩:=J
 unfold Builtin.«zip.__next__»
 refine b0 (b4 ?_)
 refine b0 (eO p rfl rfl ?_)
 refine b0 (eO p rfl rfl ?_)
 refine b0 (f6 ab rfl ?_)
 refine cS rfl ?_
 refine b0 (vM W af λh1 M k=>?_)
 refine cS rfl ?_
 dsimp only
 rw[<-iD]
 rw[show #[cQ a,cQ b].toList=[cQ a,cQ b]from rfl,eA,bind_assoc]
 have S:g k1 h1:=m.frame _ _ _ s1 λc j o q=>(k.2 c (λe=>l.z1 (e▸j))).trans q
 have O:h k2 h1:=n.frame _ _ _ s2 λc j o q=>(k.2 c (λe=>l.z2 (e▸j))).trans q
 refine b0 (b0 (dI ?_))
 refine(show wpAny (model prog w) A (if(eH false==eH true)=true then fF (.ref a)else do let x<-d8 (.ref a);pure (some x)) _ _ _ from cS rfl (b0 (m.item k1 _ _ _ aa S λx h2 ag px N f=>b4 (b4 ?_))))
 dsimp only
 have G:h k2 h2:=n.frame _ _ _ O λc j o q=>(f.2 c (λe=>l.i12' (e▸j))).trans q
 rw[eA,bind_assoc]
 refine b0 (b0 (dI ?_))
 refine(show wpAny (model prog w) A (if(eH false==eH true)=true then fF (.ref b)else do let x<-d8 (.ref b);pure (some x)) _ _ _ from cS rfl (b0 (n.item k2 _ _ _ ac G λy h3 H py P d=>b4 (b4 ?_))))
 dsimp only
 rw[gy]
 refine b0 (b4 ?_)
 dsimp only
 refine b0 (i7 ?_ (by show 2<=sizeLine;decide))
 refine b4 ⟨_,rfl,?_⟩
 have B:h3.objs.size=s.heap.objs.size:=by rw[d.1,f.1,k.1]
 have L:g (k1+1) h3:=m.frame _ _ _ N λc j o q=>(d.2 c (λe=>l.i21 (e▸j))).trans q
 have k3:∀c o,c≠z->c≠a->c≠b->s.heap.get? c=some o->h3.get? c=some o:=λc o u D C q=>(d.2 c C).trans ((f.2 c D).trans ((k.2 c u).trans q))
 obtain⟨g1,R,F,I⟩:=M
 have kz:h3.get? z=some _:=(d.2 z (Ne.symm l.i2z)).trans ((f.2 z (Ne.symm l.i1z)).trans F)
 have kT:h3.get? T=some R:=(d.2 T V).trans ((f.2 T ae).trans I)
 dsimp only
 rw[B]
 refine hQ x y _ H px py ⟨g1,R,cF _ kz,cF _ kT⟩ (m.frame _ _ _ L λc _ o q=>cF _ q) (n.frame _ _ _ P λc _ o q=>cF _ q) ?_ ?_ (λc o u D C q=>cF _ (k3 c o u D C q))
 ·rw[<-B];exact cP _ rfl
 ·show(h3.push _).objs.size=_
  unfold lI
  simp[B]
theorem DS{prog:cY}{w:dn}{A:dD}{E:cz->cC->Prop}{s:cC}{z TI TO a j T:cG}{g:List cG}{h:Nat}{D:Nat->cz->Prop}{b:Nat->Heap->Prop}{Q:PySem.Fin->cC->Prop}
  (n:Draws prog w A a g h D b)(G:z∉g)(t:GR s.heap z TI TO T)(p:T≠z)(r:IsPair s.heap TI (.ref a) (.ref j))(C:b h s.heap)
  (F:∀(h':Heap) (e:cG),(∀c o,c≠z->c≠a->s.heap.get? c=some o->h'.get? c=some o)->(∃o,h'.get? e=some o/\o.cls = .type "StopIteration")->E (.ref e) {s with heap:=h'}):
  wpAny (model prog w) A (Builtin.«zip.__next__» {pos:=[.ref z]}) Q E s:=by
 have k:=t
 obtain⟨I,o,d,J⟩:=k
 unfold Builtin.«zip.__next__»
 refine b0 (b4 ?_)
 refine b0 (eO d rfl rfl ?_)
 refine b0 (eO d rfl rfl ?_)
 refine b0 (f6 r rfl ?_)
 refine cS rfl ?_
 refine b0 (vM t p λh1 H f=>?_)
 refine cS rfl ?_
 dsimp only
 rw[<-iD]
 rw[show #[cQ a,cQ j].toList=[cQ a,cQ j]from rfl,eA,bind_assoc]
 have m:b h h1:=n.frame _ _ _ C λc v o q=>(f.2 c (λe=>G (e▸v))).trans q
 refine b0 (b0 (dI ?_))
 exact(show wpAny (model prog w) A (if(eH false==eH true)=true then fF (.ref a)else do let x<-d8 (.ref a);pure (some x)) _ _ _ from cS rfl (b0 (n.done _ _ _ m λh2 e l B=>F h2 e (λc o u y q=>l c o y ((f.2 c u).trans q)) B)))
def M9(h:Heap)(z TI TO T:cG):Prop:=(IsZip h z TI TO .none/\∃a b,IsPair h TO a b)\/GR h z TI TO T
theorem vY{c d:Type}{R:c->d->Prop}:∀{l:List c} {m:List d},l.length=m.length->(∀(i:Nat) a b,l[i]?=some a->m[i]?=some b->R a b)->dJ R l m
 | [],[],_,_=> .nil
 | a::l,b::m,hl,h=> .cons (h 0 a b rfl rfl) (vY (by simpa using hl) λi x y e f=>h (i+1) x y (by simpa using e) (by simpa using f))
def L7(K:b3):R2:=λx y H Q=>∃(a b:cG) (xs ys:List V),x = .ref a/\y = .ref b/\SqT K H a xs/\SqT K H b ys/\xs.length+ys.length<=sizeLine/\
 ∀p H',Same H H'->SqT K H' p (xs++ys)->Q (.ref p) H'
theorem Cm{X:Cx}:Hb X (binaryOp .Add) (L7 X.K):=by
 intro j s P H x y v u Q I z r h;obtain⟨a,b,w,S,rfl,rfl,l,k,J,q⟩:=h;by_cases m:w=[]
 ·cases z
  cases r;obtain⟨d,V,T,_⟩:=I.tuple l;obtain⟨o,Y,N,_⟩:=I.tuple k;have G:d=[]:=V.nil_iff.mpr m;obtain⟨⟨W,M,L,U⟩,D,B,n,A⟩:=id T;obtain⟨⟨R,C,E,t⟩,c,f,O,g⟩:=id N;simp only at B A f g;subst B A f g;refine oh ⟨_,D,rfl⟩ ⟨_,c,rfl⟩ lB nr jx jq (ji _ _)
   (tuple_addW0 a b d.toArray o.toArray n O M C U t (by simp[G])) ⟨D,c,?_⟩
  exact⟨.ref b,H,I,rfl,q b H (Same.refl _) (by rw[m];exact k)⟩
 ·refine Fe j s P H (.ref a) (.ref b) v u Q I z r ⟨a,b,w,S,rfl,rfl,l,k,m,J,λe=>?_,λ_ p hp=>?_⟩
  ·exact q a H (Same.refl _) (by rw[e,fC];exact l)
  ·exact q p _ (nJ hp _) (SqT.of sQ)
theorem FE{xs:List V}{k:Nat}(h:k<=xs.length):Ha xs none (some (k:Int))=xs.take k:=by
 unfold Ha;rw[HT.sIx_none,HT.sIx_nat,rz,pK h];rfl
theorem Dq{xs:List V}{k:Nat}(h:k<=xs.length):Ha xs (some (k:Int)) none=xs.drop k:=by
 unfold Ha;rw[HT.sIx_none,HT.sIx_nat,pK h,eh (by rw[eQ];exact gi rfl)]
def GV(w ts:List Int):List Int:=w.filter λt=>!decide (t∈ts)
def GY(w ts:List Int):Int:=(GV w ts).getD 0 0
theorem Kq:∀(row ts:List Int),row.Nodup->(∀t∈row,t∈ts)->row.length<=ts.length
 | [],_,_,_=>dz _
 | a::r,ts,hn,h=>by
  have c:=h a cM
  have:=Kq r (ts.erase a) (fD.mp hn).2 λt b=>(mZ (show t≠a from λz=>(fD.mp hn).1 (z▸b))).mpr (h t (cN _ b))
  rw[lp c]at this
  have:=List.length_pos_of_mem c
  rw[dR]
  omega
theorem CY{n:Nat}{w ts:List Int}(h:LN.Pm n w)(hl:ts.length<n):∃t∈w,t∉ts:=by
 refine dU λz=>?_;have:=Kq w ts h.nodup λt a=>dU λy=>z ⟨t,a,y⟩;rw[h.len]at this;omega
theorem yB{w ts:List Int}(h:∃t∈w,t∉ts):(GV w ts)[0]?=some (GY w ts)/\GY w ts∈w/\GY w ts∉ts:=by
 obtain⟨t,h1,h2⟩:=h;have a:t∈GV w ts:=ef.mpr ⟨h1,by simpa using h2⟩;unfold GY
 cases c:GV w ts with
 | nil=>rw[c]at a;cases a
 | cons b r=>
  have d:b∈GV w ts:=by rw[c];exact cM
  obtain⟨h3,h4⟩:=ef.mp d;exact⟨rfl,h3,by simpa using h4⟩
def tk(W:List (List Int))(o:List Int):Nat->List Int
 | 0=>[]
 | k+1=>tk W o k++[GY (W.getD (o.getD k 0).toNat []) (tk W o k)]
def bt(W:List (List Int))(o:List Int)(k:Nat):Int:=GY (W.getD (o.getD k 0).toNat []) (tk W o k)
theorem ER(W:List (List Int))(o:List Int):∀k,tk W o k=(dc k).map (bt W o)
 | 0=>rfl
 | k+1=>by
  rw[gq,cV,<-ER W o k]
  rfl
theorem BE(W:List (List Int))(o:List Int)(k:Nat):(tk W o k).length=k:=by rw[ER];simp
structure Hf(n:Nat)(W:List (List Int)):Prop where
 lo:1<=n
 hi:n<=6
 len:W.length=n
 pm:∀w∈W,LN.Pm n w
theorem FF{K:b3}{H:Hp}{a b:cG}{l m:List Int}{Q:VK}(h1:SqT K H a (l.map V.int))(h2:SqT K H b (m.map V.int))(hl:l.length+m.length<=1000)(q:∀p H',Same H H'->SqT K H' p ((l++m).map V.int)->Q (.ref p) H'):L7 K (.ref a) (.ref b) H Q:=
 ⟨a,b,_,_,rfl,rfl,h1,h2,by rw[cx,cx];exact cO hl (by decide),λp H' S h=>q p H' S (by rw[cV];exact h)⟩
end L2
namespace HM
open LM LN
def cnt(n:Nat)(S:Nat->Bool):Nat:=(dc n).countP S
theorem uw(n:Nat)(S:Nat->Bool):cnt (n+1) S=cnt n S+if S n=true then 1 else 0:=by
 unfold cnt;rw[gq,List.countP_append];simp[List.countP_cons]
theorem uu{S S':Nat->Bool}:∀{n:Nat},(∀i,i<n->S i=true->S' i=true)->cnt n S<=cnt n S'
 | 0,_=>cI _
 | n+1,h=>by
  have a:=uu (n:=n) λi b=>h i (dw b)
  rw[uw,uw]
  by_cases e:S n=true
  ·rw[if_pos e,if_pos (h n (du n) e)];exact dS a
  ·rw[if_neg e];exact Nat.add_le_add a (dz _)
theorem xg(S S':Nat->Bool):∀n:Nat,cnt n (λi=>S i||S' i)<=cnt n S+cnt n S'
 | 0=>cI _
 | n+1=>by
  have a:=xg S S' n
  rw[uw,uw,uw]
  cases S n <;> cases S' n <;> simp <;> omega
theorem vL{S S':Nat->Bool}(a:∀i,S i=true->S' i=true->False):∀n:Nat,cnt n (λi=>S i||S' i)=cnt n S+cnt n S'
 | 0=>rfl
 | n+1=>by
  have b:=vL a n
  rw[uw,uw,uw,b]
  cases h1:S n <;> cases h2:S' n <;> simp <;> try omega
  exact(a n h1 h2).elim
theorem cnt_pos{S:Nat->Bool}:∀{n:Nat},0<cnt n S->∃i,i<n/\S i=true
 | 0,h=>absurd h (dA _)
 | n+1,h=>by
  rw[uw]at h
  by_cases e:S n=true
  ·exact⟨n,du n,e⟩
  ·rw[if_neg e]at h
   obtain⟨i,h1,h2⟩:=cnt_pos (n:=n) (by omega)
   exact⟨i,dw h1,h2⟩
theorem cnt_one(c:Nat):∀n:Nat,cnt n (λi=>i==c)=if c<n then 1 else 0
 | 0=>rfl
 | n+1=>by
  rw[uw,cnt_one c n]
  by_cases e:n=c
  ·subst e;simp
  ·by_cases h:c<n
   ·simp[e,h,show c<n+1 from dw h]
   ·simp[e,h,show ¬c<n+1 by omega]
theorem yJ(n:Nat)(A S:Nat->Bool)(h:∀i,S i=true->A i=true):cnt n A=cnt n S+cnt n (λi=>A i && !S i):=by
 rw[<-vL (S:=S) (S':=λi=>A i && !S i) (λi h1 h2=>by simp[h1]at h2)]
 congr 1
 funext i
 cases h1:S i with
 | true=>simp[h i h1]
 | false=>simp
def nb(n:Nat)(E:Nat->Nat->Bool)(S:Nat->Bool)(c:Nat):Bool:=(dc n).any λr=>S r&&E r c
theorem wo{n:Nat}{E:Nat->Nat->Bool}{S:Nat->Bool}{c:Nat}:nb n E S c=true↔∃r,r<n/\S r=true/\E r c=true:=by
 unfold nb;rw[jc];constructor
 ·rintro⟨r,h1,h2⟩;rw[dt]at h2;exact⟨r,d5.mp h1,h2⟩
 ·rintro⟨r,h1,h2,h3⟩;exact⟨r,d5.mpr h1,by rw[h2,h3];rfl⟩
theorem hall(n:Nat):∀(m:Nat) (A:Nat->Bool) (E:Nat->Nat->Bool),cnt n A=m->(∀S:Nat->Bool,(∀i,S i=true->A i=true)->cnt n S<=cnt n (nb n E S))->
  ∃f:Nat->Nat,(∀r,r<n->A r=true->f r<n/\E r (f r)=true)/\∀r r',r<n->r'<n->A r=true->A r'=true->f r=f r'->r=r':=by
 intro m
 induction m using Nat.strongRecOn with
 | _ m I=>
  intro A E hA J
  by_cases h0:m=0
  ·have O:∀r,r<n->A r=true->False:=λr b h=>by
    have:cnt n (λi=>i==r)<=cnt n A:=uu λi _ e=>by rw[eq_of_beq e];exact h
    rw[cnt_one,if_pos b,hA,h0]at this
    omega
   exact⟨λ_=>0,λr b h=>(O r b h).elim,λr _ b _ h=>(O r b h).elim⟩
  by_cases q:∃a:Nat->Bool,(∀i,a i=true->A i=true)/\0<cnt n a/\cnt n a<m/\cnt n (nb n E a)<=cnt n a
  ·obtain⟨a,M,hp,X,aa⟩:=q
   obtain⟨N,g1,g2⟩:=I _ X a E rfl λS h=>J S λi k=>M i (h i k)
   have x:=yJ n A a M
   obtain⟨R,p,D⟩:=I (cnt n λi=>A i && !a i) (by omega) (λi=>A i && !a i) (λr c=>E r c && !nb n E a c) rfl λS h=>by
    have F:∀i,S i=true->a i=true->False:=λi h1 h2=>by
     have:=h i h1
     simp[h2]at this
    have W:=J (λi=>S i||a i) λi k=>by
     rcases j7.mp k with z|z
     ·have:=h i z
      rw[dt]at this
      exact this.1
     ·exact M i z
    rw[vL F]at W
    have h2:cnt n (nb n E λi=>S i||a i)<=cnt n (λc=>nb n (λr c=>E r c && !nb n E a c) S c||nb n E a c):=uu λc _ q=>by
     obtain⟨r,b,H,u⟩:=wo.mp q
     cases v:nb n E a c with
     | true=>simp
     | false=>
      rw[kZ]
      rcases j7.mp H with z|z
      ·exact wo.mpr ⟨r,b,z,by simp[u,v]⟩
      ·exact absurd (wo.mpr ⟨r,b,z,u⟩) (by rw[v];exact dj)
    have h3:=xg (nb n (λr c=>E r c && !nb n E a c) S) (nb n E a) n
    omega
   have B:∀r r',r<n->a r=true->r'<n->A r'=true->¬a r'=true->N r=R r'->False:=λr r' b h1 g h2 h3 e=>by
    have t:=(g1 r b h1).2
    have j:=(p r' g (by simp[h2,h3])).2
    rw[<-e,dt]at j
    have:=wo.mpr ⟨r,b,h1,t⟩
    rw[this]at j
    exact absurd j.2 (by decide)
   refine⟨λr=>if a r=true then N r else R r,λr b h=>?_,λr r' b g h s e=>?_⟩
   ·dsimp only
    by_cases z:a r=true
    ·rw[if_pos z];exact g1 r b z
    ·rw[if_neg z]
     obtain⟨t,j⟩:=p r b (by simp[h,z])
     rw[dt]at j
     exact⟨t,j.1⟩
   ·dsimp only at e
    by_cases z:a r=true
    ·rw[if_pos z]at e
     by_cases d:a r'=true
     ·rw[if_pos d]at e;exact g2 r r' b g z d e
     ·rw[if_neg d]at e;exact(B r r' b z g s d e).elim
    ·rw[if_neg z]at e
     by_cases d:a r'=true
     ·rw[if_pos d]at e;exact(B r' r g d b h z e.symm).elim
     ·rw[if_neg d]at e;exact D r r' b g (by simp[h,z]) (by simp[s,d]) e
  ·obtain⟨G,y,C⟩:=cnt_pos (n:=n) (S:=A) (nT (hA▸h0))
   have h1:=J (λi=>i==G) λi k=>by rw[eq_of_beq k];exact C
   rw[cnt_one,if_pos y]at h1
   obtain⟨o,w,U⟩:=cnt_pos (n:=n) (S:=nb n E λi=>i==G) (h1)
   obtain⟨l,Z,L,P⟩:=wo.mp U
   have L:l=G:=eq_of_beq L
   subst L
   have x:=yJ n A (λi=>i==l) λi k=>by rw[eq_of_beq k];exact C
   rw[cnt_one,if_pos y]at x
   obtain⟨f,p,D⟩:=I (cnt n λi=>A i && !(i==l)) (by omega) (λi=>A i && !(i==l)) (λr c=>E r c && !(c==o)) rfl λS h=>by
    by_cases V:cnt n S=0
    ·omega
    have Q:∀i,S i=true->A i=true:=λi k=>by
     have:=h i k
     rw[dt]at this
     exact this.1
    have T:cnt n S<m:=by
     have:=uu (n:=n) λi _=>h i
     omega
    have Y:cnt n S<cnt n (nb n E S):=dU λz=>q ⟨S,Q,nT V,T,fh z⟩
    have h2:cnt n (nb n E S)<=cnt n (λc=>nb n (λr c=>E r c && !(c==o)) S c||c==o):=uu λc _ q=>by
     obtain⟨r,b,H,u⟩:=wo.mp q
     cases v:c==o with
     | true=>simp
     | false=>rw[kZ];exact wo.mpr ⟨r,b,H,by simp[u,v]⟩
    have h3:=xg (nb n (λr c=>E r c && !(c==o)) S) (λc=>c==o) n
    have h4:=cnt_one o n
    rw[if_pos w]at h4
    omega
   refine⟨λr=>if r=l then o else f r,λr b h=>?_,λr r' b g h s e=>?_⟩
   ·dsimp only
    by_cases z:r=l
    ·rw[if_pos z,z];exact⟨w,P⟩
    ·rw[if_neg z]
     obtain⟨t,j⟩:=p r b (by simp[h,z])
     rw[dt]at j
     exact⟨t,j.1⟩
   ·dsimp only at e
    by_cases z:r=l
    ·by_cases d:r'=l
     ·rw[z,d]
     ·rw[if_pos z,if_neg d]at e
      have:=(p r' g (by simp[s,d])).2
      rw[<-e]at this
      simp at this
    ·by_cases d:r'=l
     ·rw[if_neg z,if_pos d]at e
      have:=(p r b (by simp[h,z])).2
      rw[e]at this
      simp at this
     ·rw[if_neg z,if_neg d]at e
      exact D r r' b g (by simp[h,z]) (by simp[s,d]) e
def sm:Nat->(Nat->Int)->Int
 | 0,_=>0
 | n+1,f=>sm n f+f n
theorem sm_congr{f g:Nat->Int}:∀{n:Nat},(∀i,i<n->f i=g i)->sm n f=sm n g
 | 0,_=>rfl
 | n+1,h=>by
  show sm n f+f n=sm n g+g n
  rw[sm_congr λi a=>h i (dw a),h n (du n)]
theorem sm_le{f g:Nat->Int}:∀{n:Nat},(∀i,i<n->f i<=g i)->sm n f<=sm n g
 | 0,_=>fH _
 | n+1,h=>by
  have h1:=sm_le λi a=>h i (dw a)
  have h2:=h n (du n)
  show sm n f+f n<=sm n g+g n
  omega
theorem sm_add(f g:Nat->Int):∀n:Nat,sm n (λi=>f i+g i)=sm n f+sm n g
 | 0=>rfl
 | n+1=>by
  show sm n (λi=>f i+g i)+(f n+g n)=(sm n f+f n)+(sm n g+g n)
  rw[sm_add f g n]
  omega
theorem sm_zero:∀n:Nat,sm n (λ_=>0)=0
 | 0=>rfl
 | n+1=>by show sm n (λ_=>0)+0=0;rw[sm_zero n];rfl
theorem sm_swap(a:Nat->Nat->Int)(m:Nat):∀n:Nat,sm n (λi=>sm m (a i))=sm m (λj=>sm n λi=>a i j)
 | 0=>(sm_zero m).symm
 | n+1=>by
  show sm n (λi=>sm m (a i))+sm m (a n)=sm m (λj=>(sm n λi=>a i j)+a n j)
  rw[sm_swap a m n,sm_add]
theorem sm_cnt(S:Nat->Bool)(R:Int):∀n:Nat,sm n (λi=>if S i=true then R else 0)=R*cnt n S
 | 0=>by show(0:Int)=R*0;simp
 | n+1=>by
  show sm n _+(if S n=true then R else 0)=_
  rw[sm_cnt S R n,uw]
  by_cases e:S n=true
  ·rw[if_pos e,if_pos e];push_cast;rw[js,ir]
  ·rw[if_neg e,if_neg e];simp
structure M6(n:Nat)(M:Nat->Nat->Int)(R:Int):Prop where
 pos:0<R
 nn:∀i j,0<=M i j
 row:∀i,i<n->sm n (M i)=R
 col:∀j,j<n->sm n (λi=>M i j)=R
theorem EQ{n:Nat}{M:Nat->Nat->Int}{R:Int}(h:M6 n M R):∃f:Nat->Nat,(∀r,r<n->f r<n/\M r (f r)≠0)/\∀r r',r<n->r'<n->f r=f r'->r=r':=by
 obtain⟨f,h1,h2⟩:=hall n _ (λ_=>true) (λr c=>decide (M r c≠0)) rfl λS _=>by
  have l:sm n (λi=>if S i=true then R else 0)=sm n (λi=>sm n λj=>if S i=true then M i j else 0):=sm_congr λi b=>by
   by_cases e:S i=true
   ·rw[if_pos e,<-h.row i b];exact sm_congr λj _=>by rw[if_pos e]
   ·rw[if_neg e];exact(sm_zero n).symm.trans (sm_congr λj _=>by rw[if_neg e])
  have d:sm n (λj=>sm n λi=>if S i=true then M i j else 0)<=sm n (λj=>if nb n (λr c=>decide (M r c≠0)) S j=true then R else 0):=sm_le λj k=>by
   by_cases e:nb n (λr c=>decide (M r c≠0)) S j=true
   ·rw[if_pos e,<-h.col j k];exact sm_le λi _=>by
     by_cases z:S i=true
     ·rw[if_pos z];exact fH _
     ·rw[if_neg z];exact h.nn i j
   ·rw[if_neg e];exact Int.le_of_eq ((sm_congr λi b=>by
     by_cases z:S i=true
     ·rw[if_pos z];exact dU λy=>e (wo.mpr ⟨i,b,z,decide_eq_true y⟩)
     ·rw[if_neg z]).trans (sm_zero n))
  rw[<-sm_swap,<-l,sm_cnt,sm_cnt]at d;have:=Int.le_of_mul_le_mul_left d h.pos;exact f8.mp this
 exact⟨f,λr a=>⟨(h1 r a rfl).1,by simpa using(h1 r a rfl).2⟩,λr r' a g e=>h2 r r' a g rfl rfl e⟩
end HM
namespace HM
open LM LN
def ent(M:List (List Int))(p t:Nat):Int:=(M.getD p []).getD t 0
structure Reg(n:Nat)(M:List (List Int))(R:Int):Prop where
 len:M.length=n
 cols:∀r∈M,r.length=n
 nn:∀p t,0<=ent M p t
 row:∀i,i<n->sm n (ent M i)=R
 col:∀j,j<n->sm n (λi=>ent M i j)=R
theorem getD_lt{a:Type}{l:List a}{i:Nat}{d:a}(h:i<l.length):l.getD i d=l[i]:=by rw[cA,cD h];rfl
theorem addDeal_len{M:List (List Int)}{d:List Int}{w:Int}(h:M.length=d.length):(addDeal M d w).length=M.length:=by simp[addDeal,h]
theorem addDeal_get{M:List (List Int)}{d:List Int}{w:Int}{p:Nat}(h:M.length=d.length)(hp:p<M.length):(addDeal M d w)[p]?=some (addOne (M.getD p []) (d.getD p 0) w):=by
 unfold addDeal;rw[mH,cD hp,cD (show p<d.length from h▸hp),getD_lt hp,getD_lt (show p<d.length by omega)]
theorem Bl{n:Nat}{M:List (List Int)}{R:Int}{d:List Int}{w:Int}(h:Reg n M R)(j:d.length=n)(g:∀t∈d,0<=t/\t<n){p:Nat}(hp:p<n)(t:Nat):
  ent (addDeal M d w) p t=ent M p t+if(d.getD p 0).toNat=t then w else 0:=by
 have c:M.length=d.length:=by rw[h.len,j]
 have a:p<M.length:=by rw[h.len];exact hp
 have b:(M.getD p []).length=n:=by rw[getD_lt a];exact h.cols _ (db a)
 have f:=g (d.getD p 0) (by rw[getD_lt (show p<d.length from c▸a)];exact db _)
 unfold ent
 rw[show(addDeal M d w).getD p []=addOne (M.getD p []) (d.getD p 0) w by rw[cA,addDeal_get c a];rfl]
 generalize M.getD p []=r at b
 generalize d.getD p 0=x at f
 unfold addOne
 rw[cA,List.getElem?_set]
 by_cases e:x.toNat=t
 ·subst e
  rw[if_pos rfl,if_pos rfl,if_pos (by omega)]
  rfl
 ·rw[if_neg e,if_neg e,<-cA]
  omega
theorem C0{S S':Nat->Bool}{n:Nat}(h:∀i,i<n->S i=S' i):cnt n S=cnt n S':=
 jn (uu λi a e=>by rw[<-h i a];exact e) (uu λi a e=>by rw[h i a];exact e)
theorem pm_at{n:Nat}{d:List Int}(h:Pm n d){t:Nat}(j:t<n):∃p,p<n/\d.getD p 0=(t:Int)/\∀q,q<n->(d.getD q 0).toNat=t->q=p:=by
 obtain⟨p,hp,e⟩:=eV.mp (h.mem.mpr (show(0:Int)<=(t:Int)/\(t:Int)<n by omega));have c:=h.len;refine⟨p,c▸hp,by rw[getD_lt hp,e],λq f g=>?_⟩;have a:q<d.length:=c▸f;have b:=h.mem.mp (db a);rw[getD_lt a]at g;have:d[q]=d[p]:=by rw[e];omega
 exact(oJ a h.nodup).mp (by rw[cD a,cD hp,this])
theorem wl{n:Nat}{p:Nat}(hp:p<n){S:Nat->Bool}(b:∀q,q<n->(S q=true↔q=p))(w:Int):sm n (λq=>if S q=true then w else 0)=w:=by
 rw[sm_cnt,C0 (S':=λq=>q==p) λi a=>by
  rw[gF,b i a];exact⟨λe=>by rw[e];exact beq_self_eq_true _,λe=>eq_of_beq e⟩,cnt_one,if_pos hp]
 simp
theorem E5{n:Nat}{M:List (List Int)}{r:List Int}(hl:M.length=n)(a:r∈M):∃p,p<n/\M.getD p []=r:=by
 obtain⟨p,hp,e⟩:=eV.mp a;exact⟨p,hl▸hp,by rw[getD_lt hp,e]⟩
theorem Reg.add{n:Nat}{M:List (List Int)}{R:Int}{d:List Int}{w:Int}(h:Reg n M R)(m:Pm n d)(hw:∀p,p<n->0<=ent M p (d.getD p 0).toNat+w):Reg n (addDeal M d w) (R+w):=by
 have b:=m.len;have u:M.length=d.length:=by rw[h.len,b]
 have s:∀t∈d,0<=t/\t<n:=λt k=>m.mem.mp k;have f:=λ {p} (hp:p<n) t=>Bl (w:=w) h b s hp t;have a:(addDeal M d w).length=n:=by rw[addDeal_len u,h.len]
 have bd:∀p,p<n->0<=d.getD p 0/\d.getD p 0<n:=λp hp=>s _ (by rw[getD_lt (show p<d.length from b▸hp)];exact db _);refine⟨a,λr x=>?_,λp t=>?_,λi l=>?_,λj o=>?_⟩
 ·obtain⟨p,hp,e⟩:=E5 a x;rw[<-e,cA,addDeal_get u (by rw[h.len];exact hp)];show(addOne _ _ _).length=n;rw[AZ];have c:p<M.length:=by rw[h.len];exact hp
  rw[getD_lt c];exact h.cols _ (db c)
 ·by_cases hp:p<n
  ·rw[f hp];by_cases e:(d.getD p 0).toNat=t
   ·rw[if_pos e,<-e];exact hw p hp
   ·rw[if_neg e,gQ];exact h.nn p t
  ·unfold ent;rw[show(addDeal M d w).getD p []=[]by rw[cA,gt (fh (a▸hp))];rfl];exact fH 0
 ·rw[sm_congr (g:=λt=>ent M i t+if decide ((d.getD i 0).toNat=t)=true then w else 0) λt _=>by rw[f l];simp,sm_add,h.row i l,wl (p:=(d.getD i 0).toNat) (by have:=bd i l;omega) (λq _=>by rw[decide_eq_true_iff];exact eq_comm)]
 ·obtain⟨p,hp,e,v⟩:=pm_at m o;rw[sm_congr (g:=λi=>ent M i j+if decide ((d.getD i 0).toNat=j)=true then w else 0) λt k=>by rw[f k];simp,sm_add,h.col j o,wl (p:=p) hp (λq y=>by
   rw[decide_eq_true_iff];exact⟨v q y,λz=>by rw[z,e];rfl⟩)]
theorem Reg.regF{n:Nat}{M:List (List Int)}{R:Int}(h:Reg n M R)(a:0<R):M6 n (ent M) R:=⟨a,h.nn,h.row,h.col⟩
def within(M:List (List Int)):Nat->List Int->Option (List Int)
 | 0,b=>some b
 | k+1,b=>(dc M.length).findSome? λt=>if ent M b.length t≠0/\(t:Int)∉b then within M k (b++[(t:Int)])else none
theorem wt{M:List (List Int)}:∀{k:Nat} {b d:List Int},within M k b=some d->b.Nodup->d.Nodup/\d.length=b.length+k/\(∀j,j<b.length->d.getD j 0=b.getD j 0)/\∀j,b.length<=j->j<b.length+k->∃t:Nat,t<M.length/\d.getD j 0=(t:Int)/\ent M j t≠0
 | 0,b,d,h,hb=>by
  cases h
  exact⟨hb,rfl,λ_ _=>rfl,λj h1 h2=>by omega⟩
 | k+1,b,d,h,hb=>by
  obtain⟨t,l,e⟩:=List.exists_of_findSome?_eq_some h
  split at e
  ·rename_i hc
   have c:(b++[(t:Int)]).Nodup:=gB.mpr ⟨hb,by simp,λx m y n=>by rw[cK.mp n];intro z;exact hc.2 (z▸m)⟩
   obtain⟨h1,h2,h3,h4⟩:=wt e c
   rw[de,eo]at h2 h3 h4
   have f:d.getD b.length 0=(t:Int):=by
    rw[h3 b.length (du _),cA,ff (cI _),iC]
    rfl
   refine⟨h1,by omega,λj a=>?_,λj o p=>?_⟩
   ·rw[h3 j (dw a),cA,hV a,<-cA]
   ·by_cases g:j=b.length
    ·subst g
     exact⟨t,d5.mp l,f,hc.1⟩
    ·exact h4 j (by omega) (by omega)
  ·cases e
theorem wQ{M:List (List Int)}{f:Nat->Nat}(d:∀j,j<M.length->f j<M.length/\ent M j (f j)≠0)(e:∀j j',j<M.length->j'<M.length->f j=f j'->j=j'):∀{k:Nat} {b:List Int},b.length+k<=M.length->(∀j,b.length<=j->j<b.length+k->(f j:Int)∉b)->(within M k b).isSome=true
 | 0,b,_,_=>rfl
 | k+1,b,hl,hb=>by
  unfold within
  rw[List.findSome?_isSome_iff]
  obtain⟨h1,h2⟩:=d b.length (by omega)
  refine⟨f b.length,d5.mpr h1,?_⟩
  rw[if_pos ⟨h2,hb b.length (cI _) (fK (ec _ _))⟩]
  refine wQ d e (by rw[de,eo];omega) λj a c z=>?_
  rw[de,eo]at a c
  rcases dE.mp z with z|z
  ·exact hb j (cZ a) (by omega) z
  ·have:=cK.mp z
   have:=e j b.length (by omega) (by omega) (nA.mp this)
   omega
theorem FX{n:Nat}{d:List Int}(hl:d.length=n)(c:d.Nodup)(j:∀t∈d,0<=t/\t<n):Pm n d:=by
 unfold Pm;have f:∀(m:Nat) (l:List Int) (r:List Int),l.length=m->r.length=m->l.Nodup->(∀t∈l,t∈r)->l.Perm r:=by
  intro m
  induction m with
  | zero=>intro l r h1 h2 _ _;rw[jr.mp h1,jr.mp h2]
  | succ m g=>
   intro l r h1 h2 c h
   cases l with
   | nil=>cases h1
   | cons a l=>
    have e:=h a cM;refine(re.cons a (g l (r.erase a) (by simpa using h1) (by rw[lp e,h2];rfl) (fD.mp c).2 λt b=>?_)).trans (List.perm_cons_erase e).symm;exact(mZ (show t≠a from λz=>(fD.mp c).1 (z▸b))).mpr (h t (cN _ b))
 exact f n d (rng n) hl (rng_len n) c λt b=>mem_rng.mpr (j t b)
def valsM(M:List (List Int))(d:List Int):List Int:=rk (λr t=>r.getD t.toNat 0) M d
def minGo(s:Int)(l:List Int):Int:=l.foldl (λs p=>if p<s then p else s) s
def minL(l:List Int):Int:=minGo (l.headD 0) l
theorem zV:∀(l:List Int) (s:Int),minGo s l<=s/\(∀x∈l,minGo s l<=x)/\(minGo s l=s\/minGo s l∈l)
 | [],s=>⟨fH _,(λ_ h=>nomatch h),.inl rfl⟩
 | a::l,s=>by
  obtain⟨h1,h2,h3⟩:=zV l (if a<s then a else s)
  have e:minGo s (a::l)=minGo (if a<s then a else s) l:=rfl
  rw[e]
  by_cases c:a<s
  ·rw[if_pos c]at h1 h2 h3 ⊢
   refine⟨dZ (ku h1 c),λx b=>?_,.inr ?_⟩
   ·rcases da.mp b with z|z
    ·rw[z];exact h1
    ·exact h2 x z
   ·rcases h3 with z|z
    ·rw[z];exact cM
    ·exact cN _ z
  ·rw[if_neg c]at h1 h2 h3 ⊢
   refine⟨h1,λx b=>?_,?_⟩
   ·rcases da.mp b with z|z
    ·rw[z];exact gm h1 (Int.le_of_not_gt c)
    ·exact h2 x z
   ·rcases h3 with z|z
    ·exact .inl z
    ·exact .inr (cN _ z)
theorem Ev{l:List Int}(h:l≠[]):minL l∈l/\∀x∈l,minL l<=x:=by
 cases l with
 | nil=>exact absurd rfl h
 | cons a l=>
  obtain⟨h1,h2,h3⟩:=zV (a::l) a;refine⟨?_,h2⟩;rcases h3 with z|z
  ·show minGo a (a::l)∈_;rw[z];exact cM
  ·exact z
def dealOf(M:List (List Int)):List Int:=(within M M.length []).getD []
def wOf(M:List (List Int)):Int:=minL (valsM M (dealOf M))
theorem sm_one_le{n:Nat}{f:Nat->Int}(a:∀i,0<=f i):∀{i:Nat},i<n->f i<=sm n f:=by
 have b:∀m,0<=sm m f:=λm=>by
  have:=sm_le (n:=m) (f:=λ_=>0) (g:=f) λi _=>a i;rw[sm_zero]at this;exact this
 induction n with
 | zero=>intro i h;exact absurd h (gJ _)
 | succ n c=>
  intro i h;show f i<=sm n f+f n;by_cases e:i=n
  ·subst e;have:=b i;omega
  ·have:=c (i:=i) (by omega);have:=a n;omega
structure Lp(n:Nat)(M:List (List Int))(R:Int):Prop where
 some:within M n []=some (dealOf M)
 pm:Pm n (dealOf M)
 ne:∀p,p<n->ent M p ((dealOf M).getD p 0).toNat≠0
 le:∀p,p<n->wOf M<=ent M p ((dealOf M).getD p 0).toNat
 eq:∃p,p<n/\ent M p ((dealOf M).getD p 0).toNat=wOf M
 w1:1<=wOf M
 wR:wOf M<=R
 reg:Reg n (addDeal M (dealOf M) (-wOf M)) (R-wOf M)
theorem valsM_get{n:Nat}{M:List (List Int)}{d:List Int}(a:M.length=n)(b:d.length=n){p:Nat}(hp:p<n):(valsM M d)[p]?=some (ent M p (d.getD p 0).toNat):=by
 unfold valsM ent;rw[mH,cD (show p<M.length from a▸hp),cD (show p<d.length from b▸hp),getD_lt (show p<M.length by omega),getD_lt (show p<d.length by omega)]
theorem Reg.step{n:Nat}{M:List (List Int)}{R:Int}(h:Reg n M R)(S:0<R)(T:1<=n):Lp n M R:=by
 have a:=h.len;obtain⟨f,H,P⟩:=EQ (h.regF S);have N:=wQ (M:=M) (f:=f) (by rw[a];exact H) (by rw[a];exact P) (k:=n) (b:=[]) (by simp[a]) λj _ _=>il;obtain⟨d,r⟩:=kY.mp N;have s:dealOf M=d:=by unfold dealOf;rw[a,r];rfl
 obtain⟨I,l,U,u⟩:=wt r io;rw[mn,oH]at l u;have B:∀t∈d,0<=t/\t<n:=λt J=>by
  obtain⟨j,A,e⟩:=eV.mp J;obtain⟨O,h1,h2,_⟩:=u j (dz _) (l▸A);rw[getD_lt A,e]at h2;omega
 have q:=FX l I B;have x:∀p,p<n->ent M p (d.getD p 0).toNat≠0:=λp hp=>by
  obtain⟨O,h1,h2,h3⟩:=u p (dz _) hp;rw[h2];exact h3
 have y:valsM M d≠[]:=λz=>by
  have:=valsM_get a l (p:=0) (T);rw[z]at this
  cases this
 have F:(valsM M d).length=n:=by unfold valsM;simp[a,l]
 obtain⟨E,Q⟩:=Ev y;have C:wOf M=minL (valsM M d):=by unfold wOf;rw[s]
 obtain⟨c,o,L⟩:=eV.mp E;have g:c<n:=F▸o;have m:ent M c (d.getD c 0).toNat=wOf M:=by
  have:=valsM_get a l g;rw[cD o,L]at this;rw[C];exact(Option.some.inj this).symm
 have v:∀p,p<n->wOf M<=ent M p (d.getD p 0).toNat:=λp hp=>by
  rw[C];exact Q _ (dh (valsM_get a l hp))
 have D:1<=wOf M:=by
  have:=x c g;have:=h.nn c (d.getD c 0).toNat;omega
 have G:wOf M<=R:=by
  rw[<-m,<-h.row c g];refine sm_one_le (λi=>h.nn c i) ?_;have:=B (d.getD c 0) (by rw[getD_lt (show c<d.length from l▸g)];exact db _);omega
 rw[<-s]at q x v m;refine⟨by rw[r,s],q,x,v,⟨c,g,m⟩,D,G,?_⟩;have:=h.add (w:= -wOf M) q λp hp=>by have:=v p hp;omega
 rw[nU];exact this
def it(Z:List (List Int))(T:Int):Nat->List (List Int)×Int
 | 0=>(Z,T)
 | k+1=>(addDeal (it Z T k).1 (dealOf (it Z T k).1) (-wOf (it Z T k).1),(it Z T k).2-wOf (it Z T k).1)
def lotAt(Z:List (List Int))(T:Int)(k:Nat):Int×List Int:=(wOf (it Z T k).1,dealOf (it Z T k).1)
def lotsL(Z:List (List Int))(T:Int)(k:Nat):List (Int×List Int):=(dc k).map (lotAt Z T)
def pn(n:Nat)(M:List (List Int)):Int:=sm n λp=>(cnt n λt=>decide (ent M p t≠0):Nat)
structure NS(n:Nat)(Z:List (List Int))(T:Int)(k:Nat):Prop where
 reg:Reg n (it Z T k).1 (it Z T k).2
 r0:0<=(it Z T k).2
 rT:(it Z T k).2<=T
 lots:∀j,j<k->Lp n (it Z T j).1 (it Z T j).2
 ent:∀p,p<n->∀t,ent Z p t=ent (it Z T k).1 p t+sm k λj=>if((lotAt Z T j).2.getD p 0).toNat=t then(lotAt Z T j).1 else 0
 wts:sm k (λj=>(lotAt Z T j).1)=T-(it Z T k).2
 kill:∀j,j<k->∃p,p<n/\HM.ent (it Z T k).1 p ((lotAt Z T j).2.getD p 0).toNat=0
 few:(it Z T k).2≠0->pn n (it Z T k).1+k<=pn n Z
 last:(it Z T k).2=0->(k:Int)+n<=pn n Z+1
 ap:∀i j,i<j->j<k->(lotAt Z T i).2≠(lotAt Z T j).2
theorem FH{S S':Nat->Bool}{c:Nat}:∀{n:Nat},(∀i,i<n->S i=true->S' i=true)->c<n->S' c=true->S c=false->cnt n S+1<=cnt n S':=by
 intro n h d h1 h2;have:cnt n (λi=>S i||i==c)=cnt n S+cnt n (λi=>i==c):=vL (λi a b=>by rw[eq_of_beq b,h2]at a;cases a) n;have h3:cnt n (λi=>S i||i==c)<=cnt n S':=uu λi e z=>by
  rcases j7.mp z with z|z
  ·exact h i e z
  ·rw[eq_of_beq z];exact h1
 have h4:=cnt_one c n;rw[if_pos d]at h4;omega
theorem FZ{f g:Nat->Int}{c:Nat}:∀{n:Nat},(∀i,i<n->f i<=g i)->c<n->f c+1<=g c->sm n f+1<=sm n g:=by
 intro n
 induction n with
 | zero=>intro _ h _;exact absurd h (gJ _)
 | succ n b=>
  intro h d h1;show sm n f+f n+1<=sm n g+g n;by_cases e:c=n
  ·subst e;have:=sm_le (n:=c) λi a=>h i (dw a);omega
  ·have:=b (λi a=>h i (dw a)) (by omega) h1;have:=h n (du n);omega
theorem it_ok{n:Nat}{Z:List (List Int)}{T:Int}(x:Reg n Z T)(u:0<T)(y:1<=n):∀k,(∀j,j<k->(it Z T j).2≠0)->NS n Z T k
 | 0,_=>by
  refine⟨x,dZ u,fH _,(λj h=>absurd h (gJ _)),(λp _ t=>?_),?_,(λj h=>absurd h (gJ _)),(λ_=>?_),(λh=>?_),(λi j _ h=>absurd h (gJ _))⟩
  ·show ent Z p t=ent Z p t+0
   omega
  ·show(0:Int)=T-T
   omega
  ·show pn n Z+0<=pn n Z
   omega
  ·exact absurd h (by show T≠0;exact dM u)
 | k+1,hk=>by
  have I:=it_ok x u y k λj d=>hk j (dw d)
  have v:=hk k (du k)
  have S:=I.reg.step (by have:=I.r0;omega) y
  have o:=λ {p} (hp:p<n) t=>Bl (w:= -wOf (it Z T k).1) I.reg S.pm.len (λt m=>S.pm.mem.mp m) hp t
  have bd:∀p,p<n->((dealOf (it Z T k).1).getD p 0).toNat<n:=λp hp=>by
   have B:=S.pm.len
   have:=S.pm.mem.mp (show(dealOf (it Z T k).1).getD p 0∈_ by rw[getD_lt (show p<_ from B▸hp)];exact db _)
   omega
  have r:∀p,p<n->∀t,ent (it Z T (k+1)).1 p t<=ent (it Z T k).1 p t:=λp hp t=>by
   show ent (addDeal (it Z T k).1 (dealOf (it Z T k).1) (-wOf (it Z T k).1)) p t<=_
   rw[o hp]
   have:=S.w1
   split <;> omega
  have s:=S.reg.nn
  have A:pn n (it Z T (k+1)).1+1<=pn n (it Z T k).1:=by
   have sub:∀p,p<n->∀t,t<n->decide (ent (it Z T (k+1)).1 p t≠0)=true->decide (ent (it Z T k).1 p t≠0)=true:=λp hp t _ h=>by
    have h1:=r p hp t
    have h2:0<=ent (it Z T (k+1)).1 p t:=s p t
    have h3:=of_decide_eq_true h
    exact decide_eq_true (by omega)
   obtain⟨b,a,l⟩:=S.eq
   refine FZ (c:=b) (λp hp=>?_) a ?_
   ·have:=uu (n:=n) λt m=>sub p hp t m
    exact f8.mpr this
   ·have:=FH (n:=n) (c:=((dealOf (it Z T k).1).getD b 0).toNat) (λt m=>sub b a t m) (bd b a) (decide_eq_true (S.ne b a)) (by
     refine decide_eq_false λz=>z ?_
     show ent (addDeal (it Z T k).1 (dealOf (it Z T k).1) (-wOf (it Z T k).1)) b _=0
     rw[o a,if_pos rfl,l]
     omega)
    omega
  refine⟨S.reg,?_,?_,λj d=>?_,λp hp t=>?_,?_,λj d=>?_,λh=>?_,λh=>?_,λi j q d=>?_⟩
  ·show 0<=(it Z T k).2-wOf (it Z T k).1
   have:=S.wR
   omega
  ·show(it Z T k).2-wOf (it Z T k).1<=T
   have:=S.w1
   have:=I.rT
   omega
  ·rcases f4.mp d with z|z
   ·exact I.lots j z
   ·rw[z];exact S
  ·rw[I.ent p hp t]
   show _=ent (addDeal (it Z T k).1 (dealOf (it Z T k).1) (-wOf (it Z T k).1)) p t+(sm k _+if((dealOf (it Z T k).1).getD p 0).toNat=t then wOf (it Z T k).1 else 0)
   rw[o hp]
   split <;> omega
  ·show sm k _+wOf (it Z T k).1=T-((it Z T k).2-wOf (it Z T k).1)
   have:=I.wts
   omega
  ·rcases f4.mp d with z|z
   ·obtain⟨p,hp,e⟩:=I.kill j z
    refine⟨p,hp,?_⟩
    have h1:=r p hp ((lotAt Z T j).2.getD p 0).toNat
    have h2:0<=HM.ent (it Z T (k+1)).1 p ((lotAt Z T j).2.getD p 0).toNat:=s _ _
    omega
   ·subst z
    obtain⟨b,a,l⟩:=S.eq
    refine⟨b,a,?_⟩
    show HM.ent (addDeal (it Z T j).1 (dealOf (it Z T j).1) (-wOf (it Z T j).1)) b ((dealOf (it Z T j).1).getD b 0).toNat=0
    rw[o a,if_pos rfl,l]
    omega
  ·have:=I.few v
   push_cast
   omega
  ·have h1:=I.few v
   have h2:(n:Int)<=pn n (it Z T k).1:=by
    have:=sm_le (n:=n) (f:=λ_=>if(true:Bool)=true then 1 else 0) (g:=λp=>(cnt n λt=>decide (HM.ent (it Z T k).1 p t≠0):Nat)) λp hp=>by
     have h3:cnt n (λi=>i==((dealOf (it Z T k).1).getD p 0).toNat)<=cnt n λt=>decide (HM.ent (it Z T k).1 p t≠0):=uu λi _ e=>by
      rw[eq_of_beq e]
      exact decide_eq_true (S.ne p hp)
     rw[cnt_one,if_pos (bd p hp)]at h3
     rw[if_pos rfl]
     exact f8.mpr h3
    rw[sm_cnt (λ_=>true) 1 n]at this
    have e:cnt n (λ_=>true)=n:=by unfold cnt;simp
    rw[e]at this
    show(n:Int)<=sm n _
    omega
   push_cast
   omega
  ·rcases f4.mp d with z|z
   ·exact I.ap i j q z
   ·subst z
    intro e
    obtain⟨p,hp,l⟩:=I.kill i q
    rw[e]at l
    exact S.ne p hp l
def Fin(Z:List (List Int))(T:Int)(k:Nat):Prop:=(it Z T k).2=0/\∀j,j<k->(it Z T j).2≠0
theorem pn_le{n:Nat}(a:n<=6)(M:List (List Int)):pn n M<=36:=by
 have cn:∀S:Nat->Bool,cnt n S<=n:=λS=>by
  have:=uu (n:=n) (S:=S) (S':=λ_=>true) λ_ _ _=>rfl;have e:cnt n (λ_=>true)=n:=by unfold cnt;simp
  exact cO this (gi e)
 have:=sm_le (n:=n) (f:=λp=>(cnt n λt=>decide (ent M p t≠0):Nat)) (g:=λ_=>if(true:Bool)=true then 6 else 0) λp _=>by
  have:=cn λt=>decide (ent M p t≠0);rw[if_pos rfl];exact f8.mpr (cO this a)
 rw[sm_cnt (λ_=>true) 6 n]at this;have:=cn λ_=>true;show sm n _<=36;omega
end HM
namespace L2
open PySem PySem.Spec PyProof.Rows
section
variable{prog:cY}{w:dn}{A:dD}{E:cz->cC->Prop}{s:cC}
def NQ(prog:cY)(w:dn)(h:Heap)(k:List Int)(v:cz):Prop:=∃b,v = .ref b/\IsTupleKey (intKind prog w) h k b
end
theorem yk:entryFor table "set.__len__"=some Builtin.«frozenset.__len__»:=ks (id':="frozenset.__len__") rfl rfl (by decide +kernel) rfl
theorem vG{prog:cY}{w:dn}:∀{r:List Int} {its:List cz},Vals (r.map V.int) its->ItemsAre (intKind prog w) r its
 | [],[],_=> .nil
 | i::r,v::its,h=>by
  cases h with
  | cons h1 h2=>
   obtain⟨t,rfl⟩:=h1
   exact .cons (beq_self_eq_true _) (vG h2)
theorem Inv.tupV{X:Cx}{b:List (cG×Obj)}{f:St}{H:Hp}{s:cC}(I:Inv X b f H s){v:V}{u:cz}{r:List Int}(h:IsR X.K H v r)(g:RelV v u):NQ X.prog X.w s.heap r u:=by
 obtain⟨a,rfl,d⟩:=h
 cases(show u=cQ a from g);obtain⟨c,e,⟨o,h1,h2,n,h3⟩,_⟩:=I.tuple d;exact⟨a,rfl,o,c.toArray,n,h1,h2,h3,vG e⟩
def RwFL(K:b3)(H:Hp)(T:Int)(v:V)(m:List Int):Prop:=∃a gs,v = .ref a/\SqL K H a gs/\dJ (IsF K H) gs (fr T m)
theorem RwFL.mono{K:b3}{H b:Hp}{T:Int}{v:V}{m:List Int}(e:Same H b)(h:RwFL K H T v m):RwFL K b T v m:=by
 obtain⟨a,c,rfl,h1,h2⟩:=h;exact⟨a,c,rfl,e.seq h1,tq e h2⟩
def RwFX(K:b3)(H:Hp)(T:Int)(lo:cG)(v:V)(m:List Int):Prop:=∃a gs,v = .ref a/\a≠lo/\H a=some (.lst gs)/\dJ (IsF K H) gs (fr T m)
theorem RwFX.fl{K:b3}{H:Hp}{T:Int}{lo:cG}{v:V}{m:List Int}(h:RwFX K H T lo v m):RwFL K H T v m:=by
 obtain⟨a,b,rfl,_,h1,h2⟩:=h;exact⟨a,b,rfl,SqL.of h1,h2⟩
theorem RwFX.mono{K:b3}{H b:Hp}{T:Int}{lo:cG}{v:V}{m:List Int}(e:Same H b)(h:RwFX K H T lo v m):RwFX K b T lo v m:=by
 obtain⟨a,c,rfl,h0,h1,h2⟩:=h;exact⟨a,c,rfl,h0,e _ _ h1,tq e h2⟩
theorem RwFX.over{K:b3}{H:Hp}{T:Int}{lo:cG}{ys c:List V}{v:V}{m:List Int}(h:RwFX K H T lo v m)(hp:H lo=some (.lst ys)):RwFX K (upd H lo (.lst c)) T lo v m:=by
 obtain⟨a,b,rfl,h0,h1,h2⟩:=h;exact⟨a,b,rfl,h0,by rw[td h0];exact h1,Paired.mapP h2 λ_ _ q=>q.over hp⟩
theorem IsLot.over{K:b3}{H:Hp}{T:Int}{v:V}{l:K7}{p:cG}{ys b:List V}(h:IsLot K H T v l)(hp:H p=some (.lst ys)):IsLot K (upd H p (.lst b)) T v l:=by
 obtain⟨a,f,g,rfl,h1,h2,h3⟩:=h;exact⟨a,f,g,rfl,vW h1 hp,h2.over hp,vW h3 hp⟩
theorem DV{a b T:Int}(d:T≠0):Km (FQ.red a T) (FQ.red b T)=FQ.red (a-b) T:=by
 have:=yY (a:=a) (b:=b) (c:=1) d (by decide);rw[ir,ir]at this;exact this
theorem Ae(T:Int)(m:List Int):(fr T m).length=m.length:=by unfold fr;rw[cx]
structure MZ(n:Nat)(T:Int)(M:List (List Int)):Prop where
 lo:1<=n
 hi:n<=6
 t0:0<T
 t1:T<2^80
 len:M.length=n
 cols:∀r∈M,r.length=n
def IG(K:b3)(m:Nat):Sp:=λvs H Q _=>∃(l b:cG) (rs:List V) (M:List (List Int)) (T:Int) (n k:Nat) (bs:List Int),vs=[.ref l,.ref b]/\SqL K H l rs/\dJ (RwFL K H T) rs M/\MZ n T M/\SqT K H b (bs.map V.int)/\bs.length+k=n/\k<=m/\
 (HM.within M k bs=none->∀H',Same H H'->Q .non H')/\(∀d,HM.within M k bs=some d->∀p H',Same H H'->SqT K H' p (d.map V.int)->Q (.ref p) H')
def La(K:b3):Sp:=λvs H Q _=>∃(r w:cG) (gs:List V) (m:List Int) (t T x:Int),vs=[.ref r,.int t,.ref w]/\SqL K H r gs/\dJ (IsF K H) gs (fr T m)/\IsF K H (.ref w) (FQ.red x T)/\(0<T/\T<2^80)/\(0<=t/\t<m.length)/\m.length<=6/\(0<=m.getD t.toNat 0/\m.getD t.toNat 0<=T)/\(0<=x/\x<=T)/\
 ∀p gs' H',Same H H'->H p=none->H' p=some (.lst gs')->dJ (IsF K H') gs' (fr T (LM.addOne m t (-x)))->Q (.ref p) H'
structure K3(n:Nat)(T:Int)(Z:List (List Int)):Prop where
 lo:1<=n
 hi:n<=6
 t0:0<T
 t1:T<2^80
 reg:HM.Reg n Z T
def JH(K:b3):Sp:=λvs H Q _=>∃(a:cG) (us:List V) (Z:List (List Int)) (T:Int) (n:Nat),vs=[.ref a]/\SqL K H a us/\dJ (RwFT K H T) us Z/\K3 n T Z/\
 ∀k p ls H',HM.Fin Z T k->Same H H'->H p=none->H' p=some (.lst ls)->dJ (IsLot K H' T) ls (HM.lotsL Z T k)->Q (.ref p) H'
theorem vD{T:Int}(b:0<T):∀(l:List Int) (s:Int),Gs (FQ.red s T) (l.map λx=>FQ.red x T)=FQ.red (HM.minGo s l) T
 | [],s=>rfl
 | a::l,s=>by
  show Gs (if Gx (FQ.red a T) (FQ.red s T)=true then FQ.red a T else FQ.red s T) (l.map λx=>FQ.red x T)=FQ.red (HM.minGo (if a<s then a else s) l) T
  rw[zl b b]
  by_cases h:a<s
  ·rw[if_pos (decide_eq_true (gP h b)),if_pos h]
   exact vD b l a
  ·rw[if_neg (by rw[decide_eq_true_iff];exact λz=>h (g9 z (dZ b))),if_neg h]
   exact vD b l s
theorem A6{T:Int}(b:0<T){l:List Int}(h:l≠[]):IH (l.map λx=>FQ.red x T)=FQ.red (HM.minL l) T:=by
 cases l with
 | nil=>exact absurd rfl h
 | cons a l=>exact vD b (a::l) a
abbrev Gy:=List Int×List Int
def IsPK(prog:cY)(w:dn)(h:Heap)(k:Gy)(a:cG):Prop:=
 ∃o n x y,h.get? a=some o/\o.cls = .type "tuple"/\o.data = .seq #[.ref x,.ref y] n/\IsTupleKey (intKind prog w) h k.1 x/\IsTupleKey (intKind prog w) h k.2 y
section
variable{prog:cY}{w:dn}{A:dD}{E:cz->cC->Prop}{s:cC}
theorem IsPK.typeIs{k:Gy}{a:cG}(x:IsPK prog w s.heap k a):s.TypeIs (.ref a) "tuple":=let⟨o,_,_,_,c,b,_⟩:=x;⟨o,c,b⟩
def Kt(prog:cY)(w:dn)(k:Gy):Int:=reduceHash (jd [tupleKeyHash (intKind prog w) k.1,tupleKeyHash (intKind prog w) k.2])
theorem Cy{k:Gy}{a:cG}{Q:Int->cC->Prop}(c:A.units+2<cLine)(hk:IsPK prog w s.heap k a)(h:Q (Kt prog w k) {s with toks:=s.toks+((k.1.length+1)+(k.2.length+1)+1)}):wpAny (model prog w) A (pyHash (.ref a)) Q E s:=by
 have b:=hk.typeIs;obtain⟨o,n,x,y,d,_,e,h1,h2⟩:=hk;unfold pyHash pyHashByItsType;refine b0 (wpAny_cRoomFor_or (.inr (eX (eX c))) ?_);refine b0 (gr b jE.lookup ?_);show wpAny _ _ (if(some (jQ "tuple.__hash__")==some cz.none)=true then _ else _) Q E s;rw[if_neg (by rw[beq_builtin_none];exact dj)];refine b0 (gr b jE.lookup ?_);show wpAny _ _ (callSpecialIfBoundUnlessNone? (.ref a) "__hash__" _ >>= _) Q E s;refine b0 (wpAny_callSpecialIfBoundUnlessNone?_slot b jE (dY jE b F.entry_tuple_hash ?_ (F.args_tuple_hash_1 _)));show wpAny _ _ (qe (.ref a) >>= _) _ _ s;refine b0 (kA d e ?_);rw[<-iD,show #[cQ x,cQ y].toList=[cQ x,cQ y]from rfl];rw[eA,bind_assoc];refine b0 (b0 (nV (show A.units+1<cLine from eX c) h1 ?_));refine b4 ?_;dsimp only;rw[eA,bind_assoc];refine b0 (b0 (nV (s:={s with toks:=s.toks+(k.1.length+1)}) (show A.units+1<cLine by omega) h2 ?_));refine b4 ?_;dsimp only;rw[gy];refine b0 (b4 ?_);refine wpAny_ret_mkInt ?_;show wpAny _ _ (if(decide (-(2:Int)^63<=jd [tupleKeyHash (intKind prog w) k.1,tupleKeyHash (intKind prog w) k.2])&&decide (jd [tupleKeyHash (intKind prog w) k.1,tupleKeyHash (intKind prog w) k.2]<2^63))=true then _ else _) Q E _;unfold Kt reduceHash at h;split at h
 ·rename_i hr
  rw[if_pos hr];exact b4 (by simpa [nw]using h)
 ·rename_i hr
  rw[if_neg hr];exact b0 (i4 (b4 (by simpa [nw]using h)))
theorem IsPK.inj{h:Heap}{a:cG}{k j:Gy}(r:IsPK prog w h k a)(s:IsPK prog w h j a):k=j:=by
 obtain⟨o,n,x,y,q,_,m,h1,h2⟩:=r;obtain⟨z,t,v,u,b,_,c,d,g⟩:=s;rw[q]at b
 cases b;rw[m]at c;injection c with e _
 have f:=congrArg n5 e;simp only[List.cons.injEq,cQ.injEq,and_true]at f;obtain⟨p,l⟩:=f;subst p l;exact Prod.ext (h1.inj d) (h2.inj g)
theorem IsPK.keeps{h h':Heap}{k:Gy}{a d:cG}{o:Obj}{es ep}(m:IsPK prog w h k a)(c:h.get? d=some o)(f:o.data = .dict es ep)(e:fS d h h'):IsPK prog w h' k a:=by
 obtain⟨j,n,x,y,h0,l,b,h1,h2⟩:=m;have g:a≠d:=by
  rintro rfl;rw[c]at h0
  cases h0;rw[f]at b
  cases b
 exact⟨j,n,x,y,(e.2 a g).trans h0,l,b,h1.keeps c f e,h2.keeps c f e⟩
theorem Co{k g:Gy}{a b:cG}{Q:Bool->cC->Prop}(I:A.units+2<cLine)(m:IsPK prog w s.heap k a)(p:IsPK prog w s.heap g b)(h:Q (decide (k=g)) s):wpAny (model prog w) A (eqBool (.ref a) (.ref b)) Q E s:=by
 unfold eqBool
 try with_reducible refine dI ?_
 show wpAny _ _ (if(cQ a==cQ b)=true then _ else _) Q E s;by_cases c:(cQ a==cQ b)=true
 ·rw[if_pos c];have e:a=b:=by have:=eq_of_beq c;injection this
  subst e;have e:=m.inj p;subst e;exact b0 (i4 (b4 (by simpa using h)))
 ·rw[if_neg c];have l:=m.typeIs;have j:=p.typeIs;obtain⟨o,n,x,y,D,_,C,h1,h2⟩:=m;obtain⟨H,G,u,r,v,_,B,q,t⟩:=p;refine b0 (wpAny_richCompare_same_room (op:= .Eq) l j j1 (dY j1 l F.entry_tuple_eq ?_ (F.args_tuple_eq_2 _ _)) (by omega));show wpAny _ _ (isInstance (.ref b) (.type "tuple") >>= _) _ _ s;refine b0 (eR j jM ?_);simp only[ii,gb,if_false];refine b0 (kA D C ?_);refine b0 (kA v B ?_);rw[show List.zip #[cQ x,cQ y].toList #[cQ u,cQ r].toList=[(cQ x,cQ u),(cQ y,cQ r)]from rfl];rw[eA,bind_assoc];refine b0 (b0 (nW (show A.units+1<cLine by omega) h1 q ?_));by_cases f:k.1=g.1
  ·rw[decide_eq_true f];simp only[ii,gb,if_false];refine b4 ?_;dsimp only;rw[eA,bind_assoc];refine b0 (b0 (nW (show A.units+1<cLine by omega) h2 t ?_));by_cases d:k.2=g.2
   ·rw[decide_eq_true d];simp only[ii,gb,if_false];refine b4 ?_;dsimp only;rw[gy];refine b0 (b4 (b4 ⟨_,rfl,(λe=>nomatch e),eU ?_⟩));rw[decide_eq_true (Prod.ext f d)]at h;exact h
   ·rw[decide_eq_false d];simp only[qf,if_true];rw[decide_eq_false (λz=>d (by rw[z]))]at h;exact b0 (b4 (b4 (b0 (b4 (b4 ⟨_,rfl,(λe=>nomatch e),eU h⟩)))))
  ·rw[decide_eq_false f];simp only[qf,if_true];rw[decide_eq_false (λz=>f (by rw[z]))]at h;exact b0 (b4 (b4 (b0 (b4 (b4 ⟨_,rfl,(λe=>nomatch e),eU h⟩)))))
theorem zT{f:Nat}{p:List Int}{a:cG}{Q:Bool->cC->Prop}(hk:IsTupleKey (intKind prog w) s.heap p a)(h:Q true s):wpAny (model prog w) A (eqIsQuiet (f+1) (.ref a)) Q E s:=by
 have e:=hk.typeIs;obtain⟨o,b,n,l,_,k,m⟩:=hk;unfold eqIsQuiet;refine b0 (gr e j1.lookup ?_);show wpAny _ _ (isInstance (.ref a) (.type "tuple") >>= _) _ _ s;refine b0 (eR e jM ?_);simp only[ii,gb,if_false];refine b0 (f6 l k ?_);refine b0 ?_;show wpAny _ _ (forIn b _ _) _ _ s;rw[<-iD];refine lM _ (λrest r c=>r.1=none/\c=s/\∀v∈rest,carriedByValue v=true) _ ?_ ?_ _ _ ⟨rfl,rfl,m.byValue⟩
 ·rintro v rest r c ⟨_,rfl,d⟩;rw[eqIsQuiet_byValue _ (d v cM)];refine b0 (b4 ?_);simp only[ii,gb,if_false];exact b4 ⟨rfl,rfl,λu j=>d u (cN _ j)⟩
 ·rintro⟨t,q⟩ c ⟨g,rfl,_⟩;simp only at g;subst g;exact b4 h
theorem C4{k:Gy}{a:cG}{Q:Bool->cC->Prop}(hk:IsPK prog w s.heap k a)(h:Q true s):wpAny (model prog w) A (eqIsQuiet 8 (.ref a)) Q E s:=by
 have b:=hk.typeIs;obtain⟨o,n,x,y,c,_,d,h1,h2⟩:=hk;unfold eqIsQuiet;refine b0 (gr b j1.lookup ?_);show wpAny _ _ (isInstance (.ref a) (.type "tuple") >>= _) _ _ s;refine b0 (eR b jM ?_);simp only[ii,gb,if_false];refine b0 (f6 c d ?_);show wpAny _ _ (forIn #[cQ x,cQ y] _ _ >>= _) _ _ s;rw[<-iD,show #[cQ x,cQ y].toList=[cQ x,cQ y]from rfl,eA,bind_assoc];refine b0 (b0 (zT h1 ?_));simp only[ii,gb,if_false];refine b4 ?_;dsimp only;rw[eA,bind_assoc];refine b0 (b0 (zT h2 ?_));simp only[ii,gb,if_false];refine b4 ?_;dsimp only;rw[gy];exact b0 (b4 (b4 h))
end
def Lq(prog:cY)(w:dn):HeapKind prog w Gy where
 is:=IsPK prog w
 hash:=Kt prog w
 draws:=λk=>(k.1.length+1)+(k.2.length+1)+1
 room:=λA=>A.units+2<cLine
 inj:=λa b=>a.inj b
 keeps:=λx d e f=>x.keeps d e f
 pyHash:=λc hk h=>Cy c hk h
 eqBool:=λc a b h=>Co c a b h
 quiet:=λhk h=>C4 hk h
structure KW(κ:Type)[DecidableEq κ] where
 knd:(prog:cY)->(w:dn)->HeapKind prog w κ
 at':b3->Hp->κ->cG->Prop
 ok:∀{X:Cx} {pins:List (cG×Obj)} {σ:St} {H:Hp} {s:cC} {k:κ} {a:cG},Inv X pins σ H s->at' X.K H k a->(knd X.prog X.w).is s.heap k a
 map:∀{K:b3} {H H':Hp} {k:κ} {a:cG},(∀b xs,SqT K H b xs->SqT K H' b xs)->at' K H k a->at' K H' k a
 room:∀{prog:cY} {w:dn} {A:dD},A.units+3<cLine->(knd prog w).room A.in1
 room':∀{prog:cY} {w:dn} {A:dD},A.units+3<cLine->(knd prog w).room A
def DXe{P:cY}{w:dn}{a:Type}[DecidableEq a](knd:HeapKind P w a)(xs:List (a×cG×cz))(b:Nat)(d:cG)(h:Heap):Prop:=
 (d==sysModules)=false/\∃o es,h.get? d=some o/\o.ExactDict/\o.data = .dict es b/\es.toList=xs.map (entryOfKey knd)/\(xs.map (·.1)).Nodup
def DictE{a:Type}[DecidableEq a](W:KW a)(P:cY)(w:dn)(K:b3)(H:Hp)(d:cG)(b:Nat)(kvs:List (a×Int)):Prop:=
 ∃xs,H d=some (.ext (DXe (W.knd P w) xs b d))/\dJ (λ(p:a×Int) (q:a×cG×cz)=>p.1=q.1/\(∃t,q.2.2=d4 p.2 t)/\W.at' K H p.1 q.2.1) kvs xs
def DictI{a:Type}[DecidableEq a](W:KW a)(P:cY)(w:dn)(K:b3)(H:Hp)(d:cG)(kvs:List (a×Int)):Prop:=∃ep,DictE W P w K H d ep kvs
section
variable{κ:Type}[DecidableEq κ]{W:KW κ}{P:cY}{w:dn}{K:b3}{H H':Hp}{d:cG}{ep:Nat}{kvs:List (κ×Int)}
theorem DictE.mono(e:Same H H')(h:DictE W P w K H d ep kvs):DictE W P w K H' d ep kvs:=by
 obtain⟨f,h1,h2⟩:=h;exact⟨f,e _ _ h1,Paired.mapP h2 λ_ _ ⟨a,b,c⟩=>⟨a,b,W.map (λ_ _ q=>e.tup q) c⟩⟩
theorem DictI.mono(e:Same H H')(h:DictI W P w K H d kvs):DictI W P w K H' d kvs:=by
 obtain⟨a,h⟩:=h;exact⟨a,h.mono e⟩
theorem xp{p a:cG}{b:Heap->Prop}{o:HO}{xs:List V}(h:SqT K H a xs)(hp:H p=some (.ext b)):SqT K (upd H p o) a xs:=by
 rcases h with(h|⟨u,h⟩)|h
 ·exact .inl (.inl (by rw[td (λz=>by rw[z,hp]at h;cases h)];exact h))
 ·exact .inl (.inr ⟨u,by rw[td (λz=>by rw[z,hp]at h;cases h)];exact h⟩)
 ·exact .inr h
theorem DictE.overX{p:cG}{g:Heap->Prop}{o:HO}(h:DictE W P w K H d ep kvs)(hp:H p=some (.ext g))(e:d≠p):DictE W P w K (upd H p o) d ep kvs:=by
 obtain⟨f,h1,h2⟩:=h;exact⟨f,by rw[td e];exact h1,Paired.mapP h2 λ_ _ ⟨a,b,c⟩=>⟨a,b,W.map (λ_ _ q=>xp q hp) c⟩⟩
theorem DXe.frame{knd:HeapKind P w κ}{xs:List (κ×cG×cz)}{h1 h2:Heap}(h:DXe knd xs ep d h1)(k:∀o,h1.get? d=some o->h2.get? d=some o):DXe knd xs ep d h2:=by
 obtain⟨a,o,e,b,c⟩:=h;exact⟨a,o,e,k o b,c⟩
theorem yj{knd:HeapKind P w κ}{xs:List (κ×cG×cz)}{h:Heap}(c:DXe knd xs ep d h):ObjOk P w H h d (.ext (DXe knd xs ep d)):=
 ⟨c,let⟨_,o,_,b,_⟩:=c;⟨o,b⟩,λ_ _ a b=>a.frame b⟩
end
section
variable{κ:Type}[DecidableEq κ]{W:KW κ}{X:Cx}{pins:List (cG×Obj)}{σ:St}{H:Hp}{s:cC}{d:cG}{ep:Nat}{kvs:List (κ×Int)}{A:dD}{E:cz->cC->Prop}
theorem Inv.dx(I:Inv X pins σ H s)(h:DictE W X.prog X.w X.K H d ep kvs):∃xs,DXe (W.knd X.prog X.w) xs ep d s.heap/\s.heap.DictOfH (W.knd X.prog X.w) d xs/\dJ (λ(p:κ×Int) (q:κ×cG×cz)=>p.1=q.1/\(∃t,q.2.2=d4 p.2 t)/\W.at' X.K H p.1 q.2.1) kvs xs:=by
 obtain⟨xs,h1,h2⟩:=h;obtain⟨j,_,_⟩:=I.hok d _ h1;obtain⟨h3,o,l,a,b,c,e,f⟩:=id j;refine⟨xs,j,⟨o,l,ep,a,b,c,e,λq m=>?_,f⟩,h2⟩;obtain⟨i,n,r⟩:=eV.mp m;obtain⟨p,hp,k,_,g⟩:=Paired.get h2 (cD n);rw[r]at k g;rw[<-k];exact W.ok I g
theorem wZ{xs:List (κ×cG×cz)}{K:b3}{H:Hp}(k:κ):∀{kvs:List (κ×Int)},dJ (λ(p:κ×Int) (q:κ×cG×cz)=>p.1=q.1/\(∃t,q.2.2=d4 p.2 t)/\W.at' K H p.1 q.2.1) kvs xs->(kvs.lookup k=none/\atKey xs k=none)\/∃n a t,kvs.lookup k=some n/\atKey xs k=some (a,d4 n t):=by
 induction xs with
 | nil=>
  intro kvs h
  cases h;exact .inl ⟨rfl,rfl⟩
 | cons q xs g=>
  intro kvs h
  cases h with
  | @cons p _ ps _ hp hr=>
   obtain⟨d,⟨t,f⟩,_⟩:=hp;obtain⟨b,pn⟩:=p;obtain⟨l,c,j⟩:=q;dsimp only at d f;subst d f;by_cases e:b=k
   ·subst e;refine .inr ⟨pn,c,t,?_,?_⟩
    ·simp[ib]
    ·simp[atKey]
   ·have h1:((b,pn)::ps).lookup k=ps.lookup k:=by
     rw[d3,show(k==b)=false from beq_false_of_ne (Ne.symm e)]
    have h2:atKey ((b,c,d4 pn t)::xs) k=atKey xs k:=by
     unfold atKey;rw[List.find?_cons_of_neg (by simpa using e)]
    rw[h1,h2];exact g hr
def M1(W:KW κ)(P:cY)(w:dn)(K:b3)(h ty g:TE):TE:=λb H Q=>h b H λx e=>∃(d:cG),x = .ref d/\(∃kvs,DictI W P w K e d kvs)/\ty b e λy f=>g b f λz c=>∃(a:cG) (k:κ) (n:Int) (kvs:List (κ×Int)),y = .ref a/\z = .int n/\DictI W P w K c d kvs/\W.at' K c k a/\Q (.int ((kvs.lookup k).getD n)) c
theorem zE{P:cY}{w:dn}{K:b3}{o e f:Expr}{l c:Pos}{S ty T:TE}{j:Nat}(hP:X.prog=P)(hw:X.w=w)(hK:X.K=K)(hr:Room j X.A)(ho:PE X o S)(he:PE X e ty)(hf:PE X f T)(r:attributeBase o "get" X.env (eval o X.env)=eval o X.env:=by rfl)
  (J:((backTo c (dq [e,f] X.env)).all (λx=>!x.1)&&(backToKw c (keywordEach [] X.env)).all (λx=>x.1.isSome)&&decide (([e,f]:List Expr).length+([]:List Keyword).length+(if([]:List Keyword).isEmpty then 0 else 1)<30))=true:=by rfl)
  (v:(l.endLine==c.line)=true:=by rfl)(p:backTo c (dq [e,f] X.env)=[(false,eval e X.env),(false,eval f X.env)]:=by rfl):PE X (.Call (.Attribute o "get" l) [e,f] [] c) (M1 W P w K S ty T):=by
 subst hP hw hK
 intro g s E H Q I h
 refine oK r J v lN mI PySem.F.type_dict_get (Gh (ho g s E H _ I h) λu s1 ⟨x,Z,O,rx,d,ex,⟨aa,ah,R⟩,q1⟩=>?_)
 subst ex
 obtain rfl:u=cQ d:=rx
 obtain⟨ag,⟨ab,o1,ae,g1,g2,_⟩,M,_⟩:=O.dx R
 refine⟨M.typeIs,λb z=>?_,?_⟩
 ·cases z
  exact⟨o1,g1,g2.2.1⟩
 rw[p]
 refine gM rfl (iU (fP (Gh (he g s1 E Z _ O q1) λiv s2 ⟨y,U,I2,Y,q2⟩=>fP (Gh (hf g s2 E U _ I2 q2) λfv s3 ⟨z,H3,D,V,a,k,n,af,ey,ez,⟨ac,N⟩,hk,q3⟩=>kO ?_))))
 subst ey ez
 cases(show iv=cQ a from Y)
 obtain⟨tn,rfl⟩:=V
 obtain⟨xs,⟨q,_⟩,B,L⟩:=D.dx N
 refine rA mI B.typeIs PySem.F.entry_dict_get (PySem.F.args_dict_get_3 _ _ _) (meetsH_dict_get_default (W.knd X.prog X.w) d a q (.int n tn)) ⟨W.room (by have:=hr.units;exact dP (j8 (by decide) _) this),k,xs,W.ok D hk,B,?_⟩
 refine⟨_,H3,D.tok _,?_,q3⟩
 rcases wZ k L with⟨G,C⟩|⟨m,b,t,G,C⟩
 ·rw[G,C];exact⟨_,rfl⟩
 ·rw[G,C];exact⟨_,rfl⟩
def Ii(kvs:List (κ×Int))(k:κ)(n:Int):List (κ×Int):=if(kvs.lookup k).isSome=true then kvs.map (λp=>if p.1=k then(p.1,n)else p)else kvs++[(k,n)]
theorem Aw{K:b3}{H r:Hp}{xs:List (κ×cG×cz)}{kvs:List (κ×Int)}{k:κ}{a:cG}{n:Int}{t:Tok}(d:dJ (λ(p:κ×Int) (q:κ×cG×cz)=>p.1=q.1/\(∃t,q.2.2=d4 p.2 t)/\W.at' K H p.1 q.2.1) kvs xs)
  (l:∀(k':κ) (b:cG),W.at' K H k' b->W.at' K r k' b)(hk:W.at' K H k a):dJ (λ(p:κ×Int) (q:κ×cG×cz)=>p.1=q.1/\(∃t,q.2.2=d4 p.2 t)/\W.at' K r p.1 q.2.1) (Ii kvs k n) (storedH xs k a (.int n t)):=by
 unfold Ii
 rcases wZ k d with⟨g,j⟩|⟨m,b,s,g,j⟩
 ·rw[g,storedH_new j]
  exact Paired.app (Paired.mapP d λ_ _ ⟨c,o,f⟩=>⟨c,o,l _ _ f⟩) (.cons ⟨rfl,⟨t,rfl⟩,l _ _ hk⟩ .nil)
 ·rw[g,storedH_old j]
  show dJ _ (kvs.map λp=>if p.1=k then(p.1,n)else p) (xs.map (putAt k (.int n t)))
  clear g j
  induction d with
  | nil=>exact .nil
  | @cons p q ps qs h _ ih=>
   obtain⟨c,o,f⟩:=h
   refine .cons ?_ ih
   unfold putAt
   dsimp only
   by_cases e:p.1=k
   ·rw[if_pos e,if_pos (c▸e)]
    exact⟨c,⟨t,rfl⟩,l _ _ f⟩
   ·rw[if_neg e,if_neg (λz=>e (c.trans z))]
    exact⟨c,o,l _ _ f⟩
def Nc(W:KW κ)(P:cY)(w:dn)(K:b3):V->V->V->Hp->(Hp->Prop)->Prop:=λo i v H Q=>∃(d a:cG) (k:κ) (n:Int) (kvs:List (κ×Int)),o = .ref d/\i = .ref a/\v = .int n/\DictI W P w K H d kvs/\W.at' K H k a/\kvs.length<=1000000/\
 ∀H',(∃φ φ',H d=some (.ext φ)/\H'=upd H d (.ext φ'))->DictI W P w K H' d (Ii kvs k n)->Q H'
theorem FB{P:cY}{w:dn}{K:b3}{j:Nat}(hP:X.prog=P)(hw:X.w=w)(hK:X.K=K)(hr:Room j X.A):LS X (Nc W P w K):=by
 subst hP hw hK;intro N s σ H o i v ov iv u Q I O ri J h;obtain⟨d,a,k,n,ab,rfl,rfl,rfl,⟨ep,B⟩,hk,Z,q⟩:=h
 cases O
 cases ri;obtain⟨t,rfl⟩:=J;obtain⟨f,⟨r,o1,aa,g1,g2,g3,_⟩,S,g⟩:=I.dx B;have C:=Paired.len g;refine wpAny_setItem_heap (W.room (by have:=hr.units;exact dP (j8 (by decide) _) this)) (W.ok I hk) S (λU F G=>?_) (cO (show f.length<=1000000 from C▸Z) (by decide));obtain⟨y,D,c,E,V,T,Y,a5,M⟩:=F;obtain⟨ac,h1,h2⟩:=B;have R:DXe (W.knd X.prog X.w) (storedH f k a (.int n t)) c d U:=⟨r,y,D,E,V,T,Y,M⟩;have L:=I.write (t':=s.toks+(W.knd X.prog X.w).draws k) (x:=d) (e:=d) (o:= .ext (DXe (W.knd X.prog X.w) (storedH f k a (.int n t)) c d)) (by rw[h1];trivial) (.inl rfl) (λb ob l p=>(G.2 b l).trans p) ⟨y,E⟩ (yj R);refine⟨_,L,q _ ⟨_,_,h1,rfl⟩ ⟨c,storedH f k a (.int n t),sQ,?_⟩⟩;have z:∀(m:κ) (b:cG),W.at' X.K H m b->W.at' X.K (upd H d (.ext (DXe (W.knd X.prog X.w) (storedH f k a (.int n t)) c d))) m b:=λm b l=>W.map (λ_ _ p=>xp p h1) l;generalize upd H d (.ext (DXe (W.knd X.prog X.w) (storedH f k a (.int n t)) c d))=Hn at z;exact Aw g z hk
end
section
variable{κ:Type}[DecidableEq κ]{W:KW κ}{X:Cx}
theorem Inv.bigS{a:List (cG×Obj)}{b:St}{H:Hp}{s:cC}(I:Inv X a b H s):sysModules<s.heap.objs.size:=oM (by decide) ((I.mod.glob.keeps I.bk).lt)
theorem B9{P:cY}{w:dn}(knd:HeapKind P w κ)(h:Heap)(a:sysModules<h.objs.size):DXe knd [] 0 h.objs.size (h.push {cls:= .type "dict",data:= .dict #[]}):=
 ⟨beq_eq_false_iff_ne.mpr (Ne.symm (dr a)),_,#[],cP _ rfl,⟨rfl,rfl,rfl⟩,rfl,rfl,io⟩
def ML(W:KW κ)(P:cY)(w:dn)(K:b3):TE:=λ_ H Q=>∀d H',H d=none->(∃φ,H'=upd H d (.ext φ))->DictI W P w K H' d []->Q (.ref d) H'
theorem BJ{P:cY}{w:dn}{K:b3}{pos:Pos}(c:X.prog=P)(hw:X.w=w)(d:X.K=K):PE X (.Dict [] [] pos) (ML W P w K):=by
 subst c hw d;exact λb s e H Q I h=>o9 ⟨.ref s.heap.objs.size,_,I.laid (a:=s.heap.objs.size) (o:= .ext (DXe (W.knd X.prog X.w) [] 0 s.heap.objs.size)) (t':=s.toks) (λ_ _ q=>cF _ q) (cI _) (yj (B9 _ s.heap I.bigS)),rfl,
  h _ _ (I.hok.fresh (cI _)) ⟨_,rfl⟩ ⟨0,[],sQ,.nil⟩⟩
def My(W:KW κ)(P:cY)(w:dn)(K:b3)(tk f:TE):TE:=λc H Q=>∀d H1,H d=none->(∃φ,H1=upd H d (.ext φ))->DictI W P w K H1 d []->tk c H1 λx e=>f c e λy b=>∃(a:cG) (k:κ) (n:Int),x = .ref a/\y = .int n/\W.at' K b k a/\DictI W P w K b d []/\
 ∀H',(∃φ φ',b d=some (.ext φ)/\H'=upd b d (.ext φ'))->DictI W P w K H' d [(k,n)]->Q (.ref d) H'
theorem DR{P:cY}{w:dn}{K:b3}{j:Nat}{F G:Expr}{pos:Pos}{tk J:TE}(hP:X.prog=P)(hw:X.w=w)(hK:X.K=K)(hr:Room j X.A)(hk:PE X F tk)(hv:PE X G J):PE X (.Dict [some F] [G] pos) (My W P w K tk J):=by
 subst hP hw hK;intro c s B H Q I h;have U:=I.laid (a:=s.heap.objs.size) (o:= .ext (DXe (W.knd X.prog X.w) [] 0 s.heap.objs.size)) (t':=s.toks) (h':=s.heap.push {cls:= .type "dict",data:= .dict #[]}) (λ_ _ q=>cF _ q) (cI _) (yj (B9 _ s.heap I.bigS));have S:=h s.heap.objs.size _ (I.hok.fresh (cI _)) ⟨_,rfl⟩ ⟨0,[],sQ,.nil⟩;refine wpAny_Dict_any rfl rfl (by simp) (by show 1<=15;decide) ?_;refine pairTrees_cons_walk (Gh (hk c _ B _ _ U S) λu Y ⟨x,M,O,Z,q2⟩=>Gh (hv c Y B M _ O q2) λv s2 ⟨y,H3,f,N,a,k,n,ex,ey,z,⟨ep,r⟩,q3⟩=>pairTrees_nil_walk ?_);subst ex ey
 cases(show u=cQ a from Z);obtain⟨t,rfl⟩:=N;obtain⟨xs,⟨l,_⟩,hd,p⟩:=f.dx r
 cases p;unfold storeAll;rw[eA];refine b0 (b0 (wpAny_dictSet_heap (hsz:=dz _) (W.room' (by have:=hr.units;omega)) (W.ok f z) hd λh' E L=>b4 ?_));dsimp only;rw[gy];refine b4 ?_;obtain⟨m,C,d,D,a2,a3,a4,a5,R⟩:=E;obtain⟨aa,h1,h2⟩:=r;have nx:DXe (W.knd X.prog X.w) (storedH [] k a (.int n t)) d s.heap.objs.size h':=⟨l,m,C,D,a2,a3,a4,R⟩;have T:=f.write (t':=s2.toks+(W.knd X.prog X.w).draws k) (x:=s.heap.objs.size) (e:=s.heap.objs.size) (o:= .ext (DXe (W.knd X.prog X.w) (storedH [] k a (.int n t)) d s.heap.objs.size)) (by rw[h1];trivial) (.inl rfl) (λb ob V g=>(L.2 b V).trans g) ⟨m,D⟩ (yj nx);refine⟨.ref s.heap.objs.size,_,T,rfl,q3 _ ⟨_,_,h1,rfl⟩ ⟨d,storedH [] k a (.int n t),sQ,?_⟩⟩;exact .cons ⟨rfl,⟨t,rfl⟩,W.map (λ_ _ g=>xp g h1) z⟩ .nil
end
def RawD(h:Heap)(d:cG)(a:Array DictEntry)(b:Nat):Prop:=∃o,h.get? d=some o/\o.ExactDict/\o.data = .dict a b
section
variable{prog:cY}{w:dn}{A:dD}{E:cz->cC->Prop}{s:cC}
theorem RawD.ty{d:cG}{c:Array DictEntry}{e:Nat}(r:RawD s.heap d c e):s.TypeIs (.ref d) "dict":=let⟨o,a,b,_⟩:=r;⟨o,a,b.1⟩
theorem yW(d:cG)(a:(d==sysModules)=false):MeetsIn prog w (Builtin.«dict.items» ⟨[.ref d],[]⟩) (λ_ R s=>(∃es ep,RawD s.heap d es ep)/\R (.ok (.ret (.ref s.heap.objs.size))) {s with heap:=s.heap.push {cls:= .type "dict_items",data:= .fields #[.ref d]}}):=
 .of_wp λA R s ⟨⟨es,ep,r⟩,h⟩=>by
  unfold Builtin.«dict.items» sr rG
  refine b0 (b0 (wpAny_notOrdered_dict r.ty (b4 ?_)))
  rw[if_neg (by rw[a];exact dj)]
  exact b0 (b4 (b0 (fj (b4 ⟨_,rfl,h⟩))))
theorem zN{v d:cG}{f:Array DictEntry}{g:Nat}{Q:cz->cC->Prop}(b:s.heap.IsItemsView v d)(r:RawD s.heap d f g)
  (k:Q (.ref s.heap.objs.size) {s with heap:=s.heap.push {cls:= .type "dict_itemiterator",data:= .fields #[.none,.bool false,.ref d,.int 0 0,.int f.size 0,.int g 0,.none,.none]}}):wpAny (model prog w) A (pyIter (.ref v)) Q E s:=by
 obtain⟨m,h,l,j⟩:=id b
 obtain⟨o,e,n,c⟩:=id r
 refine jD b.typeIs l8 (dY l8 b.typeIs F.entry_dict_items_iter ?_ (F.args_dict_items_iter_1 _))
 unfold Builtin.«dict_items.__iter__» qx pb
 refine b0 (b4 (b0 (b0 (eO h j (x:= .ref d) rfl (b4 ?_)))))
 refine b0 (b0 (kW e c (b0 (mv e c ?_))))
 have a:iI "dict_itemiterator"=true:=by decide
 simp only[a,if_true]
 refine fj (b4 ⟨_,rfl,"dict_itemiterator",_,⟨_,cP _ rfl,rfl⟩,fq.lookup,?_⟩) (by simp only[sizeOk,jl,cW,de,dR,mn,mO];omega)
 simpa [rawInt,jl]using k
theorem zB{it d:cG}{i j:Nat}{a:Array DictEntry}{ok u:cz}{Q:Option cz->cC->Prop}(l:IsItemIter s.heap it d i a.size j ok u)(r:RawD s.heap d a j)(S:i<a.size)
  (U:∀h',IsItemIterOut h' it d (i+1) a.size j a[i].key a[i].val s.heap.objs.size->h'.get? s.heap.objs.size=some {cls:= .type "tuple",data:= .seq #[a[i].key,a[i].val]}->h'.objs.size=s.heap.objs.size+1->
   (∀b o,b≠it->s.heap.get? b=some o->h'.get? b=some o)->Q (some (.ref s.heap.objs.size)) {s with heap:=h'}):wpAny (model prog w) A (pyNext (.ref it)) Q E s:=by
 obtain⟨hp,g,m,tk,os⟩:=s
 obtain⟨o,R,V,L⟩:=id r
 have k:lh ⟨hp,g,m,tk,os⟩ (.ref it) "dict_itemiterator":=⟨_,l,rfl⟩
 unfold pyNext
 refine b0 (gU (ej (name:=cU "__next__") k fq (dY fq k jP ?_ (jK _))))
 refine b0 (b4 (b0 (b0 ?_)))
 first|refine b0 (gu k (b4 ?_))|refine b0 (wpAny_typeNameOf_itemiter k (b4 ?_))
 refine b0 (i5 l rfl ?_)
 have G:iI "dict_itemiterator"=true:=by decide
 simp only[G,if_true]
 show wpAny _ _ (if(cQ d==cz.none)=true then _ else _) _ _ _
 rw[if_neg (show ¬((cQ d==cz.none)=true)from dj)]
 refine b0 (b4 (b0 (kW R L ?_)))
 rw[if_neg (by simp)]
 refine b0 (b4 (b0 (mv R L ?_)))
 rw[if_neg (by simp)]
 refine b4 ?_
 simp only[show ¬((i:Int)<0)from by omega,if_false,fY,fu S]
 refine b0 ?_
 first|refine b0 (gu k (b4 ?_))|refine b0 (wpAny_typeNameOf_itemiter k (b4 ?_))
 refine b0 (jF k ?_)
 show wpAny _ _ (setField (.ref it) 3 (rawInt ((i:Int)+1)) >>= _) _ _ ⟨hp,g,m,tk,os⟩
 refine b0 (eZ l (by simp) λh1 t p=>?_)
 replace p:fS it hp h1:=p
 replace t:IsItemIter h1 it d (i+1) a.size j ok u:=by
  have e:((i+1:Nat):Int)=(i:Int)+1:=by omega
  unfold IsItemIter;rw[e];simpa [rawInt]using t
 have q:lh ⟨h1,g,m,tk,os⟩ (.ref it) "dict_itemiterator":=⟨_,t,rfl⟩
 refine b0 (dI (b0 (jF q (b0 (jF q ?_)))))
 show wpAny _ _ (jG (.ref it) 6 a[i].key a[i].val) _ _ ⟨h1,g,m,tk,os⟩
 generalize a[i].key=c at *
 generalize a[i].val=f at *
 unfold jG nB
 refine b0 (i7 ?_)
 have n:IsItemIter (h1.push {cls:= .type "tuple",data:= .seq #[c,f]}) it d (i+1) a.size j ok u:=cF _ t
 have B:h1.objs.size=hp.objs.size:=p.1
 have O:(h1.push {cls:= .type "tuple",data:= .seq #[c,f]}).get? hp.objs.size=some {cls:= .type "tuple",data:= .seq #[c,f]}:=by rw[<-B];exact cP _ rfl
 have P:(h1.push {cls:= .type "tuple",data:= .seq #[c,f]}).objs.size=hp.objs.size+1:=by rw[gx,B]
 have N:∀b o,b≠it->hp.get? b=some o->(h1.push {cls:= .type "tuple",data:= .seq #[c,f]}).get? b=some o:=λb o h e=>cF _ (p.extBut b o h e)
 have T:it≠hp.objs.size:=dr (cR l)
 show wpAny _ _ _ _ _ ⟨h1.push {cls:= .type "tuple",data:= .seq #[c,f]},g,m,tk,os⟩
 rw[B]
 generalize h1.push {cls:= .type "tuple",data:= .seq #[c,f]}=h2 at n O P N
 clear t p q B
 refine b0 (b0 (eO n rfl (x:= .none) rfl (b4 ?_)))
 simp only[if_true]
 refine b0 (eO n rfl (x:=ok) rfl (b0 (eO n rfl (x:=u) rfl ?_)))
 refine b0 (eZ n (by simp) λh3 D z=>?_)
 replace z:fS it h2 h3:=z
 replace D:IsItemIter h3 it d (i+1) a.size j c u:=D
 refine b0 (eZ D (by simp) λh4 J C=>?_)
 replace C:fS it h3 h4:=C
 replace J:IsItemIter h4 it d (i+1) a.size j c f:=J
 refine b0 (eZ J (by simp) λh5 H y=>?_)
 replace y:fS it h4 h5:=y
 replace H:IsItemIterOut h5 it d (i+1) a.size j c f hp.objs.size:=H
 refine b0 (eZ H (by simp) λh6 I v=>?_)
 replace v:fS it h5 h6:=v
 replace I:IsItemIterOut h6 it d (i+1) a.size j c f hp.objs.size:=I
 have M:∀b o,b≠it->h2.get? b=some o->h6.get? b=some o:=λb o h e=>v.extBut b o h (y.extBut b o h (C.extBut b o h (z.extBut b o h e)))
 refine b0 (kU (b4 (b4 ⟨_,rfl,b4 (U h6 I (M _ _ (Ne.symm T) O) ?_ λb o h e=>M b o h (N b o h e))⟩)))
 show h6.objs.size=hp.objs.size+1
 rw[v.1,y.1,C.1,z.1,P]
theorem AO{it d:cG}{i l:Nat}{g:Array DictEntry}{ok p:cz}{Q:Option cz->cC->Prop}(q:A.handled=none)(e:IsItemIter s.heap it d i g.size l ok p)(r:RawD s.heap d g l)(k:g.size<=i)
  (n:∀h',rQ it s.heap h'->Q none {s with heap:=h'}):wpAny (model prog w) A (pyNext (.ref it)) Q E s:=by
 obtain⟨o,j,t,h⟩:=id r
 have c:s.TypeIs (.ref it) "dict_itemiterator":=⟨_,e,rfl⟩
 unfold pyNext
 refine b0 (gU (ej (name:=cU "__next__") c fq (dY fq c jP ?_ (jK _))))
 refine b0 (b4 (b0 (b0 ?_)))
 first|refine b0 (gu c (b4 ?_))|refine b0 (wpAny_typeNameOf_itemiter c (b4 ?_))
 refine b0 (i5 e rfl ?_)
 have f:iI "dict_itemiterator"=true:=by decide
 simp only[f,if_true]
 show wpAny _ _ (if(cQ d==cz.none)=true then _ else _) _ _ s
 rw[if_neg (show ¬((cQ d==cz.none)=true)from dj)]
 refine b0 (b4 (b0 (kW j h ?_)))
 rw[if_neg (by simp)]
 refine b0 (b4 (b0 (mv j h ?_)))
 rw[if_neg (by simp)]
 refine b4 ?_
 simp only[show ¬((i:Int)<0)from by omega,if_false,fY,gO k]
 refine b0 ?_
 first|refine b0 (gu c (b4 ?_))|refine b0 (wpAny_typeNameOf_itemiter c (b4 ?_))
 show wpAny _ _ (setField (.ref it) 2 .none >>= _) _ _ s
 refine b0 (gz e rfl (by simp) ?_)
 show wpAny _ _ (newExc (.type "StopIteration") [] >>= _) _ _ _
 refine b0 ?_
 simp only[newExc,newTuple]
 refine b0 (fj ?_ (by size_fits))
 refine b0 (m:=firstArgMember _ _) (fQ (a:=cz.none) (by first|rfl|(simp only[firstArgMember];rfl)) ?_)
 refine fj ?_ (by size_fits)
 simp only[raiseNew]
 refine b0 (lm ?_)
 rw[show A.in1.handled=none from q]
 refine b0 (b4 (mX ?_))
 refine b0 (eR (T:="StopIteration") (b:=true) ⟨_,cP _ rfl,rfl⟩ kt ?_)
 exact b4 (n _ (((fb ..).extBut.push _).push _))
end
section
variable{κ:Type}[DecidableEq κ]
def Itm(W:KW κ)(P:cY)(w:dn)(K:b3)(d:cG)(b n:Nat):It:=
 ⟨λi H=>∃kvs k m,DictE W P w K H d b kvs/\kvs.length=n/\kvs[i]?=some (k,m),
  λi H v c=>∃a k m t,(∀kvs,DictE W P w K H d b kvs->kvs[i]?=some (k,m))/\W.at' K H k a/\v = .ref t/\H t=none/\c=upd H t (.tup [.ref a,.int m]),
  λi H=>∃kvs,DictE W P w K H d b kvs/\kvs.length=n/\n<=i⟩
theorem Inv.dx_inj{W:KW κ}{X:Cx}{g:List (cG×Obj)}{G:St}{H:Hp}{s:cC}{d:cG}{u:Nat}{kvs b:List (κ×Int)}(I:Inv X g G H s)(h:DictE W X.prog X.w X.K H d u kvs)(h':DictE W X.prog X.w X.K H d u b):kvs=b:=by
 obtain⟨Q,⟨_,o,P,B,S,z,C,_⟩,R,c⟩:=I.dx h;obtain⟨J,⟨_,V,N,r,T,k,f,_⟩,O,a⟩:=I.dx h';rw[B]at r
 cases r;rw[z]at k;injection k with e1 _
 subst e1;rw[C]at f;have E:=Paired.len c;have A:=Paired.len a;have p:=congrArg jp f;rw[cx,cx]at p;refine lG (Eq.trans E (A▸p)) λi h1 h2=>?_;obtain⟨q,F,Z,⟨Y,y⟩,v⟩:=Paired.get' (i:=i) c (cD h1);obtain⟨U,t,M,⟨L,n⟩,m⟩:=Paired.get' (i:=i) a (cD h2);have e:=congrArg (λl:List DictEntry=>l[i]?) f;simp only[cL,F,t,pM]at e;have e:=Option.some.inj e;unfold entryOfKey at e;injection e with _ e2 e3
 injection e2 with e2
 have j:=W.ok I v;have x:=W.ok I m;rw[e2]at j;have D:=(W.knd X.prog X.w).inj j x;rw[y,n]at e3;injection e3 with e4 _
 exact Prod.ext D e4
theorem ww:entryFor table "dict_itemiterator.__iter__"=some Builtin.«dict_keyiterator.__iter__»:=ks (id':="dict_keyiterator.__iter__") rfl rfl (by decide +kernel) rfl
theorem AG{P:cY}{w:dn}{A:dD}{E:cz->cC->Prop}{s:cC}{it d:cG}{i n e:Nat}{ok c:cz}{Q:cz->cC->Prop}(b:IsItemIter s.heap it d i n e ok c)(h:Q (.ref it) s):wpAny (model P w) A (pyIter (.ref it)) Q E s:=by
 have a:s.TypeIs (.ref it) "dict_itemiterator":=⟨_,b,rfl⟩;refine jD a jU (dY jU a ww ?_ (F.args_dict_itemiterator_iter_1 _));exact b0 (b4 (b4 ⟨_,rfl,"dict_itemiterator",_,a,fq.lookup,h⟩))
theorem A0{W:KW κ}{P:cY}{w:dn}{K:b3}{S:List Expr}{x1:Nat}{pos:Pos}(d it:cG)(ep n:Nat):JN P w K (.Tuple S x1 pos) (Itm W P w K d ep n) [it] it (λi h=>∃ok ov,IsItemIter h it d i n ep ok ov) where
 mem:=by simp
 obj:=λi h st b a=>by
  obtain⟨ok,ov,q⟩:=st
  rw[cK.mp a]
  exact⟨_,q,λv z=>by cases z⟩
 keep:=λi h r st k=>by
  obtain⟨ok,ov,q⟩:=st
  exact⟨ok,ov,k it (by simp) _ q⟩
 item:=by
  intro X Q J L Z i c s y H E I D st G
  subst Q J L
  obtain⟨Y,k,m,x,B,hk⟩:=G
  obtain⟨xs,⟨_,o,p,N,M,R,A,_⟩,hd,j⟩:=I.dx x
  obtain⟨ok,ov,f⟩:=st
  have t:p.size=n:=by
   have:=congrArg jp A
   have:=Paired.len j
   simp at *
   omega
  subst t
  have hi:i<p.size:=by have:=(cT.mp hk).1;exact B▸this
  obtain⟨q,hq,r1,⟨O,V⟩,U⟩:=Paired.get' j hk
  have ee:p[i]=entryOfKey (W.knd X.prog X.w) q:=by
   have e:=congrArg (λl:List DictEntry=>l[i]?) A
   simp only[cL,hq,pM,fZ,fu hi]at e
   exact Option.some.inj e
  refine zB f ⟨o,N,M,R⟩ hi λr F C ab kk=>?_
  rw[ee]at F C
  obtain⟨qk,g,qv⟩:=q
  dsimp only at r1 V U
  subst r1 V
  dsimp only[entryOfKey]at F C
  have li:it≠s.heap.objs.size:=dr (cR f)
  have hn:H s.heap.objs.size=none:=I.hok.fresh (cI _)
  have I0:Inv X c y (upd H s.heap.objs.size (.tup [.ref g,.int m])) {s with heap:=s.heap.push {cls:= .type "tuple",data:= .seq #[.ref g,.int m O]},toks:=s.toks}:=
   I.laid (t':=s.toks) (λb o q=>cF _ q) (cI _) ⟨by show 2<=sizeLine;decide,[.ref g,.int m O],.cons rfl (.cons ⟨_,rfl⟩ .nil),⟨_,cP _ rfl,rfl,_,rfl⟩⟩
  have u:∀b∈[it],HX X c (upd H s.heap.objs.size (.tup [.ref g,.int m])) b:=λb a=>by
   have q:=D b a
   refine⟨?_,q.2⟩
   rw[td (by rw[cK.mp a];exact li)]
   exact q.1
  have I1:Inv X c y (upd H s.heap.objs.size (.tup [.ref g,.int m])) {s with heap:=r,toks:=s.toks}:=
   Inv.turnedL (s:={s with heap:=s.heap.push {cls:= .type "tuple",data:= .seq #[.ref g,.int m O]},toks:=s.toks}) I0 (fp:=[it]) (t':=s.toks) (λb o a q=>by
    rcases uN q rfl with q|⟨rfl,rfl⟩
    ·exact kk b o (λz=>a (by simp[z])) q
    ·exact C) u
  refine⟨_,rfl,wpAny_letOwnedTupleGo_items (s:={s with heap:=r}) F λh2 se sb=>?_⟩
  have I2:Inv X c y (upd H s.heap.objs.size (.tup [.ref g,.int m])) {s with heap:=h2,toks:=s.toks}:=
   Inv.turnedL (s:={s with heap:=r,toks:=s.toks}) I1 (fp:=[it]) (t':=s.toks) (λb o a q=>(sb.2 b (λz=>a (by simp[z]))).trans q) u
  exact⟨.ref s.heap.objs.size,_,I2,rfl,⟨g,k,m,_,λaa h=>by rw[I.dx_inj h x];exact hk,U,rfl,hn,rfl⟩,⟨_,_,se⟩,λb a=>(u b a).1⟩
 done:=by
  intro X Q J L Z i c s y H E I D st G
  subst Q J L
  obtain⟨Y,x,B,T⟩:=G
  obtain⟨xs,⟨_,o,p,N,M,R,A,_⟩,hd,j⟩:=I.dx x
  obtain⟨ok,ov,f⟩:=st
  have t:p.size=n:=by
   have:=congrArg jp A
   have:=Paired.len j
   simp at *
   omega
  subst t
  exact AO (I.ok.hd Z) f ⟨o,N,M,R⟩ T λr eb=>⟨rfl,I.turnedL (fp:=[it]) (t':=s.toks) (λb o a q=>eb b o (λz=>a (by simp[z])) q) D⟩
 self:=λ_ _ _ _ _ st h=>by
  obtain⟨ok,ov,f⟩:=st
  exact AG f h
def Mw(W:KW κ)(P:cY)(w:dn)(K:b3)(c:TE):TI:=λb H R=>c b H λx a=>∃(d:cG) (ep:Nat) (kvs:List (κ×Int)),x = .ref d/\DictE W P w K a d ep kvs/\R (Itm W P w K d ep kvs.length) a
theorem DF{W:KW κ}{X:Cx}{P:cY}{w:dn}{K:b3}{u:List Expr}{Y:Nat}{y f g:Pos}{o:Expr}{N:TE}(hP:X.prog=P)(hw:X.w=w)(hK:X.K=K)(Z:PE X o N)(j:attributeBase o "items" X.env (eval o X.env)=eval o X.env:=by rfl)(k:(f.endLine==g.line)=true:=by rfl):
  PI X (.Tuple u Y y) (.Call (.Attribute o "items" f) [] [] g) (Mw W P w K N):=by
 subst hP hw hK
 intro c s L H R I h
 refine lD j k (Gh (Z c s L H _ I h) λv a ⟨x,B,D,U,d,m,e,V,Q,q⟩=>?_)
 subst V
 obtain rfl:v=cQ d:=U
 obtain⟨xs,⟨t,r,E,p,n,G,T,_⟩,J,A⟩:=D.dx Q
 have M:E.size=e.length:=by
  have:=congrArg jp T
  have:=Paired.len A
  simp at *
  omega
 refine⟨"dict",_,lN,lO,PySem.F.type_dict_items,J.typeIs,λb z=>by cases z;exact⟨r,p,n.2.1⟩,gM rfl (m9 ?_)⟩
 refine rA lO J.typeIs PySem.F.entry_dict_items (PySem.F.args_dict_items_1 _) (yW d t) ⟨⟨E,m,r,p,n,G⟩,?_⟩
 have C:∀b o,a.heap.get? b=some o->(a.heap.push {cls:= .type "dict_items",data:= .fields #[.ref d]}).get? b=some o:=λb o z=>cF _ z
 have l:Inv X c L B {a with heap:=a.heap.push {cls:= .type "dict_items",data:= .fields #[.ref d]}}:=D.kept (t':=a.toks) C
 refine zN (s:={a with heap:=a.heap.push {cls:= .type "dict_items",data:= .fields #[.ref d]}}) ⟨_,cP _ rfl,rfl,rfl⟩ ⟨r,C _ _ p,n,G⟩ ?_
 rw[M]
 have S:=l.kept (t':=a.toks) (h':=(a.heap.push {cls:= .type "dict_items",data:= .fields #[.ref d]}).push {cls:= .type "dict_itemiterator",data:= .fields #[.none,.bool false,.ref d,.int 0 0,.int e.length 0,.int m 0,.none,.none]}) λb o z=>cF _ z
 refine⟨_,[(a.heap.push {cls:= .type "dict_items",data:= .fields #[.ref d]}).objs.size],_,_,B,rfl,S,A0 d _ m e.length,⟨_,_,cP _ rfl⟩,λb O=>?_,q⟩
 rw[cK.mp O]
 exact l.fpOk (cI _) (l.hok.fresh (cI _))
theorem Bg{W:KW κ}{P:cY}{w:dn}{K:b3}{d:cG}{h:Nat}{kvs:List (κ×Int)}{g:TG}{l:TS}{D:H0}{b:St}{H:Hp}(c:Nat->St->Hp->Prop)(h0:c 0 b H)(hl:∀i b H,i<=kvs.length->c i b H->DictE W P w K H d h kvs)
  (r:∀i k m a b H t,kvs[i]?=some (k,m)->W.at' K H k a->H t=none->c i b H->g (.ref t) b (upd H t (.tup [.ref a,.int m])) λσ2 H2=>l {D with nx:=c (i+1),ct:=c (i+1),bk:=D.nx} σ2 H2)(o:∀b H,c kvs.length b H->D.nx b H):
  ∃Wv:Nat->Nat->St->Hp->Prop,(∃m,Wv 0 m b H)/\∀i m b H,Wv i m b H->((Itm W P w K d h kvs.length).stop i H/\D.nx b H)\/
   ((Itm W P w K d h kvs.length).go i H/\∃N:St->Hp->Prop,(∀σ' H',N σ' H'->∃m',m'<m/\Wv (i+1) m' σ' H')/\∀x H',(Itm W P w K d h kvs.length).yld i H x H'->g x b H' λσ2 H2=>l {D with nx:=N,ct:=N,bk:=D.nx} σ2 H2):=by
 refine⟨λi m b H=>m=kvs.length-i/\i<=kvs.length/\c i b H,⟨kvs.length,by simp,dz _,h0⟩,?_⟩
 rintro i m b H ⟨rfl,j,p⟩
 have q:=hl i b H j p
 by_cases f:i<kvs.length
 ·refine .inr ⟨⟨kvs,_,_,q,rfl,cD f⟩,c (i+1),λσ' H' n=>⟨kvs.length-(i+1),by omega,rfl,f,n⟩,λx H' y=>?_⟩
  obtain⟨a,k,m,t,h1,h2,rfl,h3,rfl⟩:=y
  exact r i k m a b H t (h1 kvs q) h2 h3 p
 ·have e:i=kvs.length:=jn j (fh f)
  subst e
  exact .inl ⟨⟨kvs,q,rfl,cI _⟩,o b H p⟩
end
def Ih:KW (List Int) where
 knd:=λc w=>tupleKind (intKind c w)
 at':=λK H k a=>SqT K H a (k.map V.int)
 ok:=λ {X g j H s k a} I h=>by
  obtain⟨b,e,d⟩:=I.tupV (v:= .ref a) (u:= .ref a) ⟨a,rfl,h⟩ rfl
  cases e
  exact d
 map:=λf h=>f _ _ h
 room:=λh=>by show _+1<cLine;exact eX (eX h)
 room':=λh=>by show _<cLine;exact dP (ec _ _) h
def Ij:KW Gy where
 knd:=Lq
 at':=λK H k a=>∃x y,SqT K H a [.ref x,.ref y]/\SqT K H x (k.1.map V.int)/\SqT K H y (k.2.map V.int)
 ok:=λ {X e w H s k a} I h=>by
  obtain⟨x,y,h1,h2,h3⟩:=h
  obtain⟨A,m,c⟩:=I.tupV (v:= .ref x) (u:= .ref x) ⟨x,rfl,h2⟩ rfl
  obtain⟨z,g,d⟩:=I.tupV (v:= .ref y) (u:= .ref y) ⟨y,rfl,h3⟩ rfl
  cases m
  cases g
  obtain⟨t,b,⟨o,q,l,n,p⟩,_⟩:=I.tuple h1
  cases b with
  | cons r b=>
   cases b with
   | cons j b=>
    cases b
    cases r
    cases j
    exact⟨o,n,x,y,q,l,p,c,d⟩
 map:=λf h=>by
  obtain⟨x,y,h1,h2,h3⟩:=h
  exact⟨x,y,f _ _ h1,f _ _ h2,f _ _ h3⟩
 room:=λh=>by show _+1+2<cLine;omega
 room':=λh=>by show _+2<cLine;exact eX h
end L2
namespace TM
open LM LN
def MI(l:List Int):Prop:=l.Pairwise (· <= ·)
theorem Ad:∀{l m:List Int},l.Perm m->MI l->MI m->l=m
 | [],m,h,_,_=>(List.nil_perm.mp h).symm
 | a::l,[],h,_,_=>by have:=h.length_eq;simp at this
 | a::l,b::m,h,h1,h2=>by
  have e:a=b:=by
   have g:=da.mp (h.mem_iff.mp (cM (a:=a)))
   have f:=da.mp (h.mem_iff.mpr (cM (a:=b)))
   obtain⟨c,_⟩:=fB.mp h1
   obtain⟨d,_⟩:=fB.mp h2
   rcases g with z|z
   ·exact z
   ·rcases f with y|y
    ·exact y.symm
    ·have:=c b y
     have:=d a z
     omega
  subst e
  rw[Ad (List.perm_cons a |>.mp h) (fB.mp h1).2 (fB.mp h2).2]
def K2(x:Int):List Int->List Int
 | []=>[x]
 | a::l=>if x<=a then x::a::l else a::K2 x l
def srt:List Int->List Int
 | []=>[]
 | a::l=>K2 a (srt l)
theorem xm(x:Int):∀l,(K2 x l).Perm (x::l)
 | []=>iX _
 | a::l=>by
  unfold K2
  split
  ·exact iX _
  ·exact((xm x l).cons a).trans (re.swap x a l)
theorem Al(x:Int):∀{l},MI l->MI (K2 x l)
 | [],_=>fB.mpr ⟨(λ_ h=>nomatch h),nu.nil⟩
 | a::l,h=>by
  unfold K2
  obtain⟨h1,h2⟩:=fB.mp h
  split
  ·rename_i c
   exact fB.mpr ⟨λb d=>by
    rcases da.mp d with z|z
    ·exact z▸c
    ·have:=h1 b z;exact gm c this,h⟩
  ·rename_i c
   refine fB.mpr ⟨λb d=>?_,Al x h2⟩
   rcases da.mp ((xm x l).mem_iff.mp d)with z|z
   ·omega
   ·exact h1 b z
theorem srt_perm:∀l,(srt l).Perm l
 | []=>iX _
 | a::l=>(xm a (srt l)).trans ((srt_perm l).cons a)
theorem zF:∀l,MI (srt l)
 | []=>nu.nil
 | a::l=>Al a (zF l)
theorem srt_eq{l m:List Int}(h:m.Perm l)(a:MI m):m=srt l:=Ad (h.trans (srt_perm l).symm) a (zF l)
theorem zZ(l:List Int)(x:Int):srt (srt l++[x])=srt (l++[x]):=srt_eq ((srt_perm _).trans ((srt_perm l).append_right [x])) (zF _)
theorem BH{l:List Int}{x:Int}:x∈srt l↔x∈l:=(srt_perm l).mem_iff
def freeP(n:Nat)(a:List Int):List Int:=(rng n).filter λp=>!decide (p∈a)
def exts(n:Nat)(a:List Int):List (List Int):=(freeP n a).map λp=>a++[p]
def pre(n:Nat):Nat->List (List Int)
 | 0=>[[]]
 | k+1=>(pre n k).flatMap (exts n)
structure LW(n k:Nat)(π:List Int):Prop where
 len:π.length=k
 nd:π.Nodup
 bd:∀p∈π,0<=p/\p<n
theorem pre_ok{n:Nat}:∀{k:Nat} {π:List Int},π∈pre n k->LW n k π
 | 0,π,h=>by
  rw[cK.mp h]
  exact⟨rfl,io,λ_ h=>nomatch h⟩
 | k+1,π,h=>by
  obtain⟨c,h1,h2⟩:=pc.mp h
  obtain⟨p,h3,rfl⟩:=dG.mp h2
  obtain⟨h4,h5⟩:=ef.mp h3
  have I:=pre_ok h1
  have h6:p∉c:=by simpa using h5
  refine⟨by rw[de,I.len];rfl,gB.mpr ⟨I.nd,by simp,λx a y b z=>h6 (by rw[cK.mp b]at z;rw[<-z];exact a)⟩,λq d=>?_⟩
  rcases dE.mp d with z|z
  ·exact I.bd q z
  ·rw[cK.mp z];exact mem_rng.mp h4
theorem free_len{n k:Nat}{b:List Int}(h:LW n k b):(freeP n b).length+k=n:=by
 have c:∀(l m:List Int),l.Nodup->m.Nodup->(∀x∈m,x∈l)->(l.filter λp=>!decide (p∈m)).length+m.length=l.length:=by
  intro l m d g j;have hp:(l.filter λp=>decide (p∈m)).Perm m:=by
   refine(gn (d.filter _) g).mpr λx=>?_;rw[ef];exact⟨λz=>of_decide_eq_true z.2,λz=>⟨j x z,decide_eq_true z⟩⟩
  have h1:=List.length_eq_countP_add_countP (p:=λp=>decide (p∈m)) (l:=l);rw[j2,j2,hp.length_eq]at h1;have e:(l.filter λa=>decide (¬decide (a∈m)=true))=l.filter λp=>!decide (p∈m):=gC λx _=>by by_cases z:x∈m <;> simp[z]
  rw[e]at h1;omega
 have:=c (rng n) b (rng_nodup n) h.nd λx f=>mem_rng.mpr (h.bd x f);rw[rng_len,h.len]at this;exact this
def smL{a:Type}(l:List a)(f:a->Int):Int:=(l.map f).sum
theorem uo{a:Type}(f:a->Int):smL [] f=0:=rfl
theorem tR{b:Type}(a:b)(l:List b)(f:b->Int):smL (a::l) f=f a+smL l f:=by unfold smL;simp
theorem v8{a:Type}(l m:List a)(f:a->Int):smL (l++m) f=smL l f+smL m f:=by unfold smL;simp
theorem smL_congr{a:Type}{l:List a}{f g:a->Int}(h:∀x∈l,f x=g x):smL l f=smL l g:=by unfold smL;rw[fW h]
theorem wy{b c:Type}(g:b->List c)(f:c->Int):∀l:List b,smL (l.flatMap g) f=smL l λx=>smL (g x) f
 | []=>rfl
 | a::l=>by rw[List.flatMap_cons,v8,tR,wy g f l]
theorem wU{a b:Type}(g:a->b)(f:b->Int)(l:List a):smL (l.map g) f=smL l λx=>f (g x):=by unfold smL;rw[jb];rfl
theorem Cb{b:Type}(f g:b->Int):∀l:List b,smL l (λx=>f x+g x)=smL l f+smL l g
 | []=>rfl
 | a::l=>by rw[tR,tR,tR,Cb f g l];omega
theorem CU{b:Type}(c:Int)(f:b->Int):∀l:List b,smL l (λx=>c*f x)=c*smL l f
 | []=>by show(0:Int)=c*0;rw[gR]
 | a::l=>by rw[tR,tR,CU c f l,js]
theorem uS{b:Type}(c:Int):∀l:List b,smL l (λ_=>c)=c*l.length
 | []=>by show(0:Int)=c*0;rw[gR]
 | a::l=>by rw[tR,uS c l,dR];push_cast;rw[js,ir,rB]
theorem Ak{a:Type}(l:List a):smL l (λ_=>0)=0:=by rw[uS,kb]
def fct:Nat->Int
 | 0=>1
 | k+1=>fct k*((k:Int)+1)
theorem Af{n:Nat}(g:List Int->Int){j:Nat}:∀d,j+d<=n->fct (n-(j+d))*smL (pre n (j+d)) (λo=>g (o.take j))=fct (n-j)*smL (pre n j) λo=>g (o.take j)
 | 0,_=>rfl
 | d+1,h=>by
  have f:=Af (n:=n) g (j:=j) d (cZ h)
  rw[<-f]
  have e:smL (pre n (j+(d+1))) (λo=>g (o.take j))=((n-(j+d):Nat):Int)*smL (pre n (j+d)) λo=>g (o.take j):=by
   show smL ((pre n (j+d)).flatMap (exts n)) _=_
   rw[wy,<-CU]
   refine smL_congr λb a=>?_
   have I:=pre_ok a
   have k:=free_len I
   unfold exts
   rw[wU,smL_congr (g:=λ_=>g (b.take j)) λp _=>by rw[iw (by rw[I.len];exact ec _ _)],uS,gN,show((freeP n b).length:Int)=((n-(j+d):Nat):Int)by omega]
  rw[e,<-qV]
  congr 1
  obtain⟨m,c⟩:∃m,n-(j+d)=m+1:=⟨n-(j+d)-1,by omega⟩
  rw[c,show n-(j+(d+1))=m by omega]
  show fct m*((m+1:Nat):Int)=fct m*((m:Int)+1)
  push_cast
  rfl
theorem CF{n:Nat}(g:List Int->Int){j:Nat}(a:j<=n):smL (pre n n) (λo=>g (o.take j))=fct (n-j)*smL (pre n j) g:=by
 have:=Af (n:=n) g (j:=j) (n-j) (gi (iN a));rw[show j+(n-j)=n from iN a,iC]at this;rw[show fct 0=1 from rfl,jV]at this;rw[this,smL_congr (g:=g) λo b=>by rw[eh (by rw[(pre_ok b).len];exact cI _)]]
theorem Ch(n:Nat):((pre n n).length:Int)=fct n:=by
 have:=CF (n:=n) (λ_=>1) (j:=0) (dz _);rw[uS,uS]at this;rw[jV,rz]at this;rw[this];show fct n*(1*(([[]]:List (List Int)).length:Int))=fct n;simp
end TM
namespace L2
open PySem PySem.Spec PyProof.Rows
open TM
theorem zy{w ts us:List Int}(h:∀t,t∈ts↔t∈us):GY w ts=GY w us:=by
 unfold GY GV;rw[gC (q:=λt=>!decide (t∈us)) λt _=>by simp only[decide_eq_decide.mpr (h t)]]
theorem yg(W:List (List Int))(o:List Int){j:Nat}:∀k,k<=j->tk W (o.take j) k=tk W o k
 | 0,_=>rfl
 | k+1,h=>by
  show tk W (o.take j) k++[_]=tk W o k++[_]
  rw[yg W o k (cZ h),show(o.take j).getD k 0=o.getD k 0 by rw[cA,cA,ie (h)]]
theorem EU(W:List (List Int))(o:List Int){j k:Nat}(h:k<j):bt W (o.take j) k=bt W o k:=by
 unfold bt;rw[yg W o k (cZ h),show(o.take j).getD k 0=o.getD k 0 by rw[cA,cA,ie h]]
def KI(W:List (List Int))(a:List Int):List Int:=tk W a a.length
def GZ(W:List (List Int))(p:Int)(ts:List Int):Int:=GY (W.getD p.toNat []) ts
theorem C7(W:List (List Int))(a:List Int)(p:Int):KI W (a++[p])=KI W a++[GZ W p (KI W a)]:=by
 unfold KI GZ;rw[de,show a.length+([p]:List Int).length=a.length+1 from rfl];have e:tk W (a++[p]) a.length=tk W a a.length:=by
  have:=yg W (a++[p]) (j:=a.length) a.length (cI _);rw[iw (cI _),dy]at this;exact this.symm
 show tk W (a++[p]) a.length++[GY (W.getD ((a++[p]).getD a.length 0).toNat []) (tk W (a++[p]) a.length)]=_;rw[e,show(a++[p]).getD a.length 0=p by rw[cA,ff (cI _),iC];rfl]
def GJ(W:List (List Int))(a:List Int):Gy:=(srt a,srt (KI W a))
def Gv(n:Nat)(W:List (List Int))(k:Gy):List (Int×Int):=(freeP n k.1).map λp=>(p,GZ W p k.2)
def Hg(k:Gy)(a:Int×Int):Gy:=(srt (k.1++[a.1]),srt (k.2++[a.2]))
theorem wf(n:Nat)(W:List (List Int))(a:List Int):Gv n W (GJ W a)=(freeP n a).map λp=>(p,GZ W p (KI W a)):=by
 unfold Gv GJ freeP;rw[gC (q:=λp=>!decide (p∈a)) λp _=>by simp only[decide_eq_decide.mpr (BH (l:=a) (x:=p))]];exact fW λp _=>by unfold GZ;rw[zy λt=>BH]
theorem yD(W:List (List Int))(a:List Int)(p:Int):Hg (GJ W a) (p,GZ W p (KI W a))=GJ W (a++[p]):=by
 unfold Hg GJ;rw[zZ,zZ,C7]
section
variable{κ:Type}[DecidableEq κ]
def He(F:κ->Int)(kvs:List (κ×Int)):Int:=smL kvs λp=>p.2*F p.1
def KN(kvs:List (κ×Int)):Prop:=(kvs.map Prod.fst).Nodup
theorem xr{k:κ}:∀{kvs:List (κ×Int)},kvs.lookup k=none↔k∉kvs.map Prod.fst
 | []=>by simp[ib]
 | (a,m)::kvs=>by
  rw[d3]
  by_cases e:k=a
  ·subst e;simp
  ·rw[show(k==a)=false from beq_false_of_ne e]
   show kvs.lookup k=none↔_
   rw[xr,d2,da]
   simp[e]
theorem Ct{kvs:List (κ×Int)}{k:κ}(h:kvs.lookup k=none)(x:Int):Ii kvs k x=kvs++[(k,x)]:=by unfold Ii;rw[h];rfl
theorem CA{kvs:List (κ×Int)}{k:κ}{m:Int}(h:kvs.lookup k=some m)(x:Int):Ii kvs k x=kvs.map λp=>if p.1=k then(p.1,x)else p:=by unfold Ii;rw[h];rfl
theorem D5{kvs:List (κ×Int)}(h:KN kvs)(k:κ)(x:Int):KN (Ii kvs k x):=by
 cases e:kvs.lookup k with
 | none=>
  rw[Ct e];unfold KN;rw[cV];exact gB.mpr ⟨h,by simp,λa f b d z=>xr.mp e (by have c:b=k:=cK.mp d;rw[<-c,<-z];exact f)⟩
 | some m=>
  rw[CA e];unfold KN;rw[jb,show(Prod.fst∘λp:κ×Int=>if p.1=k then(p.1,x)else p)=Prod.fst from funext λp=>by show(if p.1=k then(p.1,x)else p).1=p.1;split <;> rfl];exact h
theorem Bq(kvs:List (κ×Int))(k:κ)(x:Int):(Ii kvs k x).length<=kvs.length+1:=by
 unfold Ii;split
 ·rw[cx];exact d6 _
 ·rw[de];exact cI _
theorem z5(F:κ->Int){k:κ}{m x:Int}:∀{kvs:List (κ×Int)},KN kvs->kvs.lookup k=some m->He F (kvs.map λp=>if p.1=k then(p.1,x)else p)=He F kvs+(x-m)*F k
 | [],_,h=>by simp[ib]at h
 | (a,y)::kvs,hn,h=>by
  have b:=fD.mp (show((a::kvs.map Prod.fst):List κ).Nodup from hn)
  rw[d3]at h
  unfold He
  rw[d2,tR,tR]
  by_cases e:k=a
  ·subst e
   rw[beq_self_eq_true]at h
   have h:y=m:=Option.some.inj h
   subst h
   have c:kvs.map (λp:κ×Int=>if p.1=k then(p.1,x)else p)=kvs:=by
    have:∀p∈kvs,(if p.1=k then(p.1,x)else p)=p:=λp hp=>if_neg (show ¬p.1=k from λz=>b.1 (z▸dG.mpr ⟨p,hp,rfl⟩))
    rw[fW this]
    simp
   rw[c]
   show(if k=k then(k,x)else(k,y)).2*F (if k=k then(k,x)else(k,y)).1+_=_
   rw[if_pos rfl]
   show x*F k+_=y*F k+_+_
   rw[jT]
   omega
  ·rw[show(k==a)=false from beq_false_of_ne e]at h
   have d:=z5 F (x:=x) b.2 h
   unfold He at d
   rw[d]
   show(if a=k then(a,x)else(a,y)).2*F (if a=k then(a,x)else(a,y)).1+_=_
   rw[if_neg (Ne.symm e)]
   omega
def Ju(kvs:List (κ×Int))(k:κ)(x:Int):List (κ×Int):=Ii kvs k ((kvs.lookup k).getD 0+x)
theorem At(F:κ->Int){kvs:List (κ×Int)}(h:KN kvs)(k:κ)(x:Int):He F (Ju kvs k x)=He F kvs+x*F k:=by
 unfold Ju
 cases e:kvs.lookup k with
 | none=>
  rw[Ct e];unfold He;rw[v8,tR,uo];show _+((0+x)*F k+0)=_;rw[fe];omega
 | some m=>
  rw[CA e,z5 F h e];show He F kvs+(m+x-m)*F k=_;rw[show m+x-m=x by omega]
theorem EA{kvs:List (κ×Int)}(h:KN kvs)(k:κ):(kvs.lookup k).getD 0=He (λa=>if a=k then 1 else 0) kvs:=by
 induction kvs with
 | nil=>rfl
 | cons p kvs c=>
  obtain⟨a,m⟩:=p;have b:=fD.mp (show((a::kvs.map Prod.fst):List κ).Nodup from h);unfold He at c ⊢;rw[tR,d3];by_cases e:k=a
  ·subst e;rw[beq_self_eq_true];have z:smL kvs (λp=>p.2*if p.1=k then 1 else 0)=0:=(smL_congr (g:=λ_=>0) λp hp=>by rw[if_neg (show ¬p.1=k from λz=>b.1 (z▸dG.mpr ⟨p,hp,rfl⟩)),gR]).trans (Ak _);rw[z];show m=m*(if k=k then 1 else 0)+0;rw[if_pos rfl];omega
  ·rw[show(k==a)=false from beq_false_of_ne e];show(kvs.lookup k).getD 0=m*(if a=k then 1 else 0)+_;rw[if_neg (Ne.symm e),c b.2];omega
end
def Ip(p t:Int)(q u:Int):Int:=if q=p/\u=t then 1 else 0
def GM(n:Nat)(W:List (List Int))(F:List Int->Int):Nat->Int
 | 0=>0
 | k+1=>GM n W F k+fct (n-(k+1))*smL (pre n k) λa=>smL (freeP n a) λp=>F [p,GZ W p (KI W a)]
def HK(W:List (List Int))(n:Nat)(o:List Int)(p t:Int):Int:=HM.sm n λj=>Ip p t (o.getD j 0) (bt W o j)
theorem An{a:Type}(f:a->Nat->Int)(l:List a):∀n,smL l (λx=>HM.sm n (f x))=HM.sm n λj=>smL l λx=>f x j
 | 0=>Ak l
 | n+1=>by
  show smL l (λx=>HM.sm n (f x)+f x n)=HM.sm n _+_
  rw[Cb,An f l n]
theorem yA{n:Nat}(W:List (List Int))(p t:Int):∀k,k<=n->GM n W (λl=>Ip p t (l.getD 0 0) (l.getD 1 0)) k=HM.sm k λj=>smL (pre n n) λo=>Ip p t (o.getD j 0) (bt W o j)
 | 0,_=>rfl
 | k+1,hk=>by
  show GM n W _ k+_=HM.sm k _+_
  rw[yA W p t k (by omega)]
  congr 1
  have e:smL (pre n n) (λo=>Ip p t (o.getD k 0) (bt W o k))=smL (pre n n) λo=>(λo=>Ip p t (o.getD k 0) (bt W o k)) (o.take (k+1)):=smL_congr λo _=>by
   show _=Ip p t ((o.take (k+1)).getD k 0) (bt W (o.take (k+1)) k)
   rw[EU W o (du k),show(o.take (k+1)).getD k 0=o.getD k 0 by rw[cA,cA,ie (du k)]]
  show _=smL (pre n n) λo=>Ip p t (o.getD k 0) (bt W o k)
  rw[e,CF (λo=>Ip p t (o.getD k 0) (bt W o k)) hk]
  congr 1
  show _=smL ((pre n k).flatMap (exts n)) _
  rw[wy]
  refine smL_congr λa b=>?_
  have I:=pre_ok b
  unfold exts
  rw[wU]
  refine smL_congr λq _=>?_
  have c:(a++[q]).getD k 0=q:=by rw[<-I.len,cA,ff (cI _),iC];rfl
  have d:bt W (a++[q]) k=GZ W q (KI W a):=by
   unfold bt GZ KI
   rw[c,<-I.len]
   have:=yg W (a++[q]) (j:=a.length) a.length (cI _)
   rw[iw (cI _),dy]at this
   rw[this]
  rw[c,d]
  rfl
theorem CK{n:Nat}(W:List (List Int))(p t:Int):GM n W (λl=>Ip p t (l.getD 0 0) (l.getD 1 0)) n=smL (pre n n) λo=>HK W n o p t:=by
 rw[yA W p t n (cI _)];unfold HK;rw[An]
theorem E6(W:List (List Int))(n:Nat)(o:List Int)(p t:Int):0<=HK W n o p t/\HK W n o p t<=n:=by
 unfold HK;have h:∀j,0<=Ip p t (o.getD j 0) (bt W o j)/\Ip p t (o.getD j 0) (bt W o j)<=1:=λj=>by unfold Ip;split <;> omega
 constructor
 ·have:=HM.sm_le (n:=n) (f:=λ_=>0) (g:=λj=>Ip p t (o.getD j 0) (bt W o j)) λj _=>(h j).1;rw[HM.sm_zero]at this;exact this
 ·have:=HM.sm_le (n:=n) (f:=λj=>Ip p t (o.getD j 0) (bt W o j)) (g:=λ_=>if(true:Bool)=true then 1 else 0) λj _=>by rw[if_pos rfl];exact(h j).2
  rw[HM.sm_cnt (λ_=>true) 1 n]at this;have e:HM.cnt n (λ_=>true)=n:=by unfold HM.cnt;simp
  rw[e]at this;omega
structure CI(n:Nat)(W:List (List Int))(k:Nat)(C:List (List Int×Int)):Prop where
 kn:KN C
 sum:∀F,He F C=GM n W F k
 len:C.length<=k*46656
structure BI(n:Nat)(W:List (List Int))(k:Nat)(B:List (Gy×Int)):Prop where
 kn:KN B
 sum:∀F,He F B=smL (pre n k) λπ=>F (GJ W π)
 len:B.length<=6^k
 key:∀p∈B,∃π∈pre n k,p.1=GJ W π
def MD(n:Nat)(W:List (List Int))(F:List Int->Int)(key:Gy):Int:=smL (Gv n W key) λa=>F [a.1,a.2]
def Mq(n:Nat)(W:List (List Int))(G:Gy->Int)(key:Gy):Int:=smL (Gv n W key) λa=>G (Hg key a)
structure TJ(n:Nat)(W:List (List Int))(k:Nat)(B:List (Gy×Int))(i:Nat)(key:Gy)(num:Int)(j:Nat)(C:List (List Int×Int))(L:List (Gy×Int)):Prop where
 ck:KN C
 lk:KN L
 cs:∀F,He F C=GM n W F k+fct (n-(k+1))*(smL (B.take i) (λe=>e.2*MD n W F e.1)+num*smL ((Gv n W key).take j) λpt=>F [pt.1,pt.2])
 ls:∀G,He G L=smL (B.take i) (λe=>e.2*Mq n W G e.1)+num*smL ((Gv n W key).take j) λpt=>G (Hg key pt)
 cl:C.length<=k*46656+i*6+j
 ll:L.length<=i*6+j
 lv:∀p∈L,∃π∈pre n (k+1),p.1=GJ W π
abbrev TI0(n:Nat)(W:List (List Int))(k:Nat)(B:List (Gy×Int))(i:Nat)(C:List (List Int×Int))(L:List (Gy×Int)):Prop:=∀key num,TJ n W k B i key num 0 C L
section
variable{n:Nat}{W:List (List Int)}{k:Nat}{B:List (Gy×Int)}{C:List (List Int×Int)}{L:List (Gy×Int)}
theorem CI.zero:CI n W 0 []:=⟨io,λ_=>rfl,dz _⟩
theorem BI.zero:BI n W 0 [(([],[]),1)]:=⟨by unfold KN;simp,λF=>by
  show smL [(([],[]),1)] (λp:Gy×Int=>p.2*F p.1)=smL [[]] _;rw[tR,uo,tR,uo];show 1*F ([],[])+0=F (GJ W [])+0;rw[jV];rfl,cI _,λp hp=>⟨[],cK.mpr rfl,by rw[cK.mp hp];rfl⟩⟩
theorem TI0.start(h:CI n W k C):TI0 n W k B 0 C []:=λb a=>⟨h.kn,io,λF=>by
  rw[h.sum F,eY,eY,uo,uo,gR];omega,λG=>by
  rw[eY,eY,uo,uo,gR];rfl,by have:=h.len;omega,dz _,λ_ h=>nomatch h⟩
theorem TJ.step{i j:Nat}{key:Gy}{num:Int}{a:Int×Int}(h:TJ n W k B i key num j C L)(hp:(Gv n W key)[j]?=some a)(d:∃π∈pre n (k+1),Hg key a=GJ W π):
  TJ n W k B i key num (j+1) (Ju C [a.1,a.2] (num*fct (n-(k+1)))) (Ju L (Hg key a) num):=by
 refine⟨D5 h.ck _ _,D5 h.lk _ _,λF=>?_,λG=>?_,?_,?_,λp b=>?_⟩
 ·rw[At F h.ck,h.cs F,dg,hp,v8]
  show _+num*fct (n-(k+1))*F [a.1,a.2]=_+_*(_+num*(_+smL [a] _))
  rw[tR,uo,gQ,show num*fct (n-(k+1))*F [a.1,a.2]=fct (n-(k+1))*(num*F [a.1,a.2])by ac_rfl,nv,<-js,nv,<-js]
 ·rw[At G h.lk,h.ls G,dg,hp,v8]
  show _+num*G (Hg key a)=_+num*(_+smL [a] _)
  rw[tR,uo,js,js,gR,gQ]
  omega
 ·unfold Ju
  exact cO (Bq _ _ _) (by have:=h.cl;exact dS this)
 ·unfold Ju
  exact cO (Bq _ _ _) (by have:=h.ll;exact dS this)
 ·unfold Ju Ii at b
  split at b
  ·obtain⟨q,c,e⟩:=dG.mp b
   obtain⟨π,h1,h2⟩:=h.lv q c
   refine⟨π,h1,?_⟩
   rw[<-e,<-h2]
   split <;> rfl
  ·rcases dE.mp b with z|z
   ·exact h.lv p z
   ·rw[cK.mp z]
    exact d
theorem TJ.done{i:Nat}{key:Gy}{num:Int}(a:B[i]?=some (key,num))(hl:(Gv n W key).length<=6)(h:TJ n W k B i key num (Gv n W key).length C L):TI0 n W k B (i+1) C L:=λc b=>by
 refine⟨h.ck,h.lk,λF=>?_,λG=>?_,?_,?_,h.lv⟩
 ·rw[h.cs F,dy,eY,uo,gR,gQ,dg,a,v8];show _+_*(_+_)=_+_*(_+smL [(key,num)] _);rw[tR,uo,gQ];rfl
 ·rw[h.ls G,dy,eY,uo,gR,gQ,dg,a,v8];show _+_=_+smL [(key,num)] _;rw[tR,uo,gQ];rfl
 ·have:=h.cl;omega
 ·have:=h.ll;omega
theorem TI0.finish(a:BI n W k B)(hk:k<6)(h:TI0 n W k B B.length C L):CI n W (k+1) C/\BI n W (k+1) L:=by
 have h0:=h ([],[]) 0;have c:B.length<=7776:=cO a.len (by
  have:6^k<=6^5:=eK (by decide) (jA hk);simpa using this)
 refine⟨⟨h0.ck,λF=>?_,by have:=h0.cl;omega⟩,⟨h0.lk,λG=>?_,?_,h0.lv⟩⟩
 ·rw[h0.cs F,dy,eY,uo,gR,gQ];show _+_*He (MD n W F) B=GM n W F k+_;rw[a.sum]
  congr 2
  refine smL_congr λb _=>?_;unfold MD;rw[wf,wU]
 ·rw[h0.ls G,dy,eY,uo,gR,gQ];show He (Mq n W G) B=smL ((pre n k).flatMap (exts n)) _;rw[a.sum,wy];refine smL_congr λb _=>?_;unfold Mq exts;rw[wf,wU,wU];exact smL_congr λp _=>by rw[yD]
 ·have:=h0.ll;have:=a.len;rw[rn];omega
end
def J4(K:b3):Sp:=λvs H Q _=>∃(w l:cG) (row ts:List Int),vs=[.ref w,.ref l]/\SqT K H w (row.map V.int)/\(SqL K H l (ts.map V.int)\/SqT K H l (ts.map V.int))/\row.length<=63/\(∃t∈row,t∉ts)/\∀H',Same H H'->Q (.int (GY row ts)) H'
def IW(K:b3):Sp:=λvs H Q _=>∃(a:cG) (ns:List Int) (x:Int),vs=[.ref a,.int x]/\SqT K H a (ns.map V.int)/\ns.length<=60/\∀p H',Same H H'->SqT K H' p ((srt (ns++[x])).map V.int)->Q (.ref p) H'
def Jv(K:b3):Sp:=λvs H Q _=>∃(a g t:cG) (ws:List V) (W:List (List Int)) (n:Nat) (key:Gy),vs=[.ref a,.ref g,.ref t]/\SqL K H a ws/\dJ (IsR K H) ws W/\Hf n W/\SqT K H g (key.1.map V.int)/\SqT K H t (key.2.map V.int)/\key.2.length<n/\
 ∀p ls H',Same H H'->H p=none->H' p=some (.lst ls)->dJ (IsF K H') ls (Gv n W key)->Q (.ref p) H'
def Ht:Sp:=λvs H Q _=>∃k:Nat,vs=[.int k]/\k<=6/\Q (.int (fct k)) H
def JR(P:cY)(w:dn)(K:b3):Sp:=λvs H Q _=>∃(a:cG) (ws:List V) (W:List (List Int)) (n:Nat),vs=[.ref a]/\SqL K H a ws/\dJ (IsR K H) ws W/\Hf n W/\
 ∀d C H',Same H H'->DictI Ih P w K H' d C->CI n W n C->Q (.ref d) H'
def GW(n:Nat)(W:List (List Int))(p:Int):List (Int×Int):=(dc n).map λ(t:Nat)=>FQ.red (GM n W (λl=>Ip p t (l.getD 0 0) (l.getD 1 0)) n) (fct n)
def J2(P:cY)(w:dn)(K:b3):Sp:=λvs H Q _=>∃(d:cG) (C:List (List Int×Int)) (W:List (List Int)) (n:Nat) (p:Int),vs=[.ref d,.int p,.int n]/\DictI Ih P w K H d C/\CI n W n C/\n<=6/\
 ∀q gs H',Same H H'->H q=none->H' q=some (.tup gs)->dJ (IsF K H') gs (GW n W p)->Q (.ref q) H'
def RwG(K:b3)(H:Hp)(v:V)(r:List (Int×Int)):Prop:=∃a gs,v = .ref a/\SqT K H a gs/\dJ (IsF K H) gs r
theorem RwG.mono{K:b3}{H b:Hp}{v:V}{r:List (Int×Int)}(e:Same H b)(h:RwG K H v r):RwG K b v r:=by
 obtain⟨a,c,rfl,h1,h2⟩:=h;exact⟨a,c,rfl,e.tup h1,tq e h2⟩
def Jw(n:Nat)(W:List (List Int)):List (List (Int×Int)):=(dc n).map λ(p:Nat)=>GW n W p
def IU(K:b3):Sp:=λvs H Q _=>∃(a:cG) (ws:List V) (W:List (List Int)) (n:Nat),vs=[.ref a]/\SqL K H a ws/\dJ (IsR K H) ws W/\Hf n W/\
 ∀q us H',Same H H'->H q=none->H' q=some (.lst us)->dJ (RwG K H') us (Jw n W)->Q (.ref q) H'
structure KX(bad:List cG)(H H':Hp):Prop where
 keep:∀b o,b∉bad->H b=some o->H' b=some o
 was:∀b∈bad,∃φ,H b=some (.ext φ)
 is:∀b∈bad,∃φ,H' b=some (.ext φ)
section
variable{bad:List cG}{H H' H'':Hp}{K:b3}
theorem KX.refl(h:∀b∈bad,∃φ,H b=some (.ext φ)):KX bad H H:=⟨λ_ _ _ e=>e,h,h⟩
theorem KX.trans(a:KX bad H H')(b:KX bad H' H''):KX bad H H'':=⟨λc o d e=>b.keep c o d (a.keep c o d e),a.was,b.is⟩
theorem KX.of(e:Same H H')(h:∀b∈bad,∃φ,H b=some (.ext φ)):KX bad H H':=⟨λ_ _ _ q=>e _ _ q,h,λb a=>by obtain⟨φ,q⟩:=h b a;exact⟨φ,e _ _ q⟩⟩
theorem KX.put{d:cG}(h:∀b∈bad,∃φ,H b=some (.ext φ))(c:d∈bad)(e:∃φ φ',H d=some (.ext φ)/\H'=upd H d (.ext φ')):KX bad H H':=by
 obtain⟨φ,φ',h1,rfl⟩:=e;refine⟨λb o a q=>by rw[td (show b≠d from λz=>a (by rw[z];exact c))];exact q,h,λb a=>?_⟩;by_cases z:b=d
 ·subst z;exact⟨φ',sQ⟩
 ·rw[td z];exact h b a
theorem KX.get(a:KX bad H H'){b:cG}{o:HO}(h:H b=some o)(c:∀φ,o≠ .ext φ):H' b=some o:=a.keep b o (λz=>by obtain⟨φ,q⟩:=a.was b z;rw[h]at q;exact c φ (Option.some.inj q)) h
theorem KX.tup(a:KX bad H H'){b:cG}{xs:List V}(h:SqT K H b xs):SqT K H' b xs:=by
 rcases h with(h|⟨u,h⟩)|h
 ·exact .inl (.inl (a.get h λ_ z=>by cases z))
 ·exact .inl (.inr ⟨u,a.get h λ_ z=>by cases z⟩)
 ·exact .inr h
theorem KX.lst(a:KX bad H H'){b:cG}{xs:List V}(h:H b=some (.lst xs)):H' b=some (.lst xs):=a.get h λ_ z=>by cases z
theorem KX.same{c:Hp}(a:KX bad H H')(e:Same c H)(d:∀b∈bad,c b=none):Same c H':=λb o q=>a.keep b o (λz=>by rw[d b z]at q;cases q) (e b o q)
theorem KX.dict{b:Type}[DecidableEq b]{W:KW b}{P:cY}{w:dn}{d:cG}{c:Nat}{kvs:List (b×Int)}(a:KX bad H H')(h:DictE W P w K H d c kvs)(k:d∉bad):DictE W P w K H' d c kvs:=by
 obtain⟨g,h1,h2⟩:=h;exact⟨g,a.keep _ _ k h1,Paired.mapP h2 λ_ _ ⟨e,j,f⟩=>⟨e,j,W.map (λ_ _ q=>a.tup q) f⟩⟩
theorem DictI.ext{a:Type}[DecidableEq a]{W:KW a}{P:cY}{w:dn}{d:cG}{kvs:List (a×Int)}(h:DictI W P w K H d kvs):∃φ,H d=some (.ext φ):=by
 obtain⟨c,b,h1,_⟩:=h;exact⟨_,h1⟩
end
theorem Ap{m:Nat}(h:m<=6):0<TM.fct m/\TM.fct m<=720:=
 (show ∀m∈dc 7,0<TM.fct m/\TM.fct m<=720 by decide) m (d5.mpr (fK h))
theorem CJ(l:List Int):(TM.srt l).length=l.length:=(TM.srt_perm l).length_eq
theorem DE{n k:Nat}{W:List (List Int)}{a:List Int}{c:Int×Int}(b:a∈TM.pre n k)(hp:c∈Gv n W (GJ W a)):∃ρ∈TM.pre n (k+1),Hg (GJ W a) c=GJ W ρ:=by
 rw[wf]at hp;obtain⟨p,h1,rfl⟩:=dG.mp hp;exact⟨a++[p],pc.mpr ⟨a,b,dG.mpr ⟨p,h1,rfl⟩⟩,yD W a p⟩
def Il(n:Nat)(f:Nat->Nat->Int):List (List Int):=(dc n).map λp=>(dc n).map λt=>f p t
theorem Ao(n:Nat)(f:Nat->Nat->Int):(Il n f).length=n:=by unfold Il;simp
theorem z4{n:Nat}{f:Nat->Nat->Int}{p:Nat}(hp:p<n):(Il n f)[p]?=some ((dc n).map λt=>f p t):=by unfold Il;rw[cL,eg hp];rfl
theorem Fu{n:Nat}{g:Nat->Int}{t:Nat}(a:t<n):((dc n).map g)[t]?=some (g t):=by rw[cL,eg a];rfl
theorem DU(n:Nat)(W:List (List Int)):(Jw n W).length=n:=by unfold Jw;simp
theorem AF(n:Nat)(W:List (List Int))(p:Int):(GW n W p).length=n:=by unfold GW;simp
def Hk(n:Nat)(W:List (List Int))(p t:Nat):Int:=TM.smL (TM.pre n n) λo=>HK W n o p t
theorem Bk{n:Nat}{W:List (List Int)}{p:Nat}:GW n W p=(dc n).map λ(t:Nat)=>FQ.red (Hk n W p t) (TM.fct n):=by
 unfold GW Hk;exact fW λt _=>by rw[CK]
def L1{a:Type}[DecidableEq a](kvs:List (a×Int))(k:a):Int:=(kvs.lookup k).getD 0
theorem DT(C:List (List Int×Int))(h:KN C)(n:Nat)(W:List (List Int))(g:∀F,He F C=GM n W F n)(p t:Int):L1 C [p,t]=GM n W (λl=>Ip p t (l.getD 0 0) (l.getD 1 0)) n:=by
 have d:=EA h [p,t];have e:GM n W (λa=>if a=[p,t]then 1 else 0) n=GM n W (λl=>Ip p t (l.getD 0 0) (l.getD 1 0)) n:=by
  have b:∀k,GM n W (λa=>if a=[p,t]then 1 else 0) k=GM n W (λl=>Ip p t (l.getD 0 0) (l.getD 1 0)) k:=by
   intro k
   induction k with
   | zero=>rfl
   | succ k f=>
    show GM n W _ k+_=GM n W _ k+_;rw[f]
    congr 2
    exact TM.smL_congr λc _=>TM.smL_congr λq _=>by
     show(if[q,GZ W q (KI W c)]=[p,t]then(1:Int)else 0)=Ip p t q (GZ W q (KI W c));unfold Ip;simp
  exact b n
 rw[<-e,<-g];exact d
theorem D9{n:Nat}{o:List Int}(h:o∈TM.pre n n):LN.Pm n o:=by
 have I:=TM.pre_ok h;have c:=TM.free_len I;have b:TM.freeP n o=[]:=iu (by omega);refine(gn I.nd (LM.rng_nodup n)).mpr λx=>⟨λa=>LM.mem_rng.mpr (I.bd x a),λa=>?_⟩;refine dU λz=>?_;have:x∈TM.freeP n o:=ef.mpr ⟨a,by simpa using z⟩;rw[b]at this
 cases this
end L2
namespace L2
open TM
theorem wl{n c:Nat}(hc:c<n)(x:Int):HM.sm n (λi=>if i=c then x else 0)=x:=by
 have h:=HM.sm_cnt (λi=>i==c) x n;rw[HM.cnt_one,if_pos hc]at h;rw[HM.sm_congr (g:=λi=>if(i==c)=true then x else 0) λi _=>by by_cases e:i=c <;> simp[e],h];simp
theorem D3{a:Type}(l:List a):smL l (λ_=>(1:Int))=l.length:=by rw[uS,jV]
theorem FL{n:Nat}{W:List (List Int)}{o:List Int}(ok:Hf n W)(d:LN.Pm n o){k:Nat}(hk:k<n):0<=bt W o k/\bt W o k<n/\bt W o k∉tk W o k:=by
 have f:=d.len;have e:=d.mem.mp (show o.getD k 0∈o by rw[HM.getD_lt (by omega)];exact db _);have b:(o.getD k 0).toNat<W.length:=by have:=ok.len;omega
 have a:=ok.pm _ (db b);unfold bt;rw[HM.getD_lt b];have c:=yB (CY (ts:=tk W o k) a (by rw[BE];exact hk));have:=a.mem.mp c.2.1;exact⟨this.1,this.2,c.2.2⟩
theorem F0{n:Nat}{W:List (List Int)}{o:List Int}(ok:Hf n W)(p:LN.Pm n o):LN.Pm n (tk W o n):=by
 have d:∀k,k<=n->(tk W o k).Nodup/\∀t∈tk W o k,0<=t/\t<n:=by
  intro k
  induction k with
  | zero=>exact λ_=>⟨io,λ_ h=>nomatch h⟩
  | succ k g=>
   intro hk;obtain⟨h1,h2⟩:=g (by omega);obtain⟨f,m,j⟩:=FL ok p (k:=k) (by omega);have e:tk W o (k+1)=tk W o k++[bt W o k]:=rfl;rw[e];refine⟨gB.mpr ⟨h1,by simp,λx a y l z=>j (by rw[cK.mp l]at z;rw[<-z];exact a)⟩,λt b=>?_⟩;rcases dE.mp b with z|z
   ·exact h2 t z
   ·rw[cK.mp z];exact⟨f,m⟩
 obtain⟨h1,h2⟩:=d n (cI _);refine(gn h1 (LM.rng_nodup n)).mpr λx=>⟨λa=>LM.mem_rng.mpr (h2 x a),λa=>?_⟩;refine dU λz=>?_;have c:=LM.mem_rng.mp a;have:=Kq (x::tk W o n) (LM.rng n) (fD.mpr ⟨z,h1⟩) λt b=>LM.mem_rng.mpr (by
  rcases da.mp b with e|e
  ·rw[e];exact c
  ·exact h2 t e)
 rw[dR,BE,LM.rng_len]at this;omega
theorem FT(W:List (List Int))(o:List Int){n j:Nat}(a:j<n):(tk W o n).getD j 0=bt W o j:=by
 rw[ER,cA,cL,eg a];rfl
theorem Eo{n:Nat}(W:List (List Int)){o:List Int}(k:LN.Pm n o){p:Nat}(hp:p<n):∃j,j<n/\o.getD j 0=(p:Int)/\(∀i,i<n->o.getD i 0=(p:Int)->i=j)/\∀V t,HK V n o p t=if bt V o j=t then 1 else 0:=by
 obtain⟨j,f,e,d⟩:=HM.pm_at k hp;refine⟨j,f,e,λi b h=>d i b (by rw[h];rfl),λV t=>?_⟩;unfold HK;rw[HM.sm_congr (g:=λi=>if i=j then(if bt V o j=t then 1 else 0)else 0) λi b=>?_,wl f];unfold Ip;by_cases c:i=j
 ·subst c;rw[if_pos rfl];by_cases a:bt V o i=t
  ·rw[if_pos a,if_pos ⟨e,a⟩]
  ·rw[if_neg a,if_neg λz=>a z.2]
 ·rw[if_neg c,if_neg λz=>c (d i b (by rw[z.1];rfl))]
theorem DH{n:Nat}{W:List (List Int)}{o:List Int}(ok:Hf n W)(a:LN.Pm n o){p:Nat}(hp:p<n):HM.sm n (λt=>HK W n o p t)=1:=by
 obtain⟨j,b,_,_,h⟩:=Eo W a hp;obtain⟨e,d,_⟩:=FL ok a b;rw[HM.sm_congr (g:=λt=>if t=(bt W o j).toNat then 1 else 0) λt _=>?_,wl (by omega)];show HK W n o p t=_;rw[h];by_cases c:bt W o j=t
 ·rw[if_pos c,if_pos (by omega)]
 ·rw[if_neg c,if_neg (by omega)]
theorem D0{n:Nat}{W:List (List Int)}{o:List Int}(ok:Hf n W)(b:LN.Pm n o){t:Nat}(k:t<n):HM.sm n (λp=>HK W n o p t)=1:=by
 unfold HK;rw[HM.sm_swap];obtain⟨j,f,e,h⟩:=HM.pm_at (F0 ok b) k;rw[HM.sm_congr (g:=λi=>if i=j then 1 else 0) λi d=>?_,wl f];have m:=b.len;have l:=b.mem.mp (show o.getD i 0∈o by rw[HM.getD_lt (by omega)];exact db _);rw[FT W o f]at e;by_cases c:i=j
 ·subst c;rw[if_pos rfl,HM.sm_congr (g:=λp=>if p=(o.getD i 0).toNat then 1 else 0) λp _=>?_,wl (by omega)];unfold Ip;by_cases a:p=(o.getD i 0).toNat
  ·rw[if_pos a,if_pos ⟨by omega,e⟩]
  ·rw[if_neg a,if_neg λz=>a (by omega)]
 ·rw[if_neg c,HM.sm_congr (g:=λ_=>0) λp _=>?_,HM.sm_zero];unfold Ip;rw[if_neg λz=>c (h i d (by rw[FT W o d,z.2];rfl))]
theorem Du{n:Nat}{W:List (List Int)}(ok:Hf n W){p:Nat}(hp:p<n):HM.sm n (λt=>Hk n W p t)=fct n:=by
 unfold Hk;rw[<-An (λo t=>HK W n o p t),smL_congr (g:=λ_=>1) λo a=>DH ok (D9 a) hp,D3,Ch]
theorem Da{n:Nat}{W:List (List Int)}(ok:Hf n W){t:Nat}(b:t<n):HM.sm n (λp=>Hk n W p t)=fct n:=by
 unfold Hk;rw[<-An (λo p=>HK W n o p t),smL_congr (g:=λ_=>1) λo a=>D0 ok (D9 a) b,D3,Ch]
theorem FP{b:Type}{l:List b}{f:b->Int}(h:∀x∈l,0<=f x):0<=smL l f:=by
 induction l with
 | nil=>exact fH _
 | cons a l d=>
  rw[tR];have:=h a cM;have:=d λx c=>h x (cN _ c);omega
theorem E8(n:Nat)(W:List (List Int))(p t:Nat):0<=Hk n W p t:=FP λo _=>(E6 W n o p t).1
theorem x9{n:Nat}{f:Nat->Nat->Int}{p t:Nat}(hp:p<n)(a:t<n):HM.ent (Il n f) p t=f p t:=by
 unfold HM.ent;rw[cA,cA,z4 hp];show(((dc n).map λt=>f p t)[t]?).getD 0=_;rw[Fu a];rfl
theorem Do{n:Nat}{W:List (List Int)}(ok:Hf n W):HM.Reg n (Il n (Hk n W)) (fct n):=by
 refine⟨Ao _ _,λr b=>?_,λp t=>?_,λi c=>?_,λj d=>?_⟩
 ·unfold Il at b;obtain⟨q,_,rfl⟩:=dG.mp b;simp
 ·by_cases hp:p<n
  ·by_cases a:t<n
   ·rw[x9 hp a];exact E8 n W p t
   ·unfold HM.ent;rw[cA,cA,z4 hp];show 0<=(((dc n).map λt=>Hk n W p t)[t]?).getD 0;rw[gt (by simpa using a)];exact fH _
  ·unfold HM.ent;have e:(Il n (Hk n W))[p]?=none:=gt (by rw[Ao];omega);rw[cA,cA,e];exact fH _
 ·rw[HM.sm_congr (g:=λt=>Hk n W i t) λt a=>x9 c a];exact Du ok c
 ·rw[HM.sm_congr (g:=λp=>Hk n W p j) λp hp=>x9 hp d];exact Da ok d
end L2
namespace L2
open TM
section
variable{n:Nat}{W V:List (List Int)}{P X:List Int}
theorem FS{n:Nat}{t:Int}(h0:0<=t)(h1:t<n):EM.at0 (gj n (1:Int)) t=1:=by
 unfold EM.at0;rw[HM.getD_lt (by rw[hO];omega),List.getElem_replicate]
end
end L2
namespace L2
open PySem PySem.Spec PyProof.Rows
section
variable{X:Cx}
theorem CG:∀{vs:List cz} {ns:List Int} (hi:IntsAre vs ns) {i:Nat} (h:i<vs.length),∃t,vs[i]=d4 (ns[i]'(by rw[<-hi.length];exact h)) t
 | _,_,.cons n t r,0,_=>⟨t,rfl⟩
 | _,_,.cons n t r,i+1,h=>CG r (i:=i) (by simpa using h)
theorem index_tup_ints{prog:cY}{w:dn}{A:dD}{E:cz->cC->Prop}{s:cC}{a:cG}{vs:List cz}{ns:List Int}{k:Int}{t:Tok}{Q:cz->cC->Prop}(f:IsTup s.heap a vs.toArray)(r:IntsAre vs ns)
  (hk:k∈ns)(h:Q (.int (ns.idxOf k:Nat) s.toks) {s with toks:=s.toks+1}):wpAny (model prog w) A (call (.builtin "tuple.index") [.ref a,.int k t]) Q E s:=by
 have u:=r.length
 have y:ns.idxOf k<ns.length:=gw.mpr hk
 refine gH jm f.typeIs kI (kB _ _) (S:=λA R s=>IsTup s.heap a vs.toArray/\R (.ok (.ret (.int (ns.idxOf k:Nat) s.toks))) {s with toks:=s.toks+1}) ?_ ⟨f,h⟩
 intro prog w A R s ⟨f,h⟩
 show wpAny _ _ _ _ _ _
 unfold Builtin.«tuple.index»
 simp only[i8]
 wp_walk using q5 f
 have q:([:min vs.toArray.size vs.toArray.size]:ph).size=vs.length:=by simp[mJ]
 rw[q]
 refine lM (M:=model prog w) (A:=A.in1) _ (λl b o=>b=((none:Option PySem.Fin),())/\o=s/\∃i,l=kS i (vs.length-i)/\i<=ns.idxOf k) _ (λx rest b o j=>?_) (λb o j=>?_) _ _ ⟨rfl,rfl,0,rfl,dz _⟩
 ·obtain⟨rfl,rfl,i,e,d⟩:=j
  have g:i<vs.length:=by omega
  rw[show vs.length-i=(vs.length-(i+1))+1 by omega,lJ]at e
  injection e with n hrest
  subst n
  obtain⟨p,v⟩:∃p,vs[x]=d4 (ns[x]'(by omega)) p:=CG r g
  have m:vs.toArray[x]?=some (d4 (ns[x]'(by omega)) p):=by simp[g,v]
  rw[m]
  refine b0 (oQ ?_)
  by_cases c:ns[x]'(by omega)=k
  ·have n:ns.idxOf k=x:=by
    have h1:ns.idxOf k<=x:=by
     refine fh λz=>?_
     exact absurd c (by simpa using jH z)
    omega
   rw[show(ns[x]'(by omega)==k)=true by simp[c],if_pos rfl]
   wp_walk
   rw[n]at h
   exact h
  ·rw[show(ns[x]'(by omega)==k)=false by simp[c],if_neg (by decide)]
   refine b4 ⟨rfl,rfl,x+1,hrest,?_⟩
   refine nX d λz=>c ?_
   have:=iE y
   simp only[<-z]at this
   exact this
 ·obtain⟨_,_,i,e,d⟩:=j
  have:=congrArg jp e
  simp at this
  omega
theorem SqT.frz{K:b3}{H:Hp}{a:cG}{o:Obj}{xs:List V}(h:H a=some (.frz o (.tup xs))):SqT K H a xs:= .inl (.inr ⟨o,h⟩)
theorem vy:GH X (.type "tuple") (λxs H Q=>∃p ys,xs=[.ref p]/\SqL X.K H p ys/\∀l o,H l=none->o.dict=none->Q (.ref l) (upd H l (.frz o (.tup ys)))):=by
 intro a s j H xs z Q I r h;obtain⟨p,ys,rfl,y,q⟩:=h;obtain⟨u,rfl,t⟩:=GT r
 cases t;obtain⟨c,f,v,n⟩:=I.list y;have m:=f.length;refine pA v.isList (λd x=>?_) (by simp only[cW] <;> omega);have g:Inv X a j H {s with heap:=d}:=I.kept (t':=s.toks) x;have k:Inv X a j (upd H d.objs.size (.frz {cls:= .type "tuple",data:= .seq c.toArray} (.tup ys))) {s with heap:=d.push {cls:= .type "tuple",data:= .seq c.toArray}}:=
  g.laid (t':=s.toks) (λb o e=>cF _ e) (cI _) (show ObjOk X.prog X.w _ _ _ (.frz _ (.tup ys))from⟨cP _ rfl,n,c,f,rd _ _⟩)
 exact⟨.ref d.objs.size,_,k,rfl,q _ _ (g.hok.fresh (cI _)) rfl⟩
end
theorem vS{K:b3}{H:Hp}{T:Int}:∀{Z:List (List Int)} {us:List V},dJ (RwG K H) us (Z.map (fr T))->dJ (RwFT K H T) us Z
 | [],_,.nil=> .nil
 | _::_,_,.cons h t=> .cons h (vS t)
theorem Fj(n:Nat)(W:List (List Int)):Jw n W=(Il n (Hk n W)).map (fr (TM.fct n)):=by
 unfold Jw Il;rw[jb];refine fW λp _=>?_;rw[Bk];show _=fr (TM.fct n) ((dc n).map λt=>Hk n W p t);unfold fr;rw[jb];rfl
theorem Ep{n:Nat}{W:List (List Int)}(ok:Hf n W):K3 n (TM.fct n) (Il n (Hk n W)):=by
 have h:=Ap ok.hi;exact⟨ok.lo,ok.hi,h.1,by omega,Do ok⟩
end L2
namespace L2
open TM
section
variable{n:Nat}{W:List (List Int)}
theorem z6(h:EM.Ws n W)(ms:List Int):(EM.dishes W ms).length=n:=by unfold EM.dishes;rw[cx];exact h.len
theorem Ex(h:EM.Ws n W){i:Nat}(b:EM.Upto W n (i+1)){p:Nat}(hp:p<n):0<=(EM.dishes W (EM.st W n i).ms).getD p 0/\(EM.dishes W (EM.st W n i).ms).getD p 0<n/\EM.at0 (EM.st W n i).ms ((EM.dishes W (EM.st W n i).ms).getD p 0)≠0:=by
 have S:=(EM.st_ok h i (b.mono (d6 i))).1;have a:p<(EM.dishes W (EM.st W n i).ms).length:=by rw[z6 h];exact hp
 rw[HM.getD_lt a];have:=EM.dish_ok S h.pm (b i (du i)) (db a);exact⟨this.1.1,this.1.2,this.2⟩
theorem CT(c:Int)(f:Nat->Int):∀n,HM.sm n (λi=>f i*c)=HM.sm n f*c
 | 0=>by show(0:Int)=0*c;rw[kb]
 | n+1=>by
  show HM.sm n (λi=>f i*c)+f n*c=(HM.sm n f+f n)*c
  rw[CT c f n,ic]
theorem Ee(h:EM.Ws n W){p:Nat}(hp:p<n):∀i,EM.Upto W n i->HM.sm n (λt=>EM.et W n i p t)=(EM.st W n i).T
 | 0,_=>HM.sm_zero n
 | i+1,hu=>by
  have a:=Ee h hp i (hu.mono (d6 i))
  obtain⟨b,d,_⟩:=Ex h hu hp
  show HM.sm n (λt=>EM.et W n i p t*EM.cn W (EM.st W n i)+if(EM.dishes W (EM.st W n i).ms).getD p 0=(t:Int)then(EM.cs W (EM.st W n i)).m else 0)=(EM.st W n i).T*EM.cn W (EM.st W n i)+(EM.cs W (EM.st W n i)).m
  rw[HM.sm_add (λt=>EM.et W n i p t*EM.cn W (EM.st W n i)),CT _ (λt=>EM.et W n i p t),a]
  congr 1
  rw[HM.sm_congr (g:=λt=>if t=((EM.dishes W (EM.st W n i).ms).getD p 0).toNat then(EM.cs W (EM.st W n i)).m else 0) λt _=>?_,wl (by omega)]
  by_cases c:(EM.dishes W (EM.st W n i).ms).getD p 0=(t:Int)
  ·rw[if_pos c,if_pos (by omega)]
  ·rw[if_neg c,if_neg (by omega)]
theorem DC{l:List Int}{t m:Int}:∀{n:Nat},l.length=n->HM.sm n (λp=>if l.getD p 0=t then m else 0)=EM.cnt l t*m:=by
 intro n
 induction n generalizing l with
 | zero=>
  intro b;rw[iu b];show(0:Int)=EM.cnt [] t*m;unfold EM.cnt;simp
 | succ n f=>
  intro b;have a:l≠[]:=λz=>by rw[z]at b;cases b
  have e:l.dropLast++[l.getLast a]=l:=jZ a;have d:l.dropLast.length=n:=by rw[jS,b];rfl
  show HM.sm n (λp=>if l.getD p 0=t then m else 0)+(if l.getD n 0=t then m else 0)=_;rw[HM.sm_congr (g:=λp=>if l.dropLast.getD p 0=t then m else 0) λp hp=>?_,f d]
  ·have j:l.getD n 0=l.getLast a:=by
    conv=>lhs;rw[<-e]
    rw[cA,ff (by omega),d,iC];simp
   rw[j];have h:EM.cnt l t=EM.cnt l.dropLast t+if l.getLast a=t then 1 else 0:=by
    unfold EM.cnt
    conv=>lhs;rw[<-e]
    rw[List.count_append];by_cases c:l.getLast a=t
    ·rw[if_pos c,c];simp
    ·rw[if_neg c,nO.mpr (λz=>c (cK.mp z).symm)];simp
   rw[h,ic];by_cases c:l.getLast a=t
   ·rw[if_pos c,if_pos c,jV]
   ·rw[if_neg c,if_neg c,kb]
  ·show(if l.getD p 0=t then m else 0)=if l.dropLast.getD p 0=t then m else 0
   have:l.getD p 0=l.dropLast.getD p 0:=by
    conv=>lhs;rw[<-e]
    rw[cA,hV (by omega),cA]
   rw[this]
theorem Ei(h:EM.Ws n W){t:Int}(h0:0<=t)(h1:t<n):∀i,EM.Upto W n i->HM.sm n (λp=>EM.et W n i p t)=(EM.st W n i).D-EM.at0 (EM.st W n i).ms t
 | 0,_=>by
  show HM.sm n (λ_=>0)=1-EM.at0 (gj n 1) t
  rw[HM.sm_zero,FS h0 h1]
  rfl
 | i+1,hu=>by
  have a:=Ei h h0 h1 i (hu.mono (d6 i))
  have S:=(EM.st_ok h i (hu.mono (d6 i))).1
  show HM.sm n (λp=>EM.et W n i p t*EM.cn W (EM.st W n i)+if(EM.dishes W (EM.st W n i).ms).getD p 0=t then(EM.cs W (EM.st W n i)).m else 0)=(EM.st W n i).D*EM.cn W (EM.st W n i)-EM.at0 (EM.nextMs (EM.dishes W (EM.st W n i).ms) (EM.st W n i).ms) t
  rw[HM.sm_add (λp=>EM.et W n i p t*EM.cn W (EM.st W n i)),CT _ (λp=>EM.et W n i p t),a,DC (z6 h _),EM.at0_next h0 (by rw[S.len];exact h1)]
  show((EM.st W n i).D-EM.at0 (EM.st W n i).ms t)*EM.cn W (EM.st W n i)+EM.cnt (EM.dishes W (EM.st W n i).ms) t*(EM.cs W (EM.st W n i)).m=(EM.st W n i).D*EM.cn W (EM.st W n i)-(EM.at0 (EM.st W n i).ms t*EM.cn W (EM.st W n i)-EM.cnt (EM.dishes W (EM.st W n i).ms) t*(EM.cs W (EM.st W n i)).m)
  grind
theorem FW(h:EM.Ws n W){i:Nat}(a:EM.Upto W n i)(p:Nat)(t:Int):0<=EM.et W n i p t:=(EM.et_bd h p t i a).1
end
end L2
namespace L2
open PySem PySem.Spec PyProof.Rows TM
section
variable{n N:Nat}{W:List (List Int)}
theorem Cq:(GC W n N).length=n:=by unfold GC;simp
theorem ET{p:Nat}(hp:p<n):(GC W n N)[p]?=some (G7 W n N p):=by
 unfold GC;rw[cL,eg hp];rfl
theorem Ar{p:Nat}(hp:p<n):(GC W n N).getD p []=G7 W n N p:=by
 rw[cA,ET hp];rfl
theorem xH(p:Nat):(G7 W n N p).length=n:=by unfold G7;rw[cx,LM.rng_len]
theorem Cs{p t:Nat}(a:t<n):(G7 W n N p).getD t 0=EM.et W n N p t:=by
 unfold G7;rw[cA,cL,EM.rng_get a];rfl
theorem zH{p t:Nat}(hp:p<n)(a:t<n):HM.ent (GC W n N) p t=EM.et W n N p t:=by
 unfold HM.ent;rw[Ar hp,Cs a]
theorem Fk(h:EM.Ws n W)(a:EM.Stops W n N):K3 n (EM.st W n N).D (GC W n N):=by
 have S:=(EM.st_ok h N a.up).1;have k:=EM.D_le S h.n6;have e:=(EM.all_gone h a).1;have z:=EM.sum_zero S.nn a.last;refine⟨h.n1,h.n6,S.pos,by omega,⟨Cq,λr c=>?_,λp t=>?_,λi d=>?_,λj f=>?_⟩⟩
 ·unfold GC at c;obtain⟨p,_,rfl⟩:=dG.mp c;exact xH p
 ·by_cases hp:p<n
  ·by_cases b:t<n
   ·rw[zH hp b];exact FW h a.up p t
   ·unfold HM.ent;rw[Ar hp,cA,gt (by rw[xH];omega)];exact fH 0
  ·unfold HM.ent;rw[cA (l:=GC W n N),gt (by rw[Cq];omega)];exact fH 0
 ·rw[HM.sm_congr (g:=λt=>EM.et W n N i t) λt b=>zH d b,Ee h d N a.up,e]
 ·rw[HM.sm_congr (g:=λp=>EM.et W n N p j) λp hp=>zH hp f,Ei h (by omega) (by omega) N a.up,z _ (EM.at0_mem (by omega) (by rw[S.len];omega))];omega
end
theorem EG{n k j:Nat}{T:Int}{Z:List (List Int)}(a:K3 n T Z)(c:HM.Fin Z T k)(d:j<k):LN.Pm n (HM.lotAt Z T j).2/\∀p,p<n->0<HM.ent Z p ((HM.lotAt Z T j).2.getD p 0).toNat:=by
 have I:=HM.it_ok a.reg a.t0 a.lo k c.2;have S:=I.lots j d;have J:=HM.it_ok a.reg a.t0 a.lo j λi b=>c.2 i (by omega);refine⟨S.pm,λp hp=>?_⟩;have h1:=S.le p hp;have h2:=S.w1;have h3:0<=HM.sm j λi=>if((HM.lotAt Z T i).2.getD p 0).toNat=((HM.lotAt Z T j).2.getD p 0).toNat then(HM.lotAt Z T i).1 else 0:=by
  have:=HM.sm_le (n:=j) (f:=λ_=>0) (g:=λi=>if((HM.lotAt Z T i).2.getD p 0).toNat=((HM.lotAt Z T j).2.getD p 0).toNat then(HM.lotAt Z T i).1 else 0) λi b=>by
   have:=(J.lots i b).w1;show(0:Int)<=if _ then HM.wOf (HM.it Z T i).1 else 0
   split <;> omega
  rwa[HM.sm_zero]at this
 rw[J.ent p hp];show 0<HM.ent (HM.it Z T j).1 p ((HM.dealOf (HM.it Z T j).1).getD p 0).toNat+_;omega
def Lx(K:b3):Sp:=λvs H Q _=>∃(a:cG) (gs:List V) (ps:List (Int×Int)),vs=[.ref a]/\(SqL K H a gs\/SqT K H a gs)/\dJ (IsF K H) gs ps/\(∀i,Sz 4000 (Hd (ps.take i)))/\(∀p∈ps,Sz 4000 p)/\∀v H',Same H H'->IsF K H' v (Hd ps)->Q v H'
theorem FD{K:b3}{vs:List V}{H:Hp}{Q:VK}{E:XK}(h:Kp K vs H Q E):Lx K vs H Q E:=by
 obtain⟨a,c,f,rfl,e,d,b,g,q⟩:=h;exact⟨a,c,f,rfl,.inl e,d,λi=>Ff (by rw[cX];omega) λp hp=>b p (eP hp),λp hp=>(b p hp).up (by decide),q⟩
end L2
namespace L2
open PySem PySem.Spec PyProof.Rows
section
variable{X:Cx}
def NH:V->Option Int->Option Int->Hp->VK->Prop:=λx lo a H Q=>∃z,x = .str z/\z.length<=sizeLine/\Q (.str (gW z lo a)) H
def Hi:cz->Option (Int×Tok)
 | .int i t=>some (i,t)
 | _=>none
theorem wu:N0 X NH:=by
 intro j s y H x v c b lo a w Q I p u d f h;obtain⟨z,rfl,n,q⟩:=h;obtain⟨t,rfl⟩:=p;refine⟨"str",_,oU.lookup,nI s z t,?_⟩;have g:s.heap.IsSlice w (Hi c) (Hi b) none:=by
  obtain⟨o,h1,h2,h3⟩:=u;refine⟨o,h1,h2,?_⟩;rw[h3]
  cases d <;> cases f <;> rfl
 have r:(Hi c).map (·.1)=lo:=by cases d <;> rfl
 have m:(Hi b).map (·.1)=a:=by cases f <;> rfl
 refine wpAny_getItem_str_slice g (by rfl) ?_;have l:(sliceMade z t (Hi c) (Hi b) none) = .val (.str z t)/\gW z lo a=z\/sliceMade z t (Hi c) (Hi b) none = .str (gW z lo a):=by
  unfold sliceMade gW slicePicked;rw[r,m];simp only[Option.map_none,lC];split
  ·exact .inl ⟨rfl,rfl⟩
  ·exact .inr rfl
 rcases l with⟨e,k⟩|e
 ·rw[e];exact⟨.str z,H,I,⟨_,rfl⟩,by rw[k]at q;exact q⟩
 ·rw[e];exact⟨cO (Txt.slice_le z lo a) n,.str (gW z lo a),H,I.tok _,⟨_,rfl⟩,q⟩
theorem zo:Hb X (compareOp .LtE) (λx y H Q=>∃i j,x = .str i/\y = .str j/\Q (.bl (!decide (j.cps.toList<i.cps.toList))) H):=by
 intro b s d H x y v u Q I c a h;obtain⟨i,j,rfl,rfl,q⟩:=h;obtain⟨t,rfl⟩:=c;obtain⟨e,rfl⟩:=a;exact P.le_str ⟨.bl _,H,I,rfl,q⟩
theorem AK:Hb X (binaryOp .Mult) (λx y H Q=>∃z n,x = .str z/\y = .int n/\MulOk z n/\Q (.str (jI z n)) H):=by
 intro b s f H x y v u Q I c a h;obtain⟨z,n,rfl,rfl,e,q⟩:=h;obtain⟨t,rfl⟩:=c;obtain⟨d,rfl⟩:=a;exact SB.mul e λd k=>⟨.str _,H,I.tok _,⟨_,rfl⟩,q⟩
def MP:V->List V->Hp->VK->Prop:=λx vs H Q=>∃z y,x = .str z/\vs=[.str y]/\Q (.int (rS z y)) H
theorem EK:MJ X "str.find" MP:=by
 intro a s f H x e v d Q I b c h;obtain⟨z,y,rfl,rfl,q⟩:=h;obtain⟨t,rfl⟩:=b;obtain⟨u,rfl,g,rfl⟩:=GT c;exact SC.find ⟨.int _,H,I.tok _,⟨_,rfl⟩,q⟩
theorem u7:∀{ys:List Str} {its:List cz},Vals (ys.map V.str) its->StrsAre its ys
 | [],_,.nil=> .nil
 | y::_,_,.cons ⟨t,e⟩ r=>e▸ .cons y t (u7 r)
theorem zm:∀{its:List cz} {ys:List Str},StrsAre its ys->Vals (ys.map V.str) its
 | _,_,.nil=> .nil
 | _,_,.cons _ _ r=> .cons ⟨_,rfl⟩ (zm r)
def MN(K:b3):V->List V->Hp->VK->Prop:=λx vs H Q=>∃z p ys,x = .str z/\vs=[.ref p]/\SqL K H p (ys.map V.str)/\z.length<=16/\(ys.map kf).sum+ys.length<=1048576/\Q (.str (lP z ys)) H
theorem Ez:MJ X "str.join" (MN X.K):=by
 intro b s n H x m v j Q I c e h;obtain⟨z,p,o,rfl,rfl,hp,h1,h2,q⟩:=h;obtain⟨t,rfl⟩:=c;obtain⟨u,rfl,f⟩:=GT e
 cases(show u=cQ p from f);obtain⟨g,a,d,l⟩:=I.list hp;exact join_listW d.isList (by simpa using u7 a) h1 h2 λr k=>⟨.str _,H,I.tok _,⟨_,rfl⟩,q⟩
def Me:V->List V->Hp->VK->Prop:=λx vs H Q=>∃z y,x = .str z/\vs=[.str y]/\y.length≠0/\z.length+2<=sizeLine/\∀p,H p=none->Q (.ref p) (upd H p (.lst ((Txt.split z y).map V.str)))
theorem y6:∀(l:List Str) (k:Nat),Vals (l.map V.str) (strsFrom k l)
 | [],_=> .nil
 | _::l,k=> .cons ⟨_,rfl⟩ (y6 l (k+1))
theorem zX:MJ X "str.split" Me:=by
 intro j s B H x J v E Q I p C h;obtain⟨z,y,rfl,rfl,D,G,q⟩:=h;obtain⟨t,rfl⟩:=p;obtain⟨u,rfl,t',rfl⟩:=GT C;have f:(y.length==0)=false:=beq_eq_false_iff_ne.mpr D;have k:s.TypeIs (.str z t) "str":=nI s z t;have d:∀(e:Txt.split z y=[z]),EP X j B Q (.ref s.heap.objs.size) {s with heap:=s.heap.push {cls:= .type "list",data:= .seq #[.str z t]}}:=λe=>by
  have b:=q _ (I.hok.fresh (cI _));rw[e]at b;exact⟨.ref s.heap.objs.size,_,I.lnew (ys:=[.str z]) (its:=[.str z t]) (t':=s.toks) (.cons ⟨_,rfl⟩ .nil) (show 1<=sizeLine by decide),rfl,b⟩
 have N:=fact_split z y;by_cases a:(decide (z.length<y.length)||decide (jf z<jf y))=true
 ·have e:Txt.split z y=[z]:=by unfold Txt.split;rw[if_pos a]
  have o:Meets (Builtin.«str.split» {pos:=[.str z t,.str y t']}) (listOfItself z t):=by
   intro n w A R L m;obtain⟨M,r⟩:=split_sep_tree z y t t';rw[r,if_pos a];refine b0 (i4 ?_);refine b0 (jk ?_);exact b4 m
  exact gH lR k kX (kC _ _) o (d e)
 ·have g:(decide (z.length<y.length)||decide (jf z<jf y))=false:=by simpa using a
  by_cases c:(jt z y 0 z.length (z.length+1)).isEmpty=true
  ·have e:Txt.split z y=[z]:=by unfold Txt.split;rw[if_neg a,if_pos c]
   exact gH lR k kX (kC _ _) (meets_str_split_not_found z y t t' g f c) (d e)
  ·have e:Txt.split z y=lr z (jt z y 0 z.length (z.length+1)) y.length:=by unfold Txt.split;rw[if_neg a,if_neg c]
   have l:(lr z (jt z y 0 z.length (z.length+1)) y.length).length<=sizeLine:=by rw[<-e];omega
   refine gH lR k kX (kC _ _) (meets_str_split_sep z y t t' g f (by simpa using c) (by omega) l) ?_;have b:=q _ (I.hok.fresh (cI _));rw[e]at b;exact⟨.ref s.heap.objs.size,_,I.lnew (y6 _ _) (by rw[cx];exact l),rfl,b⟩
end
def MU(a b:Str):Prop:=a.cps.toList<=b.cps.toList
theorem y0:∀(x y:List Nat),ltCps x y=true↔x<y
 | [],[]=>by unfold ltCps;simp
 | [],_::_=>by unfold ltCps;simp
 | _::_,[]=>by unfold ltCps;simp
 | a::r,b::t=>by
  unfold ltCps
  rw[hU,<-y0 r t]
  simp
theorem Dc{a b:Str}:ltCps b.cps.toList a.cps.toList=false↔MU a b:=by
 unfold MU;rw[<-List.not_lt,<-Bool.not_eq_true];exact not_congr (y0 _ _)
theorem wJ{a b:Str}(h:a.cps.toList=b.cps.toList):a=b:=by
 cases a;cases b;exact congrArg Str.mk (Array.toList_inj.mp h)
theorem xP:∀{l:List Str} {x:Str},risingS x l=true->(x::l).Pairwise MU
 | [],_,_=>List.pairwise_singleton _ _
 | y::l,x,h=>by
  rw[risingS.eq_2,dt]at h
  have b:=xP h.2
  have h1:MU x y:=Dc.mp (by simpa using h.1)
  refine fB.mpr ⟨λz a=>?_,b⟩
  rcases da.mp a with rfl|a
  ·exact h1
  ·exact List.le_trans h1 ((fB.mp b).1 z a)
theorem xM{l:List Str}(h:sortedS l=true):l.Pairwise MU:=by
 cases l with
 | nil=>exact .nil
 | cons x l=>exact xP h
theorem wk{a b:List Str}(c:sortedS a=true)(d:sortedS b=true)(h:a.Perm b):a=b:=
 k9 (λ_ _ _ _ h1 h2=>wJ (List.le_antisymm h1 h2)) (xM c) (xM d) h
section
variable{X:Cx}
theorem zD{prog:cY}{w:dn}{A:dD}{E:cz->cC->Prop}{s:cC}{l:cG}{vs:List cz}{d:List Str}{Q:cz->cC->Prop}(r:IsTup s.heap l vs.toArray)(a:StrsAre vs d)(f:vs.length<64)
  (h:∀(out:Array cz) (ss':List Str),StrsAre out.toList ss'->ss'.Perm d->sortedS ss'=true->Q (.ref (s.heap.objs.size+1)) {s with heap:=sortedAll s.heap vs out}):
  wpAny (model prog w) A (call (.builtin "sorted") [.ref l]) Q E s:=by
 have b:((s.heap.push (seqObj "list" #[] 0)).update s.heap.objs.size (d7 (· ++ vs.toArray))).objs.size=s.heap.objs.size+1:=by rw[o0,lZ]
 have c:(((s.heap.push (seqObj "list" #[] 0)).update s.heap.objs.size (d7 (· ++ vs.toArray))).push (seqObj "list" vs.toArray 0)).get? (s.heap.objs.size+1)=some (seqObj "list" vs.toArray 0):=by
  rw[<-b];exact cP _ rfl
 refine hY pu oy oz (oA _) ?_
 unfold Builtin.«sorted»
 refine b0 (m:=checkCount "sorted" 1 1 _) (b4 ?_)
 have o:vs.length<=sizeLine:=cZ (F4 (by omega))
 refine b0 (wN r o (b0 (jk ?_)))
 change wpAny _ _ _ _ _ {s with heap:=((s.heap.push (seqObj "list" #[] 0)).update s.heap.objs.size (d7 (· ++ vs.toArray))).push (seqObj "list" vs.toArray 0)}
 rw[b]
 refine b0 (dI (dY mT ⟨_,c,rfl⟩ mq (list_sort_treeK strKind_oneLt c (StrsAre.keysOf a) (λg j rest e=>keyKind_strs (by rw[<-e];exact a)) f λt hp q=>⟨_,rfl,?_⟩) (mU _)))
 obtain⟨ss',n,k,p⟩:=sorted_out_str a hp q
 exact b4 ⟨_,rfl,h _ ss' n k p⟩
theorem uR:GH X (.builtin "sorted") (λxs H Q=>∃(p:cG) (ss:List Str),xs=[.ref p]/\(SqL X.K H p (ss.map V.str)\/SqT X.K H p (ss.map V.str))/\ss.length<64/\∀(l:cG) (ss':List Str),H l=none->ss'.Perm ss->sortedS ss'=true->Q (.ref l) (upd H l (.lst (ss'.map V.str)))):=by
 intro g s v H xs C Q I r h;obtain⟨p,ss,rfl,f,B,q⟩:=h;obtain⟨u,rfl,t⟩:=GT r
 cases(show u=cQ p from t);have fin:∀(a:List cz),Vals (ss.map V.str) a->∀(d:Array cz) (ss':List Str),StrsAre d.toList ss'->ss'.Perm ss->sortedS ss'=true->EP X g v Q (.ref (s.heap.objs.size+1)) {s with heap:=sortedAll s.heap a d}:=λa c d ss' x m z=>by
  obtain⟨e,A⟩:=rq s.heap a d;refine⟨.ref (s.heap.objs.size+1),_,I.laid (t':=s.toks) (λb o y=>qT y) (d6 _) (show ObjOk X.prog X.w _ _ _ (.lst (ss'.map V.str))from⟨?_,d.toList,e,zm x,by rw[A]⟩),rfl,q _ ss' (I.hok.fresh (d6 _)) m z⟩;rw[cx,m.length_eq];exact cZ (F4 (by omega))
 rcases f with f|f
 ·obtain⟨a,c,j,n⟩:=I.list f;have k:=c.length;rw[cx]at k;exact sorted_strs j.isList (u7 c) (by omega) (fin a c)
 ·obtain⟨a,c,j,n⟩:=I.tuple f;have k:=c.length;rw[cx]at k;exact zD j (u7 c) (by omega) (fin a c)
end
def Ob(z:Str):It:=⟨λi _=>i<z.cps.size,λi H x a=>a=H/\∃c,z.cps[i]?=some c/\x = .str ⟨#[c]⟩,λi _=>z.cps.size<=i⟩
theorem Dp{P:cY}{w:dn}{K:b3}{M:Expr}(it:cG)(z:Str)(t:Tok):JN P w K M (Ob z) [it] it (λi h=>h.IsStrIter it "str_ascii_iterator" z t i) where
 mem:=by simp
 obj:=λi h st b a=>by
  have e:b=it:=by simpa using a
  subst e
  obtain⟨o,e,c,d⟩:=st
  exact⟨o,e,λv z=>by rw[d]at z;cases z⟩
 keep:=λi h j st k=>by
  obtain⟨o,e,c,d⟩:=st
  exact⟨o,k it (by simp) o e,c,d⟩
 item:=by
  intro X B u x D i f s C H E I g st r
  subst B u x
  have l:i<z.cps.size:=r
  obtain⟨A,q,L,n,y,p⟩:=g it (by simp)
  refine wpAny_pyNext_ascii_item st (c:=z.cps[i]) (fu l) λj m F=>?_
  have J:Inv X f C H {s with heap:=j,toks:=s.toks+1}:=I.turned (λb o a e=>(F.2 b a).trans e) A q n y p
  obtain⟨o,e,c,d⟩:=id m
  exact⟨_,rfl,DG (s:={s with heap:=j,toks:=s.toks+1}) e c d (by decide) ⟨.str ⟨#[z.cps[i]]⟩,H,J,⟨_,rfl⟩,⟨rfl,_,fu l,rfl⟩,m,λb a=>(g b a).1⟩⟩
 done:=by
  intro X B u x D i f s C H E I g st r
  subst B u x
  have l:z.cps.size<=i:=r
  obtain⟨A,q,L,n,y,p⟩:=g it (by simp)
  exact wpAny_pyNext_ascii_end (I.ok.hd D) st (gO l) λj G=>⟨rfl,I.turned (t':=s.toks) (λb o a e=>G b o a e) A q n y p⟩
 self:=λ_ _ _ _ _ st h=>wpAny_pyIter_striter_ascii st h
theorem Fm{X:Cx}{r l:Expr}{g:TE}(hl:PE X l g):PI X r l (λσ H R=>g σ H λx H1=>∃z:Str,x = .str z/\(∀c∈z.cps.toList,c<128)/\R (Ob z) H1):=by
 intro d s σ H R I h;refine Gh (hl d s σ H _ I h) λv a ⟨x,H1,f,p,n⟩=>?_;obtain⟨z,e,k,q⟩:=n;subst e;obtain⟨t,rfl⟩:=p;refine wpAny_pyIter_ascii (by rw[Array.all_eq_true'];exact λc m=>decide_eq_true (k c (by simpa using m))) ?_;refine⟨a.heap.objs.size,[a.heap.objs.size],_,_,H1,rfl,f.kept (t':=a.toks) λb o e=>cF _ e,Dp _ z t,⟨_,cP _ rfl,rfl,rfl⟩,λb j=>?_,q⟩;have e:b=a.heap.objs.size:=by simpa using j
 subst e;exact f.fpOk (cI _) (f.hok.fresh (cI _))
theorem Cp{z:Str}{caps:List (Option Nat)}{g:TG}{f:TE}{d:St}{h:List V->Hp->Prop}{H:Hp}(a:Nat->List V->Hp->Prop)(h0:a 0 [] H)
  (o:∀i c ys H,z.cps[i]?=some c->a i ys H->g (.str ⟨#[c]⟩) (GU caps d) H λσ2 H2=>f σ2 H2 λy H4=>ys.length<sizeLine/\a (i+1) (ys++[y]) H4)
  (n:∀ys H,a z.cps.size ys H->h ys H):GG caps g HN f d h (Ob z) H:=by
 refine⟨λi m ys H=>m=z.cps.size-i/\i<=z.cps.size/\a i ys H,⟨z.cps.size,by simp,dz _,h0⟩,?_⟩
 rintro i m ys H ⟨rfl,r,p⟩
 by_cases b:i<z.cps.size
 ·refine .inr ⟨b,a (i+1),λq k l=>⟨z.cps.size-(i+1),by omega,rfl,b,l⟩,λx k y=>?_⟩
  obtain⟨e,c,j,rfl⟩:=y
  subst e
  simp only[uW]
  exact o i c ys _ j p
 ·have e:i=z.cps.size:=by omega
  subst e
  exact .inl ⟨cI _,n ys H p⟩
def G0(ws:List Str):Nat->Nat
 | 0=>0
 | i+1=>if ws.getD i gc∈ws.take i then G0 ws i else G0 ws i+1
theorem zv(ws:List Str):∀i,G0 ws i<=i
 | 0=>cI _
 | i+1=>by
  have:=zv ws i
  unfold G0
  split <;> omega
theorem xT{ws:List Str}(h:ws.Nodup):∀i,i<=ws.length->G0 ws i=i
 | 0,_=>rfl
 | i+1,hi=>by
  have b:=xT h i (cZ hi)
  unfold G0
  rw[if_neg,b]
  intro z
  obtain⟨j,a,e⟩:=eV.mp z
  rw[cX]at a
  rw[List.getElem_take,HM.getD_lt (show i<ws.length from hi)]at e
  have:=(oJ (j:=i) (show j<ws.length by omega) h).mp (by rw[cD (show j<ws.length by omega),e];exact(cD _).symm)
  omega
theorem B2{ws:List Str}:∀{i:Nat},i<=ws.length->¬(ws.take i).Nodup->G0 ws i<i
 | 0,_,h=>absurd (by simp) h
 | i+1,hi,h=>by
  have d:i<ws.length:=hi
  have e:ws.take (i+1)=ws.take i++[ws.getD i gc]:=by rw[dg,cD d,HM.getD_lt d];rfl
  have h1:=zv ws i
  unfold G0
  split
  ·exact fK h1
  ·next c=>
   have:=B2 (ws:=ws) (i:=i) (by omega) λz=>h (by
    rw[e]
    refine gB.mpr ⟨z,by simp,λa g b f=>?_⟩
    rw[cK.mp f]
    exact λq=>c (q▸g))
   exact fK this
theorem By{prog:cY}{w:dn}{A:dD}{R:Result->cC->Prop}{I:cG}{fp D:List cG}{G:Array GenState->Array GenState->Prop}{n:Nat}{P:Nat->cz->Prop}{St:Nat->cC->Prop}
  (W:WalksS prog w A.in1 I fp D G n P St)(S:cG)(M:S∉fp)(ws:List Str)(hw:ws.length=n)(V:∀i v,P i v->∃t,v=iJ (ws.getD i gc) t)(X:n+1<scanBound):
  ∀(k i:Nat) (s:cC),n-i=k->i<=n->St i s->ma (strKind prog w) s.heap S (λx=>decide (x∈ws.take i)) (G0 ws i)->
   (∀s',Moved (S::D) G s s'->ma (strKind prog w) s'.heap S (λx=>decide (x∈ws.take n)) (G0 ws n)->R (.ok (.ret .none)) s')->
   codeAny (model prog w) A (.builtin "set.update.loop" ⟨[.ref S,.ref I],[]⟩) R s:=by
 have p:S∉D:=λz=>M (W.sub S z)
 intro k
 induction k with
 | zero=>
  intro i s hk T f b h
  have e:i=n:=by omega
  subst e
  refine eT ip ?_
  rw[gd gf _]
  unfold Builtin.«set.update.loop»
  refine b0 (W.done s _ _ f λs' m=>?_)
  obtain⟨o,y,B,t,d,r⟩:=b
  exact b4 (h s' ⟨λc o a=>m.heap c o λz=>a (cN _ z),m.gens,m.drawn,m.os,m.toks⟩ ⟨o,y,B,t,m.heap S o p d,r⟩)
 | succ k O=>
  intro i s hk T f b h
  refine eT ip ?_
  rw[gd gf _]
  unfold Builtin.«set.update.loop»
  refine b0 (W.item i s _ _ (by omega) f λv s' U C m=>?_)
  have j:ma (strKind prog w) s'.heap S (λx=>decide (x∈ws.take i)) (G0 ws i):=by
   obtain⟨o,y,B,t,d,r⟩:=b
   exact⟨o,y,B,t,m.heap S o p d,r⟩
  obtain⟨t,rfl⟩:=V i v U
  have u:i<ws.length:=by omega
  have et:ws.take (i+1)=ws.take i++[ws.getD i gc]:=by rw[dg,cD u,HM.getD_lt u];rfl
  dsimp only
  refine b0 (dI ?_)
  unfold setAdd
  refine dI (b0 (oP ?_))
  have a:=zv ws i
  refine wpAny_setAddHashed_of (knd:=strKind prog w) (k:=ws.getD i gc) (show(ws.getD i gc==ws.getD i gc)=true from beq_self_eq_true _) rfl j (by omega) λJ E q=>?_
  have Q:(λH=>decide (H∈ws.take i)||decide (H=ws.getD i gc))=λx=>decide (x∈ws.take (i+1)):=by
   funext x
   rw[et]
   simp[dE,Bool.decide_or]
  have N:(if decide (ws.getD i gc∈ws.take i)=true then G0 ws i else G0 ws i+1)=G0 ws (i+1):=by
   conv=>rhs;unfold G0
   simp
  rw[Q,N]at q
  refine b4 ⟨jR gf _,O (i+1) _ (by omega) (by omega) (W.frame (i+1) s' J (s'.toks+1) C (ec _ _) λc a o d=>by rw[E.2 c λz=>M (z▸a)];exact d) q λL g l=>h L ?_ l⟩
  refine⟨λc o a d=>g.heap c o a ?_,W.gtrans _ _ _ m.gens g.gens,g.drawn.trans m.drawn,g.os.trans m.os,cO m.toks (cO (ec _ _) g.toks)⟩
  show J.get? c=some o
  rw[E.2 c λz=>a (by rw[z];exact cM)]
  exact m.heap c o (λz=>a (cN _ z)) d
theorem xy{prog:cY}{w:dn}{A:dD}{E:cz->cC->Prop}{s:cC}{l:cG}{a:Array cz}{Q:cz->cC->Prop}(hh:A.handled=none)(hl:s.heap.IsList l a)(ws:List Str)(hw:StrsAre a.toList ws)(hn:a.size<=60)
  (h:∀(h':Heap) (tk:Nat),ma (q8 prog w) h' s.heap.objs.size (λx=>decide (x∈ws.take ws.length)) (G0 ws ws.length)->(∀b o,s.heap.get? b=some o->h'.get? b=some o)->Q (.ref s.heap.objs.size) {s with heap:=h',toks:=tk}):
  wpAny (model prog w) A (call (.type "set") [.ref l]) Q E s:=by
 obtain⟨c,tl,I⟩:=fA.mro
 have j:=fA.made
 have L:=fA.sub
 have B:ws.length=a.size:=by
  have:∀{vs:List cz} {ss:List Str},StrsAre vs ss->ss.length=vs.length:=λh=>by
   induction h with
   | nil=>rfl
   | cons _ _ _ C=>simp[C]
  simpa using this hw
 have D:∀{vs:List cz} {ss:List Str},StrsAre vs ss->∀(i:Nat) (v:cz),vs[i]?=some v->∃t,v=iJ (ss.getD i gc) t:=λh=>by
  induction h with
  | nil=>intro i v n;simp at n
  | cons y t _ C=>
   intro i v n
   cases i with
   | zero=>exact⟨t,by simpa using n.symm⟩
   | succ i=>
    obtain⟨u,e⟩:=C i v (by simpa using n)
    exact⟨u,by simpa using e⟩
 refine gY (mu (b4 ⟨g8 _ (by decide +kernel),eT oE ?_⟩))
 rw[nR (mE "set" [.ref l] []) rfl]
 have h1:=fA.notType
 have h2:=fA.canCreate
 have N:=o4 (.ref l)
 unfold Builtin.«type.__call__»
 refine cS (by rw[h1];rfl) (cS (by rw[h2];rfl) (b0 (fQ N (b0 (fQ I (cS rfl (b0 (fQ j (b0 (b4 ?_))))))))))
 refine b0 (dI (gY (iy (BY (E:=E) (.ref l) (Q₁:=λv X=>v = .ref s.heap.objs.size/\X=_) ⟨rfl,rfl⟩) λr H J=>?_)))
 cases r with
 | error e=>exact J
 | ok R=>
  cases R with
  | ret v=>
   obtain⟨rfl,rfl⟩:=(show v=_/\H=_ from J)
   have d:(s.heap.push {cls:=dO "set",data:=Data.set #[] 0 (f5 0 0 (Gd w))}).get? s.heap.objs.size=some {cls:=dO "set",data:=Data.set #[] 0 (f5 0 0 (Gd w))}:=cP _ rfl
   refine b0 (eR (T:="set") ⟨_,d,rfl⟩ L (cS rfl (b0 (dI ?_))))
   unfold callSpecial?
   refine b0 (gr (T:="set") ⟨_,d,rfl⟩ fA.init.lookup ?_)
   refine dI (b0 (fQ (fA.init.bind _) (b0 (gY (iZ fA.init.plain o5 (o6 ⟨_,d,rfl⟩ ?_))))))
   unfold Builtin.«set.__init__»
   refine b0 (b4 ?_)
   dsimp only[o7,pE]
   unfold typeNameOfCut
   unfold shownTypeOf
   refine b0 (b0 ?_)
   refine b0 (iB (T:="set") ⟨_,d,rfl⟩ (cS rfl (b4 (b4 (b0 (b4 (b0 (b4 ?_))))))))
   unfold setUsed
   refine b0 (b0 (d0 d rfl (by cases Gd w <;> rfl) (b4 (cS rfl ?_))))
   have f:=hl.push {cls:=dO "set",data:=Data.set #[] 0 (f5 0 0 (Gd w))}
   have G:lh {s with heap:=s.heap.push {cls:=dO "set",data:=Data.set #[] 0 (f5 0 0 (Gd w))}} (.ref l) "list":=by
    obtain⟨o,h1,h2,_⟩:=f
    exact⟨o,h1,h2⟩
   unfold jY kr orM
   refine b0 (b0 (b0 (eR G qb (eR G mW ?_))))
   refine cS rfl (b0 (iB G (cS rfl (b0 (iM f ?_)))))
   refine b0 (ko ?_)
   have q:s.heap.get? s.heap.objs.size=none:=by
    cases e:s.heap.get? s.heap.objs.size with
    | none=>rfl
    | some o=>exact absurd (cR e) (dA _)
   have O:l≠s.heap.objs.size:=λz=>by
    obtain⟨o,h1,_⟩:=hl
    rw[z,q]at h1;cases h1
   have p:(s.heap.push {cls:=dO "set",data:=Data.set #[] 0 (f5 0 0 (Gd w))}).objs.size=s.heap.objs.size+1:=lZ ..
   have M:l≠s.heap.objs.size+1:=λz=>by
    obtain⟨o,h1,_⟩:=hl
    rw[z]at h1
    exact absurd (eX (cR h1)) (dA _)
   dsimp only
   rw[p]
   refine By (sK (pX (A:=A.in1.in1.in1) hh (s.heap.objs.size+1) l M a)) s.heap.objs.size (λz=>?_) ws B (λi v hi=>?_) (by show a.size+1<4096;exact m3 (dP hn (by decide)) _) a.size 0 _ rfl (dz _) ?_ ?_ (λZ m P=>?_)
   ·rcases da.mp z with z|z
    ·exact absurd z (dr (du _))
    ·exact O (cK.mp z).symm
   ·exact D hw i v (by simpa using hi)
   ·exact⟨⟨_,(by rw[<-p];exact cP _ rfl),rfl,rfl⟩,(f.push _)⟩
   ·refine⟨_,#[],0,_,cF _ d,⟨rfl,rfl,rfl⟩,rfl,?_,λk=>?_,by decide,by cases Gd w <;> rfl,rfl⟩
    ·exact λe he=>(nomatch (show e∈([]:List (Int×cz))from he))
    ·simp
   ·refine b4 (b4 (b4 (cS rfl (b4 ?_))))
    obtain⟨h',U,V,t',o'⟩:=Z
    have Y:U=s.gens:=m.gens
    have W:V=s.drawn:=m.drawn
    have S:o'=s.os:=m.os
    subst Y W S
    rw[<-B]at P
    refine h h' t' P λb o g=>m.heap b o (λz=>?_) (cF _ (cF _ g))
    rcases da.mp z with z|z
    ·rw[z,q]at g;cases g
    ·rw[cK.mp z]at g
     exact absurd (eX (cR g)) (dA _)
  | _=>exact J.elim
theorem Dt{prog:cY}{w:dn}{A:dD}{E:cz->cC->Prop}{s:cC}{a:cG}{S:Str->Bool}{n:Nat}{Q:cz->cC->Prop}(k:ma (q8 prog w) s.heap a S n)(h:Q (.int n (s.toks+1)) {s with toks:=s.toks+1+1}):
  wpAny (model prog w) A (call (.builtin "len") [.ref a]) Q E s:=by
 obtain⟨o,q,l,t,d,f,j,_,_,g,b,c⟩:=k
 have p:n<4096:=by rw[<-c];exact g
 have e:s.TypeIs (.ref a) "set":=⟨o,d,f.1⟩
 refine hY kind_len plain_len entry_len (args_len1 _) ?_
 unfold Builtin.«len»
 refine b0 (m:=oneArg "len" _) (b4 ?_)
 refine b0 (m:=callSpecial? (.ref a) (cU "__len__")) (ej (name:=cU "__len__") e m4 (dY m4 e yk ?_ (PySem.F.args_set_len_1 _)))
 unfold Builtin.«frozenset.__len__» lj setEntries
 refine b0 (b4 ?_)
 refine b0 (b0 (b0 (d0 d j b (b4 (b4 ?_)))))
 refine b0 (wpAny_mkInt (b4 ⟨_,rfl,?_⟩))
 refine b0 (dI (b4 ?_))
 refine b0 (kU ?_)
 rw[c]
 show wpAny _ _ (if((n:Nat):Int)<0 then _ else _) _ _ _
 rw[if_neg (lE (ea _))]
 show wpAny _ _ (if((n:Nat):Int)>=2^63 then _ else _) _ _ _
 rw[if_neg (by omega)]
 exact b0 (wpAny_mkInt (b4 ⟨_,rfl,h⟩))
def Ld(K:b3)(c:TE):TE:=λb H Q=>c b H λx a=>∃(l:cG) (ws:List Str),x = .ref l/\SqL K a l (ws.map V.str)/\ws.length<=60/\Q (.int (G0 ws ws.length:Nat)) a
theorem Bc{X:Cx}{e:Expr}{m:TE}{p n pos a:Pos}(hc:X.calm=true)(h1:Gl X "len")(D:X.mg "len"=none)(h2:Gl X "set")(E:X.mg "set"=none)(C:PE X e m)
  (o:dq [e] X.env=(false,eval e X.env)::dq [] X.env:=by rfl):PE X (.Call (.Name "len" p) [.Call (.Name "set" n) [e] [] a] [] pos) (Ld X.K m):=by
 intro c s y H Q I h
 refine fw (uU I h1 D dL ?_)
 refine ij ?_ rfl rfl
 show wpAny _ _ (spliced ((false,eval (.Call (.Name "set" n) [e] [] a) X.env)::[])) _ _ s
 refine fP ?_
 refine fw (uU I h2 E Boot.set ?_)
 refine d9 ?_ o rfl
 rw[o]
 show wpAny _ _ (spliced ((false,eval e X.env)::[])) _ _ s
 refine fP (Gh (C c s y H _ I h) λu t ⟨x,r,d,B,z⟩=>?_)
 obtain⟨l,g,rfl,A,k,q⟩:=z
 cases(show u=cQ l from B)
 obtain⟨F,j,v,G⟩:=d.list A
 have b:=j.length
 rw[cx]at b
 refine b4 (xy (d.ok.hd hc) v.isList g (by simpa using u7 j) (by simp;exact b▸k) λw tk f hk=>b4 (Dt (s:={t with heap:=w,toks:=tk}) f ?_))
 exact⟨.int (G0 g g.length:Nat),r,d.kept hk,⟨_,rfl⟩,q⟩
section
variable{X:Cx}
theorem StrsAre.len:∀{vs:List cz} {ss:List Str},StrsAre vs ss->vs.length=ss.length
 | _,_,.nil=>rfl
 | _,_,.cons _ _ r=>by rw[dR,dR,StrsAre.len r]
theorem yh:∀{vs:List cz} {ss:List Str} (hi:StrsAre vs ss) {i:Nat} (h:i<vs.length),∃t,vs[i]=iJ (ss[i]'(by rw[<-StrsAre.len hi];exact h)) t
 | _,_,.cons n t r,0,_=>⟨t,rfl⟩
 | _,_,.cons n t r,i+1,h=>yh r (i:=i) (by simpa using h)
theorem xB{prog:cY}{w:dn}{A:dD}{E:cz->cC->Prop}{s:cC}{a:cG}{vs:List cz}{ns:List Str}{k:Str}{t:Tok}{Q:cz->cC->Prop}(j:IsTup s.heap a vs.toArray)(v:StrsAre vs ns)
  (hk:k∈ns)(h:Q (.int (ns.idxOf k:Nat) s.toks) {s with toks:=s.toks+1}):wpAny (model prog w) A (call (.builtin "tuple.index") [.ref a,.str k t]) Q E s:=by
 have e:=StrsAre.len v
 have u:ns.idxOf k<ns.length:=gw.mpr hk
 refine gH jm j.typeIs kI (kB _ _) (S:=λA R s=>IsTup s.heap a vs.toArray/\R (.ok (.ret (.int (ns.idxOf k:Nat) s.toks))) {s with toks:=s.toks+1}) ?_ ⟨j,h⟩
 intro prog w A R s ⟨j,h⟩
 show wpAny _ _ _ _ _ _
 unfold Builtin.«tuple.index»
 simp only[i8]
 wp_walk using q5 j
 have r:([:min vs.toArray.size vs.toArray.size]:ph).size=vs.length:=by simp[mJ]
 rw[r]
 refine lM (M:=model prog w) (A:=A.in1) _ (λl b p=>b=((none:Option PySem.Fin),())/\p=s/\∃i,l=kS i (vs.length-i)/\i<=ns.idxOf k) _ (λx rest b p m=>?_) (λb p m=>?_) _ _ ⟨rfl,rfl,0,rfl,dz _⟩
 ·obtain⟨rfl,rfl,i,g,d⟩:=m
  have f:i<vs.length:=dP d (e▸u)
  rw[show vs.length-i=(vs.length-(i+1))+1 by omega,lJ]at g
  injection g with o hrest
  subst o
  obtain⟨q,y⟩:∃q,vs[x]=iJ (ns[x]'(e▸f)) q:=yh v f
  have n:vs.toArray[x]?=some (iJ (ns[x]'(by omega)) q):=by simp[f,y]
  rw[n]
  refine b0 (oR ?_)
  by_cases c:ns[x]'(by omega)=k
  ·have o:ns.idxOf k=x:=by
    have h1:ns.idxOf k<=x:=by
     refine fh λz=>?_
     exact absurd c (by simpa using jH z)
    exact jn h1 d
   rw[decide_eq_true c,if_pos rfl]
   wp_walk
   rw[o]at h
   exact h
  ·rw[decide_eq_false c,if_neg (by decide)]
   refine b4 ⟨rfl,rfl,x+1,hrest,?_⟩
   refine nX d λz=>c ?_
   have:=iE u
   simp only[<-z]at this
   exact this
 ·obtain⟨_,_,i,g,d⟩:=m
  have:=congrArg jp g
  simp at this
  omega
def Nr(K:b3)(e d:TE):TE:=λa H Q=>e a H λx c=>∃(l:cG) (o:Obj) (xs:List V),x = .ref l/\c l=some (.frz o (.tup xs))/\o.dict=none/\d a c λy b=>∃(ns:List Str) (k:Str),y = .str k/\SqT K b l (ns.map V.str)/\k∈ns/\Q (.int (ns.idxOf k:Nat)) b
theorem Bj{K:b3}{o e:Expr}{d a:Pos}{D C:TE}(hK:X.K=K)(Z:PE X o D)(he:PE X e C)(g:attributeBase o "index" X.env (eval o X.env)=eval o X.env:=by rfl)
  (m:((backTo a (dq [e] X.env)).all (λx=>!x.1)&&(backToKw a (keywordEach [] X.env)).all (λx=>x.1.isSome)&&decide (([e]:List Expr).length+([]:List Keyword).length+(if([]:List Keyword).isEmpty then 0 else 1)<30))=true:=by rfl)
  (j:(d.endLine==a.line)=true:=by rfl)(f:backTo a (dq [e] X.env)=[(false,eval e X.env)]:=by rfl):PE X (.Call (.Attribute o "index" d) [e] [] a) (Nr K D C):=by
 subst hK
 intro c s B H Q I h
 refine oK g m j PySem.F.plainAttrs_tuple jm PySem.F.type_tuple_index (Gh (Z c s B H _ I h) λu A ⟨x,n,t,J,l,v,L,P,T,R,V⟩=>?_)
 subst P
 obtain rfl:u=cQ l:=J
 obtain⟨g1,hz,aa,r,N⟩:=(show ObjOk X.prog X.w n A.heap l (.frz v (.tup L))from t.hok l _ T)
 refine⟨N.typeIs,λb z=>?_,?_⟩
 ·cases z
  exact⟨v,g1,R⟩
 rw[f]
 refine gM rfl (iU (fP (Gh (he c A B n _ t V) λiv s2 ⟨y,E,p,G,ns,k,M,Y,hk,S⟩=>kO ?_)))
 subst M
 obtain⟨tk,rfl⟩:=G
 obtain⟨U,O,q,_⟩:=p.tuple Y
 exact xB q (u7 O) hk ⟨.int _,E,p.tok _,⟨_,rfl⟩,S⟩
theorem xC{k:Str}:∀{ns:List Str},k∈ns->ns.eraseIdx (ns.idxOf k)=ns.erase k
 | [],h=>by cases h
 | a::ns,h=>by
  by_cases c:a=k
  ·subst c;rw[List.idxOf_cons_self];simp
  ·have b:k∈ns:=by rcases da.mp h with e|e;exact absurd e.symm c;exact e
   rw[List.idxOf_cons,show(a==k)=false from beq_false_of_ne c,List.erase_cons_tail (by simpa using c)]
   show a::ns.eraseIdx (ns.idxOf k)=_
   rw[xC b]
theorem wg:∀(m:List Str) (j:Nat),(m.eraseIdx j).map V.str=(m.map V.str).eraseIdx j
 | [],_=>rfl
 | _::_,0=>rfl
 | a::m,j+1=>by show V.str a::(m.eraseIdx j).map V.str=_;rw[wg m j];rfl
theorem A2:LC X "list.remove" (λx vs H Q=>∃(l:cG) (ns:List Str) (k:Str),x = .ref l/\vs=[.str k]/\H l=some (.lst (ns.map V.str))/\k∈ns/\Q .non (upd H l (.lst ((ns.erase k).map V.str)))):=by
 intro p s E H x vs v D Q I w o h;obtain⟨l,ns,k,rfl,rfl,g,hk,q⟩:=h
 cases w;obtain⟨u,rfl,tk,rfl⟩:=o.one;obtain⟨z,a,n,r,B,e⟩:=I.lstM g;have c:=u7 r;have b:=StrsAre.len c;have f:ns.idxOf k<ns.length:=gw.mpr hk;refine gH lu ⟨_,e,rfl⟩ PySem.F.entry_list_remove (PySem.F.args_list_remove_2 _ _)
  (MeetsSeq.list_remove l a.toArray n (.str k tk) (jW k) (λy C=>eq_isStrOf k tk c y (by simpa using C)) (ns.idxOf k) (by simpa [b]using f) ?_ ?_ (by rw[cW];exact B▸z)) ⟨e,?_⟩
 ·show jW k a[ns.idxOf k]=true;obtain⟨t,ev⟩:=yh c (i:=ns.idxOf k) (by omega);rw[ev];show(ns[ns.idxOf k]==k)=true;simpa using iE f
 ·intro j d m;show jW k a[j]=false;obtain⟨t,ev⟩:=yh c (i:=j) (by simpa using d);rw[ev];show(ns[j]'(b▸d)==k)=false;exact beq_false_of_ne (by simpa using jH m)
 ·have A:(ns.map V.str).eraseIdx (ns.idxOf k)=(ns.erase k).map V.str:=by rw[<-xC hk,wg]
  rw[<-A]at q;refine⟨.non,_,I.lset (its':=a.eraseIdx (ns.idxOf k)) g e ?_ (r.eraseIdx _) ?_,rfl,q⟩
  ·simp
  ·have:=lS (ns.map V.str) (ns.idxOf k);exact cO this z
end
def wK(R:List (Str×V)):List (Hv×V):=R.map λp=>(Sum.inr p.1,p.2)
def Gf(R:List (Str×V))(x:Str):Option V:=(R.find? λp=>decide (p.1=x)).map (·.2)
def Ix(R:List (Str×V))(x:Str)(v:V):List (Str×V):=if R.any (λp=>decide (p.1=x))=true then R.map (λp=>if p.1=x then(p.1,v)else p)else R++[(x,v)]
theorem xq:∀{R:List (Str×V)} {vs:List (Hv×cz)} (_:KV (wK R) vs) (x:Str),RelO (Gf R x) (valueAt vs (Sum.inr x))
 | [],[],_,_=>trivial
 | [],_::_,h,_=>nomatch h
 | _::_,[],h,_=>nomatch h
 | (a,v)::R,(k,u)::vs,h,x=>by
  obtain⟨h1,h2⟩:((Sum.inr a:Hv)=k/\RelV v u)/\KV (wK R) vs:=by cases h with|cons p q=>exact⟨p,q⟩
  obtain⟨rfl,e⟩:=h1
  have b:=xq h2 x
  unfold Gf valueAt at b ⊢
  rw[j3,j3]
  by_cases c:a=x
  ·subst c
   simp
   exact e
  ·have d:decide (a=x)=false:=decide_eq_false c
   have f:decide ((Sum.inr a:Hv)=Sum.inr x)=false:=decide_eq_false λz=>c (Sum.inr.inj z)
   simp only[d,f]
   exact b
theorem Bz:∀{R:List (Str×V)} {vs:List (Hv×cz)} (_:KV (wK R) vs) (x:Str),(vs.any λkv=>decide (kv.1=Sum.inr x))=R.any λp=>decide (p.1=x)
 | [],[],_,_=>rfl
 | [],_::_,h,_=>nomatch h
 | _::_,[],h,_=>nomatch h
 | (a,v)::R,(k,u)::vs,h,x=>by
  obtain⟨h1,h2⟩:((Sum.inr a:Hv)=k/\RelV v u)/\KV (wK R) vs:=by cases h with|cons p q=>exact⟨p,q⟩
  obtain⟨rfl,_⟩:=h1
  rw[ig,ig,Bz h2 x]
  congr 1
  exact decide_eq_decide.mpr ⟨λz=>Sum.inr.inj z,λz=>congrArg Sum.inr z⟩
theorem CB{v:V}{u:cz}(b:RelV v u)(x:Str):∀{R:List (Str×V)} {vs:List (Hv×cz)} (_:KV (wK R) vs),KV (wK (R.map λp=>if p.1=x then(p.1,v)else p)) (vs.map λkv=>if kv.1=Sum.inr x then(kv.1,u)else kv)
 | [],[],_=> .nil
 | [],_::_,h=>nomatch h
 | _::_,[],h=>nomatch h
 | (a,v0)::R,(k,u0)::vs,h=>by
  obtain⟨h1,h2⟩:((Sum.inr a:Hv)=k/\RelV v0 u0)/\KV (wK R) vs:=by cases h with|cons p q=>exact⟨p,q⟩
  obtain⟨rfl,h0⟩:=h1
  refine .cons ?_ (CB b x h2)
  by_cases c:a=x
  ·subst c
   simp
   exact b
  ·have d:¬(Sum.inr a:Hv)=Sum.inr x:=λz=>c (Sum.inr.inj z)
   simp only[if_neg c,if_neg d,true_and]
   exact h0
theorem EB{R:List (Str×V)}{vs:List (Hv×cz)}{x:Str}{v:V}{u:cz}(h:KV (wK R) vs)(a:RelV v u):KV (wK (Ix R x v)) (stored vs (Sum.inr x) u):=by
 unfold Ix stored;rw[Bz h x];split
 ·exact CB a x h
 ·unfold wK;rw[cV];exact Paired.app h (.cons ⟨rfl,a⟩ .nil)
theorem zR(R:List (Str×V))(x:Str)(v:V):(Ix R x v).length<=R.length+1:=by
 unfold Ix;split
 ·rw[cx];omega
 ·rw[de];exact cI _
theorem yI(R:List (Str×V))(x y:Str)(v:V):Gf (Ix R x v) y=if y=x then some v else Gf R y:=by
 unfold Ix;split
 ·next c=>
  induction R with
  | nil=>simp at c
  | cons p R b=>
   unfold Gf at b ⊢;rw[d2,j3,j3];by_cases e:p.1=x
   ·rw[if_pos e];by_cases d:y=x
    ·subst d;simp[e]
    ·have g:decide (p.1=y)=false:=decide_eq_false λz=>d (z.symm.trans e);simp only[g,if_neg d];by_cases a:R.any (λp=>decide (p.1=x))=true
     ·rw[b a,if_neg d]
     ·have:(R.map λp=>if p.1=x then(p.1,v)else p)=R:=by
       refine(fW λq f=>?_).trans (List.map_id R);rw[if_neg (λz=>a (jc.mpr ⟨q,f,decide_eq_true z⟩))];rfl
      rw[this]
   ·rw[if_neg e];have a:R.any (λp=>decide (p.1=x))=true:=by
     rw[ig,decide_eq_false e,qY]at c;exact c
    by_cases d:p.1=y
    ·have:¬y=x:=λz=>e (d.trans z);simp only[decide_eq_true d,if_neg this]
    ·simp only[decide_eq_false d];exact b a
 ·next c=>
  unfold Gf;rw[List.find?_append];by_cases d:y=x
  ·subst d;have:R.find? (λp=>decide (p.1=y))=none:=List.find?_eq_none.mpr λq f z=>c (jc.mpr ⟨q,f,z⟩);rw[this];simp
  ·rw[if_neg d]
   cases h:R.find? (λp=>decide (p.1=y))with
   | some q=>simp
   | none=>simp[Ne.symm d]
section
variable{X:Cx}
def Nq:TE:=λ_ H Q=>∀p,H p=none->Q (.ref p) (upd H p (.dK (wK [])))
theorem Ew{pos:Pos}:PE X (.Dict [] [] pos) Nq:=λb s c H Q I h=>
 o9 ⟨.ref s.heap.objs.size,_,I.laid (a:=s.heap.objs.size) (o:= .dK []) (t':=s.toks) (λ_ _ q=>cF _ q) (cI _)
  (show ObjOk X.prog X.w _ _ _ (.dK [])from⟨dz _,beq_eq_false_iff_ne.mpr (Ne.symm (dr I.bigS)),[],.nil,sN s.heap⟩),rfl,h _ (I.hok.fresh (cI _))⟩
theorem zt(P:cY)(w:dn)(x:Str)(t:Tok):(Iq P w).is (Sum.inr x) (.str x t)=true:=show(x==x)=true from beq_self_eq_true _
def LQ:R2:=λx y H Q=>∃(d:cG) (R:List (Str×V)) (z:Str),x = .str z/\y = .ref d/\H d=some (.dK (wK R))/\Q (.bl (!(Gf R z).isSome)) H
theorem CV{a:Option V}{b:Option cz}(h:RelO a b):b.isSome=a.isSome:=by
 cases a <;> cases b <;> first|rfl|cases h
theorem BF:Hb X (compareOp .NotIn) LQ:=by
 intro e s k H x y v u Q I g c h;obtain⟨d,R,z,rfl,rfl,j,q⟩:=h;obtain⟨t,rfl⟩:=g
 cases c;obtain⟨_,a,vs,b,f⟩:=(show ObjOk X.prog X.w H s.heap d (.dK (wK R))from I.hok d _ j);refine wpAny_notIn_of (zt X.prog X.w z t) a f.mapOf ?_;rw[CV (xq b z)];exact⟨.bl _,H,I.tok _,rfl,q⟩
def N6:R2:=λx y H Q=>∃(d:cG) (R:List (Str×V)) (z:Str) (v:V),x = .ref d/\y = .str z/\H d=some (.dK (wK R))/\Gf R z=some v/\Q v H
theorem F2:IxR X N6:=by
 intro f e j s B H x y v u Q I m g h A;obtain⟨d,R,z,r,rfl,rfl,n,p,q⟩:=h
 cases m;obtain⟨t,rfl⟩:=g;obtain⟨_,k,vs,c,a⟩:=(show ObjOk X.prog X.w H s.heap d (.dK (wK R))from I.hok d _ n);obtain⟨l,o,b⟩:=RelO.some_of (v:=r) (by rw[<-p];exact xq c z);refine jy (x:=l) a.typeIs PySem.F.slot_dict_getitem.lookup ?_ A;exact wpAny_getItem_of (zt X.prog X.w z t) a.mapOf o ⟨rfl,r,H,I.tok _,b,q⟩
def MO:V->V->V->Hp->(Hp->Prop)->Prop:=λo i v H Q=>∃(d:cG) (R:List (Str×V)) (x:Str),o = .ref d/\i = .str x/\H d=some (.dK (wK R))/\R.length<1000/\Q (upd H d (.dK (wK (Ix R x v))))
theorem FU:LS X MO:=by
 intro l s J H o i v F M u Q I p B k h;obtain⟨d,R,x,rfl,rfl,j,L,q⟩:=h
 cases p;obtain⟨t,rfl⟩:=B;obtain⟨G,g,vs,f,n⟩:=(show ObjOk X.prog X.w H s.heap d (.dK (wK R))from I.hok d _ j);have E:=Paired.len f;have D:(wK R).length=R.length:=by unfold wK;rw[cx]
 refine wpAny_setItem_pairs (hsz:=by omega) (zt X.prog X.w x t) n λr c y=>?_;have C:∃a,r.get? d=some a:=let⟨a,_,_,A,_⟩:=c;⟨a,A⟩;refine⟨_,I.write (x:=d) (e:=d) (by rw[j];trivial) (.inl rfl) (λb a m z=>(y.2 b m).trans z) C (show ObjOk X.prog X.w _ _ _ (.dK (wK (Ix R x v)))from⟨?_,g,_,EB f k,c⟩),q⟩;unfold wK;rw[cx];have:=zR R x v;exact cZ (F4 (by omega))
end
structure Mn(P:cY)(w:dn)(K:b3)(mg:Str->Option cz)(base:Heap)(CX:Jd)(k:Nat)(C:cG)(m:Str)(ps:List Str)(sp:Sp):Prop where
 ex:∃f fd,FnOk P w K mg base CX k f fd ps sp/\KU K C m f/\Binds K fd ps []
def MDef(K:b3)(C:cG)(m q:Str)(st:Stmt):Prop:=∃f fd,Fun K m q st f fd/\KU K C m f
section
variable{X:Cx}{CX:Jd}{k j:Nat}{C:cG}{m:Str}{ps:List Str}{sp:Sp}{E:XK}{pos apos p:Pos}{o e:Expr}{es:List Expr}{ta:TE}{t:TA}
theorem Ac{pl:Sem Bool}(q:PE X o ta)(c:Cls X.K C)(D:Mn X.prog X.w X.K X.mg X.base CX k C m ps sp)(l:Room j X.A)(hk:k<=j)(h:GF CX X E)(n:PA X (e::es) t)
  (a:dq (e::es) X.env=(false,eval e X.env)::dq es X.env:=by rfl)(d:(backTo pos (dq es X.env)).any (·.1)=false:=by rfl)
  (p:eval (.Call (.Attribute o m apos) (e::es) [] pos) X.env=(do
   let ov<-eval o X.env
   standAt apos.atName
   let(f,first)<-holding [ov] (getMethod ov m pl)
   callWith pos f first (backTo pos (dq (e::es) X.env)) (backToKw pos (keywordEach [] X.env))):=by rfl):
  PE X (.Call (.Attribute o m apos) (e::es) [] pos) (JD C m sp [] E ta t):=by
 obtain⟨f,r,F,g,b⟩:=D.ex
 exact Fd (pl:=pl) q c g F (l.mono hk) b .nil h n a d p
theorem Bt{pl:Sem Bool}(h:PE X o ta)(c:Cls X.K C)(D:Mn X.prog X.w X.K X.mg X.base CX k C m ps sp)(e:Room j X.A)(hk:k<=j)(d:GF CX X E)
  (g:eval (.Call (.Attribute o m apos) [] [] pos) X.env=(do
   let ov<-eval o X.env
   standAt apos.atName
   let(f,first)<-holding [ov] (getMethod ov m pl)
   callWith pos f first (backTo pos (dq [] X.env)) (backToKw pos (keywordEach [] X.env))):=by rfl):
  PE X (.Call (.Attribute o m apos) [] [] pos) (JD C m sp [] E ta MC):=by
 obtain⟨f,l,F,a,b⟩:=D.ex
 exact C9 (pl:=pl) h c a F (e.mono hk) b .nil d g
theorem Cc{pl:Sem Bool}(he:PE X.nox o ta)(c:Cls X.K C)(D:Mn X.prog X.w X.K X.mg X.base (Hj X.prog X.w) k C m ps sp)(hr:Room j X.A)(hk:k<=j)(ha:PA X.nox (e::es) t)
  (O:dq (e::es) X.env=(false,eval e X.env)::dq es X.env:=by rfl)(P:(backTo pos (dq es X.env)).any (·.1)=false:=by rfl)
  (ht:eval (.Call (.Attribute o m apos) (e::es) [] pos) X.env=(do
   let ov<-eval o X.env
   standAt apos.atName
   let(f,first)<-holding [ov] (getMethod ov m pl)
   callWith pos f first (backTo pos (dq (e::es) X.env)) (backToKw pos (keywordEach [] X.env))):=by rfl):
  Ng X (.Call (.Attribute o m apos) (e::es) [] pos) (λE=>JD C m sp [] E ta t):=by
 intro d s J H Q E xe I Z h
 obtain⟨f,fd,F,L,T⟩:=D.ex
 refine iL (pl:=pl) (fN (he d s J H _ (I.wish _) h) (λu U h1=>?_) λ_ _ z=>eI z) ht
 obtain⟨x,R,B,V,a,dx,fs,ex,Y,l,q⟩:=h1
 have N:=B.unwish
 subst ex
 obtain rfl:u=cQ a:=V
 refine vo N Y c L l ?_
 refine iz (first:=[.ref a]) (h₀:=X.base) I.ok.mod.kin L.kp (fN (ha pos d U J R _ B q) (λn y h2=>?_) λ_ _ z=>eI z) O P
 obtain⟨vs,v,b,r,G⟩:=h2
 have b:=b.unwish
 refine⟨b.kIn,?_⟩
 have M:sp (.ref a::vs) v Q E:=by rw[fC]at G;exact G
 have hl:(cQ a::n).length=ps.length:=by
  have:=F.len _ _ _ _ M
  rw[dR]at this ⊢
  rw[<-r.length]
  exact this
 have p:=T y (.ref a::n) b.kIn (by rw[fC];exact hl)
 rw[fC]at p
 refine gY (iy (F.run X.A X.stack y v ⟨.ref a::n,[]⟩ (.ref a::n) (.ref a::vs) Q E (hr.mono hk) b.env0 p (.cons rfl r) M) λr s' g=>?_)
 cases r with
 | error e=>exact Z v y e s' b g
 | ok S=>
  cases S with
  | ret u=>exact b.after g
  | next=>exact eI g
  | brk=>exact eI g
  | cont=>exact eI g
theorem Fg{f:cG}{B:FuncData}{x:Str}(M:Mk X.K C f)(F:FnOk X.prog X.w X.K X.mg X.base (Hj X.prog X.w) k f B ps sp)(Z:Room j X.A)(hk:k+1<=j)(U:Gl X x)(hm:X.mg x=some (.ref C))(Y:Binds X.K B ps [])(ha:PA X.nox (e::es) t)
  (y:(x==("__debug__":Str))=false:=by decide)(he:dq (e::es) X.env=(false,eval e X.env)::dq es X.env:=by rfl)(o:(backTo pos (dq es X.env)).any (·.1)=false:=by rfl):
  Ng X (.Call (.Name x p) (e::es) [] pos) (λE=>KL C sp [] E t):=by
 intro g s0 P D Q E xe l O h
 refine fw (vA l U hm ?_ y)
 refine iz (h₀:=X.base) l.ok.mod.kin M.kp (fN (ha pos g s0 P D _ (l.wish _) h) (λb s h1=>?_) λ_ _ z=>eI z) he o
 obtain⟨vs,H,I,r,q⟩:=h1
 have I:=I.unwish
 refine⟨I.kIn,?_⟩
 have m:=q (s.heap.objs.size+1) s.heap.objs.size (I.hok.fresh (d6 _)) (I.hok.fresh (cI _)) (dr (du _))
 have c:=Inv.made (C:=C) I
 rw[fC]at m
 have n:Vals (V.ref (s.heap.objs.size+1)::vs) (cQ (s.heap.objs.size+1)::b):= .cons rfl r
 have T:(cQ (s.heap.objs.size+1)::b).length=ps.length:=by
  have e:=n.length
  rw[F.len _ _ _ _ m]at e
  exact e.symm
 have d:=Y _ (cQ (s.heap.objs.size+1)::b) c.kIn (by rw[fC];exact T)
 rw[fC]at d
 refine gY (Ag (f:=f) I.kIn M.makes M.init (beq_iff_eq.mp M.fn) (iy (F.run _ X.stack _ _ ⟨cQ (s.heap.objs.size+1)::b,[]⟩ (cQ (s.heap.objs.size+1)::b) _ _ E ((Z.mono hk).make C b [])
  (c.env0.make C b []) d n m) λr S a=>?_))
 cases r with
 | error e=>exact O _ _ e S c a
 | ok J=>
  cases J with
  | ret u=>
   obtain⟨v,L,N,G,ev,R⟩:=c.after a
   subst ev
   exact⟨G,⟨V.ref (s.heap.objs.size+1),L,N,rfl,R⟩⟩
  | next=>exact eI a
  | brk=>exact eI a
  | cont=>exact eI a
theorem FC{c:Expr}{a b:List Stmt}{r:TT}{o p:XK->TS}(hc:PT X.nox c r)(u:MG X a o)(t:MG X b p):MG X [.If c a b pos] (λE=>MX r (o E) (p E)):=by
 intro d s j H D E n I m h;refine i9 (fN (Q:=SP X d D) (wpAny_If (fN (hc d s j H _ (I.wish _) h) (λk g h1=>?_) λ_ _ z=>eI z)) (λf g q=>?_) λ_ _ z=>z)
 ·obtain⟨l,e,q⟩:=h1;have e:=e.unwish
  cases k with
  | true=>
   rw[if_pos rfl]at q ⊢;exact u d g j l D E n e m q
  | false=>
   rw[if_neg dj]at q ⊢;exact t d g j l D E n e m q
 ·cases f with
  | next=>exact gE q
  | ret v=>exact q
  | brk=>exact q
  | cont=>exact q
end
section
variable{P:cY}{w:dn}{K:b3}{mg:Str->Option cz}{base:Heap}
theorem MDef.ok{C:cG}{x q:Str}{st:Stmt}{N ps:List Str}{k:Nat}{sp:Sp}(F:MDef K C x q st)(S:F6 N ps (F3 st))(b:∀vs H Q E,sp vs H Q E->vs.length=ps.length)
  (d:∀(kV doc pm:cz) (an:Option cG) (cdv ct:cz) (us:List cz),us.length=ps.length->bindArgs (gl x q (Gi st) (Gc st) (F3 st) .none kV doc pm an cdv ct) ⟨us,[]⟩=pure (ps.zip us))
  (a:∀(f:cG) (cdv:cz) (A:dD) (outer:List Env) (s:cC) (H:Hp) (vs:List V) (Q:VK) (E:XK),Room k (A.deeper (envOfC q (F3 st) s.heap.objs.size f cdv))->sp vs H Q E->
   ∃t,PSs (IN Ge P w K mg base N q (F3 st) f cdv A outer s H E).nox (Gc st) t/\t {nx:=λ_ H'=>Q .non H',rt:=Q} (start N vs) H):Mn P w K mg base Ge (k+1) C x ps sp:=by
 obtain⟨f,c,F,m⟩:=F
 exact⟨f,c,F.ok S b (a f),m,F.binds d⟩
theorem MDef.okE{C:cG}{x q:Str}{st:Stmt}{N ps:List Str}{k:Nat}{sp:Sp}(F:MDef K C x q st)(S:F6 N ps (F3 st))(e:∀vs H Q E,sp vs H Q E->vs.length=ps.length)
  (h:∀(kV doc pm:cz) (an:Option cG) (cdv ct:cz) (us:List cz),us.length=ps.length->bindArgs (gl x q (Gi st) (Gc st) (F3 st) .none kV doc pm an cdv ct) ⟨us,[]⟩=pure (ps.zip us))
  (a:∀(f:cG) (cdv:cz) (A:dD) (outer:List Env) (s:cC) (H:Hp) (vs:List V) (Q:VK) (E:XK),Room k (A.deeper (envOfC q (F3 st) s.heap.objs.size f cdv))->sp vs H Q E->
   ∃t,PSs (JO P w K mg base N q (F3 st) f cdv A outer s H E) (Gc st) t/\t {nx:=λ_ H'=>Q .non H',rt:=Q} (start N vs) H):Mn P w K mg base (Hj P w) (k+1) C x ps sp:=by
 obtain⟨f,l,F,m⟩:=F
 have d:=F.binds h
 obtain⟨n,o,kV,doc,pm,an,cdv,ct,j,rfl,lk,c⟩:=F.ex
 exact⟨f,_,Dx lk c S e λA outer s H vs Q E g b=>a f cdv A outer s H vs Q E g b,m,d⟩
end
section
variable{X:Cx}{K:b3}
def Lk(is:List Str):TA:=λ_ H Q=>Q (is.map V.str) H
def Jq:List Expr->Option (List Str)
 | []=>some []
 | .Constant (.str i) _ _::r=>(Jq r).map (i :: ·)
 | _=>none
theorem BO:∀{es:List Expr} {is:List Str},Jq es=some is->PA X es (Lk is)
 | [],is,h=>by cases h;exact λb a s c H Q I h=>(sS (X:=X)) b a s c H Q I h
 | .Constant (.str i) k po::r,is,h=>by
  have h:(Jq r).map (i :: ·)=some is:=h
  cases d:Jq r with
  | none=>rw[d]at h;cases h
  | some e=>
   rw[d]at h
   cases h
   exact λb a s c H Q I h=>(me (X:=X) tr (BO d)) b a s c H Q I h
theorem xo{e:Expr}{f:Str}{pos:Pos}{a:TE}(h:X.K=K)(c:PE X e a)(b:attributeBase e f X.env (eval e X.env)=eval e X.env):PE X (.Attribute e f pos) (M5 K a f):=by subst h;exact vV c b
def N2(K:b3)(d:TE):TE:=λc H Q=>d c H λx b=>∃a xs,x = .ref a/\SqL K b a xs/\∀p,b p=none->Q (.ref p) (upd b p (.lst xs.reverse))
theorem Fz{e st:Expr}{n ts:TE}{pos L:Pos}(M:PE X e n)(N:PE X st (Od (rU λi=> .int (-i)) (tC (.int 1)))):PE X (.Subscript e (.Slice none none (some st) L) pos) (N2 X.K n):=by
 intro c s k H Q I h;refine pU (Gh (M c s k H _ I h) λv C ⟨x,l,z,J,G⟩=>?_);obtain⟨a,f,rfl,E,q⟩:=G
 cases(show v=cQ a from J);refine wpAny_Slice ?_;rw[nt];refine b4 (b4 ?_);rw[qL];refine Gh (N c C k l (λy g=>y = .int (-1)/\g=l) z ⟨1,rfl,rfl,rfl⟩) λw d ⟨y,g,o,D,F,u⟩=>?_;subst F u;obtain⟨t,rfl⟩:=D;have j:Inv X c k g {d with heap:=d.heap.push {cls:= .type "slice",data:= .fields #[.none,.none,.int (-1) t]}}:=o.kept (t':=d.toks) λb O q=>cF _ q;obtain⟨its,r,m,A⟩:=j.list E;have p:=r.length;refine rK (ops:=[.ref a,.ref d.heap.objs.size]) m.isList.typeIs kP.lookup ?_ (by with_unfolding_all rfl);refine k6 m.isList (nH ..) .none .none (.int (-1) t) (by decide) ?_ (by rw[cW] <;> omega);rw[PySem.W.krv_pick];refine⟨.ref (d.heap.push {cls:= .type "slice",data:= .fields #[.none,.none,.int (-1) t]}).objs.size,_,j.lnew (ys:=f.reverse) (its:=its.toArray.toList.reverse) (t':=d.toks) ?_ ?_,rfl,q _ (j.hok.fresh (cI _))⟩
 ·have:∀{f:List V} {us:List cz},Vals f us->Vals f.reverse us.reverse:=λh=>by
   induction h with
   | nil=>exact .nil
   | cons a b B=>rw[oN,oN];exact B.append (.cons a .nil)
  simpa using this r
 ·rw[jg];exact A
end
structure Bn(P:cY)(w:dn)(K:b3)(mg:Str->Option cz)(base:Heap)(CX:Jd)(k:Nat)(C:cG)(x:Str)(ps:List Str)(sp:Sp):Prop where
 ex:∃f fd,FnOk P w K mg base CX k f fd ps sp/\Mk K C f/\Binds K fd ps []/\mg x=some (.ref C)
def BDef(K:b3)(mg:Str->Option cz)(C:cG)(x q:Str)(st:Stmt):Prop:=∃f fd,Fun K "__init__" q st f fd/\Mk K C f/\mg x=some (.ref C)
section
variable{X:Cx}{CX:Jd}{k j:Nat}{C:cG}{x:Str}{ps:List Str}{sp:Sp}{E:XK}{pos p:Pos}{e:Expr}{es:List Expr}{t:TA}
theorem FY(D:Bn X.prog X.w X.K X.mg X.base CX k C x ps sp)(h:Room j X.A)(hk:k+1<=j)(d:Gl X x)(g:GF CX X E)(l:PA X (e::es) t)
  (c:(x==("__debug__":Str))=false:=by decide)(n:dq (e::es) X.env=(false,eval e X.env)::dq es X.env:=by rfl)(a:(backTo pos (dq es X.env)).any (·.1)=false:=by rfl):
  PE X (.Call (.Name x p) (e::es) [] pos) (KL C sp [] E t):=by
 obtain⟨f,o,F,M,b,m⟩:=D.ex
 exact Fi M F (h.mono hk) d m b .nil g l c n a
theorem F1(D:Bn X.prog X.w X.K X.mg X.base (Hj X.prog X.w) k C x ps sp)(g:Room j X.A)(hk:k+1<=j)(d:Gl X x)(h:PA X.nox (e::es) t)
  (c:(x==("__debug__":Str))=false:=by decide)(l:dq (e::es) X.env=(false,eval e X.env)::dq es X.env:=by rfl)(a:(backTo pos (dq es X.env)).any (·.1)=false:=by rfl):
  Ng X (.Call (.Name x p) (e::es) [] pos) (λE=>KL C sp [] E t):=by
 obtain⟨f,n,F,M,b,m⟩:=D.ex
 exact Fg M F g hk d m b h c l a
end
section
variable{P:cY}{w:dn}{K:b3}{mg:Str->Option cz}{base:Heap}
theorem BDef.okE{C:cG}{x q:Str}{st:Stmt}{N ps:List Str}{k:Nat}{sp:Sp}(F:BDef K mg C x q st)(S:F6 N ps (F3 st))(e:∀vs H Q E,sp vs H Q E->vs.length=ps.length)
  (h:∀(kV doc pm:cz) (an:Option cG) (cdv ct:cz) (us:List cz),us.length=ps.length->bindArgs (gl "__init__" q (Gi st) (Gc st) (F3 st) .none kV doc pm an cdv ct) ⟨us,[]⟩=pure (ps.zip us))
  (a:∀(f:cG) (cdv:cz) (A:dD) (outer:List Env) (s:cC) (H:Hp) (vs:List V) (Q:VK) (E:XK),Room k (A.deeper (envOfC q (F3 st) s.heap.objs.size f cdv))->sp vs H Q E->
   ∃t,PSs (JO P w K mg base N q (F3 st) f cdv A outer s H E) (Gc st) t/\t {nx:=λ_ H'=>Q .non H',rt:=Q} (start N vs) H):Bn P w K mg base (Hj P w) (k+1) C x ps sp:=by
 obtain⟨f,l,F,M,m⟩:=F
 have d:=F.binds h
 obtain⟨n,o,kV,doc,pm,an,cdv,ct,j,rfl,lk,c⟩:=F.ex
 exact⟨f,_,Dx lk c S e λA outer s H vs Q E g b=>a f cdv A outer s H vs Q E g b,M,d,m⟩
end
theorem Ax:typeLookup (.type "zip") (cU "__len__")=pure none:=by kernel_rfl
theorem zw:typeLookup (.type "zip") (cU "__length_hint__")=pure none:=by kernel_rfl
theorem yp{prog:cY}{w:dn}{A:dD}{R:Result->cC->Prop}{z TI TO m t d:cG}{ac ae:List cG}{n:Nat}{P1 P2:Nat->cz->Prop}{L M:Nat->Heap->Prop}{res:cz}{J:Nat->List cG->cC->Prop}
  (U:Draws prog w A.in1.in1 m ac n P1 L)(D2:Draws prog w A.in1.in1 t ae n P2 M)(G:LU z TI TO m t ac ae)(af:d≠z)(an:d≠TI)(ao:d≠TO)(ai:d≠m)(aw:d≠t)(al:d∉ac)(am:d∉ae)(hn:n<=1000)
  (hJ:∀i bs (s:cC) (h':Heap) tk x y,J i bs s->P1 i x->P2 i y->IsPair h' s.heap.objs.size x y->(∀c o,c≠z->c≠TO->c≠m->c≠t->c≠d->s.heap.get? c=some o->h'.get? c=some o)->J (i+1) (bs++[s.heap.objs.size]) {s with heap:=h',toks:=tk})
  (hE:∀bs (s:cC) (h':Heap),J n bs s->(∀c o,c≠z->c≠m->s.heap.get? c=some o->h'.get? c=some o)->J n bs {s with heap:=h'}):
  ∀(k i:Nat) (s:cC) (T:cG) (bs:List cG) (c:Nat),n-i=k->i<=n->M9 s.heap z TI TO T->T≠z->T≠m->T≠t->(IsZip s.heap z TI TO .none\/T≠d)->IsPair s.heap TI (.ref m) (.ref t)->L i s.heap->M i s.heap->
   s.heap.get? d=some {cls:= .type "list",data:= .seq (bs.map cQ).toArray c}->bs.length=i->J i bs s->
   (∀(s':cC) (bs':List cG) (c':Nat),J n bs' s'->s'.heap.get? d=some {cls:= .type "list",data:= .seq (bs'.map cQ).toArray c'}->bs'.length=n->R (.ok (.ret res)) s')->
   codeAny (model prog w) A (Code.builtin "list.extend.loop" {pos:=[.ref d,.ref z,res],kw:=[]}) R s:=by
 intro k
 induction k with
 | zero=>
  intro i s T bs c hk hi X hT ab W ah u S s2 hd P aa hR
  have e:i=n:=by omega
  subst e
  have ht:s.TypeIs (.ref z) "zip":=by
   rcases X with⟨q,_⟩|⟨f1,o,q,_⟩
   ·exact⟨_,q,rfl⟩
   ·exact⟨_,q,rfl⟩
  refine eT nk ?_
  rw[gd jh]
  unfold Builtin.«list.extend.loop»
  have Y:wpAny (model prog w) A.in1 (pyNext (.ref z)) (λr s'=>r=none/\∃h',s'={s with heap:=h'}/\∀c o,c≠z->c≠m->s.heap.get? c=some o->h'.get? c=some o) (λ_ _=>False) s:=by
   refine vn ht ?_
   rcases X with⟨q,a,b,V⟩|q
   ·refine CS U G.i1z G.z1 q u V S λh' e g O=>⟨?_,rfl,h',rfl,g⟩
    obtain⟨o,O,N⟩:=O
    exact⟨e,o,rfl,O,N⟩
   ·refine DS U G.z1 q hT u S λh' e g O=>⟨?_,rfl,h',rfl,g⟩
    obtain⟨o,O,N⟩:=O
    exact⟨e,o,rfl,O,N⟩
  refine b0 (fN Y (λr s' q=>?_) (λ_ _ z=>z.elim))
  obtain⟨rfl,h',rfl,g⟩:=q
  dsimp only
  exact b4 (hR _ bs c (hE bs s h' aa g) (g d _ af ai hd) P)
 | succ k ih=>
  intro i s T bs c hk hi X hT ab W ah u S s2 hd P aa hR
  have I:i<n:=by omega
  have ht:s.TypeIs (.ref z) "zip":=by
   rcases X with⟨q,_⟩|⟨f1,o,q,_⟩
   ·exact⟨_,q,rfl⟩
   ·exact⟨_,q,rfl⟩
  have lt:∀b o,s.heap.get? b=some o->b≠s.heap.objs.size:=λb o q=>dr (cR q)
  refine eT nk ?_
  rw[gd jh]
  unfold Builtin.«list.extend.loop»
  have Y:wpAny (model prog w) A.in1 (pyNext (.ref z)) (λr s'=>r=some (.ref s.heap.objs.size)/\∃h' tk H x y,s'={s with heap:=h',toks:=tk}/\P1 i x/\P2 i y/\GR h' z TI TO H/\H≠z/\H≠m/\H≠t/\H≠d/\L (i+1) h'/\M (i+1) h'/\IsPair h' s.heap.objs.size x y/\
    ∀c o,c≠z->c≠TO->c≠m->c≠t->s.heap.get? c=some o->h'.get? c=some o) (λ_ _=>False) s:=by
   refine vn ht ?_
   rcases X with⟨q,a,b,V⟩|q
   ·refine fN (zU U D2 G q u V S s2 I I (E:=λ_ _=>False) (Q:=λv s'=>v = .ref s.heap.objs.size/\∃h' tk x y,s'={s with heap:=h',toks:=tk}/\P1 i x/\P2 i y/\IsZip h' z TI TO (rawInt s.heap.objs.size)/\L (i+1) h'/\M (i+1) h'/\IsPair h' s.heap.objs.size x y/\∀c o,c≠z->c≠TO->c≠m->c≠t->s.heap.get? c=some o->h'.get? c=some o) λx y h' tk D B h ax l j f aq g=>⟨rfl,h',tk,x,y,rfl,D,B,h,l,j,f,g⟩) (λfin s' hq=>?_) (λ_ _ z=>z.elim)
    obtain⟨v,e,rfl,h',tk,x,y,rfl,D,B,h,l,j,f,g⟩:=hq
    obtain⟨o1,Z⟩:=U.live _ _ S
    obtain⟨o2,ar⟩:=D2.live _ _ s2
    exact⟨_,e,rfl,h',tk,s.heap.objs.size,x,y,rfl,D,B,⟨false,_,h,f⟩,Ne.symm (lt _ _ q),Ne.symm (lt _ _ Z),Ne.symm (lt _ _ ar),Ne.symm (lt _ _ hd),l,j,f,g⟩
   ·have ak:T≠d:=by
     rcases ah with z0|z0
     ·obtain⟨f1,o,Z,_⟩:=q
      have z1:=Z.symm.trans z0
      have:=congrArg (λo=>o.map sO) z1
      simp[rawInt]at this
     ·exact z0
    refine fN (Bo U D2 G q hT ab W u S s2 I I (E:=λ_ _=>False) (Q:=λv s'=>v = .ref s.heap.objs.size/\∃h' tk x y,s'={s with heap:=h',toks:=tk}/\P1 i x/\P2 i y/\GR h' z TI TO T/\L (i+1) h'/\M (i+1) h'/\IsPair h' s.heap.objs.size x y/\∀c o,c≠z->c≠m->c≠t->s.heap.get? c=some o->h'.get? c=some o) λx y h' tk D B h l j f aq g=>⟨rfl,h',tk,x,y,rfl,D,B,h,l,j,f,g⟩) (λfin s' hq=>?_) (λ_ _ z=>z.elim)
    obtain⟨v,e,rfl,h',tk,x,y,rfl,D,B,h,l,j,f,g⟩:=hq
    exact⟨_,e,rfl,h',tk,T,x,y,rfl,D,B,h,hT,ab,W,ak,l,j,f,λc o c1 _ c3 c4 q=>g c o c1 c3 c4 q⟩
  refine b0 (fN Y (λr s' q=>?_) (λ_ _ z=>z.elim))
  obtain⟨rfl,h',tk,H,x,y,rfl,D,B,h,t1,t2,t3,t4,l,j,f,g⟩:=q
  dsimp only
  have ag:h'.get? d=some {cls:= .type "list",data:= .seq (bs.map cQ).toArray c}:=g d _ af ao ai aw hd
  have av:s.heap.objs.size≠d:=Ne.symm (lt _ _ hd)
  refine b0 (iK (s:={s with heap:=h',toks:=tk}) ag rfl ?_ (by simp;exact cZ (F4 (cO (P▸hi) hn))) (by simp;have:=F4 (n:=bs.length) (by omega);exact cZ this))
  refine b4 ⟨jR jh _,?_⟩
  have up:=ik (show IsL h' d (bs.map cQ).toArray c from ag) (λC=>C.push (.ref s.heap.objs.size))
  have p:∀b,b≠d->(h'.update d (d7 λC=>C.push (.ref s.heap.objs.size))).get? b=h'.get? b:=λb hb=>fx h' _ (Ne.symm hb)
  have aj:IsPair (h'.update d (d7 λC=>C.push (.ref s.heap.objs.size))) TI (.ref m) (.ref t):=(p TI (Ne.symm an)).trans (g TI _ G.TIz G.TITO G.TIi1 G.TIi2 u)
  obtain⟨f1,oT,Z,V⟩:=h
  obtain⟨c',au⟩:∃c',(h'.update d (d7 λC=>C.push (.ref s.heap.objs.size))).get? d=some {cls:= .type "list",data:= .seq ((bs++[s.heap.objs.size]).map cQ).toArray c'}:=⟨_,up.trans (by rw[cV];simp only[List.push_toArray];rfl)⟩
  refine ih (i+1) {s with heap:=h'.update d (d7 λC=>C.push (.ref s.heap.objs.size)),toks:=tk} H (bs++[s.heap.objs.size]) c' (by omega) (I) (.inr ⟨f1,oT,(p z (Ne.symm af)).trans Z,(p H t4).trans V⟩) t1 t2 t3 (.inr t4) aj (U.frame _ _ _ l λc N o q=>(p c (λe=>al (e▸N))).trans q) (D2.frame _ _ _ j λc N o q=>(p c (λe=>am (e▸N))).trans q) ?_ (by rw[de,P];rfl) ?_ hR
  ·exact au
  ·exact hJ i bs s _ tk x y aa D B ((p _ av).trans f) λc o c1 c2 c3 c4 c5 q=>(p c c5).trans (g c o c1 c2 c3 c4 q)
theorem x5{prog:cY}{w:dn}{A:dD}{E:cz->cC->Prop}{s:cC}{z TI TO l j u m:cG}{N r:Bool}{xs ys:Array cz}{Q:cz->cC->Prop}{J:Nat->List cG->cC->Prop}(S:A.handled=none)
  (O:ZipB z TI TO l j u m)(k:IsZip s.heap z TI TO .none)(D:IsPair s.heap TI (.ref l) (.ref j))(C:IsPair s.heap TO .none .none)(t:Itx s.heap N l u 0)(U:Itx s.heap r j m 0)(h1:Sqx s.heap N u xs)(h2:Sqx s.heap r m ys)(hsz:xs.size=ys.size)(hn:xs.size<=1000)
  (hJ:∀i bs (s':cC) (h':Heap) tk x y,J i bs s'->xs[i]?=some x->ys[i]?=some y->IsPair h' s'.heap.objs.size x y->(∀c o,c≠z->c≠TO->c≠l->c≠j->c≠s.heap.objs.size->s'.heap.get? c=some o->h'.get? c=some o)->J (i+1) (bs++[s'.heap.objs.size]) {s' with heap:=h',toks:=tk})
  (hE:∀bs (s':cC) (h':Heap),J xs.size bs s'->(∀c o,c≠z->c≠l->s'.heap.get? c=some o->h'.get? c=some o)->J xs.size bs {s' with heap:=h'})
  (V:∀(h':Heap) (tk:Nat),(∀c o,c≠s.heap.objs.size->s.heap.get? c=some o->h'.get? c=some o)->s.heap.objs.size<h'.objs.size->J 0 [] {s with heap:=h',toks:=tk})
  (hQ:∀(s':cC) (bs:List cG) (c:Nat),J xs.size bs s'->s'.heap.get? s.heap.objs.size=some {cls:= .type "list",data:= .seq (bs.map cQ).toArray c}->bs.length=xs.size->Q (.ref s.heap.objs.size) s'):
  wpAny (model prog w) A (call (.type "list") [.ref z]) Q E s:=by
 refine callType_codes F.called_list (F.typeCall_list_1 _) F.entry_list_init (code_list_new (.ref z) (Q₁:=λv t=>v = .ref s.heap.objs.size/\t=_) ⟨rfl,rfl⟩) λaa Y a=>?_
 obtain⟨rfl,rfl⟩:=a
 have f:(s.heap.push {cls:=dO "list",data:=iV #[]}).get? s.heap.objs.size=some {cls:=dO "list",data:=iV #[]}:=cP _ rfl
 have d:∀b o,s.heap.get? b=some o->b≠s.heap.objs.size:=λb o q=>dr (cR q)
 have X:∀b o,s.heap.get? b=some o->(s.heap.push {cls:=dO "list",data:=iV #[]}).get? b=some o:=λb o q=>cF _ q
 refine⟨⟨_,f,rfl⟩,F.args_list_init_2 _ _,?_⟩
 unfold Builtin.«list.__init__»
 dsimp only
 refine cS rfl (cS (by simp) ?_)
 refine b0 (wpAny_listItems f rfl ?_)
 refine b0 (iK f rfl ?_ (by simp) (by simp))
 have L:=ik (show IsL _ s.heap.objs.size #[] 0 from f) (λ_=> #[])
 generalize hh1:(s.heap.push {cls:=dO "list",data:=iV #[]}).update s.heap.objs.size (d7 λ_=> #[])=g1 at L
 have p:∀b o,s.heap.get? b=some o->g1.get? b=some o:=λb o q=>by rw[<-hh1];exact(fx _ _ (Ne.symm (d b o q))).trans (X b o q)
 refine b0 (kU ?_)
 unfold gg
 refine b0 (iB (T:="zip") ⟨_,p _ _ k,rfl⟩ ?_)
 refine cS (by
  refine decide_eq_false ?_
  show ¬((s.heap.objs.size==z)||_||_)=true
  rw[beq_eq_false_iff_ne.mpr (Ne.symm (d _ _ k))]
  decide) ?_
 refine b0 (lL (p _ _ k) ?_)
 refine b0 (dI ?_)
 unfold iP
 refine b0 (gr (T:="zip") ⟨_,p _ _ k,rfl⟩ Ax ?_)
 dsimp only
 refine cS rfl (cS rfl ?_)
 refine b0 (gr (T:="zip") ⟨_,p _ _ k,rfl⟩ zw ?_)
 refine b4 ?_
 refine i6 rfl (b0 (i4 ?_))
 unfold l5
 refine b0 (b0 (iK (s:={s with heap:=g1}) L rfl ?_ (by simp) (by simp)))
 have G:=ik L (λx=>x.push cz.none)
 generalize hh2:g1.update s.heap.objs.size (d7 λx=>x.push cz.none)=g2 at G
 have W:∀b o,s.heap.get? b=some o->g2.get? b=some o:=λb o q=>by rw[<-hh2];exact(fx _ _ (Ne.symm (d b o q))).trans (p b o q)
 refine iK (s:={s with heap:=g2}) G rfl ?_ (by show 1<=sizeLine;decide) (by simp)
 have I:=ik G (λx=>x.pop)
 generalize hh3:g2.update s.heap.objs.size (d7 λx=>x.pop)=g3 at I
 have g:∀b o,s.heap.get? b=some o->g3.get? b=some o:=λb o q=>by rw[<-hh3];exact(fx _ _ (Ne.symm (d b o q))).trans (W b o q)
 refine b4 ⟨jR jh _,?_⟩
 have P:∃o,s.heap.get? l=some o:=by obtain⟨vs,n,e|⟨o,e,_⟩⟩:=t.get <;> exact⟨_,e⟩
 have R:∃o,s.heap.get? j=some o:=by obtain⟨vs,n,e|⟨o,e,_⟩⟩:=U.get <;> exact⟨_,e⟩
 obtain⟨o1,M⟩:=P
 obtain⟨o2,H⟩:=R
 have B:∀b,b<s.heap.objs.size->s.heap.objs.size≠b:=λb h=>Ne.symm (dr h)
 have D2:Draws prog w A.in1.in1.in1 j [j,m] xs.size (λi v=>ys[i]?=some v) (λi h=>Itx h r j m i/\Sqx h r m ys):=by
  rw[hsz]
  exact vf (A:=A.in1.in1.in1) S r j m O.l2j ys
 refine yp (A:=A.in1) (J:=J) (vf (A:=A.in1.in1.in1) S N l u O.l1i xs) D2 O.a (Ne.symm (d _ _ k)) (Ne.symm (d _ _ D)) (Ne.symm (d _ _ C)) (Ne.symm (d _ _ M)) (Ne.symm (d _ _ H)) (by simp[Ne.symm (d _ _ M),B _ h1.lt]) (by simp[Ne.symm (d _ _ H),B _ h2.lt]) hn hJ hE
  xs.size 0 {s with heap:=g3} (s.heap.objs.size+1) [] _ (by simp) (dz _) (.inl ⟨g _ _ k,_,_,g _ _ C⟩) ?_ ?_ ?_ (.inl (g _ _ k)) (g _ _ D) ⟨t.keep λo q=>g _ _ q,h1.keep λo q=>g _ _ q⟩ ⟨U.keep λo q=>g _ _ q,h2.keep λo q=>g _ _ q⟩ I rfl (V g3 s.toks (λc o _ q=>g c o q) (cR I)) λs' bs c a1 Z a3=>⟨rfl,hQ s' bs c a1 Z a3⟩
 ·exact Ne.symm (dr (dw (cR k)))
 ·exact Ne.symm (dr (dw (cR M)))
 ·exact Ne.symm (dr (dw (cR H)))
structure ZJ(xs ys:Array cz)(s1:cC)(d N:Nat)(z TO i1 i2:cG)(i:Nat)(bs:List cG)(s':cC):Prop where
 at':∀(j:Nat) (t:cG),bs[j]?=some t->∃x y,xs[j]?=some x/\ys[j]?=some y/\IsPair s'.heap t x y
 keep:∀b o,s1.heap.get? b=some o->s'.heap.get? b=some o
 ge:∀t∈bs,s1.heap.objs.size<=t
 ne:∀t∈bs,t≠z/\t≠TO/\t≠i1/\t≠i2/\t≠d
 nd:bs.Nodup
 sz:i<xs.size->N<s'.heap.objs.size
 gens:s'.gens=s1.gens
 drawn:s'.drawn=s1.drawn
 os:s'.os=s1.os
 len:bs.length=i
def IM(H:Hp)(d:cG)(bs:List cG)(xs ys:List V):Hp:=λa=>if a=d then some (.lst (bs.map V.ref))else
 if a∈bs then some (.tup [xs.getD (bs.idxOf a) .non,ys.getD (bs.idxOf a) .non])else H a
def Li(K:b3)(e:TA):TE:=λd H Q=>e d H λvs c=>∃(t1 t2:Bool) (a b:cG) (xs ys:List V),vs=[.ref a,.ref b]/\KJ K c t1 a xs/\KJ K c t2 b ys/\xs.length=ys.length/\xs.length<=1000/\
 ∀(l:cG) (ts:List cG) (H':Hp),Same c H'->c l=none->H' l=some (.lst (ts.map V.ref))->ts.length=xs.length->(∀(i:Nat) (t:cG) (x y:V),ts[i]?=some t->xs[i]?=some x->ys[i]?=some y->H' t=some (.tup [x,y]))->Q (.ref l) H'
theorem AJ{X:Cx}{a b:Expr}{ta:TA}{p Z pos W:Pos}(hc:X.calm=true)(h1:Gl X "list")(m1:X.mg "list"=none)(h2:Gl X "zip")(m2:X.mg "zip"=none)(ha:PA X [a,b] ta)
  (hs:dq [a,b] X.env=[(false,eval a X.env),(false,eval b X.env)]:=by rfl)(am:dq [b] X.env=[(false,eval b X.env)]:=by rfl):PE X (.Call (.Name "list" p) [.Call (.Name "zip" Z) [a,b] [] W] [] pos) (Li X.K ta):=by
 intro aa s σ H Q I h
 refine fw (uU I h1 m1 Boot.list ?_)
 refine d9 ?_ rfl rfl
 show wpAny _ _ (spliced ((false,eval (.Call (.Name "zip" Z) [a,b] [] W) X.env)::[])) _ _ s
 refine fP ?_
 refine sE (uU I h2 m2 mG (d9 (Gh (ha W aa s σ H _ I h) λus r ⟨vs,L,R,r1,q1⟩=>?_) (by rw[hs,am]) (by rw[am];rfl)))
 obtain⟨t1,t2,l1,l2,C,E,e,hx,hy,aF,aH,q⟩:=q1
 subst e
 obtain⟨u,v,rfl,ru,rv⟩:=JP r1
 cases ru
 cases rv
 obtain⟨D,al,p1⟩:=R.sqx hx
 obtain⟨P,ak,Z⟩:=R.sqx hy
 have hA:X.A.handled=none:=R.ok.hd hc
 have aB:C.length=D.length:=al.length
 have aG:E.length=P.length:=ak.length
 refine yz p1 Z λm hz aD aC aA ax F kk=>?_
 refine b4 ?_
 refine x5 (s:={r with heap:=m}) (J:=ZJ D.toArray P.toArray r m.objs.size m.objs.size (r.heap.objs.size+4) (r.heap.objs.size+3) r.heap.objs.size (r.heap.objs.size+1)) hA (zP p1.lt Z.lt) hz aD aC aA ax (p1.keep λo q=>kk _ _ q) (Z.keep λo q=>kk _ _ q) (by simp;omega) (by simp;omega)
  (λi f U h2 tk x y J px py ab z=>?_) (λf U h2 J z=>?_) (λh2 tk z au=>?_) (λU f c J hd aq=>?_)
 ·have aw:∀t∈f,t<U.heap.objs.size:=λt d=>by
   obtain⟨j,g⟩:=mK.mp d
   obtain⟨_,_,_,_,e⟩:=J.at' j t g
   exact cR e
  have az:i<D.toArray.size:=(kD.mp px).1
  have B:=J.sz az
  have ao:U.heap.objs.size<h2.objs.size:=cR ab
  have Y:∀k,k<=5->U.heap.objs.size≠r.heap.objs.size+k:=λk hk=>ix (dP (by rw[F];exact j8 hk _) B)
  refine⟨λj t g=>?_,λb o e=>?_,λt d=>?_,λt d=>?_,?_,λ_=>oM B ao,J.gens,J.drawn,J.os,by rw[de,J.len];rfl⟩
  ·by_cases ae:j<f.length
   ·rw[hV ae]at g
    obtain⟨x',y',T,O,N⟩:=J.at' j t g
    have M:=J.ne t (dh g)
    exact⟨x',y',T,O,z t _ M.1 M.2.1 M.2.2.1 M.2.2.2.1 M.2.2.2.2 N⟩
   ·have ac:j=f.length:=by
     have:=(cT.mp g).1
     rw[de,eo]at this
     omega
    rw[ac,ff (cI _),iC]at g
    have e0:U.heap.objs.size=t:=Option.some.inj g
    rw[ac,J.len,<-e0]
    exact⟨x,y,px,py,ab⟩
  ·have hb:=cR e
   have G:∀k,b≠r.heap.objs.size+k:=λk=>dr (cJ hb (ec _ _))
   exact z b o (G 4) (G 3) (G 0) (G 1) (by show b≠m.objs.size;rw[F];exact G 5) (J.keep b o e)
  ·rcases dE.mp d with d|d
   ·exact J.ge t d
   ·rw[cK.mp d]
    exact cZ (dP (by rw[F];exact ec _ _) B)
  ·rcases dE.mp d with d|d
   ·exact J.ne t d
   ·rw[cK.mp d]
    exact⟨Y 4 (by decide),Y 3 (by decide),Y 0 (by decide),Y 1 (by decide),ix B⟩
  ·refine gB.mpr ⟨J.nd,by simp,λa ha b hb e=>?_⟩
   rw[cK.mp hb]at e
   exact absurd e (dr (aw a ha))
 ·refine⟨λj t g=>?_,λb o e=>?_,J.ge,J.ne,J.nd,λS=>absurd S (dA _),J.gens,J.drawn,J.os,J.len⟩
  ·obtain⟨x',y',T,O,N⟩:=J.at' j t g
   have M:=J.ne t (dh g)
   exact⟨x',y',T,O,z t _ M.1 M.2.2.1 N⟩
  ·have hb:=cR e
   have G:∀k,b≠r.heap.objs.size+k:=λk=>dr (cJ hb (ec _ _))
   exact z b o (G 4) (G 0) (J.keep b o e)
 ·refine⟨λj t g=>by simp at g,λb o e=>z b o ?_ (kk b o e),(λt d=>nomatch d),(λt d=>nomatch d),.nil,(λ_=>au),rfl,rfl,rfl,rfl⟩
  show b≠m.objs.size
  rw[F]
  exact dr (cJ (cR e) (ec _ _))
 ·obtain⟨ag,g2,ay,av,ar⟩:=U
  have T:g2=r.gens:=J.gens
  have O:ay=r.drawn:=J.drawn
  have N:ar=r.os:=J.os
  subst T O N
  have aj:r.heap.objs.size<=m.objs.size:=by rw[F];exact ec _ _
  have ai:∀a,a<r.heap.objs.size->IM L m.objs.size f C E a=L a:=λa ha=>by
   unfold IM
   rw[if_neg (dr (cJ ha aj)),if_neg (λS=>absurd (cJ ha (J.ge a S)) (dA _))]
  have trk:∀a o,L a=some o->IM L m.objs.size f C E a=some o:=λa o e=>by rw[ai a (R.hok.lt e)];exact e
  have an:f.length=D.length:=by rw[aq];simp
  have aE:m.objs.size∉f:=λS=>(J.ne _ S).2.2.2.2 rfl
  have tp:∀(i:Nat) (t:cG) (x y:V),f[i]?=some t->C[i]?=some x->E[i]?=some y->IM L m.objs.size f C E t=some (.tup [x,y]):=λi t x y d hx hy=>by
   have hm:=dh d
   have hi:i<f.length:=(cT.mp d).1
   have ei:f.idxOf t=i:=by
    have h3:=(cT.mp d).2
    rw[<-h3]
    exact J.nd.idxOf_getElem i hi
   unfold IM
   rw[if_neg (λ(S:t=m.objs.size)=>aE (by rw[<-S];exact hm)),if_pos hm,ei,cA,cA,hx,hy]
   rfl
  have vr:∀l:List cG,Vals (l.map V.ref) (l.map cQ):=λl=>by
   induction l with
   | nil=>exact .nil
   | cons a l ih=>exact .cons rfl ih
  have ap:HOk X.prog X.w (IM L m.objs.size f C E) ag:=λa o e=>by
   by_cases c1:a=m.objs.size
   ·subst c1
    unfold IM at e
    rw[if_pos rfl]at e
    cases e
    exact⟨by rw[cx];exact cZ (F4 (by omega)),_,c,vr f,hd⟩
   ·by_cases c2:a∈f
    ·obtain⟨j,g⟩:=mK.mp c2
     obtain⟨x',y',T,O,N⟩:=J.at' j a g
     have ae:j<f.length:=(cT.mp g).1
     have af:C[j]?=some C[j]:=cD (by omega)
     have ah:E[j]?=some E[j]:=cD (by omega)
     rw[tp j a _ _ g af ah]at e
     cases e
     obtain⟨u,hu,ru⟩:=al.get af
     obtain⟨v,hv,rv⟩:=ak.get ah
     have eu:u=x':=by
      have:D[j]?=some x':=by simpa using T
      rw[hu]at this
      exact Option.some.inj this
     have ev:v=y':=by
      have:P[j]?=some y':=by simpa using O
      rw[hv]at this
      exact Option.some.inj this
     subst eu ev
     exact⟨by show 2<=sizeLine;decide,[u,v],.cons ru (.cons rv .nil),⟨_,N,rfl,_,rfl⟩⟩
    ·have e':L a=some o:=by
      unfold IM at e
      rw[if_neg c1,if_neg c2]at e
      exact e
     exact(R.hok a o e').stay (λb u _ q=>J.keep b u q) (λb q=>trk b _ q) λb C q=>trk b _ q
  have I2:Inv X aa σ (IM L m.objs.size f C E) {r with heap:=ag,toks:=av}:=R.un ⟨λb o e n _ _=>J.keep b o e,λb o e n _ _=>⟨o.slots,J.keep b o e⟩,λb o e n _=>by rw[ai b (cR e)];exact n,λb o e _=>⟨o,J.keep b o e⟩,λb C e=>trk b _ e,λb o u e=>trk b _ e,λb ps e=>⟨#[],by rw[trk b _ e];simp⟩⟩ ap
  refine⟨.ref m.objs.size,_,I2,rfl,q m.objs.size f _ (λb o e=>trk b o e) (R.hok.fresh aj) ?_ (by rw[an,aB]) tp⟩
  unfold IM
  rw[if_pos rfl]
structure Wd(z:Str):Prop where
 lo:1<=z.length
 hi:z.length<=12
 cs:∀c∈z.cps.toList,97<=c/\c<=122
structure Roll(ws:List Str):Prop where
 lo:1<=ws.length
 hi:ws.length<=6
 wd:∀w∈ws,Wd w
 nd:ws.Nodup
def Gz(z:Str):Prop:=∀c∈z.cps.toList,c<128
def Gr(z:Str):Bool:=decide (1<=z.length/\z.length<=12)&&z.cps.toList.all λc=>decide (97<=c)&&decide (c<=122)
def GQ(ws:List Str):Bool:=decide (1<=ws.length/\ws.length<=6)&&ws.all Gr&&decide ws.Nodup
theorem xS{z:Str}:Gr z=true↔Wd z:=by
 unfold Gr;rw[dt,decide_eq_true_iff,dX];exact⟨λ⟨⟨a,b⟩,c⟩=>⟨a,b,λx d=>by simpa using c x d⟩,λw=>⟨⟨w.lo,w.hi⟩,λx d=>by have:=w.cs x d;simp[this]⟩⟩
theorem vq{ws:List Str}:GQ ws=true↔Roll ws:=by
 unfold GQ;rw[dt,dt,decide_eq_true_iff,decide_eq_true_iff,dX];exact⟨λ⟨⟨⟨a,b⟩,c⟩,d⟩=>⟨a,b,λx e=>xS.mp (c x e),d⟩,λr=>⟨⟨⟨r.lo,r.hi⟩,λx e=>xS.mpr (r.wd x e)⟩,r.nd⟩⟩
def Jz:Sp:=λvs H Q _=>∃z:Str,vs=[.str z]/\z.length<=1000/\Gz z/\∀H',Same H H'->Q (.bl (Gr z)) H'
def JV(K:b3):Sp:=λvs H Q _=>∃(a:cG) (ws:List Str),vs=[.ref a]/\SqL K H a (ws.map V.str)/\ws.length<=60/\(∀w∈ws,w.length<=1000/\Gz w)/\∀H',Same H H'->Q (.bl (GQ ws)) H'
theorem xR{z:Str}(h:¬(1<=z.length/\z.length<=12)):Gr z=false:=by
 unfold Gr;rw[decide_eq_false h,jw]
theorem AN{z:Str}(h:1<=z.length/\z.length<=12):Gr z=z.cps.toList.all λc=>decide (97<=c)&&decide (c<=122):=by
 unfold Gr;rw[decide_eq_true h,q9]
theorem AL{ws:List Str}(h:¬(1<=ws.length/\ws.length<=6)):GQ ws=false:=by
 unfold GQ;rw[decide_eq_false h,jw,jw]
theorem yQ{ws:List Str}(h:ws.all Gr=false):GQ ws=false:=by
 unfold GQ;rw[h,kg,jw]
theorem AS{ws:List Str}(h1:1<=ws.length/\ws.length<=6)(h:ws.all Gr=true):GQ ws=decide (V.int (G0 ws ws.length:Nat)=V.int (ws.length:Nat)):=by
 unfold GQ;rw[h,decide_eq_true h1,Bool.and_true,q9,decide_eq_decide];constructor
 ·intro r;rw[xT r _ (cI _)]
 ·intro e;have a:G0 ws ws.length=ws.length:=by injection e with e1;exact nA.mp e1
  refine dU λz=>?_;have:=B2 (ws:=ws) (i:=ws.length) (cI _) (by rw[dy];exact z);omega
theorem vg(t:Str):∀G:List Str,Js (.str t) (G.map V.str)=decide (t∈G)
 | []=>by simp[Js]
 | x::G=>by
  have a:=vg t G
  unfold Js at a ⊢
  rw[d2,ig,a]
  by_cases h1:x=t
  ·subst h1
   simp[K5]
  ·have:K5 (.str x) (.str t)=false:=beq_eq_false_iff_ne.mpr h1
   simp[K5,h1,Ne.symm h1]
theorem ve(G:List Str):(G.map V.str).all Hm=true:=by
 rw[dX];intro v a;obtain⟨i,_,rfl⟩:=dG.mp a;rfl
theorem Reps.strs{K:b3}{H:Hp}:∀ns:List Str,Reps K H (ns.map V.str) (ns.map fi)
 | []=> .nil
 | n::ns=> .cons (.str n) (Reps.strs ns)
theorem xn:∀a b:List Str,gV (a.map fi) (b.map fi)=decide (a=b)
 | [],[]=>by simp[gV]
 | [],_::_=>by simp[gV]
 | _::_,[]=>by simp[gV]
 | x::a,y::b=>by
  simp only[d2,gV,fz,xn a b]
  by_cases h1:x=y <;> by_cases h2:a=b <;> simp[h1,h2]
theorem tU(a b:List Str):fz (.list (a.map fi)) (.list (b.map fi))=decide (a=b):=by
 rw[fz,xn]
theorem Eg{x:Str}(h:Gz x)(n:Nat):Ho n (.str x)=true:=by
 have h2:fy (.str x)=true:=by
  unfold fy i0;simp[ja,PyData.strOk];intro i a;have:=h x.cps[i] (by simp);exact cJ this (by decide)
 cases n <;> simpa [Ho]using h2
theorem uz{l:List Str}(h:∀w∈l,Gz w):Ho 1 (.list (l.map fi))=true:=by
 show(l.map fi).all (Ho 0)=true;rw[dX];intro d b;obtain⟨i,a,rfl⟩:=dG.mp b;exact Eg (h i a) 0
theorem y9{t y:Str}(h:Gz t):∀w∈Txt.split t y,Gz w:=λw b c a=>h c (by
 rw[<-nY t y];exact(mem_join y c _).mpr (.inl ⟨w,b,a⟩))
structure BookAt(C:cG)(H:Hp)(x d:cG)(ps ts:List Str)(R:List (Str×V)):Prop where
 ex:∃(dx pp pt:cG) (op ot:Obj),H x=some (.ins C dx [("people",.ref pp),("things",.ref pt),("wishes_told",.ref d)])/\H pp=some (.frz op (.tup (ps.map V.str)))/\op.dict=none/\
  H pt=some (.frz ot (.tup (ts.map V.str)))/\ot.dict=none/\H d=some (.dK (wK R))
theorem BookAt.mono{C:cG}{H a:Hp}{x d:cG}{ps ts:List Str}{R:List (Str×V)}(e:Same H a)(h:BookAt C H x d ps ts R):BookAt C a x d ps ts R:=by
 obtain⟨b,g,j,c,f,h1,h2,h3,h4,h5,h6⟩:=h.ex;exact⟨b,g,j,c,f,e _ _ h1,e _ _ h2,h3,e _ _ h4,h5,e _ _ h6⟩
def SameBut1(x:cG)(H a:Hp):Prop:=∀b o,b≠x->H b=some o->a b=some o
theorem SqL.overI{K:b3}{H:Hp}{a p C b:cG}{c:List (Str×V)}{o:HO}{xs:List V}(h:SqL K H a xs)(hp:H p=some (.ins C b c)):SqL K (upd H p o) a xs:=by
 rcases h with(h|⟨u,h⟩)|h
 ·exact .inl (.inl (by rw[td (λz=>by rw[z,hp]at h;cases h)];exact h))
 ·exact .inl (.inr ⟨u,by rw[td (λz=>by rw[z,hp]at h;cases h)];exact h⟩)
 ·exact .inr h
theorem J0{c A B:Prop}[Decidable c](hc:¬c)(h:A):if(!decide c)=true then A else B:=by
 rw[decide_eq_false hc];exact Gu h
theorem SameBut1.of{x:cG}{H a:Hp}(h:Same H a):SameBut1 x H a:=λb o _ e=>h b o e
theorem SameBut1.trans{x:cG}{H c d:Hp}(h:SameBut1 x H c)(h':SameBut1 x c d):SameBut1 x H d:=λb o a e=>h' b o a (h b o a e)
theorem SameBut1.upd{x:cG}{H:Hp}{o:HO}:SameBut1 x H (upd H x o):=λb u a e=>by rw[td a];exact e
def Kk(K:b3)(C:cG)(x:Xs):Sp:=λvs H Q E=>∃(s a b dx:cG) (ps ts:List Str),vs=[.ref s,.ref a,.ref b]/\H s=some (.ins C dx [])/\SqL K H a (ps.map V.str)/\SqL K H b (ts.map V.str)/\ps.length<=60/\ts.length<=60/\
 (∀w∈ps,w.length<=1000/\Gz w)/\(∀w∈ts,w.length<=1000/\Gz w)/\(¬(Roll ps/\Roll ts/\ps.length=ts.length)->∀H',Same H H'->E (.ref x.NoRoll) none H')/\
 (Roll ps->Roll ts->ps.length=ts.length->∀d H',SameBut1 s H H'->H d=none->BookAt C H' s d ps ts []->Q .non H')
def Jj(C:cG)(x:Xs):Sp:=λvs H Q E=>∃(s d:cG) (ps ts:List Str) (R:List (Str×V)) (p:Str),vs=[.ref s,.str p]/\BookAt C H s d ps ts R/\(p∉ps->E (.ref x.NoPerson) none H)/\(p∈ps->Q .non H)
def HY(C:cG):Sp:=λvs H Q _=>∃(s d:cG) (ps ts:List Str) (R:List (Str×V)),vs=[.ref s]/\BookAt C H s d ps ts R/\ps.length<=60/\
 ∀l H',Same H H'->H l=none->H' l=some (.lst ((ps.filter λp=>!(Gf R p).isSome).map V.str))->Q (.ref l) H'
def wordsOf(t:Str):List Str:=Txt.split t " "
def HH(ts ws:List Str):List Int:=ws.map λw=>(ts.idxOf w:Int)
def Lf(K:b3)(C:cG)(x:Xs):Sp:=λvs H Q E=>∃(s d:cG) (ps ts:List Str) (R:List (Str×V)) (p t:Str),vs=[.ref s,.str p,.str t]/\BookAt C H s d ps ts R/\ts.length<=60/\(∀w∈ts,Gz w)/\t.length<=500/\Gz t/\(wordsOf t).length<64/\R.length<1000/\
 (p∉ps->∀H',Same H H'->E (.ref x.NoPerson) none H')/\(p∈ps->¬(wordsOf t).Perm ts->∀H',Same H H'->E (.ref x.NoWishes) none H')/\
 (p∈ps->(wordsOf t).Perm ts->∀r H',SameBut1 d H H'->H r=none->H' r=some (.tup ((HH ts (wordsOf t)).map V.int))->BookAt C H' s d ps ts (Ix R p (.ref r))->Q .non H')
def TabBy(n:Nat)(W:List (List Int))(a:Str)(Z:List (List Int))(T:Int):Prop:=
 (a="eaten"/\∃N,EM.Stops W n N/\Z=GC W n N/\T=(EM.st W n N).D)\/(a="turns"/\Z=Il n (Hk n W)/\T=TM.fct n)
theorem TabBy.tb{n:Nat}{W:List (List Int)}{a:Str}{Z:List (List Int)}{T:Int}(hw:Hf n W)(h:TabBy n W a Z T):K3 n T Z:=by
 rcases h with⟨_,N,b,rfl,rfl⟩|⟨_,rfl,rfl⟩
 ·exact Fk ⟨hw.lo,hw.hi,hw.len,hw.pm⟩ b
 ·exact Ep hw
def Jx(K:b3)(H:Hp)(R:List (Str×V))(ps:List Str)(W:List (List Int)):Prop:=dJ (λp a=>∃v,Gf R p=some v/\IsR K H v a) ps W
def HU(K:b3)(C:cG)(x:Xs):Sp:=λvs H Q E=>∃(s d:cG) (ps ts:List Str) (R:List (Str×V)) (way:Str),vs=[.ref s,.str way]/\BookAt C H s d ps ts R/\ps.length<=60/\
 ((∃p∈ps,Gf R p=none)->∀H',Same H H'->E (.ref x.Unready) none H')/\
 ((∀p∈ps,Gf R p≠none)->∃W,Jx K H R ps W/\Hf ps.length W/\(way≠"eaten"->way≠"turns"->∀H',Same H H'->E (.ref x.NoWay) none H')/\
  ∀Z T q us H',TabBy ps.length W way Z T->Same H H'->H q=none->H' q=some (.lst us)->dJ (RwFT K H' T) us Z->Q (.ref q) H')
theorem yo{R:List (Str×V)}{ps:List Str}:(ps.filter λp=>!(Gf R p).isSome)=[]↔∀p∈ps,Gf R p≠none:=by
 rw[List.filter_eq_nil_iff];refine forall_congr' λp=>forall_congr' λ_=>?_
 cases Gf R p <;> simp
def HV(ts:List Str)(a z:List Int):List (Str×Int):=(a.filter λt=>decide (EM.at0 z t≠0)).map λt=>(ts.getD t.toNat gc,EM.at0 z t)
def IsShr(K:b3)(H:Hp)(T:Int)(v:V)(x:Str×Int):Prop:=∃a g,v = .ref a/\SqT K H a [.str x.1,.ref g]/\IsF K H (.ref g) (FQ.red x.2 T)
theorem IsShr.mono{K:b3}{H b:Hp}{T:Int}{v:V}{x:Str×Int}(e:Same H b)(h:IsShr K H T v x):IsShr K b T v x:=by
 obtain⟨a,g,rfl,h1,h2⟩:=h;exact⟨a,g,rfl,e.tup h1,h2.mono e⟩
def Iy(K:b3)(C:cG)(x:Xs):Sp:=λvs H Q E=>∃(s d:cG) (ps ts:List Str) (R:List (Str×V)) (p way:Str),vs=[.ref s,.str p,.str way]/\BookAt C H s d ps ts R/\ps.length<=60/\ts.length=ps.length/\
 (p∉ps->∀H',Same H H'->E (.ref x.NoPerson) none H')/\(p∈ps->(∃p∈ps,Gf R p=none)->∀H',Same H H'->E (.ref x.Unready) none H')/\
 (p∈ps->(∀p∈ps,Gf R p≠none)->∃W,Jx K H R ps W/\Hf ps.length W/\(way≠"eaten"->way≠"turns"->∀H',Same H H'->E (.ref x.NoWay) none H')/\
  ∀Z T l xs H',TabBy ps.length W way Z T->Same H H'->H l=none->H' l=some (.lst xs)->dJ (IsShr K H' T) xs (HV ts (W.getD (ps.idxOf p) []) (Z.getD (ps.idxOf p) []))->Q (.ref l) H')
theorem cw_lots(Z:List (List Int))(T:Int)(k:Nat):∀i,i<=k->cw (HM.lotsL Z T k) i=HM.sm i λj=>(HM.lotAt Z T j).1
 | 0,_=>rfl
 | i+1,hi=>by
  have e:(HM.lotsL Z T k)[i]?=some (HM.lotAt Z T i):=by
   unfold HM.lotsL
   rw[cL,eg (show i<k from hi)]
   rfl
  rw[cw_succ e,cw_lots Z T k i (cZ hi)]
  rfl
theorem TabBy.le{n:Nat}{W:List (List Int)}{b:Str}{Z:List (List Int)}{T:Int}(hw:Hf n W)(h:TabBy n W b Z T):T<=262144:=by
 rcases h with⟨_,N,c,rfl,rfl⟩|⟨_,rfl,rfl⟩
 ·have a:EM.Ws n W:=⟨hw.lo,hw.hi,hw.len,hw.pm⟩;exact EM.D_le (EM.st_ok a N c.up).1 a.n6
 ·have h:=Ap hw.hi;exact gm h.2 (by decide)
theorem EW{n k:Nat}{T:Int}{Z:List (List Int)}(b:K3 n T Z)(g:T<=262144)(c:HM.Fin Z T k):LotsOk n (HM.lotsL Z T k) T:=by
 have I:=HM.it_ok b.reg b.t0 b.lo k c.2;have d:(HM.lotsL Z T k).length=k:=by unfold HM.lotsL;rw[cx,fL]
 have e:∀l∈HM.lotsL Z T k,∃j,j<k/\l=HM.lotAt Z T j:=λl h=>by
  unfold HM.lotsL at h;obtain⟨j,a,rfl⟩:=dG.mp h;exact⟨j,d5.mp a,rfl⟩
 refine⟨?_,λl h=>?_,λl h=>?_,?_,?_,λl h=>?_⟩
 ·rw[d,cw_lots Z T k k (cI _),I.wts,c.1];omega
 ·obtain⟨j,a,rfl⟩:=e l h;exact(I.lots j a).w1
 ·obtain⟨j,a,rfl⟩:=e l h;have h1:=(I.lots j a).wR;have h2:=(HM.it_ok b.reg b.t0 b.lo j λi f=>c.2 i (oM f a)).rT;show HM.wOf (HM.it Z T j).1<=_;omega
 ·rw[d]
  cases k with
  | zero=>
   have:T=0:=c.1;have:=b.t0;omega
  | succ k=>omega
 ·rw[d];have h1:=I.last c.1;have h2:=HM.pn_le b.hi Z;omega
 ·obtain⟨j,a,rfl⟩:=e l h;exact(I.lots j a).pm.len
def Oa(K:b3)(H:Hp)(v:V)(x:Str×Str):Prop:=∃a,v = .ref a/\SqT K H a [.str x.1,.str x.2]
def Gk(ts:List Str)(d:List Int):List Str:=d.map λt=>ts.getD t.toNat gc
def JB(K:b3)(C:cG)(x:Xs):Sp:=λvs H Q E=>∃(s d m:cG) (ps ts:List Str) (R:List (Str×V)) (way:Str) (num:Int×Int),vs=[.ref s,.str way,.ref m]/\BookAt C H s d ps ts R/\ps.length<=60/\ts.length=ps.length/\IsF K H (.ref m) num/\Sz 2000 num/\0<num.2/\
 ((∃p∈ps,Gf R p=none)->∀H',Same H H'->E (.ref x.Unready) none H')/\
 ((∀p∈ps,Gf R p≠none)->∃W,Jx K H R ps W/\Hf ps.length W/\(way≠"eaten"->way≠"turns"->∀H',Same H H'->E (.ref x.NoWay) none H')/\
  (way="eaten"\/way="turns"->G6 num->∀H',Same H H'->E (.ref x.NoPick) none H')/\
  (¬G6 num->∀Z T k i l xs H',TabBy ps.length W way Z T->HM.Fin Z T k->L6 (HM.lotsL Z T k) T num i->Same H H'->H l=none->H' l=some (.lst xs)->dJ (Oa K H') xs (ps.zip (Gk ts ((HM.lotsL Z T k).getD i (0,[])).2))->Q (.ref l) H'))
theorem TabBy.way{n:Nat}{W:List (List Int)}{a:Str}{Z:List (List Int)}{T:Int}(h:TabBy n W a Z T):a="eaten"\/a="turns":=by
 rcases h with⟨h,_⟩|⟨h,_⟩
 ·exact .inl h
 ·exact .inr h
def Ltr(z:Str):Prop:=∀c∈z.cps.toList,97<=c/\c<=122
def Ll:Str:="abcdefghijklmnopqrstuvwxyz"
theorem E7:Ll.cps.toList=(dc 26).map λi=>97+i:=by decide +kernel
theorem D6{i:Int}(h0:0<=i)(h1:i<26):Ic Ll.cps.toList i=some (97+i.toNat):=by
 refine uE h0 ?_;rw[E7,cL,eg (by omega)];rfl
theorem t5(a b:Str):(a++b).cps.toList=a.cps.toList++b.cps.toList:=by
 show(a.cps++b.cps).toList=_;simp
theorem ui(a:Str):a.length=a.cps.toList.length:=by simp[kf]
theorem tZ(a b:Str):(a++b).length=a.length+b.length:=by rw[ui,ui,ui,t5,de]
theorem Ltr.app{a b:Str}(h1:Ltr a)(h2:Ltr b):Ltr (a++b):=λc d=>by
 rw[t5]at d;rcases dE.mp d with h|h
 ·exact h1 c h
 ·exact h2 c h
theorem Ltr.one{n:Nat}(h:n<26):Ltr ⟨#[97+n]⟩:=λc a=>by
 have:c=97+n:=by simpa using a
 omega
def Lr:Sp:=λvs H Q _=>∃(c:Int) (n:Nat),vs=[.int c,.int n]/\n<=60/\∀z:Str,z.length=n->Ltr z->Q (.str z) H
theorem C5{i:Nat}(h:i<26):rS Ll ⟨#[97+i]⟩=(i:Int):=by
 have:∀i,i<26->rS Ll ⟨#[97+i]⟩=(i:Int):=by decide +kernel
 exact this i h
def GP(b:List Nat)(p sz k:Nat):List Nat:=b.take p++([97+(b.getD p 97-97+3*k)%26]++(b.drop (p+1)).take (sz-(p+1)))
def JS:Sp:=λvs H Q _=>∃(b:Str) (p sz k:Nat),vs=[.str b,.int p,.int sz,.int k]/\b.length=12/\Ltr b/\p<sz/\sz<=12/\k<=60/\Q (.str ⟨(GP b.cps.toList p sz k).toArray⟩) H
theorem wz{b:Str}{p:Nat}(h:p<=b.cps.toList.length):gW b none (some (p:Int))=⟨(b.cps.toList.take p).toArray⟩:=by
 rw[eq_of_beq (slice_closes_to (x:=b) (j:=(p:Int)) ⟨ea _,f8.mpr h⟩)];rw[show((p:Int)-0).toNat=p by omega,show sL 0=0 from rfl,qg]
theorem CO{b:Str}{i j:Nat}(h1:i<=j)(h2:j<=b.cps.toList.length):gW b (some (i:Int)) (some (j:Int))=⟨((b.cps.toList.drop i).take (j-i)).toArray⟩:=by
 rw[eq_of_beq (slice_closes (x:=b) (i:=(i:Int)) (j:=(j:Int)) ⟨ea _,f8.mpr h1,f8.mpr h2⟩)];rw[show((j:Int)-(i:Int)).toNat=j-i by omega,show(i:Int).toNat=i by omega]
theorem u9(l:List Nat):(⟨l.toArray⟩:Str).length=l.length:=by rw[ui]
theorem y3{b:List Nat}{p sz k:Nat}(a:b.length=12)(hp:p<sz)(c:sz<=12):(GP b p sz k).length=sz:=by
 unfold GP;rw[de,de,cX,cX,eQ,eo,a];omega
theorem Dh{b:List Nat}{p sz k:Nat}(c:b.length=12)(hp:p<12):(GP b p sz k)[p]?=some (97+(b.getD p 97-97+3*k)%26):=by
 unfold GP;have a:(b.take p).length=p:=by rw[cX,c];omega
 rw[ff (gi a),a,iC];rfl
theorem CD{b:List Nat}{p sz k a:Nat}(c:b.length=12)(hp:p<12)(hk:k<6)(d:a<6)(h:GP b p sz k=GP b p sz a):k=a:=by
 have e:=congrArg (λl:List Nat=>l[p]?) h;simp only[Dh c hp]at e;have:=Option.some.inj e;omega
theorem Ck{b:List Nat}{p sz k:Nat}(d:∀c∈b,97<=c/\c<=122):∀c∈GP b p sz k,97<=c/\c<=122:=λc a=>by
 unfold GP at a;rcases dE.mp a with h|h
 ·exact d c (eP h)
 ·rcases dE.mp h with h|h
  ·rw[cK.mp h];omega
  ·exact d c (gA (eP h))
theorem BC{n:Nat}(h1:1<=n)(h6:n<=6){f:Nat->Str}(hw:∀k,k<n->Wd (f k))(d:∀k k',k<n->k'<n->f k=f k'->k=k'):Roll ((dc n).map f):=by
 refine⟨by simpa using h1,by simpa using h6,λw h=>?_,?_⟩
 ·obtain⟨k,hk,rfl⟩:=dG.mp h;exact hw k (d5.mp hk)
 ·refine jz.mpr (rb (λ {i j} c b a e=>a ?_) o8);exact d i j (d5.mp c) (d5.mp b) e
theorem zG{b:Str}{p sz n:Nat}(h:b.length=12)(hl:Ltr b)(hp:p<sz)(d:sz<=12)(h1:1<=n)(h6:n<=6):Roll ((dc n).map λk=>(⟨(GP b.cps.toList p sz k).toArray⟩:Str)):=by
 have a:b.cps.toList.length=12:=by rw[<-ui];exact h
 refine BC h1 h6 (λk _=>⟨?_,?_,λc g=>Ck hl c (by simpa using g)⟩) λk j hk f e=>?_
 ·rw[u9,y3 a hp d];omega
 ·rw[u9,y3 a hp d];exact d
 ·refine CD (sz:=sz) a (show p<12 from cJ hp d) (cJ hk h6) (cJ f h6) ?_;have:=congrArg (λz:Str=>z.cps.toList) e;simpa using this
theorem AI{b:Str}{n:Nat}(f:b.length=12)(hl:Ltr b)(h1:1<=n)(h6:n<=6):Roll ((dc n).map λk=>(⟨(b.cps.toList.take (k+1)).toArray⟩:Str)):=by
 have a:b.cps.toList.length=12:=by rw[<-ui];exact f
 refine BC h1 h6 (λk hk=>⟨?_,?_,λc d=>hl c (eP (by simpa using d))⟩) λk h hk g e=>?_
 ·rw[u9,cX,a];omega
 ·rw[u9,cX,a];omega
 ·have:=congrArg kf e;simp only[u9,cX,a]at this;omega
def IZ(K:b3):Sp:=λvs H Q _=>∃(a:cG) (ns:List Int) (at' n:Nat),vs=[.ref a,.int at',.int n]/\SqL K H a (ns.map V.int)/\1<=n/\n<=6/\∀p ws H',Same H H'->H p=none->H' p=some (.lst (ws.map V.str))->Roll ws->ws.length=n->Q (.ref p) H'
def Mr(x:Xs)(C:cG)(nm:Str):Prop:=(C=x.NoWishes/\nm="NoWishes")\/(C=x.NoPick/\nm="NoPick")\/(C=x.NoRoll/\nm="NoRoll")\/(C=x.NoPerson/\nm="NoPerson")\/(C=x.Unready/\nm="Unready")\/(C=x.NoWay/\nm="NoWay")
def HS(x:Xs):Sp:=λvs H Q _=>∃(a C:cG) (nm:Str),vs=[.ref a]/\H a=some (Kr C a)/\Mr x C nm/\∀p H',Same H H'->H p=none->H' p=some (.lst [.str nm])->Q (.ref p) H'
theorem AU{b:Str}{p sz n:Nat}{c:Prop}[Decidable c](a:b.length=12)(hl:Ltr b)(hp:p<sz)(d:sz<=12)(h1:1<=n)(h6:n<=6):Roll ((dc n).map λk=>if c then(⟨(b.cps.toList.take (k+1)).toArray⟩:Str)else⟨(GP b.cps.toList p sz k).toArray⟩):=by
 by_cases h:c
 ·simp only[if_pos h];exact AI a hl h1 h6
 ·simp only[if_neg h];exact zG a hl hp d h1 h6
theorem Wd.asc{z:Str}(h:Wd z):Gz z:=λc a=>by have:=h.cs c a;omega
def G8(ws us:List Str):Prop:=us.length<=60/\(∀w∈us,w.length<=1000/\Gz w)/\¬(Roll us/\us.length=ws.length)
def IV:Sp:=λvs H Q _=>∃(a:cG) (ws:List Str) (c:Int),vs=[.ref a,.int c]/\H a=some (.lst (ws.map V.str))/\Roll ws/\∀p us H',Same H H'->H' p=some (.lst (us.map V.str))->G8 ws us->Q (.ref p) H'
theorem Roll.okw{ws:List Str}(h:Roll ws):∀w∈ws,w.length<=1000/\Gz w:=λw a=>⟨by have:=(h.wd w a).hi;exact cO this (by decide),(h.wd w a).asc⟩
theorem EH{ws:List Str}:G8 ws []:=⟨by decide,(λw h=>nomatch h),λh=>by have:=h.1.lo;simp at this⟩
theorem vB{z:Str}(h:(z.cps.toList.all λc=>decide (c<128))=true):Gz z:=λc a=>by simpa using dX.mp h c a
def Lv:List Str:=["a","b","c","d","e","f","g"]
theorem B6{ws:List Str}:G8 ws Lv:=by
 refine⟨by decide,λw h=>?_,λh=>by have:=h.1.hi;revert this;decide⟩;have e:(Lv.all λw=>decide (w.length<=1000)&&w.cps.toList.all λc=>decide (c<128))=true:=by decide +kernel
 have:=dX.mp e w h;rw[dt,decide_eq_true_iff]at this;exact⟨this.1,vB this.2⟩
theorem DQ{ws:List Str}(h:Roll ws):G8 ws (ws.drop 1):=by
 have h1:=h.lo;have h6:=h.hi;refine⟨by rw[eQ];omega,λw a=>h.okw w (gA a),λz=>?_⟩;have:=z.2;rw[eQ]at this;omega
theorem Ds{ws:List Str}{o:Str}(h:Roll ws)(b:o.length<=1000/\Gz o):G8 ws (ws++[o]):=by
 have h6:=h.hi;refine⟨by rw[de,eo];exact dS (cO h6 (by decide)),λw a=>?_,λz=>?_⟩
 ·rcases dE.mp a with h1|h1
  ·exact h.okw w h1
  ·rw[cK.mp h1];exact b
 ·have:=z.2;rw[de,eo]at this;omega
theorem CQ{ws:List Str}{o:Str}{k:Nat}(h:Roll ws)(c:o.length<=1000/\Gz o)(b:¬Roll (ws.take k++[o]++ws.drop (k+1))):G8 ws (ws.take k++[o]++ws.drop (k+1)):=by
 have h6:=h.hi;refine⟨?_,λw a=>?_,λz=>b z.1⟩
 ·rw[de,de,cX,eQ,eo];omega
 ·rcases dE.mp a with h1|h1
  ·rcases dE.mp h1 with h1|h1
   ·exact h.okw w (eP h1)
   ·rw[cK.mp h1];exact c
  ·exact h.okw w (gA h1)
theorem x3{ws:List Str}{o:Str}{k:Nat}(h:Roll ws)(a:o.length<=1000/\Gz o)(hw:¬Wd o):G8 ws (ws.take k++[o]++ws.drop (k+1)):=
 CQ h a λz=>hw (z.wd o (ia _ (dW _ (cK.mpr rfl))))
theorem B3{ws:List Str}{v:Str}{k j:Nat}(h:Roll ws)(hk:k<ws.length)(g:ws[j]?=some v)(f:j≠k):G8 ws (ws.take k++[v]++ws.drop (k+1)):=by
 refine CQ h (h.okw v (dh g)) λz=>?_;have e:ws.take k++[v]++ws.drop (k+1)=ws.set k v:=by
  rw[List.set_eq_take_append_cons_drop,if_pos hk,oF];rfl
 rw[e]at z;have m:=z.nd;have a:j<ws.length:=(cT.mp g).1;have d:(ws.set k v)[j]'(by rw[gG];exact a)=v:=by
  rw[List.getElem_set_ne (Ne.symm f)];exact(cT.mp g).2
 have b:(ws.set k v)[k]'(by rw[gG];exact hk)=v:=List.getElem_set_self ..;have l:=kJ.mp m;rcases Nat.lt_or_gt_of_ne f with c|c
 ·exact l j k (by rw[gG];exact a) (by rw[gG];exact hk) c (by rw[d,b])
 ·exact l k j (by rw[gG];exact hk) (by rw[gG];exact a) c (by rw[d,b])
theorem Ah(c:Array Nat)(x:Nat):∀(k:Nat) (acc:Array Nat),x∈((gj k c).foldl (· ++ ·) acc).toList->x∈acc.toList\/x∈c.toList
 | 0,acc,h=> .inl h
 | k+1,acc,h=>by
  rw[nh,List.foldl_cons]at h
  rcases Ah c x k _ h with h1|h1
  ·rw[Array.toList_append]at h1
   exact dE.mp h1
  ·exact .inr h1
theorem Es{z:Str}{n:Int}(h:Gz z):Gz (jI z n):=λc a=>by
 unfold jI at a;split at a
 ·exact nomatch (show c∈([]:List Nat)from a)
 ·split at a
  ·exact h c a
  ·rcases Ah z.cps c _ _ a with h1|h1
   ·exact nomatch h1
   ·exact h c h1
theorem BM{z:Str}(h:Wd z):(gW (jI z 13) none (some 13)).length=13/\Gz (gW (jI z 13) none (some 13)):=by
 have f:((jI z 13).length:Int)=(z.length:Int)*13:=by rw[len_mul];rfl
 have h1:=h.lo;have e:=wz (b:=jI z 13) (p:=13) (by rw[<-ui];omega);have d:gW (jI z 13) none (some 13)=⟨((jI z 13).cps.toList.take 13).toArray⟩:=e;rw[d];refine⟨?_,λc a=>Es h.asc c (eP (by simpa using a))⟩;rw[u9,cX,<-ui];omega
def GA:Str:=" !\"#$&'()*+,-./0123456789:;<=>?@ABCDEFGHIJKLMNOPQRSTUVWXYZ[\\]^_`{|}~"
theorem C2:∀c∈GA.cps.toList,c<128/\¬(97<=c/\c<=122):=by
 have e:(GA.cps.toList.all λc=>decide (c<128) && !(decide (97<=c)&&decide (c<=122)))=true:=by decide +kernel
 intro c a;have:=dX.mp e c a;simp at this;omega
theorem vK:GA.length=68:=by decide +kernel
theorem AX{b:Str}{i:Nat}(h:i<=b.cps.toList.length):gW b (some (i:Int)) none=⟨(b.cps.toList.drop i).toArray⟩:=by
 rw[slice_from_eq (ea _) (by rw[ui];exact f8.mpr h) (rfl:((b.length:Nat):Int)=_)];refine wJ ?_;show List.take _ _=List.drop _ _;rw[show(i:Int).toNat=i by omega,eh (by rw[eQ,ui];omega)]
theorem DD{z:Str}{p s:Nat}(h:Wd z)(f:s∈GA.cps.toList):((⟨(z.cps.toList.take p).toArray⟩++⟨#[s]⟩++⟨(z.cps.toList.drop (p+1)).toArray⟩:Str)).length<=1000/\Gz (⟨(z.cps.toList.take p).toArray⟩++⟨#[s]⟩++⟨(z.cps.toList.drop (p+1)).toArray⟩:Str)/\¬Wd (⟨(z.cps.toList.take p).toArray⟩++⟨#[s]⟩++⟨(z.cps.toList.drop (p+1)).toArray⟩:Str):=by
 have d:=h.hi;rw[ui]at d;have e:(⟨(z.cps.toList.take p).toArray⟩++⟨#[s]⟩++⟨(z.cps.toList.drop (p+1)).toArray⟩:Str).cps.toList=z.cps.toList.take p++[s]++z.cps.toList.drop (p+1):=by
  rw[t5,t5]
 have a:=C2 s f;refine⟨?_,λc b=>?_,λw=>?_⟩
 ·rw[ui,e,de,de,cX,eQ,eo];omega
 ·rw[e]at b;rcases dE.mp b with h1|h1
  ·rcases dE.mp h1 with h1|h1
   ·exact h.asc c (eP h1)
   ·rw[cK.mp h1];exact a.1
  ·exact h.asc c (gA h1)
 ·exact a.2 (w.cs s (by rw[e];exact ia _ (dW _ (cK.mpr rfl))))
theorem CZ:¬Wd "":=λw=>by have:=w.lo;revert this;decide
theorem zS{a:Type}{xs:List a}{k:Nat}{v:a}(hk:k<xs.length)(h:xs[if k=0 then xs.length-1 else k-1]?=some v):Ic xs ((k:Int)-1)=some v:=by
 unfold Ic KY;by_cases h0:k=0
 ·subst h0;rw[if_neg (by omega),if_pos (by omega)];rw[if_pos rfl]at h;show xs[_]?=_;rw[show(((0:Nat):Int)-1+xs.length).toNat=xs.length-1 by omega];exact h
 ·rw[if_neg h0]at h;rw[if_pos (by omega),if_pos (by omega)];show xs[_]?=_;rw[show((k:Int)-1).toNat=k-1 by omega];exact h
theorem Cu{ws:List Str}{k:Nat}(h:k<=ws.length):Ha (ws.map V.str) none (some (k:Int))=(ws.take k).map V.str:=by
 rw[FE (by rw[cx];exact h),lb]
theorem xc{ws:List Str}{k:Nat}(h:k<=ws.length):Ha (ws.map V.str) (some (k:Int)) none=(ws.drop k).map V.str:=by
 rw[Dq (by rw[cx];exact h),lg]
end L2
namespace L2
theorem Nf{p:Prop}[Decidable p]{X B:Prop}(a:B)(h:p->B->X):if decide p=true then X else B:=by
 by_cases c:p
 ·rw[decide_eq_true c];exact Gu (h c a)
 ·rw[decide_eq_false c];exact Gg a
end L2
namespace L2
open PySem PySem.Spec PyProof.Rows
def JY:Sp:=λvs H Q _=>∃(a b:cG) (ps ts:List Str) (c:Int),vs=[.ref a,.ref b,.int c]/\H a=some (.lst (ps.map V.str))/\H b=some (.lst (ts.map V.str))/\Roll ps/\Roll ts/\ps.length=ts.length/\∀H',Same H H'->Q (.bl true) H'
def IC(K:b3):Sp:=λvs H Q _=>∃(a m:cG) (ps:List Str) (ns:List Int),vs=[.ref a,.ref m]/\SqL K H a (ps.map V.str)/\Roll ps/\SqL K H m (ns.map V.int)/\ns.length=8/\∀p H',Same H H'->p.length<=100->Gz p->Q (.str p) H'
theorem yX{ns:List Int}{i:Nat}(h:i<ns.length):Ic (ns.map V.int) (i:Int)=some (.int (ns.getD i 0)):=t9 (uQ h)
theorem yw{z:Str}(h:1<=z.length):gW z none (some (-1))=⟨(z.cps.toList.take (z.length-1)).toArray⟩:=by
 rw[eq_of_beq (slice_closes_to_neg (x:=z) (j:= -1) (k:= -1+z.length) (by decide) (by omega) rfl)];rw[show(-1+(z.length:Int)-0).toNat=z.length-1 by omega,show sL 0=0 from rfl,qg]
theorem zI{a b:Str}(h1:Gz a)(h2:Gz b):Gz (a++b):=λc d=>by
 rw[t5]at d;rcases dE.mp d with h|h
 ·exact h1 c h
 ·exact h2 c h
theorem Er:(" ":Str)=⟨#[32]⟩:=by decide +kernel
def Mv(w:Str):Prop:=32∉w.cps.toList
theorem zQ:∀{a b r s:List Nat},32∉a->32∉b->a++32::r=b++32::s->a=b/\r=s
 | [],[],r,s,_,_,h=>by simpa using h
 | [],y::b,r,s,_,hb,h=>by
  have:32=y:=(List.cons.inj h).1
  exact absurd (this▸cM) hb
 | x::a,[],r,s,ha,_,h=>by
  have:x=32:=(List.cons.inj h).1
  exact absurd (this▸cM) ha
 | x::a,y::b,r,s,ha,hb,h=>by
  have h1:=List.cons.inj h
  have c:=zQ (λz=>ha (cN _ z)) (λz=>hb (cN _ z)) h1.2
  exact⟨by rw[h1.1,c.1],c.2⟩
theorem KC(x y:Str)(r:List Str):(kE " " (x::y::r)).cps.toList=x.cps.toList++32::(kE " " (y::r)).cps.toList:=by
 show(x++" "++kE " " (y::r)).cps.toList=_;rw[t5,t5,Er];simp
theorem z8:∀{a b:List Str},a≠[]->b≠[]->(∀w∈a,Mv w)->(∀w∈b,Mv w)->kE " " a=kE " " b->a=b
 | [],_,h,_,_,_,_=>absurd rfl h
 | _::_,[],_,h,_,_,_=>absurd rfl h
 | [x],[y],_,_,_,_,h=>by rw[show x=y from h]
 | [x],y::z::b,_,_,ha,_,h=>by
  have e:=congrArg (λs:Str=>s.cps.toList) h
  rw[KC]at e
  refine absurd ?_ (ha x cM)
  show 32∈(kE " " [x]).cps.toList
  rw[e]
  simp
 | x::z::a,[y],_,_,_,hb,h=>by
  have e:=congrArg (λs:Str=>s.cps.toList) h
  rw[KC]at e
  refine absurd ?_ (hb y cM)
  show 32∈(kE " " [y]).cps.toList
  rw[<-e]
  simp
 | x::u::a,y::v::b,_,_,ha,hb,h=>by
  have e:=congrArg (λs:Str=>s.cps.toList) h
  rw[KC,KC]at e
  have c:=zQ (ha x cM) (hb y cM) e
  have f:=z8 (a:=u::a) (b:=v::b) (fV _ _) (fV _ _) (λw d=>ha w (cN _ d)) (λw d=>hb w (cN _ d)) (wJ c.2)
  rw[f,wJ c.1]
theorem AV{ws:List Str}(h0:ws≠[])(h:∀w∈ws,Mv w):wordsOf (lP " " ws)=ws:=by
 unfold wordsOf;refine z8 ?_ h0 ?_ h ?_
 ·have:=split_pos (lP " " ws) " ";intro z;rw[z]at this;exact absurd this (by decide)
 ·rw[Er];exact StrLaws.split_free _ 32
 ·rw[nY];exact mL " " ws
structure TxtOk(ws:List Str):Prop where
 len:ws.length<=7
 wd:∀w∈ws,w.length<=13
 cs:∀w∈ws,∀c∈w.cps.toList,c<128/\c≠32
theorem yd:∀{ws:List Str},(∀w∈ws,w.length<=13)->(ws.map (·.length)).sum<=13*ws.length
 | [],_=>cI _
 | x::ws,h=>by
  have b:=yd (ws:=ws) λw a=>h w (cN _ a)
  have:=h x cM
  simp only[d2,fR,dR]
  omega
theorem TxtOk.out{ws:List Str}(h:TxtOk ws):(lP " " ws).length<=500/\Gz (lP " " ws)/\(wordsOf (lP " " ws)).length<64:=by
 have d:=h.len;have f:=yd h.wd;have e:lP " " ws=kE " " ws:=mL " " ws;refine⟨?_,?_,?_⟩
 ·have:=StrLaws.join_length_le " " ws;rw[show(" ":Str).length=1 by decide +kernel]at this;rw[e];omega
 ·rw[e];intro c a;rcases(mem_join " " c ws).mp a with⟨w,b,a⟩|⟨_,a⟩
  ·exact(h.cs w b c a).1
  ·rw[Er]at a;have:c=32:=by simpa using a
   omega
 ·by_cases h0:ws=[]
  ·subst h0;decide +kernel
  ·rw[AV h0 λw b a=>(h.cs w b 32 a).2 rfl];exact dP d (by decide)
theorem TxtOk.sumk{ws:List Str}(h:TxtOk ws):(ws.map kf).sum+ws.length<=1048576:=by
 have a:=h.len;have b:(ws.map kf).sum<=13*ws.length:=yd h.wd;omega
def JA(K:b3):Sp:=λvs H Q _=>∃(a m:cG) (ts:List Str) (ns:List Int),vs=[.ref a,.ref m]/\SqL K H a (ts.map V.str)/\Roll ts/\SqL K H m (ns.map V.int)/\ns.length=8/\∀t H',Same H H'->t.length<=500->Gz t->(wordsOf t).length<64->Q (.str t) H'
theorem A1{ts:List Str}{d:List Int}(h:∀t∈d,t.toNat<ts.length):∀w∈Gk ts d,w∈ts:=λw a=>by
 unfold Gk at a;obtain⟨t,b,rfl⟩:=dG.mp a;rw[cA,cD (h t b)];exact db _
theorem B4{num:Int}{n:Nat}:∀t∈LM.perm num n,0<=t/\t.toNat<n:=λt a=>by
 have:=(LM.perm_succ_perm num n).mem_iff.mp a;obtain⟨i,b,rfl⟩:=dG.mp this;have:=d5.mp b;show 0<=(i:Int)/\(i:Int).toNat<n;omega
theorem Dy{ts:List Str}{num:Int}(h:Roll ts):TxtOk (Gk ts (LM.perm num ts.length))/\(∀w∈Gk ts (LM.perm num ts.length),w∈ts)/\(Gk ts (LM.perm num ts.length)).length=ts.length:=by
 have a:=A1 (ts:=ts) (d:=LM.perm num ts.length) λt f=>(B4 t f).2;have e:(Gk ts (LM.perm num ts.length)).length=ts.length:=by unfold Gk;rw[cx,LM.perm_len]
 refine⟨⟨by rw[e];have:=h.hi;exact fJ this,λw b=>by have:=(h.wd w (a w b)).hi;exact fJ this,λw b c g=>?_⟩,a,e⟩;have:=(h.wd w (a w b)).cs c g;omega
theorem TxtOk.set{ws:List Str}{k:Nat}{o:Str}(h:TxtOk ws)(h1:o.length<=13)(h2:∀c∈o.cps.toList,c<128/\c≠32):TxtOk (ws.set k o):=by
 refine⟨by rw[gG];exact h.len,λw a=>?_,λw a=>?_⟩
 ·rcases kK a with z|z
  ·exact h.wd w z
  ·rw[z];exact h1
 ·rcases kK a with z|z
  ·exact h.cs w z
  ·rw[z];exact h2
theorem TxtOk.erase{ws:List Str}{k:Nat}(h:TxtOk ws):TxtOk (ws.eraseIdx k):=
 ⟨cO (lS ..) h.len,λw a=>h.wd w (lx a),λw a=>h.cs w (lx a)⟩
theorem TxtOk.more{ws:List Str}{o:Str}{k:Nat}(h:TxtOk ws)(h6:ws.length<=6)(h1:o.length<=13)(h2:∀c∈o.cps.toList,c<128/\c≠32):TxtOk (ws.take k++o::ws.drop k):=by
 have b:∀w∈ws.take k++o::ws.drop k,w∈ws\/w=o:=λw a=>by
  rcases dE.mp a with z|z
  ·exact .inl (eP z)
  ·rcases da.mp z with z|z
   ·exact .inr z
   ·exact .inl (gA z)
 refine⟨?_,λw a=>?_,λw a=>?_⟩
 ·rw[de,dR,cX,eQ];omega
 ·rcases b w a with z|z
  ·exact h.wd w z
  ·rw[z];exact h1
 ·rcases b w a with z|z
  ·exact h.cs w z
  ·rw[z];exact h2
theorem D7{a b:Str}(h1:∀c∈a.cps.toList,c<128/\c≠32)(h2:∀c∈b.cps.toList,c<128/\c≠32):∀c∈(a++b).cps.toList,c<128/\c≠32:=λc d=>by
 rw[t5]at d;rcases dE.mp d with h|h
 ·exact h1 c h
 ·exact h2 c h
theorem BS{z:Str}(h:(z.cps.toList.all λc=>decide (c<128/\c≠32))=true):∀c∈z.cps.toList,c<128/\c≠32:=λc a=>of_decide_eq_true (dX.mp h c a)
inductive Hx where
 | wish (p t:Str):Hx
 | shares (p way:Str):Hx
 | deal (way:Str) (num:Int×Int):Hx
def IsDeed(K:b3)(H:Hp)(v:V):Hx->Prop
 | .wish p t=>∃a,v = .ref a/\SqT K H a [.str "wish",.str p,.str t]/\t.length<=500/\Gz t/\(wordsOf t).length<64
 | .shares p c=>∃a,v = .ref a/\SqT K H a [.str "shares",.str p,.str c]
 | .deal c b=>∃a g,v = .ref a/\SqT K H a [.str "deal",.str c,.ref g]/\SqT K H g [.int b.1,.int b.2]/\Sz 2000 b/\0<b.2
def Gm(ps ts a:List Str):Hx->List Str
 | .wish p t=>if p∈ps then(if(wordsOf t).Perm ts then[]else[cU "NoWishes"])else[cU "NoPerson"]
 | .shares p c=>if p∈ps then(if a=[]then(if c∈[cU "eaten",cU "turns"]then[]else[cU "NoWay"])else[cU "Unready"])else[cU "NoPerson"]
 | .deal c b=>if a=[]then(if c∈[cU "eaten",cU "turns"]then(if 0<=b.1/\b.1<b.2 then[]else[cU "NoPick"])else[cU "NoWay"])else[cU "Unready"]
def JI(K:b3):Sp:=λvs H Q _=>∃(a b m:cG) (ps ts:List Str) (ns:List Int),vs=[.ref a,.ref b,.ref m]/\SqL K H a (ps.map V.str)/\Roll ps/\SqL K H b (ts.map V.str)/\Roll ts/\SqL K H m (ns.map V.int)/\ns.length=8/\∀v D H',Same H H'->IsDeed K H' v D->Q v H'
def KB(K:b3):Sp:=λvs H Q _=>∃(a b l:cG) (v:V) (ps ts ls:List Str) (D:Hx),vs=[.ref a,.ref b,.ref l,v]/\SqL K H a (ps.map V.str)/\SqL K H b (ts.map V.str)/\ts.length<64/\(∀w∈ts,Gz w)/\SqL K H l (ls.map V.str)/\(∀w∈ls,Gz w)/\ls.length<=60/\IsDeed K H v D/\∀p H',Same H H'->H p=none->H' p=some (.lst ((Gm ps ts ls D).map V.str))->Q (.ref p) H'
def Ie:List Str:=["eaten","turns","eaten","turns","eaten","Turns","","eaten "]
theorem ES{i:Int}(h0:0<=i)(b:i<8):∃w,Ic (Ie.map V.str) i=some (.str w):=by
 have a:i.toNat<Ie.length:=by show _<8;omega
 exact⟨Ie[i.toNat],uE h0 (by rw[cL,cD a];rfl)⟩
theorem M2{t b:Int}(a:0<b)(h1:t.natAbs<4000)(h2:b.natAbs<4000):Sz 2000 (FQ.red t b)/\0<(FQ.red t b).2:=by
 refine⟨uX (by omega) (cJ h1 ?_) (cJ h2 ?_),(FQ.red_low (by omega)).pos⟩
 ·exact cO (show 4000<=2^12 by decide) (eK (by decide) (by decide))
 ·exact cO (show 4000<=2^12 by decide) (eK (by decide) (by decide))
theorem xu{num:Int×Int}:¬G6 num↔0<=num.1/\num.1<num.2:=by
 unfold G6 Gx;simp
def Ga(ps:List Str)(R:List (Str×V)):List Str:=ps.filter λp=>!(Gf R p).isSome
def ToldOk(K:b3)(H:Hp)(R:List (Str×V))(n:Nat):Prop:=∀p v,Gf R p=some v->∃row,IsR K H v row/\LN.Pm n row
theorem Aa{K:b3}{H:Hp}{R:List (Str×V)}{n:Nat}(h:ToldOk K H R n):∀ps:List Str,(∀p∈ps,Gf R p≠none)->∃W:List (List Int),Jx K H R ps W/\∀w∈W,LN.Pm n w
 | [],_=>⟨[],.nil,λw a=>nomatch a⟩
 | p::ps,hp=>by
  obtain⟨W,h1,h2⟩:=Aa h ps λq f=>hp q (cN _ f)
  cases e:Gf R p with
  | none=>exact absurd e (hp p cM)
  | some v=>
   obtain⟨b,d,c⟩:=h p v e
   exact⟨b::W,.cons ⟨v,e,d⟩ h1,λw a=>by rcases da.mp a with z|z;exact z▸c;exact h2 w z⟩
theorem Bf{K:b3}{H:Hp}{R:List (Str×V)}{ps:List Str}(a:Roll ps)(h:ToldOk K H R ps.length)(hp:∀p∈ps,Gf R p≠none):∃W,Jx K H R ps W/\Hf ps.length W:=by
 obtain⟨W,h1,h2⟩:=Aa h ps hp;exact⟨W,h1,a.lo,a.hi,(Paired.len h1).symm,h2⟩
def After(K:b3)(b:Hp)(ps ts:List Str)(R a:List (Str×V))(c:V)(D:Hx):Prop:=
 (Gm ps ts (Ga ps R) D≠[]/\a=R)\/(Gm ps ts (Ga ps R) D=[]/\match D with
  | .wish p t=>c = .non/\∃r,a=Ix R p (.ref r)/\b r=some (.tup ((HH ts (wordsOf t)).map V.int))
  | _=>a=R/\∃l xs,c = .ref l/\b l=some (.lst xs))
def JJ(K:b3)(C:cG):Sp:=λvs H Q _=>∃(s d:cG) (v:V) (ps ts:List Str) (R:List (Str×V)) (D:Hx),vs=[.ref s,v]/\BookAt C H s d ps ts R/\Roll ps/\Roll ts/\ts.length=ps.length/\R.length<900/\ToldOk K H R ps.length/\IsDeed K H v D/\
 ∀pt q tv R' H',SameBut1 d H H'->H' pt=some (.tup [tv,.ref q])->H q=none->H' q=some (.lst ((Gm ps ts (Ga ps R) D).map V.str))->BookAt C H' s d ps ts R'->After K H' ps ts R R' tv D->Q (.ref pt) H'
theorem uL{R:List (Str×V)}{ps:List Str}:Ga ps R=[]↔∀p∈ps,Gf R p≠none:=yo
theorem y7{R:List (Str×V)}{ps:List Str}(h:∃p∈ps,Gf R p=none):Ga ps R≠[]:=λz=>by
 obtain⟨p,hp,e⟩:=h;exact uL.mp z p hp e
theorem Ej{a:Str}(h1:a≠"eaten")(h2:a≠"turns"):a∉[cU "eaten",cU "turns"]:=λz=>by
 rcases da.mp z with e|e
 ·exact h1 e
 ·exact h2 (cK.mp e)
theorem zu{a:Str}(h:a="eaten"\/a="turns"):a∈[cU "eaten",cU "turns"]:=by
 rcases h with rfl|rfl
 ·exact cM
 ·exact cN _ cM
def Ib(K:b3)(C:cG):Sp:=λvs H Q _=>∃(s d l:cG) (ps ts:List Str) (R:List (Str×V)),vs=[.ref s,.ref l]/\BookAt C H s d ps ts R/\ps.length<=60/\(∀w∈ps,Gz w)/\SqL K H l ((Ga ps R).map V.str)/\∀H',Same H H'->Q (.bl true) H'
theorem xF(ps:List Str)(R:List (Str×V)):(Ga ps R).length<=ps.length:=er ..
theorem xN{ps:List Str}{R:List (Str×V)}{p:Str}:p∈Ga ps R↔p∈ps/\Gf R p=none:=by
 unfold Ga;rw[ef]
 cases Gf R p <;> simp
theorem AW{ps:List Str}{R:List (Str×V)}{p:Str}{v:V}(a:ps.Nodup):Ga ps (Ix R p v)=(Ga ps R).erase p:=by
 unfold Ga;rw[qh (rV _ a)];rw[List.filter_filter];refine gC λq _=>?_;rw[yI];by_cases h:q=p
 ·subst h;simp
 ·simp[h]
theorem SameBut1.sqT{K:b3}{H b:Hp}{d a:cG}{kvs:List (Hv×V)}{xs:List V}(c:H d=some (.dK kvs))(s:SameBut1 d H b)(h:SqT K H a xs):SqT K b a xs:=by
 rcases h with(h|⟨u,h⟩)|h
 ·exact .inl (.inl (s _ _ (vb h c (λz=>nomatch z)) h))
 ·exact .inl (.inr ⟨u,s _ _ (vb h c (λz=>nomatch z)) h⟩)
 ·exact .inr h
theorem ToldOk.but{K:b3}{H c:Hp}{d:cG}{kvs:List (Hv×V)}{R:List (Str×V)}{n:Nat}(g:H d=some (.dK kvs))(s:SameBut1 d H c)(h:ToldOk K H R n):ToldOk K c R n:=λp v e=>by
 obtain⟨b,⟨a,rfl,f⟩,hp⟩:=h p v e;exact⟨b,⟨a,rfl,s.sqT g f⟩,hp⟩
theorem FJ{ts:List Str}(f:ts.Nodup){i:Nat}(b:i<ts.length):ts.idxOf ts[i]=i:=by
 have a:ts.idxOf ts[i]<ts.length:=gw.mpr (db b);have e:=iE a;have d:=kJ.mp f;rcases oB (ts.idxOf ts[i]) i with c|c|c
 ·exact absurd e (d _ _ a b c)
 ·exact c
 ·exact absurd e.symm (d _ _ b a c)
theorem Dk{ts ws:List Str}(rt:Roll ts)(h:ws.Perm ts):LN.Pm ts.length (HH ts ws):=by
 unfold LN.Pm HH;refine(h.map _).trans ?_;have e:ts.map (λw=>(ts.idxOf w:Int))=LM.rng ts.length:=by
  unfold LM.rng;refine lG (by simp) λi h1 h2=>?_;rw[cx]at h1;rw[List.getElem_map];have a:=FJ rt.nd h1;rw[a];simp
 rw[e]
theorem Roll.rev{ws:List Str}(h:Roll ws):Roll ws.reverse:=by
 refine⟨?_,?_,λw a=>h.wd w (jO.mp a),List.pairwise_reverse.mpr (kR (λz=>Ne.symm z) h.nd)⟩
 ·rw[jg];exact h.lo
 ·rw[jg];exact h.hi
theorem Roll.ok{ws:List Str}(h:Roll ws):∀w∈ws,w.length<=1000/\Gz w:=λw a=>⟨cO (h.wd w a).hi (by decide),(h.wd w a).asc⟩
theorem Nu{c:Prop}{_:Decidable c}{A:Prop}{G:cG->Hp->Prop}(P:cG->Hp->Prop)(t:cG)(H:Hp)(a:P t H)(h:∀t H,P t H->G t H)(hA:(∀t H,P t H->G t H)->A):if decide c=true then A else G t H:=by
 by_cases e:c
 ·exact Gp e (hA h)
 ·exact Gb e (h t H a)
theorem SqT.overL{K:b3}{H:Hp}{l a:cG}{ys:List V}{o:HO}{xs:List V}(hl:H l=some (.lst ys))(h:SqT K H a xs):SqT K (upd H l o) a xs:=by
 rcases h with(h|⟨u,h⟩)|h
 ·exact .inl (.inl (by rw[td (vb h hl (λz=>nomatch z))];exact h))
 ·exact .inl (.inr ⟨u,by rw[td (vb h hl (λz=>nomatch z))];exact h⟩)
 ·exact .inr h
theorem BookAt.overL{C:cG}{H:Hp}{x d l:cG}{ps ts:List Str}{R:List (Str×V)}{ys:List V}{o:HO}(hl:H l=some (.lst ys))(h:BookAt C H x d ps ts R):BookAt C (upd H l o) x d ps ts R:=by
 obtain⟨a,e,f,b,c,h1,h2,h3,h4,h5,h6⟩:=h.ex;refine⟨a,e,f,b,c,?_,?_,h3,?_,h5,?_⟩
 ·rw[td (vb h1 hl (λz=>nomatch z))];exact h1
 ·rw[td (vb h2 hl (λz=>nomatch z))];exact h2
 ·rw[td (vb h4 hl (λz=>nomatch z))];exact h4
 ·rw[td (vb h6 hl (λz=>nomatch z))];exact h6
theorem IsDeed.but{K:b3}{H e:Hp}{d:cG}{kvs:List (Hv×V)}{v:V}{D:Hx}(b:H d=some (.dK kvs))(s:SameBut1 d H e)(h:IsDeed K H v D):IsDeed K e v D:=by
 cases D with
 | wish p t=>
  obtain⟨a,rfl,h1,h2⟩:=h;exact⟨a,rfl,s.sqT b h1,h2⟩
 | shares p c=>
  obtain⟨a,rfl,h1⟩:=h;exact⟨a,rfl,s.sqT b h1⟩
 | deal c f=>
  obtain⟨a,g,rfl,h1,h2,h3⟩:=h;exact⟨a,g,rfl,s.sqT b h1,s.sqT b h2,h3⟩
theorem IsDeed.mono{K:b3}{H c:Hp}{v:V}{D:Hx}(s:Same H c)(h:IsDeed K H v D):IsDeed K c v D:=by
 cases D with
 | wish p t=>
  obtain⟨a,rfl,h1,h2⟩:=h;exact⟨a,rfl,s.tup h1,h2⟩
 | shares p b=>
  obtain⟨a,rfl,h1⟩:=h;exact⟨a,rfl,s.tup h1⟩
 | deal b d=>
  obtain⟨a,g,rfl,h1,h2,h3⟩:=h;exact⟨a,g,rfl,s.tup h1,s.tup h2,h3⟩
structure At51(K:b3)(C:cG)(H:Hp)(pl tl c l s d:cG)(ps ts:List Str)(xs:List V)(L:List Str)(R:List (Str×V)):Prop where
 pe:H pl=some (.lst (ps.map V.str))
 th:H tl=some (.lst (ts.map V.str))
 ce:H c=some (.lst xs)
 la:H l=some (.lst (L.map V.str))
 bk:BookAt C H s d ps ts R
 ok:ToldOk K H R ps.length
theorem ToldOk.mono{K:b3}{H b:Hp}{R:List (Str×V)}{n:Nat}(s:Same H b)(h:ToldOk K H R n):ToldOk K b R n:=λp v e=>by
 obtain⟨a,c,hp⟩:=h p v e;exact⟨a,c.mono s,hp⟩
section
variable{K:b3}{C:cG}{H H':Hp}{pl tl c l s d:cG}{ps ts:List Str}{xs:List V}{L L':List Str}{R R':List (Str×V)}
theorem At51.mono(e:Same H H')(h:At51 K C H pl tl c l s d ps ts xs L R):At51 K C H' pl tl c l s d ps ts xs L R:=
 ⟨e _ _ h.pe,e _ _ h.th,e _ _ h.ce,e _ _ h.la,h.bk.mono e,h.ok.mono e⟩
theorem At51.dk(h:At51 K C H pl tl c l s d ps ts xs L R):H d=some (.dK (wK R)):=by
 obtain⟨a,f,g,b,e,h1,h2,h3,h4,h5,h6⟩:=h.bk.ex;exact h6
theorem At51.told(h:At51 K C H pl tl c l s d ps ts xs L R)(U:SameBut1 d H H')(a:BookAt C H' s d ps ts R')(ok:ToldOk K H' R' ps.length):At51 K C H' pl tl c l s d ps ts xs L R':=
 ⟨U _ _ (vb h.pe h.dk (λz=>nomatch z)) h.pe,U _ _ (vb h.th h.dk (λz=>nomatch z)) h.th,U _ _ (vb h.ce h.dk (λz=>nomatch z)) h.ce,U _ _ (vb h.la h.dk (λz=>nomatch z)) h.la,a,ok⟩
theorem At51.rem(h:At51 K C H pl tl c l s d ps ts xs L R)(g:pl≠l)(k:tl≠l)(j:c≠l):At51 K C (upd H l (.lst (L'.map V.str))) pl tl c l s d ps ts xs L' R:=
 ⟨by rw[td g];exact h.pe,by rw[td k];exact h.th,by rw[td j];exact h.ce,sQ,h.bk.overL h.la,λp v e=>by
  obtain⟨b,⟨a,rfl,f⟩,hp⟩:=h.ok p v e
  exact⟨b,⟨a,rfl,f.overL h.la⟩,hp⟩⟩
theorem Dg{p t:Str}(h:Gm ps ts L (.wish p t)=[]):(wordsOf t).Perm ts:=by
 have a:(if p∈ps then(if(wordsOf t).Perm ts then[]else[cU "NoWishes"])else[cU "NoPerson"])=[]:=h;by_cases c:p∈ps
 ·rw[if_pos c]at a;by_cases b:(wordsOf t).Perm ts
  ·exact b
  ·rw[if_neg b]at a
   cases a
 ·rw[if_neg c]at a
  cases a
theorem After.ok{j:V}{D:Hx}{kvs:List (Hv×V)}(ok:ToldOk K H R ps.length)(a:H d=some (.dK kvs))(U:SameBut1 d H H')(rt:Roll ts)(c:ts.length=ps.length)(h:After K H' ps ts R R' j D):ToldOk K H' R' ps.length:=by
 rcases h with⟨_,rfl⟩|⟨b,h⟩
 ·exact ok.but a U
 cases D with
 | wish p t=>
  obtain⟨_,r,rfl,g⟩:=h;intro q v e;rw[yI]at e;split at e
  ·cases e;exact⟨_,⟨r,rfl,SqT.of g⟩,c▸Dk rt (Dg b)⟩
  ·exact ok.but a U q v e
 | shares p f=>
  obtain⟨rfl,_⟩:=h;exact ok.but a U
 | deal f k=>
  obtain⟨rfl,_⟩:=h;exact ok.but a U
theorem After.len{c:V}{D:Hx}(h:After K H' ps ts R R' c D):R'.length<=R.length+1:=by
 rcases h with⟨_,rfl⟩|⟨b,h⟩
 ·omega
 cases D with
 | wish p t=>
  obtain⟨_,r,rfl,e⟩:=h;exact zR ..
 | shares p a=>
  obtain⟨rfl,_⟩:=h;omega
 | deal a d=>
  obtain⟨rfl,_⟩:=h;omega
theorem uk{P:List Str->Prop}{c:Prop}[Decidable c]{a b:List Str}(d:P a)(e:P b):P (if c then a else b):=by
 by_cases h:c
 ·rw[if_pos h];exact d
 ·rw[if_neg h];exact e
theorem EY(D:Hx):∀w∈Gm ps ts L D,Gz w:=by
 have k:Gz (cU "NoWishes"):=by unfold Gz;decide +kernel
 have d:Gz (cU "NoPerson"):=by unfold Gz;decide +kernel
 have g:Gz (cU "NoWay"):=by unfold Gz;decide +kernel
 have f:Gz (cU "Unready"):=by unfold Gz;decide +kernel
 have j:Gz (cU "NoPick"):=by unfold Gz;decide +kernel
 have a:∀{z:Str},Gz z->∀w∈[z],Gz w:=λh w b=>by rw[cK.mp b];exact h
 have c:∀w∈([]:List Str),Gz w:=λw b=>nomatch b
 cases D with
 | wish p t=>exact uk (P:=λl=>∀w∈l,Gz w) (uk (P:=λl=>∀w∈l,Gz w) c (a k)) (a d)
 | shares p e=>exact uk (P:=λl=>∀w∈l,Gz w) (uk (P:=λl=>∀w∈l,Gz w) (uk (P:=λl=>∀w∈l,Gz w) c (a g)) (a f)) (a d)
 | deal e m=>exact uk (P:=λl=>∀w∈l,Gz w) (uk (P:=λl=>∀w∈l,Gz w) (uk (P:=λl=>∀w∈l,Gz w) c (a j)) (a g)) (a f)
theorem Fb(D:Hx):(Gm ps ts L D).length<=1:=by
 have a:∀{z:Str},[z].length<=1:=cI _;have b:([]:List Str).length<=1:=dz _
 cases D with
 | wish p t=>exact uk (P:=λl=>l.length<=1) (uk (P:=λl=>l.length<=1) b a) a
 | shares p c=>exact uk (P:=λl=>l.length<=1) (uk (P:=λl=>l.length<=1) (uk (P:=λl=>l.length<=1) b a) a) a
 | deal c d=>exact uk (P:=λl=>l.length<=1) (uk (P:=λl=>l.length<=1) (uk (P:=λl=>l.length<=1) b a) a) a
theorem G9{q p:cG}(b:H q=some (.lst (L.map V.str)))(c:∀w∈L,Gz w)(hl:L.length<=60)(hp:H p=none):Rep K (upd H p (.lst [])) (.ref q) (.list (L.map fi))/\Rep K (upd H p (.lst [])) (.ref p) (.list (([]:List Str).map fi))/\fy (.list (L.map fi))=true/\fy (.list (([]:List Str).map fi))=true:=
 ⟨.lst (SqL.of (nJ hp _ _ _ b)) (Reps.strs L) (by rw[cx];omega),.lst (SqL.of sQ) (Reps.strs []) (by simp),tN (uz c) (by decide),tN (uz (λw a=>nomatch a)) (by decide)⟩
theorem AC(ps:List Str):Ga ps []=ps:=List.filter_eq_self.mpr λ_ _=>rfl
theorem E9{ns:List Int}{lo a:Option Int}{i:Nat}{v:V}(h:(Ha (ns.map V.int) lo a)[i]?=some v):∃c:Int,v=V.int c:=by
 have h1:=dh h;unfold Ha at h1;obtain⟨c,_,rfl⟩:=dG.mp (gA (eP h1));exact⟨c,rfl⟩
end
def K6(x:Xs):Nat->cG
 | 0=>x.NoFraction
 | 1=>x.NoWishes
 | 2=>x.NoTable
 | 3=>x.NoPick
 | 4=>x.NoOrder
 | 5=>x.NoRoll
 | 6=>x.NoPerson
 | 7=>x.Unready
 | _=>x.NoWay
def Nl:Nat->Str
 | 1=>"NoWishes"
 | 3=>"NoPick"
 | 5=>"NoRoll"
 | 6=>"NoPerson"
 | 7=>"Unready"
 | 8=>"NoWay"
 | 0=>"NoFraction"
 | 2=>"NoTable"
 | _=>"NoOrder"
structure KK(K:b3)(x:Xs)(C:cG)(i:Nat):Prop where
 is:Ma K C
 one:∀j,j<9->f3 K (.ref C) (.ref (K6 x j))=some (decide (i=j))
 val:f3 K (.ref C) (.type "ValueError")=some true
theorem MV{a:Type}{f g:Nat->a}(h:(dc 9).map f=(dc 9).map g)(j:Nat)(b:j<9):f j=g j:=by
 have e:=congrArg (λl:List a=>l[j]?) h;simp only[cL,eg b]at e;exact Option.some.inj e
theorem AE{K:b3}{x:Xs}{C:cG}{i:Nat}(h:Ma K C)(c:(dc 9).map (λj=>gS K (K6 x j) MF "ValueError.__new__")=(dc 9).map λ_=>true)(b:(dc 9).map (λj=>fk K C (.ref (K6 x j)))=(dc 9).map λj=>some (decide (i=j)))(d:fk K C (.type "ValueError")=some true):KK K x C i:=
 ⟨h,λj a=>FM (MV c j a) (MV b j a),EN d⟩
theorem HP{c:Prop}{_:Decidable c}{A:Prop}{G:Hp->Prop}(P:Hp->Prop)(H:Hp)(a:¬c->P H)(h:∀H,P H->G H)(hA:c->(∀H,P H->G H)->A):if decide c=true then A else G H:=by
 by_cases e:c
 ·exact Gp e (hA e h)
 ·exact Gb e (h H (a e))
def kL(i j:Nat):List V:=if i<j then[.str (Nl i)]else[]
theorem ya{i j:Nat}(h:¬i=j):kL i (j+1)=kL i j:=by
 unfold kL;by_cases c:i<j
 ·rw[if_pos c,if_pos (dw c)]
 ·rw[if_neg c,if_neg (by omega)]
theorem FA{i j:Nat}(h:i=j):kL i j++[.str (Nl j)]=kL i (j+1):=by
 unfold kL;rw[if_neg (by omega),if_pos (fK (gi h)),h];rfl
theorem v4(i j:Nat):(kL i j).length<sizeLine:=by
 unfold kL;by_cases c:i<j
 ·rw[if_pos c];exact F4 (show 1<=1000 by decide)
 ·rw[if_neg c];exact F4 (show 0<=1000 by decide)
def KP(H:Hp)(C a p:cG)(i j:Nat)(b:Hp):Prop:=b a=some (Kr C a)/\Same H b/\b p=some (.lst (kL i j))
theorem KP.put{H b:Hp}{C a p:cG}{i j:Nat}(h1:b a=some (Kr C a))(h2:Same H b)(ne:a≠p)(hp:H p=none)(e:i=j):KP H C a p i (j+1) (upd b p (.lst (kL i j++[.str (Nl j)]))):=
 ⟨by rw[td ne];exact h1,h2.over hp _,by rw[sQ,FA e]⟩
theorem Hu{x a b:Int}(e:x=a)(h:a≠b):¬V.int x=V.int b:=λz=>h (e.symm.trans (Ke z))
theorem yr{x:Int}{n:Nat}(h:1<=n):∃k:Nat,x%(n:Int)=(k:Int)/\k<n:=by
 have h0:=dQ x (show(n:Int)≠0 from dM (gv.mpr h));have h1:=dH x (show(0:Int)<n from gv.mpr h);exact⟨(x%(n:Int)).toNat,Eq.symm (gL h0),by omega⟩
theorem zK{a:Type}{ws:List a}{f:a->V}(h:1<=ws.length):(0:Int)<((ws.map f).length:Int):=by
 rw[cx];exact pN.mpr h
theorem Fa{k n:Nat}(h:k<n):KY n (k:Int)=some k:=by
 unfold KY;rw[if_pos (ea _),if_pos (gv.mpr h)];exact congrArg some (by omega)
theorem LV(x:Int):x=1\/x=3\/x=5\/x=7\/x=9\/x=11\/(x≠1/\x≠3/\x≠5/\x≠7/\x≠9/\x≠11):=by omega
section
variable{X:Cx}
def KM:Expr->Option Str
 | .Constant (.str z) _ _=>some z
 | _=>none
theorem DA{e:Expr}{z:Str}(h:KM e=some z):∃k p,e = .Constant (.str z) k p:=by
 cases e with
 | Constant c k p=>
  cases c with
  | str y=>exact⟨k,p,by rw[show y=z from Option.some.inj h]⟩
  | _=>cases h
 | _=>cases h
def JX:List Expr->Option (List Str)
 | []=>some []
 | e::es=>(KM e).bind λz=>(JX es).map (z :: ·)
theorem z9:∀(es:List Expr) {is:List Str},JX es=some is->PA X es (Lk is)
 | [],is,h=>by
  cases h
  exact λb a s d H Q I h=>(sS (X:=X)) b a s d H Q I h
 | e::es,is,h=>by
  have h:(KM e).bind (λz=>(JX es).map (z :: ·))=some is:=h
  cases c:KM e with
  | none=>rw[c]at h;cases h
  | some z=>
   cases f:JX es with
   | none=>rw[c,f]at h;cases h
   | some g=>
    rw[c,f]at h
    cases h
    obtain⟨k,p,rfl⟩:=DA c
    exact λb a s d H Q I h=>(me (X:=X) tr (z9 es f)) b a s d H Q I h
theorem Cj{i:Nat}{x:Str}{c:List Expr}{is:List Str}{b:Expr}{e:TE}{r:R2}{pos d f a:Pos}(n:X.N.Nodup)(k:X.N[i]?=some x)(g:Loc X.env.scope x)(h:IxR X r)(l:JX c=some is)(j:PE X b e)(hp:Ky b)
  (o:swapsWith (.Subscript (.List c d) b f) (some (.Name x a)) pos.line X.env=pure false:=by rfl)(m:X.fn x=true\/X.env.scope.names.lookup x=some .local:=by first|exact .inl rfl|exact .inr rfl|assumption):
  Oc X (.Assign [.Name x a] (.Subscript (.List c d) b f) pos) (Lz (MH r (Nz (Lk is)) e) (IJ i)):=
 ⟨sW n k g (ti h (tT (z9 c l)) j hp) o m⟩
end
theorem tJ{X:Cx}:X.nox.K=X.K:=rfl
theorem tz{X:Cx}{a:cG}:(X.hold a).K=X.K:=rfl
theorem tx{CX:Jd}{P:cY}{w:dn}{K:b3}{mg:Str->Option cz}{base:Heap}{N:List Str}{q:Str}{b:Scope}{f:cG}{a:cz}{A:dD}{outer:List Env}{s:cC}{H:Hp}{E:XK}:(IN CX P w K mg base N q b f a A outer s H E).K=K:=rfl
theorem uI{a b:TS}{D:H0}{c:St}{H:Hp}(h:∀C:St->Hp->Prop,(∀σ' H',b D σ' H'->C σ' H')->a {D with nx:=C} c H):Lm a b D c H:=h _ λ_ _ z=>z
theorem yH{a:L2.St->Hp->Prop}{B:(L2.St->Hp->Prop)->Prop}(h:∀N:L2.St->Hp->Prop,(∀σ' H',a σ' H'->N σ' H')->B N):∃N,(∀σ' H',N σ' H'->a σ' H')/\B N:=⟨a,λ_ _ z=>z,h a λ_ _ z=>z⟩
@[elab_as_elim] theorem Kv {P:List cz->Prop} (h:∀a0,P [a0]) (us:List cz) (e:us.length=1):P us:=match us,e with|[a0],_=>h a0
@[elab_as_elim] theorem Ia {P:List cz->Prop} (h:∀a0 a1,P [a0,a1]) (us:List cz) (e:us.length=2):P us:=match us,e with|[a0,a1],_=>h a0 a1
@[elab_as_elim] theorem K1 {P:List cz->Prop} (h:∀a0 a1 a2,P [a0,a1,a2]) (us:List cz) (e:us.length=3):P us:=match us,e with|[a0,a1,a2],_=>h a0 a1 a2
@[elab_as_elim] theorem Oh {P:List cz->Prop} (h:∀a0 a1 a2 a3,P [a0,a1,a2,a3]) (us:List cz) (e:us.length=4):P us:=match us,e with|[a0,a1,a2,a3],_=>h a0 a1 a2 a3
theorem GE{N P:List Str}{h:Scope}(a:h.kind = .function:=by rfl)(b:h.isCoroutine=false:=by rfl)(c:h.isGenerator=false:=by rfl)(d:N.Nodup:=by decide +kernel)(e:N.take P.length=P:=by rfl)(f:∀x∈P,h.names.lookup x=some .local\/h.names.lookup x=some .cell:=by decide +kernel)(g:∀y∈h.names,y.2≠ .free:=by decide +kernel):F6 N P h:=⟨a,b,c,d,e,f,g⟩
end L2
namespace Nk51
open PySem PySem.Spec PyProof.Rows L2
def F8(i:Nat):Stmt:=cH.main.body.getD i (.Pass ⟨0,0,0,0⟩)
def IY(i j:Nat):Stmt:=match F8 i with | .ClassDef _ _ _ b _ _ _ _ _ _ _=>b.getD j (.Pass ⟨0,0,0,0⟩)|s=>s
structure Md(P:cY)(w:dn)(K:b3)(mg:Str->Option cz)(base:Heap)(x:Xs)(cB:cG):Prop where
 bC:Def K mg "is_whole" (F8 14)
 aI:Def K mg "common_divisor" (F8 15)
 bD:Def K mg "fraction" (F8 16)
 cg:Def K mg "plus" (F8 17)
 b7:Def K mg "minus" (F8 18)
 b8:Def K mg "times" (F8 19)
 bW:Def K mg "before" (F8 20)
 b9:Def K mg "total" (F8 21)
 cb:Def K mg "least" (F8 22)
 bo:Def K mg "best_left" (F8 24)
 aR:Def K mg "time_to_stop" (F8 25)
 aY:Def K mg "left_behind" (F8 26)
 ba:Def K mg "courses_of" (F8 27)
 bE:Def K mg "eaten_of" (F8 28)
 bF:Def K mg "eaten_by" (F8 29)
 cc:Def K mg "eaten" (F8 30)
 ao:Def K mg "deal_within" (F8 32)
 aZ:Def K mg "row_without" (F8 33)
 bP:Def K mg "lots_of" (F8 34)
 bX:Def K mg "picked" (F8 35)
 bb:Def K mg "is_listing" (F8 38)
 bc:Def K mg "has_people" (F8 39)
 bp:Def K mg "best_free" (F8 41)
 bG:Def K mg "with_one" (F8 42)
 be:Def K mg "turns_from" (F8 43)
 bq:Def K mg "orders_of" (F8 44)
 br:Def K mg "counts_of" (F8 45)
 aG:Def K mg "shares_by_turns" (F8 46)
 bH:Def K mg "by_turns" (F8 47)
 bQ:Def K mg "is_word" (F8 50)
 bR:Def K mg "is_roll" (F8 51)
 ci:BDef K mg cB "Book" "Book.__init__" (IY 52 0)
 cl:Cls K cB
 aj:NoAttr K cB "people"
 am:NoAttr K cB "things"
 ai:NoAttr K cB "wishes_told"
 aS:MDef K cB "check_person" "Book.check_person" (IY 52 1)
 cj:MDef K cB "wish" "Book.wish" (IY 52 2)
 bS:MDef K cB "lacking" "Book.lacking" (IY 52 3)
 bI:MDef K cB "table_by" "Book.table_by" (IY 52 4)
 bY:MDef K cB "shares" "Book.shares" (IY 52 5)
 cm:MDef K cB "deal" "Book.deal" (IY 52 6)
 aT:Def K mg "_law_cell_at" (F8 54)
 bf:Def K mg "_law_mixed" (F8 55)
 bu:Def K mg "_law_perm" (F8 56)
 bv:Def K mg "_law_base" (F8 59)
 bw:Def K mg "_law_word" (F8 60)
 bh:Def K mg "_law_words" (F8 61)
 aU:Def K mg "_law_divisor" (F8 57)
 a7:Def K mg "_law_lowest" (F8 58)
 av:Def K mg "_law_same" (F8 62)
 bi:Def K mg "_law_kinds" (F8 63)
 aM:Def K mg "_law_bad_roll" (F8 64)
 aV:Def K mg "_law_no_roll" (F8 65)
 a8:Def K mg "_law_person" (F8 66)
 bz:Def K mg "_law_text" (F8 67)
 bA:Def K mg "_law_deed" (F8 68)
 bJ:Def K mg "_law_due" (F8 69)
 bB:Def K mg "_law_told" (F8 70)
 aH:Def K mg "_law_lacks_well" (F8 71)
 aa:mg "isinstance"=none
 aA:mg "int"=none
 ar:mg "bool"=none
 aN:mg "str"=none
 af:mg "list"=none
 ag:mg "tuple"=none
 aO:mg "abs"=none
 ac:mg "len"=none
 ae:mg "range"=none
 al:mg "sorted"=none
 bK:mg "set"=none
 aw:mg "enumerate"=none
 aP:mg "zip"=none
 cp:mg "any"=none
 bL:mg "all"=none
 cr:mg "min"=none
 cu:mg "max"=none
 cv:mg "sum"=none
 bj:mg "ValueError"=none
 ah:LL K mg "NOTHING" [.int 0,.int 1]
 ay:LL K mg "WHOLE" [.int 1,.int 1]
 a9:∃t,mg "MOST_PEOPLE"=some (.int 6 t)
 bn:∃t,mg "MOST_SIGNS"=some (.int 12 t)
 ax:HW K mg "WishError" x.WishError
 au:HW K mg "NoFraction" x.NoFraction
 aB:HW K mg "NoWishes" x.NoWishes
 bT:HW K mg "NoTable" x.NoTable
 aJ:HW K mg "NoPick" x.NoPick
 bU:HW K mg "NoOrder" x.NoOrder
 aK:HW K mg "NoRoll" x.NoRoll
 aC:HW K mg "NoPerson" x.NoPerson
 aE:HW K mg "Unready" x.Unready
 aW:HW K mg "NoWay" x.NoWay
 bM:fk K x.NoWishes (.ref x.WishError)=some true
 bN:KK K x x.NoWishes 1
 bZ:fk K x.NoPick (.ref x.WishError)=some true
 b5:KK K x x.NoPick 3
 aL:fk K x.NoRoll (.ref x.WishError)=some true
 b6:KK K x x.NoRoll 5
 aD:fk K x.NoPerson (.ref x.WishError)=some true
 bO:KK K x x.NoPerson 6
 aF:fk K x.Unready (.ref x.WishError)=some true
 bV:KK K x x.Unready 7
 aX:fk K x.NoWay (.ref x.WishError)=some true
 cf:KK K x x.NoWay 8
section
variable{P:cY}{w:dn}{K:b3}{mg:Str->Option cz}{base:Heap}{x:Xs}{cB:cG}(M:Md P w K mg base x cB)
include M
set_option maxHeartbeats 4000000
theorem Kd:Dn P w K mg base Ge 1 "is_whole" ["value"] (Kz):=by
 have a:F6 ["value"] ["value"] (F3 (F8 14)):=GE;have j:=a.nd;refine M.bC.ok a (λvs H Q E h=>?_) (λ_ _ _ _ _ _ c d=>Kv (λ_=>rfl) c d) (λf e A b s H vs Q E g h=>?_)
 ·obtain⟨i,rfl,q⟩:=h;rfl
 obtain⟨i,rfl,q⟩:=h;refine⟨_,(sU (s9 (vH (sV tW rfl M.aa Boot.«isinstance» (me (pv 0) (me (uV rfl M.aA Boot.«int») sS))) (xj (Ea (sV tW rfl M.aa Boot.«isinstance» (me (pv 0) (me (uV rfl M.ar Boot.«bool») sS)))))))),?_⟩
 try dsimp -proj only[tJ,tz,tx]
 refine⟨_,rfl,.int i,"int","int",rfl,by decide,rfl,_,rfl,?_⟩;refine Gu ⟨_,rfl,.int i,"bool","int",rfl,by decide,rfl,_,rfl,q⟩
theorem HZ:Dn P w K mg base Ge 1 "common_divisor" ["one","two"] (LZ):=by
 have l:F6 ["one","two","greater","smaller","rest"] ["one","two"] (F3 (F8 15)):=GE;have g:=l.nd;refine M.aI.ok l (λvs H Q E h=>?_) (λ_ _ _ _ _ _ u D=>Ia (λ_ _=>rfl) u D) (λf G A t s H vs Q E L h=>?_)
 ·obtain⟨i,j,rfl,q⟩:=h;rfl
 obtain⟨i,j,rfl,q⟩:=h;refine⟨_,(sR (sW (i:=2) g rfl (Or.inl rfl) (sV yu rfl M.aO Boot.«abs» (me (pv 0) sS)))
   (sR (sW (i:=3) g rfl (Or.inl rfl) (sV yu rfl M.aO Boot.«abs» (me (pv 1) sS)))
   (sR (vt dV (sX zb (pv 3) sT (F7 _)) (sR (sW (i:=4) g rfl (Or.inl rfl) (sZ tG (pv 2) (pv 3)))
   (sR (sW (i:=2) g rfl (Or.inl rfl) (pv 3))
   (sU (sW (i:=3) g rfl (Or.inl rfl) (pv 4))))))
   (sU (s9 (pv 2)))))),?_⟩
 try dsimp -proj only[tJ,tz,tx]
 refine⟨_,rfl,i,rfl,_,rfl,j,rfl,?_⟩;refine yn (λm o n=>n=H/\∃(a b:Int) (r:Option V),o=[some (.int i),some (.int j),some (.int a),some (.int b),r]/\0<=a/\0<=b/\Int.gcd a b=Int.gcd i j/\m=b.toNat)
  ⟨_,rfl,_,_,_,rfl,?_,?_,?_,rfl⟩ (λm o n F=>?_) (λo n N J y h=>?_)
 ·split <;> omega
 ·split <;> omega
 ·split <;> split <;> simp
 ·obtain⟨rfl,a,b,r,rfl,I,x,p,rfl⟩:=F;refine⟨_,rfl,rfl,_,rfl,?_⟩;refine KZ (λc=>?_) (λc=>?_)
  ·have d:b≠0:=λz=>by subst z;simp at c
   refine⟨_,rfl,_,rfl,a,b,rfl,rfl,by show(0:Int)<b;omega,_,rfl,_,rfl,?_⟩;refine⟨(a%b).toNat,?_,rfl,b,a%b,_,rfl,x,dQ _ d,?_,rfl⟩
   ·have:=dH a (show 0<b by omega);have:=dQ a d;omega
   ·rw[FQ.gcd_turn,p]
  ·have d:b=0:=by
    by_cases z:b=0
    ·exact z
    ·exact absurd (by simpa using z) c
   subst d;refine⟨_,rfl,?_⟩;have e:(a:Int)=(Int.gcd i j:Int):=by rw[<-p];simp;omega
   rw[e];exact q
 ·obtain⟨v,e,B,k,C,q⟩:=h;exact⟨v,e,B,k,C,y _ _ q⟩
theorem Kh
  (d:Dn P w K mg base Ge 1 "is_whole" ["value"] (Kz))
  (a:Dn P w K mg base Ge 1 "common_divisor" ["one","two"] (LZ)):Dn P w K mg base (Hj P w) 2 "fraction" ["top","bottom"] (GI x):=by
 have g:F6 ["top","bottom","divisor"] ["top","bottom"] (F3 (F8 16)):=GE
 have o:=g.nd
 refine M.bD.okE g (λvs H Q E h=>?_) (λ_ _ _ _ _ _ v B=>Ia (λ_ _=>rfl) v B) (λf C A u s H vs Q E j h=>?_)
 ·obtain⟨t,b,rfl,m,q⟩:=h
  rfl
 obtain⟨t,b,rfl,m,q⟩:=h
 refine⟨_,(sR (tH (PW.pt (yF (uP (tV (tF d j (by decide) rfl F9 (me (pv 0) sS)))) (yF (uP (tV (tF d j (by decide) rfl F9 (me (pv 1) sS)))) (xE (sX uj (pv 1) sT (F7 _)))))) (sU (u8 M.au rfl (me tr sS))) sY)
   (sR (sW (i:=2) o rfl (Or.inl rfl) (tF a j (by decide) rfl F9 (me (pv 0) (me (pv 1) sS))))
   (sR (tH (sX AY (pv 1) sT (F7 _)) (sU (sW (i:=2) o rfl (Or.inl rfl) (C1 zk (pv 2)))) sY)
   (sU (s9 (tQ (me (sZ BZ (pv 0) (pv 2)) (me (sZ BZ (pv 1) (pv 2)) sS)))))))),?_⟩
 try dsimp -proj only[tJ,tz,tx]
 refine⟨_,rfl,t,rfl,_,rfl,Gg ⟨_,rfl,b,rfl,_,rfl,Gg ⟨_,rfl,rfl,_,rfl,Gq (λc=>?_) (λc=>?_)⟩⟩⟩
 ·exact⟨by show 1<=sizeLine;decide,m (Ke c)⟩
 have n:b≠0:=λz=>c (by rw[z])
 obtain⟨y,q⟩:=q n
 refine⟨_,rfl,_,rfl,t,b,rfl,?_⟩
 refine⟨_,rfl,b,0,rfl,rfl,_,rfl,?_⟩
 have r:=wm (t:=t) n y
 refine KZ (λc=>?_) (λc=>?_)
 ·have k:b<0:=of_decide_eq_true c
  have e:=r.1 k
  refine⟨_,rfl,_,rfl,?_⟩
  refine⟨_,rfl,_,rfl,t,_,rfl,rfl,e.1,_,rfl,_,rfl,b,_,rfl,rfl,e.1,by show 2<=sizeLine;decide,λp hp=>q p _ (nJ hp _) ?_⟩
  rw[sQ]
  show some (HO.tup [V.int (t.fdiv _),V.int (b.fdiv _)])=_
  rw[e.2.1,e.2.2]
  rfl
 ·have l:¬b<0:=of_decide_eq_false (ow.mpr c)
  have e:=r.2 l
  refine⟨_,rfl,_,rfl,t,_,rfl,rfl,e.1,_,rfl,_,rfl,b,_,rfl,rfl,e.1,by show 2<=sizeLine;decide,λp hp=>q p _ (nJ hp _) ?_⟩
  rw[sQ]
  show some (HO.tup [V.int (t.fdiv _),V.int (b.fdiv _)])=_
  rw[e.2.1,e.2.2]
  rfl
theorem Mu
  (c:Dn P w K mg base (Hj P w) 2 "fraction" ["top","bottom"] (GI x)):Dn P w K mg base Ge 3 "plus" ["one","two"] (IS Hr K):=by
 have j:F6 ["one","two"] ["one","two"] (F3 (F8 17)):=GE
 have D:=j.nd
 refine M.cg.ok j (λvs H Q E h=>?_) (λ_ _ _ _ _ _ o B=>Ia (λ_ _=>rfl) o B) (λf C A n s H vs Q E t h=>?_)
 ·obtain⟨a,b,x,y,rfl,e,d,m,g,q⟩:=h
  rfl
 obtain⟨a,b,x,y,rfl,e,d,m,g,q⟩:=h
 refine⟨_,(sU (s9 (tF c t (by decide) rfl JZ (me (sZ t6 (sZ t7 (ti tD (pv 0) sT (λ_ _=>rfl)) (ti tD (pv 1) sT (λ_ _=>rfl))) (sZ t7 (ti tD (pv 1) sT (λ_ _=>rfl)) (ti tD (pv 0) sT (λ_ _=>rfl)))) (me (sZ t7 (ti tD (pv 0) sT (λ_ _=>rfl)) (ti tD (pv 1) sT (λ_ _=>rfl))) sS))))),?_⟩
 try dsimp -proj only[tJ,tz,tx]
 obtain⟨r,k,u⟩:=m
 obtain⟨v,l,p⟩:=g
 refine⟨_,rfl,a,_,0,_,rfl,rfl,e,rfl,?_⟩
 refine⟨_,rfl,b,_,1,_,rfl,rfl,d,rfl,?_⟩
 refine⟨_,_,rfl,rfl,IR r l,?_⟩
 refine⟨_,rfl,b,_,0,_,rfl,rfl,d,rfl,?_⟩
 refine⟨_,rfl,a,_,1,_,rfl,rfl,e,rfl,?_⟩
 refine⟨_,_,rfl,rfl,IR v k,?_⟩
 refine⟨_,_,rfl,rfl,?_⟩
 refine⟨_,rfl,a,_,1,_,rfl,rfl,e,rfl,?_⟩
 refine⟨_,rfl,b,_,1,_,rfl,rfl,d,rfl,?_⟩
 refine⟨_,_,rfl,rfl,IR k l,?_⟩
 exact⟨_,_,rfl,λz=>absurd z (dN u p),λ_=>⟨Ms k l,q⟩⟩
theorem LF
  (c:Dn P w K mg base (Hj P w) 2 "fraction" ["top","bottom"] (GI x)):Dn P w K mg base Ge 3 "minus" ["one","two"] (IS Km K):=by
 have j:F6 ["one","two"] ["one","two"] (F3 (F8 18)):=GE
 have D:=j.nd
 refine M.b7.ok j (λvs H Q E h=>?_) (λ_ _ _ _ _ _ o B=>Ia (λ_ _=>rfl) o B) (λf C A n s H vs Q E t h=>?_)
 ·obtain⟨a,b,x,y,rfl,e,d,m,g,q⟩:=h
  rfl
 obtain⟨a,b,x,y,rfl,e,d,m,g,q⟩:=h
 refine⟨_,(sU (s9 (tF c t (by decide) rfl JZ (me (sZ xK (sZ t7 (ti tD (pv 0) sT (λ_ _=>rfl)) (ti tD (pv 1) sT (λ_ _=>rfl))) (sZ t7 (ti tD (pv 1) sT (λ_ _=>rfl)) (ti tD (pv 0) sT (λ_ _=>rfl)))) (me (sZ t7 (ti tD (pv 0) sT (λ_ _=>rfl)) (ti tD (pv 1) sT (λ_ _=>rfl))) sS))))),?_⟩
 try dsimp -proj only[tJ,tz,tx]
 obtain⟨r,k,u⟩:=m
 obtain⟨v,l,p⟩:=g
 refine⟨_,rfl,a,_,0,_,rfl,rfl,e,rfl,?_⟩
 refine⟨_,rfl,b,_,1,_,rfl,rfl,d,rfl,?_⟩
 refine⟨_,_,rfl,rfl,IR r l,?_⟩
 refine⟨_,rfl,b,_,0,_,rfl,rfl,d,rfl,?_⟩
 refine⟨_,rfl,a,_,1,_,rfl,rfl,e,rfl,?_⟩
 refine⟨_,_,rfl,rfl,IR v k,?_⟩
 refine⟨_,_,rfl,rfl,?_⟩
 refine⟨_,rfl,a,_,1,_,rfl,rfl,e,rfl,?_⟩
 refine⟨_,rfl,b,_,1,_,rfl,rfl,d,rfl,?_⟩
 refine⟨_,_,rfl,rfl,IR k l,?_⟩
 exact⟨_,_,rfl,λz=>absurd z (dN u p),λ_=>⟨Ms k l,q⟩⟩
theorem LI
  (c:Dn P w K mg base (Hj P w) 2 "fraction" ["top","bottom"] (GI x)):Dn P w K mg base Ge 3 "times" ["one","two"] (IS Kc K):=by
 have e:F6 ["one","two"] ["one","two"] (F3 (F8 19)):=GE
 have D:=e.nd
 refine M.b8.ok e (λvs H Q E h=>?_) (λ_ _ _ _ _ _ o B=>Ia (λ_ _=>rfl) o B) (λf C A n s H vs Q E t h=>?_)
 ·obtain⟨a,b,x,y,rfl,j,g,l,d,q⟩:=h
  rfl
 obtain⟨a,b,x,y,rfl,j,g,l,d,q⟩:=h
 refine⟨_,(sU (s9 (tF c t (by decide) rfl JZ (me (sZ t7 (ti tD (pv 0) sT (λ_ _=>rfl)) (ti tD (pv 1) sT (λ_ _=>rfl))) (me (sZ t7 (ti tD (pv 0) sT (λ_ _=>rfl)) (ti tD (pv 1) sT (λ_ _=>rfl))) sS))))),?_⟩
 try dsimp -proj only[tJ,tz,tx]
 obtain⟨r,k,u⟩:=l
 obtain⟨v,m,p⟩:=d
 refine⟨_,rfl,a,_,0,_,rfl,rfl,j,rfl,?_⟩
 refine⟨_,rfl,b,_,0,_,rfl,rfl,g,rfl,?_⟩
 refine⟨_,_,rfl,rfl,IR r v,?_⟩
 refine⟨_,rfl,a,_,1,_,rfl,rfl,j,rfl,?_⟩
 refine⟨_,rfl,b,_,1,_,rfl,rfl,g,rfl,?_⟩
 refine⟨_,_,rfl,rfl,IR k m,?_⟩
 exact⟨_,_,rfl,λz=>absurd z (dN u p),λ_=>⟨Ms k m,q⟩⟩
theorem K9:Dn P w K mg base Ge 1 "before" ["one","two"] (Iz K):=by
 have d:F6 ["one","two"] ["one","two"] (F3 (F8 20)):=GE;have B:=d.nd;refine M.bW.ok d (λvs H Q E h=>?_) (λ_ _ _ _ _ _ l p=>Ia (λ_ _=>rfl) l p) (λf t A k s H vs Q E v h=>?_)
 ·obtain⟨a,b,x,y,rfl,g,e,j,c,q⟩:=h;rfl
 obtain⟨a,b,x,y,rfl,g,e,j,c,q⟩:=h;refine⟨_,(sU (s9 (uZ AY (sZ t7 (ti tD (pv 0) sT (λ_ _=>rfl)) (ti tD (pv 1) sT (λ_ _=>rfl))) (sZ t7 (ti tD (pv 1) sT (λ_ _=>rfl)) (ti tD (pv 0) sT (λ_ _=>rfl))) (F7 _)))),?_⟩
 try dsimp -proj only[tJ,tz,tx]
 obtain⟨n,m,z⟩:=j;obtain⟨o,r,u⟩:=c;refine⟨_,rfl,a,_,0,_,rfl,rfl,g,rfl,?_⟩;refine⟨_,rfl,b,_,1,_,rfl,rfl,e,rfl,?_⟩;refine⟨_,_,rfl,rfl,IR n r,?_⟩;refine⟨_,rfl,b,_,0,_,rfl,rfl,e,rfl,?_⟩;refine⟨_,rfl,a,_,1,_,rfl,rfl,g,rfl,?_⟩;exact⟨_,_,rfl,rfl,IR o m,_,_,rfl,rfl,q⟩
theorem LH
  (B:Dn P w K mg base Ge 3 "plus" ["one","two"] (IS Hr K)):Dn P w K mg base Ge 4 "total" ["parts"] (Lx K):=by
 have D:F6 ["parts","so_far","part"] ["parts"] (F3 (F8 21)):=GE
 have O:=D.nd
 refine M.b9.ok D (λvs H Q E h=>?_) (λ_ _ _ _ _ _ S U=>Kv (λ_=>rfl) S U) (λf V A R s H vs Q E T h=>?_)
 ·obtain⟨a,F,g,rfl,l,t,J,n,q⟩:=h
  rfl
 obtain⟨a,F,g,rfl,l,t,J,n,q⟩:=h
 refine⟨_,(sR (sW (i:=1) O rfl (Or.inl rfl) (vj M.ah))
   (sR (uH dV rfl (Fo (pv 0)) (tj (i:=2) O rfl (Or.inl rfl)) (sU (sW (i:=1) O rfl (Or.inl rfl) (tF B T (by decide) rfl F9 (me (pv 1) (me (pv 2) sS))))))
   (sU (s9 (pv 1))))),?_⟩
 try dsimp -proj only[tJ,tz,tx]
 refine λz C=>?_
 rcases l with l|l
 ·refine .inl ⟨_,rfl,a,rfl,⟨_,l⟩,?_⟩
  refine wH (xs:=F) (λi k c=>Same H c/\∃d r,k=[some (.ref a),some d,r]/\IsF K c d (Hd (g.take i)))
   ⟨Same.refl _,.ref z,_,rfl,z,rfl,C _⟩ (λi k c _ e=>e.1.seq l) (λi v k c N e=>?_) (λk c e=>?_)
  ·obtain⟨j,d,r,rfl,b⟩:=e
   obtain⟨y,u,m⟩:=Paired.get' t N
   obtain⟨o,rfl,b⟩:=b
   obtain⟨L,rfl,m⟩:=m
   refine⟨_,rfl,_,rfl,o,L,Hd (g.take i),y,rfl,b,j.tup m,J i,n y (dh u),λp I G hp=>?_⟩
   refine⟨j.trans G,.ref p,_,rfl,p,rfl,?_⟩
   rw[dg,u]
   show SqT K I p [.int (Hd (g.take i++[y])).1,.int (Hd (g.take i++[y])).2]
   rw[vT]
   exact SqT.of hp
  ·obtain⟨j,d,r,rfl,b⟩:=e
   have x:=Paired.len t
   rw[x,dy]at b
   exact⟨_,rfl,q d c j b⟩
 ·refine .inr ⟨_,rfl,a,rfl,⟨_,l⟩,?_⟩
  refine EV (xs:=F) (λi k c=>Same H c/\∃d r,k=[some (.ref a),some d,r]/\IsF K c d (Hd (g.take i)))
   ⟨Same.refl _,.ref z,_,rfl,z,rfl,C _⟩ (λi k c _ e=>e.1.tup l) (λi v k c N e=>?_) (λk c e=>?_)
  ·obtain⟨j,d,r,rfl,b⟩:=e
   obtain⟨y,u,m⟩:=Paired.get' t N
   obtain⟨o,rfl,b⟩:=b
   obtain⟨L,rfl,m⟩:=m
   refine⟨_,rfl,_,rfl,o,L,Hd (g.take i),y,rfl,b,j.tup m,J i,n y (dh u),λp I G hp=>?_⟩
   refine⟨j.trans G,.ref p,_,rfl,p,rfl,?_⟩
   rw[dg,u]
   show SqT K I p [.int (Hd (g.take i++[y])).1,.int (Hd (g.take i++[y])).2]
   rw[vT]
   exact SqT.of hp
  ·obtain⟨j,d,r,rfl,b⟩:=e
   have x:=Paired.len t
   rw[x,dy]at b
   exact⟨_,rfl,q d c j b⟩
theorem LK
  (k:Dn P w K mg base Ge 1 "before" ["one","two"] (Iz K)):Dn P w K mg base Ge 2 "least" ["parts"] (Jk K):=by
 have G:F6 ["parts","smallest","part"] ["parts"] (F3 (F8 22)):=GE
 have J:=G.nd
 refine M.cb.ok G (λvs H Q E h=>?_) (λ_ _ _ _ _ _ us j=>Kv (λ_=>rfl) us j) (λf aa A Z s H vs Q E hr h=>?_)
 ·obtain⟨a,I,b,rfl,D,B,t,j,z,q⟩:=h
  rfl
 obtain⟨a,I,b,rfl,D,B,t,j,z,q⟩:=h
 refine⟨_,(sR (sW (i:=1) J rfl (Or.inl rfl) (ti tw (pv 0) sT (λ_ _=>rfl)))
   (sR (uH dV rfl (uy (pv 0)) (tj (i:=2) J rfl (Or.inl rfl)) (sU (tH (tV (tF k hr (by decide) rfl F9 (me (pv 2) (me (pv 1) sS)))) (sU (sW (i:=1) J rfl (Or.inl rfl) (pv 2))) sY)))
   (sU (s9 (pv 1))))),?_⟩
 try dsimp -proj only[tJ,tz,tx]
 obtain⟨g,m⟩:∃p,b[0]?=some p:=by
  cases b with
  | nil=>exact absurd rfl t
  | cons p r=>exact⟨p,rfl⟩
 have Y:b.headD (0,1)=g:=by
  cases b with
  | nil=>exact absurd rfl t
  | cons p r=>exact Option.some.inj m
 have sz:∀i,Sz 4000 (Gs g (b.take i)):=λi=>by
  have:∀(l:List (Int×Int)) (s:Int×Int),Sz 4000 s->(∀p∈l,Sz 4000 p)->Sz 4000 (Gs s l):=by
   intro l
   induction l with
   | nil=>intro s L _;exact L
   | cons x r ih=>
    intro s L j
    refine ih _ ?_ λp hp=>j p (cN _ hp)
    show Sz 4000 (if Gx x s=true then x else s)
    split
    ·exact j x cM
    ·exact L
  exact this _ _ (z _ (dh m)) λp hp=>z p (eP hp)
 obtain⟨X,S,U⟩:=Paired.get B m
 refine⟨_,rfl,a,I,0,X,rfl,rfl,D,t9 S,?_⟩
 refine⟨_,rfl,a,rfl,⟨_,D⟩,?_⟩
 refine wH (xs:=I) (λi C u=>u=H/\∃n r,C=[some (.ref a),some n,r]/\IsF K H n (Gs g (b.take i)))
  ⟨rfl,X,_,rfl,U⟩ (λi C u _ o=>by rw[o.1];exact D) (λi v C u hx o=>?_) (λC u o=>?_)
 ·obtain⟨rfl,n,r,rfl,d⟩:=o
  obtain⟨y,V,R⟩:=Paired.get' B hx
  have e:Gs g (b.take (i+1))=if Gx y (Gs g (b.take i))=true then y else Gs g (b.take i):=by
   rw[dg,V]
   unfold Gs
   rw[oG]
   rfl
  obtain⟨F,rfl,N⟩:=id d
  obtain⟨T,rfl,O⟩:=id R
  refine⟨_,rfl,_,rfl,T,F,y,Gs g (b.take i),rfl,O,N,z y (dh V),sz i,_,rfl,?_⟩
  rw[e]
  show if Gx y (Gs g (b.take i))=true then _ else _
  refine KZ (λc=>?_) (λc=>?_)
  ·refine⟨_,rfl,rfl,.ref T,_,rfl,?_⟩
   rw[if_pos c]
   exact R
  ·refine⟨rfl,.ref F,_,rfl,?_⟩
   rw[if_neg c]
   exact d
 ·obtain⟨rfl,n,r,rfl,d⟩:=o
  have W:=Paired.len B
  rw[W,dy]at d
  refine⟨_,rfl,q n ?_⟩
  unfold IH
  rw[Y]
  exact d
theorem J9:Dn P w K mg base Ge 1 "best_left" ["wish","left"] (KH K):=by
 have u:F6 ["wish","left"] ["wish","left"] (F3 (F8 24)):=GE;have nd:=u.nd;refine M.bo.ok u (λvs H Q E h=>?_) (λ_ _ _ _ _ _ Y p=>Ia (λ_ _=>rfl) Y p) (λf aa A X s H vs Q E hr h=>?_)
 ·obtain⟨w,l,b,d,D,F,rfl,C,p,R,U,g,T,y,q⟩:=h;rfl
 obtain⟨w,l,b,d,D,F,rfl,C,p,R,U,g,T,y,q⟩:=h;refine⟨_,(sU (s9 (ti tw (ug rfl (N:=["thing","left"]) (caps:=[none,some 1]) (CompOk.of (by kernel_rfl)) (tI rfl) (wV (pv 0)) (λ_ _ _ _=>(tj (i:=0) (show(["thing","left"]:List Str).Nodup by decide +kernel) rfl (Or.inl rfl) (Or.inr rfl))) (λ_ _ _ _=>(vC (sX (Bw (K:=K) rfl hr) (ti (u6 (K:=K) rfl) (pv 1) (pv 0) (λ_ _=>rfl)) (wB (K:=K) rfl M.ah) (F7 _)))) (λ_ _ _ _=>(pv 0))) sT (λ_ _=>rfl)))),?_⟩
 try dsimp -proj only[tJ,tz,tx]
 refine⟨_,rfl,w,rfl,⟨_,C⟩,?_⟩;refine vO (xs:=b.map V.int) (λi o n=>n=H/\o=((b.take i).filter λt=>decide (EM.at0 d t≠0)).map V.int)
  ⟨rfl,rfl⟩ (λi o n _ m=>by rw[m.1];exact C) (λi x o n k m=>?_) (λo n m Dd O=>?_)
 ·obtain⟨rfl,rfl⟩:=m;rw[cL]at k
  cases e:b[i]? with
  | none=>rw[e]at k;cases k
  | some t=>
   rw[e]at k;have I:V.int t=x:=Option.some.inj k;subst I;have W:=g t (dh e);have J:t.toNat<d.length:=by omega
   have L:(fr D d)[t.toNat]?=some (FQ.red (EM.at0 d t) D):=by
    unfold fr EM.at0;rw[cL,cA,cD J];rfl
   obtain⟨v,Z,hF⟩:=Paired.get R L;refine⟨_,rfl,_,rfl,l,F,t,v,rfl,rfl,p,uE W.1 Z,λc0 G=>?_⟩;refine⟨dF (FQ.red (EM.at0 d t) D),dF (0,1),hF.rep,IsF.rep ⟨c0,rfl,G _⟩,ub _,ub _,_,rfl,?_⟩;rw[wc,dg,e,hI,cV];have B:(((b.take i).filter λt=>decide (EM.at0 d t≠0)).map V.int).length<sizeLine:=by
    rw[cx];have h1:=er (λt=>decide (EM.at0 d t≠0)) (b.take i);rw[cX]at h1;exact F4 (by omega)
   refine Ir (λc=>?_) (λc=>?_)
   ·have j:EM.at0 d t≠0:=λz=>c ((tY (dM U)).mpr z);refine⟨_,rfl,B,rfl,?_⟩;simp[j]
   ·have j:EM.at0 d t=0:=(tY (by omega)).mp c;refine⟨rfl,?_⟩;simp[j]
 ·obtain⟨rfl,rfl⟩:=m;rw[cx,dy];obtain⟨t,ht,j⟩:=y;have S:t∈b.filter λt=>decide (EM.at0 d t≠0):=ef.mpr ⟨ht,decide_eq_true j⟩;have hh:(b.filter λt=>decide (EM.at0 d t≠0))[0]?=some (EM.best d b):=by
   unfold EM.best
   cases hf:b.filter λt=>decide (EM.at0 d t≠0)with
   | nil=>rw[hf]at S;cases S
   | cons a r=>rfl
  refine⟨Dd,_,0,_,rfl,rfl,SqL.of sQ,t9 (by rw[cL,hh];rfl),q _ (nJ O _)⟩
theorem Iv
  (R:Dn P w K mg base Ge 3 "times" ["one","two"] (IS Kc K))
  (S:Dn P w K mg base Ge 2 "least" ["parts"] (Jk K)):Dn P w K mg base Ge 4 "time_to_stop" ["dishes","left"] (KA K):=by
 have ab:F6 ["dishes","left"] ["dishes","left"] (F3 (F8 25)):=GE
 have nd:=ab.nd
 refine M.aR.ok ab (λvs H Q E h=>?_) (λ_ _ _ _ _ _ us W=>Ia (λ_ _=>rfl) us W) (λf am A ak s H vs Q E hr h=>?_)
 ·obtain⟨d,l,b,ms,D,gs,rfl,C,W,hg,U,ac,O,B,o,I,q⟩:=h
  rfl
 obtain⟨d,l,b,ms,D,gs,rfl,C,W,hg,U,ac,O,B,o,I,q⟩:=h
 refine⟨_,(sU (s9 (tF S hr (by decide) rfl F9 (me (ug rfl (N:=["thing","dishes","left"]) (caps:=[none,some 0,some 1]) (CompOk.of (by kernel_rfl)) (tI rfl) (uy (pv 0)) (λ_ _ _ _=>(tj (i:=0) (show(["thing","dishes","left"]:List Str).Nodup by decide +kernel) rfl (Or.inl rfl) (Or.inr rfl))) (λ_ _ _ _=>ud) (λ_ _ _ _=>(tF R hr (by decide) rfl F9 (me (ti (u6 (K:=K) rfl) (pv 2) (pv 0) (λ_ _=>rfl)) (me (tQ (me sT (me (Ef (K:=K) rfl df lT lU (yV (K:=K) rfl) (pv 1) (me (pv 0) sS)) sS))) sS))))) sS)))),?_⟩
 try dsimp -proj only[tJ,tz,tx]
 refine⟨_,rfl,d,rfl,⟨_,C⟩,?_⟩
 refine ur (xs:=b.map V.int) (λi z c=>Same H c/\dJ (IsF K c) z ((b.take i).map (GB D b ms)))
  ⟨Same.refl _,.nil⟩ (λi z c _ J=>J.1.seq C) (λi x z c G J=>?_) (λz c J Dd ah=>?_)
 ·obtain⟨r,j⟩:=J
  rw[cL]at G
  cases y:b[i]? with
  | none=>rw[y]at G;cases G
  | some t=>
   rw[y]at G
   have ae:V.int t=x:=Option.some.inj G
   subst ae
   have Z:=dh y
   have g:=o t Z
   have af:t.toNat<ms.length:=by omega
   have ag:(fr D ms)[t.toNat]?=some (FQ.red (EM.at0 ms t) D):=by
    unfold fr EM.at0
    rw[cL,cA,cD af]
    rfl
   have ai:=I _ (EM.at0_mem (ms:=ms) g.1 g.2)
   have u:=EM.cnt_pos Z
   have aa:=EM.cnt_le b t
   obtain⟨v,T,va,rfl,hF⟩:=Paired.get hg ag
   refine⟨_,rfl,_,rfl,l,gs,t,_,rfl,rfl,r.seq W,uE g.1 T,?_⟩
   refine⟨_,rfl,.inl ⟨rfl,_,r.seq C⟩,_,rfl,d,b,t,rfl,rfl,r.seq C,by show 2<=sizeLine;decide,λp hp=>?_⟩
   have k:Same c (upd c p (.tup [.int 1,.int (b.count t:Nat)])):=nJ hp _
   have Y:upd c p (.tup [.int 1,.int (b.count t:Nat)]) p=some (.tup [.int 1,.int (b.count t:Nat)]):=sQ
   generalize upd c p (.tup [.int 1,.int (b.count t:Nat)])=H2 at k Y ⊢
   have L:=Paired.len j
   rw[cx,cX]at L
   have X:D≠0:=dM U
   have al:EM.cnt b t=(b.count t:Nat):=rfl
   refine⟨va,p,FQ.red (EM.at0 ms t) D,(1,EM.cnt b t),rfl,(r.trans k).tup hF,SqT.of Y,(uX (n:=30) X (by omega) (by omega)).up (by decide),Sz.up (m:=30) ⟨by show(1:Int).natAbs<2^30;decide,by show(EM.cnt b t).natAbs<2^30;omega,by show EM.cnt b t≠0;exact dM u⟩ (by decide),λpf H3 S3 aj=>⟨F4 (by omega),r.trans (k.trans S3),?_⟩⟩
   rw[dg,y,cV]
   refine Paired.app (tq (k.trans S3) j) (.cons ⟨pf,rfl,?_⟩ .nil)
   have e:GB D b ms t=Kc (FQ.red (EM.at0 ms t) D) (1,EM.cnt b t):=by
    unfold GB
    rw[Cf (wn X) (Cn (a:=1) (D:=EM.cnt b t) (by omega)),ir]
   rw[e]
   exact SqT.of aj
 ·obtain⟨r,j⟩:=J
  rw[cx,dy]at j
  have L:=Paired.len j
  rw[cx]at L
  have k:Same c (upd c Dd (.lst z)):=nJ ah _
  refine⟨Dd,z,b.map (GB D b ms),rfl,SqL.of sQ,tq k j,by simpa using O,by rw[cx];exact cO B (by decide),λp hp=>?_,λv T=>?_⟩
  ·obtain⟨t,ht,rfl⟩:=dG.mp hp
   have g:=o t ht
   have ai:=I _ (EM.at0_mem (ms:=ms) g.1 g.2)
   have u:=EM.cnt_pos ht
   have aa:=EM.cnt_le b t
   have h1:0<D*EM.cnt b t:=i3 U u
   have h2:D*EM.cnt b t<=262144*6:=jC ac (gm aa (f8.mpr B)) (dZ u) (by decide)
   exact(uX (n:=30) (dM h1) (by omega) (by omega)).up (by decide)
  ·rw[Av U O]at T
   exact q v _ (r.trans k) T
theorem IT
  (S:Dn P w K mg base Ge 3 "minus" ["one","two"] (IS Km K))
  (R:Dn P w K mg base Ge 3 "times" ["one","two"] (IS Kc K)):Dn P w K mg base Ge 4 "left_behind" ["dishes","left","length"] (KD K):=by
 have ae:F6 ["dishes","left","length"] ["dishes","left","length"] (F3 (F8 26)):=GE
 have nd:=ae.nd
 refine M.aY.ok ae (λvs H Q E h=>?_) (λ_ _ _ _ _ _ us v=>K1 (λ_ _ _=>rfl) us v) (λf au A aq s H vs Q E hr h=>?_)
 ·obtain⟨d,l,p,b,ms,D,c,m,gs,rfl,hd,v,hg,hp,hD,O,r,ak,u,Y,V,ap,ag,q⟩:=h
  rfl
 obtain⟨d,l,p,b,ms,D,c,m,gs,rfl,hd,v,hg,hp,hD,O,r,ak,u,Y,V,ap,ag,q⟩:=h
 refine⟨_,(sU (s9 (ug rfl (N:=["thing","part","dishes","length"]) (caps:=[none,none,some 0,some 2]) (CompOk.of (by kernel_rfl)) (As (uJ uh (tI rfl) (uJ uh (tI rfl) yv))) (Bx rfl M.aw (me (pv 1) sS)) (λ_ _ _ _=>(yx (K:=K) rfl 2 rfl (tX (tj (i:=0) (show(["thing","part","dishes","length"]:List Str).Nodup by decide +kernel) rfl (Or.inl rfl) (Or.inr rfl)) (tX (tj (i:=1) (show(["thing","part","dishes","length"]:List Str).Nodup by decide +kernel) rfl (Or.inl rfl) (Or.inr rfl)) vc)))) (λ_ _ _ _=>ud) (λ_ _ _ _=>(tF S hr (by decide) rfl F9 (me (pv 1) (me (tF R hr (by decide) rfl F9 (me (tQ (me (Ef (K:=K) rfl df lT lU (yV (K:=K) rfl) (pv 2) (me (pv 0) sS)) (me sT sS))) (me (pv 3) sS))) sS))))))),?_⟩
 try dsimp -proj only[tJ,tz,tx]
 have g:=Paired.len hg
 unfold fr at g
 rw[cx]at g
 have X:D≠0:=dM hD
 have ah:0<D*c:=i3 hD r
 have ax:D*c<=262144*6:=jC O (by omega) (dZ r) (by decide)
 refine⟨_,rfl,l,rfl,⟨_,v⟩,?_⟩
 refine A5 (xs:=gs) (λi I e=>Same H e/\dJ (IsF K e) I (fr (D*c) (((LM.rng ms.length).take i).map λj=>EM.at0 ms j*c-EM.cnt b j*m)))
  ⟨Same.refl _,.nil⟩ (λi I e _ L=>L.1.seq v) (λi x I e t hx ht L=>?_) (λI e L Dd J=>?_)
 ·obtain⟨U,o⟩:=L
  have Z:i<gs.length:=(cT.mp hx).1
  obtain⟨y,hy,B,rfl,hF⟩:=Paired.get' hg hx
  have am:=EM.rng_get (n:=ms.length) (k:=i) (g▸Z)
  have an:(fr D ms)[i]?=some (FQ.red (EM.at0 ms (i:Int)) D):=by
   unfold fr EM.at0
   rw[cL,cA,fY,cD (by omega)]
   rfl
  rw[an]at hy
  cases hy
  have av:=ag _ (EM.at0_mem (ms:=ms) (t:=(i:Int)) (ea _) (gv.mpr (g▸Z)))
  have aj:=EM.cnt_nn b (i:Int)
  have al:=EM.cnt_le b (i:Int)
  have S2:Same e (upd e t (.tup [.int i,.ref B])):=nJ ht _
  have af:upd e t (.tup [.int i,.ref B]) t=some (.tup [.int i,.ref B]):=sQ
  generalize upd e t (.tup [.int i,.ref B])=T at S2 af ⊢
  have z:=U.trans S2
  refine⟨t,_,rfl,SqT.of af,rfl,_,_,rfl,_,_,rfl,rfl,?_⟩
  refine⟨_,rfl,_,rfl,.inl ⟨rfl,_,z.seq hd⟩,_,rfl,d,b,(i:Int),rfl,rfl,z.seq hd,by show 2<=sizeLine;decide,λG ao=>?_⟩
  have S3:Same T (upd T G (.tup [.int (b.count (i:Int):Nat),.int 1])):=nJ ao _
  have ab:upd T G (.tup [.int (b.count (i:Int):Nat),.int 1]) G=some (.tup [.int (b.count (i:Int):Nat),.int 1]):=sQ
  generalize upd T G (.tup [.int (b.count (i:Int):Nat),.int 1])=H3 at S3 ab ⊢
  have C:=z.trans S3
  obtain⟨_,e0,ai⟩:=hp
  cases e0
  refine⟨_,rfl,G,p,(EM.cnt b (i:Int),1),FQ.red m (D*c),rfl,SqT.of ab,C.tup ai,Sz.up (m:=30) ⟨by show(EM.cnt b (i:Int)).natAbs<2^30;omega,by show(1:Int).natAbs<2^30;decide,by show(1:Int)≠0;decide⟩ (by decide),(uX (n:=30) (dM ah) (by omega) (by omega)).up (by decide),λpm H4 S4 W=>?_⟩
  have em:Kc (EM.cnt b (i:Int),1) (FQ.red m (D*c))=FQ.red (EM.cnt b (i:Int)*m) (D*c):=by
   rw[Cf (Cn (a:=EM.cnt b (i:Int)) (D:=1) (by decide)) (wn (by omega)),jV]
  rw[em]at W
  have ar:0<=EM.cnt b (i:Int)*m:=jB aj u
  have ay:EM.cnt b (i:Int)*m<=6*262144:=jC (gm al (f8.mpr V)) (gm Y O) u (by decide)
  have aa:=Paired.len o
  unfold fr at aa
  rw[cx,cx,cX,LM.rng_len]at aa
  refine⟨B,pm,FQ.red (EM.at0 ms (i:Int)) D,FQ.red (EM.cnt b (i:Int)*m) (D*c),rfl,(C.trans S4).tup hF,SqT.of W,(uX (n:=30) X (by omega) (by omega)).up (by decide),(uX (n:=30) (dM ah) (by omega) (by omega)).up (by decide),λpf H5 S5 ac=>⟨F4 (by omega),C.trans (S4.trans S5),?_⟩⟩
  rw[yY X (dM r)]at ac
  rw[dg,am]
  unfold fr
  rw[cV,cV]
  exact Paired.app (tq (S2.trans (S3.trans (S4.trans S5))) o) (.cons ⟨pf,rfl,SqT.of ac⟩ .nil)
 ·obtain⟨U,o⟩:=L
  rw[g,eh (by rw[LM.rng_len];exact cI _)]at o
  exact q Dd I _ (U.trans (nJ J _)) (U.free J) sQ (tq (nJ J _) o)
theorem Jo
  (aN:Dn P w K mg base Ge 4 "total" ["parts"] (Kp K))
  (L:Dn P w K mg base Ge 1 "best_left" ["wish","left"] (KH K))
  (k:Dn P w K mg base Ge 4 "time_to_stop" ["dishes","left"] (KA K))
  (u:Dn P w K mg base Ge 4 "left_behind" ["dishes","left","length"] (KD K)):Dn P w K mg base Ge 5 "courses_of" ["wishes"] (Jb K):=by
 have a1:F6 ["wishes","left","courses","dishes","length","gone"] ["wishes"] (F3 (F8 27)):=GE
 have nd:=a1.nd
 refine M.ba.ok a1 (λvs H Q E h=>?_) (λ_ _ _ _ _ _ us hl=>Kv (λ_=>rfl) us hl) (λf bA A bx s H vs Q E C h=>?_)
 ·obtain⟨a,ws,W,n,rfl,hA,hW,J,q⟩:=h
  rfl
 obtain⟨a,ws,W,n,rfl,hA,hW,J,q⟩:=h
 refine⟨_,(sR (sW (i:=1) nd rfl (Or.inr rfl) (ug rfl (N:=["wish"]) (caps:=[none]) (CompOk.of (by kernel_rfl)) (tI rfl) (uy (pv 0)) (λ_ _ _ _=>(tj (i:=0) (show(["wish"]:List Str).Nodup by decide +kernel) rfl (Or.inl rfl) (Or.inr rfl))) (λ_ _ _ _=>ud) (λ_ _ _ _=>(wB (K:=K) rfl M.ay))))
   (sR (sW (i:=2) nd rfl (Or.inl rfl) (tT sS))
   (sR (vt dV (sX (xf C) (tF aN C (by decide) rfl F9 (me (pv 1) sS)) (vj M.ah) (F7 _)) (sR (ut (i:=3) nd rfl rfl rfl rfl (N:=["wish","left"]) (caps:=[none,some 1]) (CompOk.of (by kernel_rfl)) (tI rfl) (uy (pv 0)) (λ_ _ _ _=>(tj (i:=0) (show(["wish","left"]:List Str).Nodup by decide +kernel) rfl (Or.inl rfl) (Or.inr rfl))) (λ_ _ _ _=>ud) (λ_ _ _ _=>(tF L C (by decide) rfl F9 (me (pv 0) (me (pv 1) sS)))))
   (sR (sW (i:=4) nd rfl (Or.inl rfl) (tF k C (by decide) rfl F9 (me (pv 3) (me (pv 1) sS))))
   (sR (sW (i:=1) nd rfl (Or.inr rfl) (tF u C (by decide) rfl F9 (me (pv 3) (me (pv 1) (me (pv 4) sS)))))
   (sR (ut (i:=5) nd rfl rfl rfl rfl (N:=["thing","left"]) (caps:=[none,some 1]) (CompOk.of (by kernel_rfl)) (tI rfl) (uy (y8 rfl rfl M.al rfl M.bK (pv 3))) (λ_ _ _ _=>(tj (i:=0) (show(["thing","left"]:List Str).Nodup by decide +kernel) rfl (Or.inl rfl) (Or.inr rfl))) (λ_ _ _ _=>(vC (sX (Em (K:=K) rfl C) (ti (u6 (K:=K) rfl) (pv 1) (pv 0) (λ_ _=>rfl)) (wB (K:=K) rfl M.ah) (F7 _)))) (λ_ _ _ _=>(pv 0)))
   (sU (tO (uF df dB dC tL (pv 2) (me (tQ (me (pv 4) (me (pv 3) (me (tP ux rfl M.ag Boot.«tuple» (me (pv 5) sS)) sS)))) sS)))))))))
   (sU (s9 (pv 2)))))),?_⟩
 try dsimp -proj only[tJ,tz,tx]
 have a3:=Paired.len hW
 have hn:=J.len
 have bE:=J.n1
 have aR:=J.n6
 have aK:(0:Nat)<=sizeLine:=by decide
 refine⟨_,rfl,a,rfl,⟨_,hA⟩,?_⟩
 refine ur (xs:=ws) (λi e H'=>H'=H/\dJ (IsF K H) e (fr 1 (gj i 1)))
  ⟨rfl,.nil⟩ (λi e H' _ b=>by rw[b.1];exact hA) (λi x e H' r b=>?_) (λe H' b l0 aM=>?_)
 ·obtain⟨rfl,U⟩:=b
  have bD:i<ws.length:=(cT.mp r).1
  have aX:=Paired.len U
  unfold fr at aX
  rw[cx,hO]at aX
  refine λc hc=>⟨F4 (by omega),rfl,?_⟩
  rw[List.replicate_succ']
  unfold fr
  rw[cV]
  exact Paired.app U (.cons ⟨c,rfl,hc _⟩ .nil)
 obtain⟨rfl,U⟩:=b
 rw[a3,hn]at U
 refine⟨aK,λB G=>?_⟩
 have aI:H' B=none:=(nJ aM _).free G
 refine⟨λm σ H1=>∃(i:Nat) (l:cG) (X cs:List V) (r3 r4 r5:Option V),m=n-i/\σ=[some (.ref a),some (.ref l),some (.ref B),r3,r4,r5]/\Same H' H1/\EM.Upto W n i/\H1 l=some (.lst X)/\dJ (IsF K H1) X (fr (EM.st W n i).D (EM.st W n i).ms)/\l≠B/\
   H1 B=some (.lst cs)/\dJ (IsC K B H1) cs (GO W n i),
  ⟨_,0,l0,e,[],_,_,_,rfl,rfl,(nJ aM _).trans (nJ G _),(λi hi=>absurd hi (gJ _)),nJ G _ _ _ sQ,tq ((nJ aM _).trans (nJ G _)) U,(λz=>by rw[z,sQ]at G;cases G),sQ,.nil⟩,λm σ H1 b=>?_⟩
 obtain⟨i,l,X,cs,r3,r4,r5,rfl,rfl,S1,up,hl,hg,bG,hc,am⟩:=b
 obtain⟨St,_⟩:=EM.st_ok J i up
 have hD:=St.pos
 have a5:=EM.D_le St aR
 have ac:(EM.st W n i).D≠0:=dM hD
 have ax:=St.len
 have aF:∀m∈(EM.st W n i).ms,0<=m/\m<=(EM.st W n i).D:=λm hm=>⟨St.nn m hm,St.le m hm⟩
 have a0:=Paired.len hg
 unfold fr at a0
 rw[cx]at a0
 have aW:=Paired.len am
 unfold GO at aW
 rw[cx,fL]at aW
 have bC:=EM.upto_le J up
 refine⟨_,rfl,l,X,fr (EM.st W n i).D (EM.st W n i).ms,rfl,SqL.of hl,hg,λp hp=>?_,by unfold fr;rw[cx];omega,λv H2 T hv=>λc0 bs=>?_⟩
 ·unfold fr at hp
  obtain⟨x,r,rfl⟩:=dG.mp hp
  have:=aF x r
  exact uX ac (by omega) (by omega)
 refine⟨_,_,hv.rep,IsF.rep (p:=(0,1)) ⟨c0,rfl,bs _⟩,ub _,ub _,_,rfl,?_⟩
 rw[wc,EC ac]
 by_cases hs:(EM.st W n i).ms.sum=0
 ·rw[decide_eq_true ((tY ac).mpr hs)]
  exact⟨_,rfl,q B cs i H2 (S1.trans T) aI (T _ _ hc) ⟨up,hs⟩ (Paired.mapP am λ_ _ h=>h.mono T)⟩
 rw[decide_eq_false (λz=>hs ((tY ac).mp z))]
 apply yH
 intro Nw bg
 have Y:=EM.step_of J up hs
 have ab:=S1.trans T
 have au:=T _ _ hl
 have aw:=tq T hg
 have ae:=T _ _ hc
 have a6:=Paired.mapP am λ_ _ (h:IsC K B H1 _ _)=>h.mono T
 clear hl hg hc am hv
 have eC:EM.cs W (EM.st W n i)=⟨EM.at0 (EM.st W n i).ms (EM.pick (EM.dishes W (EM.st W n i).ms) (EM.st W n i).ms),(EM.st W n i).D*EM.cnt (EM.dishes W (EM.st W n i).ms) (EM.pick (EM.dishes W (EM.st W n i).ms) (EM.st W n i).ms),EM.dishes W (EM.st W n i).ms,EM.goneOf (EM.dishes W (EM.st W n i).ms) (EM.nextMs (EM.dishes W (EM.st W n i).ms) (EM.st W n i).ms)⟩:=rfl
 have eN:EM.st W n (i+1)=EM.nxt W (EM.st W n i):=rfl
 -- the dishes
 refine⟨_,rfl,a,rfl,⟨_,ab.seq hA⟩,?_⟩
 refine ur (xs:=ws) (λj e H3=>Same H2 H3/\e=((W.take j).map (EM.best (EM.st W n i).ms)).map V.int)
  ⟨Same.refl _,rfl⟩ (λj e H3 _ b=>(ab.trans b.1).seq hA) (λj x e H3 r b=>?_) (λe H3 b g aD=>?_)
 ·obtain⟨S3,rfl⟩:=b
  obtain⟨aQ,C,wa,rfl,br⟩:=Paired.get' hW r
  have bk:=dh C
  have aq:=J.pm aQ bk
  have bF:j<W.length:=(cT.mp C).1
  obtain⟨t,be,bu,ao⟩:=EM.some_left hs
  refine⟨_,rfl,_,rfl,wa,l,aQ,(EM.st W n i).ms,(EM.st W n i).D,X,rfl,(ab.trans S3).tup br,SqL.of (S3 _ _ au),tq S3 aw,hD,λt ht=>by rw[ax];exact LM.mem_rng.mp (aq.mem_iff.mp ht),by rw[aq.length_eq,LM.rng_len];exact cO aR (by decide),⟨t,aq.mem_iff.mpr (LM.mem_rng.mpr ⟨be,ax▸bu⟩),ao⟩,λH4 S4=>⟨F4 (by rw[cx,cx,cX];omega),S3.trans S4,?_⟩⟩
  rw[dg,C,cV,cV]
  rfl
 obtain⟨S3,rfl⟩:=b
 rw[a3,dy]
 have eD:W.map (EM.best (EM.st W n i).ms)=EM.dishes W (EM.st W n i).ms:=rfl
 rw[eD]
 have bc:g≠B:=λz=>by rw[z,S3 _ _ ae]at aD;cases aD
 have aa:Same H2 (upd H3 g (.lst ((EM.dishes W (EM.st W n i).ms).map V.int))):=S3.trans (nJ aD _)
 have af:upd H3 g (.lst ((EM.dishes W (EM.st W n i).ms).map V.int)) g=some (.lst ((EM.dishes W (EM.st W n i).ms).map V.int)):=sQ
 generalize upd H3 g (.lst ((EM.dishes W (EM.st W n i).ms).map V.int))=H4 at aa af ⊢
 have aT:=Y.dl
 have R:=Y.dm
 have bf:0<EM.at0 (EM.st W n i).ms (EM.pick (EM.dishes W (EM.st W n i).ms) (EM.st W n i).ms):=Y.m0
 have bh:EM.at0 (EM.st W n i).ms (EM.pick (EM.dishes W (EM.st W n i).ms) (EM.st W n i).ms)<=(EM.st W n i).D:=Y.mD
 have a7:0<EM.cnt (EM.dishes W (EM.st W n i).ms) (EM.pick (EM.dishes W (EM.st W n i).ms) (EM.st W n i).ms):=Y.c0
 have a9:EM.cnt (EM.dishes W (EM.st W n i).ms) (EM.pick (EM.dishes W (EM.st W n i).ms) (EM.st W n i).ms)<=6:=Y.c6
 have bw:EM.dishes W (EM.st W n i).ms≠[]:=λz=>by rw[z]at aT;simp at aT;omega
 -- the time
 refine⟨_,rfl,_,rfl,g,l,EM.dishes W (EM.st W n i).ms,(EM.st W n i).ms,(EM.st W n i).D,X,rfl,SqL.of af,SqL.of (aa _ _ au),tq aa aw,hD,a5,bw,by omega,λt ht=>by rw[ax];exact(R t ht).1,aF,λv5 H5 S5 bn=>?_⟩
 obtain⟨I,rfl,a2⟩:=bn
 have an:=aa.trans S5
 -- what is left
 refine⟨_,rfl,_,rfl,_,rfl,g,l,I,EM.dishes W (EM.st W n i).ms,(EM.st W n i).ms,(EM.st W n i).D,_,_,X,rfl,SqL.of (S5 _ _ af),SqL.of (an _ _ au),tq an aw,⟨I,rfl,a2⟩,hD,a5,a7,a9,dZ bf,bh,by omega,by omega,aF,λl6 aA H6 S6 aL aY aC=>?_⟩
 have bq:=an.trans S6
 have aG:l6≠B:=λz=>by rw[z,an _ _ ae]at aL;cases aL
 change dJ (IsF K H6) aA (fr (EM.st W n (i+1)).D (EM.st W n (i+1)).ms)at aC
 have aH:=Y.S'
 rw[<-eN]at aH
 have bb:(EM.st W n (i+1)).ms.length=n:=aH.len
 have aZ:(EM.st W n (i+1)).D≠0:=by have:=aH.pos;exact dM this
 have aP:=S6 _ _ (S5 _ _ af)
 -- what is gone
 refine⟨_,rfl,g,EM.dishes W (EM.st W n i).ms,rfl,SqL.of aP,λt ht=>by have:=(R t ht).1;omega,λls y bj Z aV aO=>⟨ls,rfl,⟨_,SqL.of sQ⟩,?_⟩⟩
 have S:Same H6 (upd H6 ls (.lst (y.map V.int))):=nJ bj _
 have aJ:upd H6 ls (.lst (y.map V.int)) ls=some (.lst (y.map V.int)):=sQ
 generalize upd H6 ls (.lst (y.map V.int))=H7 at S aJ ⊢
 have bB:y.length<=6:=EM.nodup_len 6 aV λt ht=>by have:=(R t ((Z t).mp ht)).1;omega
 refine wY (xs:=y.map V.int) (λj e O=>O=H7/\e=((y.take j).filter λt=>decide (EM.at0 (EM.st W n (i+1)).ms t=0)).map V.int)
  ⟨rfl,rfl⟩ (λj e O _ b=>by rw[b.1];exact SqL.of aJ) (λj x e O r b=>?_) (λe O b pg bi=>?_)
 ·obtain⟨rfl,rfl⟩:=b
  rw[cL]at r
  cases ak:y[j]? with
  | none=>rw[ak]at r;cases r
  | some t=>
   rw[ak]at r
   have bm:V.int t=x:=Option.some.inj r
   subst bm
   have bv:=(R t ((Z t).mp (dh ak))).1
   have ao:t.toNat<(EM.st W n (i+1)).ms.length:=by omega
   have bp:(fr (EM.st W n (i+1)).D (EM.st W n (i+1)).ms)[t.toNat]?=some (FQ.red (EM.at0 (EM.st W n (i+1)).ms t) (EM.st W n (i+1)).D):=by
    unfold fr EM.at0
    rw[cL,cA,cD ao]
    rfl
   obtain⟨v,hv,hF⟩:=Paired.get aC bp
   refine⟨_,rfl,_,rfl,l6,aA,t,v,rfl,rfl,SqL.of (S _ _ aY),uE bv.1 hv,λc1 bl=>?_⟩
   refine⟨_,_,(hF.mono S).rep,IsF.rep (p:=(0,1)) ⟨c1,rfl,bl _⟩,ub _,ub _,_,rfl,?_⟩
   rw[wc,dg,ak,hI,cV]
   have a8:(((y.take j).filter λt=>decide (EM.at0 (EM.st W n (i+1)).ms t=0)).map V.int).length<sizeLine:=by
    rw[cx]
    have h1:=er (λt=>decide (EM.at0 (EM.st W n (i+1)).ms t=0)) (y.take j)
    rw[cX]at h1
    exact F4 (by omega)
   refine Gq (λc=>?_) (λc=>?_)
   ·have hz:EM.at0 (EM.st W n (i+1)).ms t=0:=(tY aZ).mp c
    refine⟨_,rfl,a8,rfl,?_⟩
    simp[hz]
   ·have hz:EM.at0 (EM.st W n (i+1)).ms t≠0:=λz=>c ((tY aZ).mpr z)
    refine⟨rfl,?_⟩
    simp[hz]
 obtain⟨rfl,rfl⟩:=b
 rw[cx,dy,EM.gone_eq Z aV aO (λd hd=>by rw[bb];exact(R d hd).1)]
 have eG:EM.goneOf (EM.dishes W (EM.st W n i).ms) (EM.st W n (i+1)).ms=(EM.cs W (EM.st W n i)).gone:=rfl
 rw[eG]
 have az:Same O (upd O pg (.lst ((EM.cs W (EM.st W n i)).gone.map V.int))):=nJ bi _
 have ap:upd O pg (.lst ((EM.cs W (EM.st W n i)).gone.map V.int)) pg=some (.lst ((EM.cs W (EM.st W n i)).gone.map V.int)):=sQ
 generalize upd O pg (.lst ((EM.cs W (EM.st W n i)).gone.map V.int))=H9 at az ap ⊢
 have aS:=bq.trans (S.trans az)
 refine⟨_,rfl,.inl ⟨rfl,_,SqL.of (aS _ _ ae)⟩,_,rfl,_,rfl,_,rfl,pg,_,rfl,.inl ⟨SqL.of ap,λo bo=>?_⟩⟩
 refine⟨by show 3<=sizeLine;decide,λpr a4=>?_⟩
 have aB:Same H9 (upd (upd H9 o (.tup ((EM.cs W (EM.st W n i)).gone.map V.int))) pr (.tup [.ref I,.ref g,.ref o])):=(nJ bo _).trans (nJ a4 _)
 have av:upd (upd H9 o (.tup ((EM.cs W (EM.st W n i)).gone.map V.int))) pr (.tup [.ref I,.ref g,.ref o]) o=some (.tup ((EM.cs W (EM.st W n i)).gone.map V.int)):=nJ a4 _ _ _ sQ
 have aE:upd (upd H9 o (.tup ((EM.cs W (EM.st W n i)).gone.map V.int))) pr (.tup [.ref I,.ref g,.ref o]) pr=some (.tup [.ref I,.ref g,.ref o]):=sQ
 generalize upd (upd H9 o (.tup ((EM.cs W (EM.st W n i)).gone.map V.int))) pr (.tup [.ref I,.ref g,.ref o])=HB at aB av aE ⊢
 have ar:=aS.trans aB
 have aj:Same H6 HB:=S.trans (az.trans aB)
 have ai:=ar _ _ ae
 refine⟨B,cs,_,rfl,rfl,ai,F4 (by omega),?_⟩
 have aU:=up.snoc hs
 have bz:=EM.upto_le J aU
 refine bg _ _ ⟨n-(i+1),by omega,i+1,l6,aA,cs++[.ref pr],_,_,_,rfl,rfl,(ab.trans ar).over aI _,aU,by rw[td aG];exact aj _ _ aY,Paired.mapP aC (λ_ _ h=>(h.mono aj).over ai),aG,sQ,?_⟩
 unfold GO
 rw[gq,cV]
 refine Paired.app (Paired.mapP a6 λ_ _ h=>(h.mono ar).over ai) (.cons (IsC.over ?_ ai) .nil)
 refine⟨pr,I,g,o,rfl,SqT.of aE,⟨I,rfl,(S6.trans aj).tup a2⟩,aj _ _ aP,SqT.of av,bc⟩
theorem Ka
  (G:Dn P w K mg base Ge 4 "total" ["parts"] (Kp K)):Dn P w K mg base Ge 5 "eaten_of" ["courses","person","thing"] (IX K):=by
 have U:F6 ["courses","person","thing"] ["courses","person","thing"] (F3 (F8 28)):=GE
 have nd:=U.nd
 refine M.bE.ok U (λvs H Q E h=>?_) (λ_ _ _ _ _ _ us hl=>K1 (λ_ _ _=>rfl) us hl) (λf aj A ah s H vs Q E hr h=>?_)
 ·obtain⟨c,cs,W,n,N,p,t,rfl,Z,O,L,C,hp,q⟩:=h
  rfl
 obtain⟨c,cs,W,n,N,p,t,rfl,Z,O,L,C,hp,q⟩:=h
 refine⟨_,(sU (s9 (tF G hr (by decide) rfl F9 (me (ug rfl (N:=["length","dishes","gone","person","thing"]) (caps:=[none,none,none,some 1,some 2]) (CompOk.of (by kernel_rfl)) (As (uJ uh (tI rfl) (uJ uh (tI rfl) (uJ uh (tI rfl) yv)))) (uy (pv 0)) (λ_ _ _ _=>(yx (K:=K) rfl 3 rfl (tX (tj (i:=0) (show(["length","dishes","gone","person","thing"]:List Str).Nodup by decide +kernel) rfl (Or.inl rfl) (Or.inr rfl)) (tX (tj (i:=1) (show(["length","dishes","gone","person","thing"]:List Str).Nodup by decide +kernel) rfl (Or.inl rfl) (Or.inr rfl)) (tX (tj (i:=2) (show(["length","dishes","gone","person","thing"]:List Str).Nodup by decide +kernel) rfl (Or.inl rfl) (Or.inr rfl)) vc))))) (λ_ _ _ _=>(vC (sX uj (ti (u6 (K:=K) rfl) (pv 1) (pv 3) (λ_ _=>rfl)) (pv 4) (F7 _)))) (λ_ _ _ _=>(pv 0))) sS)))),?_⟩
 try dsimp -proj only[tJ,tz,tx]
 have o:=Paired.len C
 unfold GO at o
 rw[cx,fL]at o
 have ak:=EM.upto_le O L
 have ab:=O.n6
 refine⟨_,rfl,c,rfl,⟨_,SqL.of Z⟩,?_⟩
 refine wY (xs:=cs) (λi r I=>I=H/\i<=N/\∃b,dJ (IsF K H) r b/\(∀p∈b,Sz 30 p)/\b.length<=i/\Hd b=FQ.red (EM.et W n i p t) (EM.st W n i).D)
  ⟨rfl,dz _,[],.nil,(λ_ z=>nomatch z),dz _,by show((0:Int),(1:Int))=FQ.red 0 1;exact(wI (by decide)).symm⟩ (λi r I _ F=>by rw[F.1];exact SqL.of Z) (λi x r I hx F=>?_) (λr I F Dd X=>?_)
 ·obtain⟨rfl,_,b,j,k,B,a⟩:=F
  obtain⟨co,aa,ae⟩:=Paired.get' C hx
  obtain⟨J,rfl⟩:=AB aa
  obtain⟨xa,l,d,g,rfl,h1,h2,h3,h4,_⟩:=ae
  have s:=EM.step_of O (L.mono (cZ J)) (L i J)
  have hD:=s.S.pos
  have ag:=EM.D_le s.S ab
  have T:(EM.st W n i).D≠0:=dM hD
  have u:=s.c0
  have ac:=s.c6
  have af:0<(EM.st W n i).D*EM.cn W (EM.st W n i):=i3 hD u
  have al:(EM.st W n i).D*EM.cn W (EM.st W n i)<=262144*6:=jC ag ac (dZ u) (by decide)
  have ai:=s.m0
  have ao:=s.mD
  have am:(EM.cs W (EM.st W n i)).ds.length=n:=s.dl
  have R:(EM.cs W (EM.st W n i)).D=(EM.st W n i).D*EM.cn W (EM.st W n i):=rfl
  have an:(EM.cs W (EM.st W n i)).ds=EM.dishes W (EM.st W n i).ms:=rfl
  have eE:EM.et W n (i+1) p t=EM.et W n i p t*EM.cn W (EM.st W n i)+if(EM.dishes W (EM.st W n i).ms).getD p 0=t then(EM.cs W (EM.st W n i)).m else 0:=rfl
  have eD:(EM.st W n (i+1)).D=(EM.st W n i).D*EM.cn W (EM.st W n i):=rfl
  have ap:=Paired.len j
  refine⟨xa,_,rfl,h1,rfl,_,_,rfl,_,_,rfl,_,_,rfl,rfl,?_⟩
  refine⟨_,rfl,_,rfl,d,_,_,_,rfl,rfl,SqL.of h3,t9 (uQ (by omega)),_,rfl,rfl,_,rfl,Gq (λe=>?_) (λe=>?_)⟩
  ·have Y:(EM.dishes W (EM.st W n i).ms).getD p 0=t:=Ke e
   refine⟨_,rfl,F4 (by omega),rfl,J,b++[FQ.red (EM.cs W (EM.st W n i)).m (EM.cs W (EM.st W n i)).D],Paired.app j (.cons h2 .nil),λz hz=>?_,by rw[de];simp;omega,?_⟩
   ·rcases dE.mp hz with y|y
    ·exact k z y
    ·rw[cK.mp y,R]
     exact uX (dM af) (by omega) (by omega)
   ·rw[vT,a,R,BX T (dM u),eE,if_pos Y,eD]
  ·have Y:¬(EM.dishes W (EM.st W n i).ms).getD p 0=t:=λz=>e (by show V.int ((EM.dishes W (EM.st W n i).ms).getD p 0)=V.int t;rw[z])
   refine⟨rfl,J,b,j,k,fJ B,?_⟩
   rw[a,eE,if_neg Y,gQ,eD,Bp T (by omega)]
 ·obtain⟨rfl,_,b,j,k,B,a⟩:=F
  rw[o]at B a
  refine⟨Dd,r,b,rfl,SqL.of sQ,tq (nJ X _) j,k,by omega,λv H2 S2 hv=>q v H2 ((nJ X _).trans S2) ?_⟩
  rw[<-a]
  exact hv
theorem Kw
  (b:Dn P w K mg base Ge 5 "eaten_of" ["courses","person","thing"] (IX K)):Dn P w K mg base Ge 6 "eaten_by" ["courses","person","count"] (Ja K):=by
 have o:F6 ["courses","person","count"] ["courses","person","count"] (F3 (F8 29)):=GE
 have U:=o.nd
 refine M.bF.ok o (λvs H Q E h=>?_) (λ_ _ _ _ _ _ F O=>K1 (λ_ _ _=>rfl) F O) (λf R A C s H vs Q E L h=>?_)
 ·obtain⟨c,cs,W,n,N,p,rfl,z,t,y,k,hp,q⟩:=h
  rfl
 obtain⟨c,cs,W,n,N,p,rfl,z,t,y,k,hp,q⟩:=h
 refine⟨_,(sU (s9 (tP ux rfl M.ag Boot.«tuple» (me (ug rfl (N:=["thing","courses","person"]) (caps:=[none,some 0,some 1]) (CompOk.of (by kernel_rfl)) (tI rfl) (tS rfl M.ae (me (pv 2) sS)) (λ_ _ _ _=>(tj (i:=0) (show(["thing","courses","person"]:List Str).Nodup by decide +kernel) rfl (Or.inl rfl) (Or.inr rfl))) (λ_ _ _ _=>ud) (λ_ _ _ _=>(tF b L (by decide) rfl F9 (me (pv 1) (me (pv 2) (me (pv 0) sS)))))) sS)))),?_⟩
 try dsimp -proj only[tJ,tz,tx]
 have S:=t.n6
 refine⟨_,rfl,(n:Int),rfl,by omega,by omega,?_⟩
 refine uY (n:=n) (λj e g=>Same H g/\dJ (IsF K g) e (fr (EM.st W n N).D (((LM.rng n).take j).map (EM.et W n N p))))
  ⟨Same.refl _,.nil⟩ (λj e g I u=>?_) (λe g u J m=>?_)
 ·obtain⟨d,a⟩:=u
  have r:=Paired.len a
  unfold fr at r
  rw[cx,cx,cX,LM.rng_len]at r
  refine⟨_,rfl,_,rfl,_,rfl,c,cs,W,n,N,p,(j:Int),by rw[fe];rfl,d _ _ z,t,y,Paired.mapP k (λ_ _ h=>h.mono d),hp,λv T x G=>⟨F4 (by omega),d.trans x,?_⟩⟩
  rw[dg,EM.rng_get I]
  unfold fr
  rw[cV,cV]
  exact Paired.app (tq x a) (.cons G .nil)
 ·obtain⟨d,a⟩:=u
  rw[eh (by rw[LM.rng_len];exact cI _)]at a
  refine⟨J,e,rfl,.inl ⟨SqL.of sQ,λB l=>q (.ref B) _ (d.trans ((nJ m _).trans (nJ l _))) ⟨B,e,rfl,SqT.of sQ,?_⟩⟩⟩
  exact tq ((nJ m _).trans (nJ l _)) a
theorem LO
  (b:Dn P w K mg base Ge 5 "courses_of" ["wishes"] (Jb K))
  (d:Dn P w K mg base Ge 6 "eaten_by" ["courses","person","count"] (Ja K)):Dn P w K mg base Ge 7 "eaten" ["wishes"] (KO K):=by
 have t:F6 ["wishes","courses"] ["wishes"] (F3 (F8 30)):=GE
 have X:=t.nd
 refine M.cc.ok t (λvs H Q E h=>?_) (λ_ _ _ _ _ _ L Y=>Kv (λ_=>rfl) L Y) (λf aa A J s H vs Q E C h=>?_)
 ·obtain⟨a,l,W,n,rfl,hA,u,m,q⟩:=h
  rfl
 obtain⟨a,l,W,n,rfl,hA,u,m,q⟩:=h
 refine⟨_,(sR (sW (i:=1) X rfl (Or.inr rfl) (tF b C (by decide) rfl F9 (me (pv 0) sS)))
   (sU (s9 (ug rfl (N:=["person","wishes","courses"]) (caps:=[none,some 0,some 1]) (CompOk.of (by kernel_rfl)) (tI rfl) (tS rfl M.ae (me (sV tm rfl M.ac dL (me (pv 0) sS)) sS)) (λ_ _ _ _=>(tj (i:=0) (show(["person","wishes","courses"]:List Str).Nodup by decide +kernel) rfl (Or.inl rfl) (Or.inr rfl))) (λ_ _ _ _=>ud) (λ_ _ _ _=>(tF d C (by decide) rfl F9 (me (pv 2) (me (pv 0) (me (sV (vZ (K:=K) rfl) rfl M.ac dL (me (pv 1) sS)) sS))))))))),?_⟩
 try dsimp -proj only[tJ,tz,tx]
 have ab:=m.n6
 have B:=Paired.len u
 have U:=m.len
 refine⟨_,rfl,a,l,W,n,rfl,hA,u,m,λc cs N O p Z V F z=>?_⟩
 refine⟨_,rfl,a,_,rfl,.inl (p.seq hA),(l.length:Int),rfl,by omega,by omega,?_⟩
 have y:((l.length:Nat):Int).toNat=n:=Eq.trans B U
 rw[y]
 refine uY (n:=n) (λj r o=>Same O o/\dJ (RwFT K o (EM.st W n N).D) r ((dc j).map (G7 W n N)))
  ⟨Same.refl _,.nil⟩ (λj r o S x=>?_) (λr o x T k=>?_)
 ·obtain⟨e,g⟩:=x
  have I:=Paired.len g
  rw[cx,fL]at I
  refine⟨_,rfl,_,rfl,_,rfl,a,_,rfl,.inl ((p.trans e).seq hA),c,cs,W,n,N,j,by rw[fe,show l.length=n from y];rfl,e _ _ V,m,F.up,Paired.mapP z (λ_ _ h=>h.mono e),S,λv H3 G R=>⟨F4 (by omega),e.trans G,?_⟩⟩
  rw[gq,cV]
  exact Paired.app (Paired.mapP g λ_ _ h=>h.mono G) (.cons R .nil)
 ·obtain⟨e,g⟩:=x
  exact q T r N _ (p.trans (e.trans (nJ k _))) ((p.trans e).free k) sQ F (Paired.mapP g λ_ _ h=>h.mono (nJ k _))
theorem Gn{m:Nat}
  (g:Dn P w K mg base Ge m "deal_within" ["left","begun"] (Lh (IG K) m)):Dn P w K mg base Ge (m+1) "deal_within" ["left","begun"] (IG K m):=by
 have Y:F6 ["left","begun","person","thing","part","deal"] ["left","begun"] (F3 (F8 32)):=GE
 have G:=Y.nd
 refine M.ao.ok Y (λvs H Q E h=>?_) (λ_ _ _ _ _ _ us hl=>Ia (λ_ _=>rfl) us hl) (λf am A al s H vs Q E hr h=>?_)
 ·obtain⟨l,b,u,e,T,n,k,a,rfl,N,L,y,D,ai,ab,q0,q1⟩:=h
  rfl
 obtain⟨l,b,u,e,T,n,k,a,rfl,N,L,y,D,ai,ab,q0,q1⟩:=h
 refine⟨_,(sR (sW (i:=2) G rfl (Or.inl rfl) (sV tm rfl M.ac dL (me (pv 1) sS)))
   (sR (tH (sX uj (pv 2) (sV tm rfl M.ac dL (me (pv 0) sS)) (F7 _)) (sU (s9 (pv 1))) sY)
   (sR (uH dV rfl (Bx rfl M.aw (me (ti tw (pv 0) (pv 2) (λ_ _=>rfl)) sS)) (zd rfl (tX (tj (i:=3) G rfl (Or.inl rfl)) (tX (tj (i:=4) G rfl (Or.inl rfl)) vc))) (sU (tH (PW.pt (vx (sX (xf hr) (pv 4) (vj M.ah) (F7 _)) (vF (sX uC (pv 3) (pv 1) (by with_unfolding_all rfl))))) (sR (sW (i:=5) G rfl (Or.inl rfl) (tF g hr (cI _) rfl F9 (me (pv 0) (me (sZ Cm (pv 1) (tQ (me (pv 3) sS))) sS))))
   (sU (tH (sX BU (pv 5) vv (F7 _)) (sU (s9 (pv 5))) sY))) sY)))
   (sU (s9 vv))))),?_⟩
 try dsimp -proj only[tJ,tz,tx]
 have aq:=Paired.len L
 have ap:=y.hi
 have an:=y.len
 have hT:=y.t0
 have S:(a.map V.int).length=a.length:=cx _
 refine⟨_,rfl,b,_,rfl,.inr D,?_⟩
 refine⟨_,rfl,_,rfl,l,u,rfl,.inl N,rfl,_,rfl,Gq (λc=>?_) (λc=>?_)⟩
 ·have c':(a.map V.int).length=u.length:=by have:=Ke c;exact nA.mp this
  have ag:k=0:=by omega
  subst ag
  exact⟨_,rfl,q1 a rfl b H (Same.refl _) D⟩
 have c':a.length≠u.length:=λz=>c (by show V.int _=V.int _;rw[S,z])
 obtain⟨k,rfl⟩:∃k',k=k'+1:=⟨k-1,by omega⟩
 obtain⟨m,rfl⟩:∃m',m=m'+1:=⟨m-1,by omega⟩
 have C:a.length<e.length:=by omega
 obtain⟨rv,af,ra,gs,rfl,U,B⟩:=Paired.get L (cD C)
 have ae:=y.cols _ (db C)
 have eM:e.getD a.length []=e[a.length]:=HM.getD_lt C
 have eE:∀t,HM.ent e a.length t=(e[a.length]).getD t 0:=λt=>by unfold HM.ent;rw[eM]
 generalize e[a.length]=q at B ae eE
 have X:=Paired.len B
 rw[Ae]at X
 refine⟨_,rfl,_,rfl,l,u,_,_,rfl,rfl,N,by rw[S];exact t9 af,ra,rfl,⟨_,U⟩,?_⟩
 refine C8 (xs:=gs) (λi J o=>Same H o/\(dc i).findSome? (λt=>if HM.ent e a.length t≠0/\(t:Int)∉a then HM.within e k (a++[(t:Int)])else none)=none/\∃r3 r4 r5,J=[some (.ref l),some (.ref b),some (.int (a.map V.int).length),r3,r4,r5])
  ⟨Same.refl _,rfl,_,_,_,rfl⟩ (λi J o _ F=>F.1.seq U) (λi v J o t hv ht F=>?_) (λJ o F=>?_)
 ·obtain⟨S1,j,r3,r4,r5,rfl⟩:=F
  have hi:i<q.length:=by
   have:=(cT.mp hv).1
   exact X▸this
  obtain⟨p,hp,hF⟩:=Paired.get' B hv
  rw[Bh hi]at hp
  cases hp
  have x:Same H (upd o t (.tup [.int i,v])):=S1.trans (nJ ht _)
  have Z:upd o t (.tup [.int i,v]) t=some (.tup [.int i,v]):=sQ
  generalize upd o t (.tup [.int i,v])=I at x Z ⊢
  refine⟨t,_,rfl,SqT.of Z,rfl,_,_,rfl,_,_,rfl,rfl,?_⟩
  refine⟨_,rfl,λc0 aj=>⟨dF (FQ.red (q.getD i 0) T),dF (0,1),(hF.mono x).rep,IsF.rep ⟨c0,rfl,aj _⟩,ub _,ub _,_,rfl,?_⟩⟩
  rw[wc]
  refine Ir (λc1=>?_) (λc1=>?_)
  case refine_2=>
   have hz:q.getD i 0=0:=(tY (dM hT)).mp c1
   refine⟨x,?_,_,_,_,rfl⟩
   rw[LN.findSome_snoc j,if_neg (λz=>z.1 (by rw[eE];exact hz))]
  have hz:q.getD i 0≠0:=λz=>c1 ((tY (by omega)).mpr z)
  refine⟨_,rfl,_,rfl,b,_,rfl,.inr (x.tup D),rfl,xk _,_,rfl,?_⟩
  show if(!Js (.int (i:Int)) (a.map V.int))=true then _ else _
  rw[yb]
  refine Ir (λc2=>?_) (λc2=>?_)
  case refine_2=>
   refine⟨x,?_,_,_,_,rfl⟩
   rw[LN.findSome_snoc j,if_neg (λz=>z.2 c2)]
  have R:HM.ent e a.length i≠0/\(i:Int)∉a:=⟨by rw[eE];exact hz,c2⟩
  refine⟨_,rfl,_,rfl,_,rfl,by show 1<=sizeLine;decide,λO ak=>?_⟩
  have S3:Same I (upd I O (.tup [.int i])):=nJ ak _
  have W:SqT K (upd I O (.tup [.int i])) O (([(i:Int)]:List Int).map V.int):=SqT.of sQ
  generalize upd I O (.tup [.int i])=H3 at S3 W ⊢
  have aa:=x.trans S3
  refine FF (aa.tup D) W (by simp;omega) λp4 H4 S4 h4=>?_
  have r:=aa.trans S4
  refine⟨l,p4,u,e,T,n,k,a++[(i:Int)],rfl,r.seq N,Paired.mapP L (λ_ _ h=>h.mono r),y,h4,by rw[de];simp;omega,jA ab,λe5 H5 S5=>?_,λd e5 p5 H5 S5 h5=>?_⟩
  ·refine⟨_,rfl,rfl,_,rfl,Gg ?_⟩
   refine⟨r.trans S5,?_,_,_,_,rfl⟩
   rw[LN.findSome_snoc j,if_pos R]
   exact e5
  ·refine⟨_,rfl,rfl,_,rfl,Gu ?_⟩
   refine⟨_,rfl,q1 d ?_ p5 H5 (r.trans S5) h5⟩
   show(dc e.length).findSome? _=some d
   exact LN.findSome_up (i:=i+1) (by rw[LN.findSome_snoc j,if_pos R];exact e5) (by omega)
 ·obtain⟨S1,j,r3,r4,r5,rfl⟩:=F
  refine q0 ?_ _ S1
  show(dc e.length).findSome? _=none
  rw[show e.length=gs.length by omega]
  exact j
theorem IP
  (j:Dn P w K mg base Ge 3 "minus" ["one","two"] (IS Km K)):Dn P w K mg base Ge 4 "row_without" ["row","thing","weight"] (La K):=by
 have z:F6 ["row","thing","weight","rest"] ["row","thing","weight"] (F3 (F8 33)):=GE
 have nd:=z.nd
 refine M.aZ.ok z (λvs H Q E h=>?_) (λ_ _ _ _ _ _ X hl=>K1 (λ_ _ _=>rfl) X hl) (λf aa A W s H vs Q E hr h=>?_)
 ·obtain⟨r,w,a,m,t,T,x,rfl,g,k,N,⟨L,R⟩,⟨d,o⟩,V,⟨G,U⟩,⟨C,I⟩,q⟩:=h
  rfl
 obtain⟨r,w,a,m,t,T,x,rfl,g,k,N,⟨L,R⟩,⟨d,o⟩,V,⟨G,U⟩,⟨C,I⟩,q⟩:=h
 refine⟨_,(sR (sW (i:=3) nd rfl (Or.inl rfl) (tP uf rfl M.af Boot.«list» (me (pv 0) sS)))
   (sR (wr (tF j hr (by decide) rfl F9 (me (ti tw (pv 0) (pv 1) (λ_ _=>rfl)) (me (pv 2) sS))) (xv (pv 3) (pv 1) wC))
   (sU (s9 (pv 3))))),?_⟩
 try dsimp -proj only[tJ,tz,tx]
 have c:T≠0:=dM L
 have y:=Paired.len k
 rw[Ae]at y
 obtain⟨_,e0,O⟩:=id N
 cases e0
 have J:t.toNat<m.length:=by omega
 refine⟨_,rfl,r,a,rfl,.inl g,λp hp=>?_⟩
 have b:Same H (upd H p (.lst a)):=nJ hp _
 have n:upd H p (.lst a) p=some (.lst a):=sQ
 generalize upd H p (.lst a)=H1 at b n ⊢
 obtain⟨v,Y,Z,rfl,S⟩:=Paired.get k (Bh (D:=T) J)
 refine⟨_,rfl,_,rfl,r,a,t,_,rfl,rfl,b.seq g,uE d Y,_,rfl,Z,w,_,_,rfl,b.tup S,b.tup O,wW c (by omega) (by omega),wW c (by omega) (by omega),λpf H2 B u=>?_⟩
 rw[DV c]at u
 have l:=B _ _ n
 have F:KY a.length t=some t.toNat:=by
  unfold KY
  rw[if_pos d,if_pos (y▸o)]
 refine⟨_,rfl,_,rfl,p,_,_,_,rfl,rfl,l,F,?_⟩
 refine⟨_,rfl,q p _ _ ((b.trans B).over hp _) hp sQ ?_⟩
 have e:fr T (LM.addOne m t (-x))=(fr T m).set t.toNat (FQ.red (m.getD t.toNat 0-x) T):=by
  unfold fr LM.addOne
  rw[md,nU]
 rw[e]
 exact Paired.mapP (xJ (tq (b.trans B) k) ⟨pf,rfl,SqT.of u⟩) λ_ _ h=>h.over l
theorem K4
  (ac:Dn P w K mg base Ge 7 "deal_within" ["left","begun"] (IG K 6))
  (aS:Dn P w K mg base Ge 2 "least" ["parts"] (Jk K))
  (ab:Dn P w K mg base Ge 4 "row_without" ["row","thing","weight"] (La K))
  (aT:Dn P w K mg base Ge 3 "plus" ["one","two"] (IS Hr K)):Dn P w K mg base Ge 8 "lots_of" ["table"] (JH K):=by
 have a4:F6 ["table","left","spent","lots","deal","weight"] ["table"] (F3 (F8 34)):=GE
 have nd:=a4.nd
 refine M.bP.ok a4 (λvs H Q E h=>?_) (λ_ _ _ _ _ _ us hl=>Kv (λ_=>rfl) us hl) (λf bw A bu s H vs Q E hr h=>?_)
 ·obtain⟨a,us,Z,T,n,rfl,hA,hZ,ok,q⟩:=h
  rfl
 obtain⟨a,us,Z,T,n,rfl,hA,hZ,ok,q⟩:=h
 refine⟨_,(sR (ut (i:=1) nd rfl rfl rfl rfl (N:=["row"]) (caps:=[none]) (CompOk.of (by kernel_rfl)) (tI rfl) (uy (pv 0)) (λ_ _ _ _=>(tj (i:=0) (show(["row"]:List Str).Nodup by decide +kernel) rfl (Or.inl rfl) (Or.inr rfl))) (λ_ _ _ _=>ud) (λ_ _ _ _=>(tP (xW (K:=K) rfl) rfl M.af Boot.«list» (me (pv 0) sS))))
   (sR (sW (i:=2) nd rfl (Or.inl rfl) (vj M.ah))
   (sR (sW (i:=3) nd rfl (Or.inl rfl) (tT sS))
   (sR (vt dV (sX (xf hr) (pv 2) (vj M.ay) (F7 _)) (sR (sW (i:=4) nd rfl (Or.inl rfl) (tF ac hr (by decide) rfl F9 (me (pv 1) (me (tQ sS) sS))))
   (sR (sW (i:=5) nd rfl (Or.inr rfl) (tF aS hr (by decide) rfl F9 (me (ug rfl (N:=["row","thing"]) (caps:=[none,none]) (CompOk.of (by kernel_rfl)) (As (uJ uh (tI rfl) (uJ uh (tI rfl) yv))) (Ed rfl M.aP (me (pv 1) (me (pv 4) sS))) (λ_ _ _ _=>(yx (K:=K) rfl 2 rfl (tX (tj (i:=0) (show(["row","thing"]:List Str).Nodup by decide +kernel) rfl (Or.inl rfl) (Or.inr rfl)) (tX (tj (i:=1) (show(["row","thing"]:List Str).Nodup by decide +kernel) rfl (Or.inl rfl) (Or.inr rfl)) vc)))) (λ_ _ _ _=>ud) (λ_ _ _ _=>(ti (u6 (K:=K) rfl) (pv 0) (pv 1) (λ_ _=>rfl)))) sS)))
   (sR (ut (i:=1) nd rfl rfl rfl rfl (N:=["row","thing","weight"]) (caps:=[none,none,some 5]) (CompOk.of (by kernel_rfl)) (As (uJ uh (tI rfl) (uJ uh (tI rfl) yv))) (Ed rfl M.aP (me (pv 1) (me (pv 4) sS))) (λ_ _ _ _=>(yx (K:=K) rfl 2 rfl (tX (tj (i:=0) (show(["row","thing","weight"]:List Str).Nodup by decide +kernel) rfl (Or.inl rfl) (Or.inr rfl)) (tX (tj (i:=1) (show(["row","thing","weight"]:List Str).Nodup by decide +kernel) rfl (Or.inl rfl) (Or.inr rfl)) vc)))) (λ_ _ _ _=>ud) (λ_ _ _ _=>(tF ab hr (by decide) rfl F9 (me (pv 0) (me (pv 1) (me (pv 2) sS))))))
   (sR (sW (i:=2) nd rfl (Or.inl rfl) (tF aT hr (by decide) rfl F9 (me (pv 2) (me (pv 5) sS))))
   (sU (tO (uF df dB dC tL (pv 3) (me (tQ (me (pv 5) (me (pv 4) sS))) sS)))))))))
   (sU (s9 (pv 3))))))),?_⟩
 try dsimp -proj only[tJ,tz,tx]
 have bi:=Paired.len hZ
 have aJ:=ok.lo
 have aA:=ok.hi
 have hT:=ok.t0
 have a0:=ok.t1
 have W:T≠0:=dM hT
 have bx:=ok.reg.len
 have am:(0:Nat)<=sizeLine:=by decide
 refine⟨_,rfl,a,rfl,⟨_,hA⟩,?_⟩
 refine ur (xs:=us) (λi ys O=>Same H O/\dJ (λv (m:List Int)=>∃a G,v = .ref a/\O a=some (.lst G)/\dJ (IsF K O) G (fr T m)) ys (Z.take i)) ⟨Same.refl _,by rw[eY];exact .nil⟩ (λi ys O _ k=>k.1.seq hA) (λi x ys O Y k=>?_) (λys O k l0 a7=>?_)
 ·obtain⟨S1,an⟩:=k
  obtain⟨r,bn,ta,G,rfl,bp,bg⟩:=Paired.get' hZ Y
  have bj:=Paired.len an
  rw[cX]at bj
  refine⟨_,rfl,ta,G,rfl,.inr (S1.tup bp),λp hp=>⟨F4 (by omega),S1.trans (nJ hp _),?_⟩⟩
  rw[dg,bn]
  exact Paired.app (Paired.mapP an λ_ _ ⟨a',ak,e1,e2,e3⟩=>⟨a',ak,e1,nJ hp _ _ _ e2,tq (nJ hp _) e3⟩) (.cons ⟨p,G,rfl,sQ,tq (S1.trans (nJ hp _)) bg⟩ .nil)
 obtain⟨S1,an⟩:=k
 rw[bi,dy]at an
 refine λc0 bo=>?_
 refine⟨am,λlo aH=>?_⟩
 have Sl:Same O (upd (upd O l0 (.lst ys)) lo (.lst [])):=(nJ a7 _).trans (nJ aH _)
 have aL:upd (upd O l0 (.lst ys)) lo (.lst []) l0=some (.lst ys):=nJ aH _ _ _ sQ
 have aq:upd (upd O l0 (.lst ys)) lo (.lst []) lo=some (.lst []):=sQ
 have ao:O lo=none:=(nJ a7 _).free aH
 have bb:H lo=none:=S1.free ao
 generalize upd (upd O l0 (.lst ys)) lo (.lst [])=H1 at Sl aL aq ⊢
 refine⟨λm σ J=>∃(i:Nat) (lf sp:cG) (rs ls:List V) (r4 r5:Option V),m=(HM.it Z T i).2.toNat/\σ=[some (.ref a),some (.ref lf),some (.ref sp),some (.ref lo),r4,r5]/\Same O J/\(∀j,j<i->(HM.it Z T j).2≠0)/\SqL K J lf rs/\dJ (RwFX K J T lo) rs (HM.it Z T i).1/\
   IsF K J (.ref sp) (FQ.red (T-(HM.it Z T i).2) T)/\J lo=some (.lst ls)/\dJ (IsLot K J T) ls (HM.lotsL Z T i),
  ⟨_,0,l0,c0,ys,[],_,_,rfl,rfl,Sl,(λj b=>absurd b (gJ _)),SqL.of aL,Paired.mapP an (λ_ _ ⟨a',ak,e1,e2,e3⟩=>⟨a',ak,e1,(λz=>by rw[z,ao]at e2;cases e2),Sl _ _ e2,tq Sl e3⟩),⟨c0,rfl,by rw[show T-(HM.it Z T 0).2=0 from Int.sub_self T,wI W];exact bo _⟩,aq,.nil⟩,λm σ J k=>?_⟩
 clear Sl aL aq
 obtain⟨i,lf,sp,rs,ls,r4,r5,rfl,rfl,S2,aR,ag,aw,ax,X,aF⟩:=k
 obtain⟨_,e0,az⟩:=id ax
 cases e0
 have I:=HM.it_ok ok.reg hT aJ i aR
 have bm:=I.r0
 have aD:=I.rT
 refine⟨_,rfl,λc1 bk=>⟨_,_,ax.rep,IsF.rep (p:=(1,1)) ⟨c1,rfl,bk _⟩,ub _,ub _,_,rfl,?_⟩⟩
 rw[wc]
 by_cases hz:(HM.it Z T i).2=0
 ·rw[decide_eq_true (by rw[hz,rr];exact zM W)]
  exact⟨_,rfl,q i lo ls J ⟨hz,aR⟩ (S1.trans S2) bb X aF⟩
 rw[decide_eq_false (λz=>hz (by have:=(Bm W).mp z;omega))]
 apply yH
 intro Nw bf
 have S:=I.reg.step (by omega) aJ
 have eN:(HM.it Z T (i+1))=(LM.addDeal (HM.it Z T i).1 (HM.dealOf (HM.it Z T i).1) (-HM.wOf (HM.it Z T i).1),(HM.it Z T i).2-HM.wOf (HM.it Z T i).1):=rfl
 have eL:HM.lotsL Z T (i+1)=HM.lotsL Z T i++[(HM.wOf (HM.it Z T i).1,HM.dealOf (HM.it Z T i).1)]:=by
  unfold HM.lotsL
  rw[gq,cV]
  rfl
 have a8:∀j,j<i+1->(HM.it Z T j).2≠0:=λj b=>by
  rcases f4.mp b with z|z
  ·exact aR j z
  ·rw[z];exact hz
 have bv:i<=60:=by
  have h1:=I.few hz
  have h2:=HM.pn_le aA Z
  have h3:0<=HM.pn n (HM.it Z T i).1:=by
   have:=HM.sm_le (n:=n) (f:=λ_=>0) (g:=λp=>(HM.cnt n λt=>decide (HM.ent (HM.it Z T i).1 p t≠0):Nat)) λp _=>ea _
   rw[HM.sm_zero]at this
   exact this
  omega
 have o:=I.reg
 clear I
 generalize HM.it Z T i=MR at *
 obtain⟨M,R⟩:=MR
 dsimp only at hz S eN eL o bm aD aw ax az ⊢
 have B:=o.len
 have av:=Paired.len aw
 have aB:=S.pm
 have L:=aB.len
 have bq:=S.w1
 have bs:=S.wR
 have a9:MZ n T M:=⟨aJ,aA,hT,a0,B,o.cols⟩
 -- the deal
 refine⟨_,rfl,am,λpe bh=>?_⟩
 have S3:Same J (upd J pe (.tup [])):=nJ bh _
 have aN:SqT K (upd J pe (.tup [])) pe (([]:List Int).map V.int):=SqT.of sQ
 generalize upd J pe (.tup [])=H3 at S3 aN ⊢
 refine⟨lf,pe,rs,M,T,n,n,[],rfl,S3.seq ag,Paired.mapP aw (λ_ _ h=>(h.mono S3).fl),a9,aN,by simp,by omega,λz=>absurd (S.some.symm.trans z) (by simp),λd ed pd H4 S4 ai=>?_⟩
 rw[S.some]at ed
 cases ed
 have au:=S3.trans S4
 -- the weight
 have aY:∀p,p<n->HM.ent M p ((HM.dealOf M).getD p 0).toNat<=T:=λp hp=>by
  have hb:=aB.mem.mp (show(HM.dealOf M).getD p 0∈HM.dealOf M by rw[HM.getD_lt (L▸hp)];exact db _)
  have h1:=HM.sm_one_le (n:=n) (λi=>o.nn p i) (show((HM.dealOf M).getD p 0).toNat<n by omega)
  rw[o.row p hp]at h1
  exact gm h1 aD
 have vl:(HM.valsM M (HM.dealOf M)).length=n:=by unfold HM.valsM;simp[B,L]
 have aC:∀j,j<n->∃C G,rs[j]?=some (.ref C)/\SqL K J C G/\dJ (IsF K J) G (fr T (M.getD j [])):=λj b=>by
  obtain⟨rv,aj,C,G,rfl,_,h1,h2⟩:=Paired.get aw (cD (show j<M.length from B▸b))
  exact⟨C,G,aj,SqL.of h1,by rw[HM.getD_lt (by omega)];exact h2⟩
 have ap:∀j,j<n->(M.getD j []).length=n:=λj b=>by rw[HM.getD_lt (by omega)];exact o.cols _ (db _)
 have a5:∀j,j<n->0<=(HM.dealOf M).getD j 0/\(HM.dealOf M).getD j 0<n:=λj b=>aB.mem.mp (by rw[HM.getD_lt (L▸b)];exact db _)
 have aX:rs.length=((HM.dealOf M).map V.int).length:=by rw[cx];exact Eq.trans av (L▸B)
 refine⟨_,rfl,_,rfl,false,true,lf,pd,rfl,⟨_,au.seq ag⟩,⟨_,ai⟩,?_⟩
 refine yP (xs:=rs) (ys:=(HM.dealOf M).map V.int) (λj l c=>Same H4 c/\dJ (IsF K c) l (fr T ((HM.valsM M (HM.dealOf M)).take j))) aX ⟨Same.refl _,by rw[eY];exact .nil⟩ (λj l c _ k=>⟨(au.trans k.1).seq ag,k.1.tup ai⟩) (λj x y l c t Y hy ht k=>?_) (λl c k Dd br=>?_)
 ·obtain⟨S5,u⟩:=k
  have b:j<n:=by have:=(cT.mp Y).1;exact kF this (av▸B)
  obtain⟨C,G,aj,h1,h2⟩:=aC j b
  rw[aj]at Y
  cases Y
  rw[uQ (L▸b)]at hy
  cases hy
  have hb:=a5 j b
  have be:((HM.dealOf M).getD j 0).toNat<(M.getD j []).length:=by rw[ap j b];omega
  have S6:Same c (upd c t (.tup [.ref C,.int ((HM.dealOf M).getD j 0)])):=nJ ht _
  have al:upd c t (.tup [.ref C,.int ((HM.dealOf M).getD j 0)]) t=some (.tup [.ref C,.int ((HM.dealOf M).getD j 0)]):=sQ
  generalize upd c t (.tup [.ref C,.int ((HM.dealOf M).getD j 0)])=Hy at S6 al ⊢
  obtain⟨v,hv,hF⟩:=Paired.get h2 (Bh (D:=T) be)
  have U:=au.trans (S5.trans S6)
  have aE:=Paired.len u
  rw[Ae,cX]at aE
  refine⟨t,_,rfl,SqT.of al,rfl,_,_,rfl,_,_,rfl,rfl,?_⟩
  refine⟨_,rfl,_,rfl,C,G,_,v,rfl,rfl,U.seq h1,uE hb.1 hv,F4 (by omega),S5.trans S6,?_⟩
  rw[dg,HM.valsM_get B L b]
  unfold fr
  rw[cV]
  exact Paired.app (tq S6 u) (.cons (hF.mono U) .nil)
 obtain⟨S5,u⟩:=k
 rw[show rs.length=(HM.valsM M (HM.dealOf M)).length from Eq.trans av (vl▸B),dy]at u
 have S6:Same c (upd c Dd (.lst l)):=nJ br _
 have a6:SqL K (upd c Dd (.lst l)) Dd l:=SqL.of sQ
 generalize upd c Dd (.lst l)=H6 at S6 a6 ⊢
 have a2:HM.valsM M (HM.dealOf M)≠[]:=λz=>by rw[z]at vl;simp at vl;omega
 refine⟨Dd,l,fr T (HM.valsM M (HM.dealOf M)),rfl,a6,tq S6 u,(λz=>a2 (by unfold fr at z;exact List.map_eq_nil_iff.mp z)),by rw[Ae];omega,λp hp=>?_,λv hv=>?_⟩
 ·unfold fr at hp
  obtain⟨x,Y,rfl⟩:=dG.mp hp
  obtain⟨j,b,e⟩:=eV.mp Y
  have aV:j<n:=vl▸b
  have e2:=HM.valsM_get B L aV
  rw[cD b,e]at e2
  have e3:x=HM.ent M j ((HM.dealOf M).getD j 0).toNat:=Option.some.inj e2
  have h1:=aY j aV
  have h2:=o.nn j ((HM.dealOf M).getD j 0).toNat
  rw[<-e3]at h1 h2
  exact wW W (by omega) (by omega)
 have ew:IH (fr T (HM.valsM M (HM.dealOf M)))=FQ.red (HM.wOf M) T:=by
  unfold fr HM.wOf
  exact A6 hT a2
 rw[ew]at hv
 obtain⟨wa,rfl,aO⟩:=hv
 have U:=au.trans (S5.trans S6)
 -- what is left
 refine⟨_,rfl,_,rfl,false,true,lf,pd,rfl,⟨_,U.seq ag⟩,⟨_,(S5.trans S6).tup ai⟩,?_⟩
 refine yP (xs:=rs) (ys:=(HM.dealOf M).map V.int) (λj l c=>Same H6 c/\dJ (RwFX K c T lo) l ((LM.addDeal M (HM.dealOf M) (-HM.wOf M)).take j)) aX ⟨Same.refl _,by rw[eY];exact .nil⟩ (λj l c _ k=>⟨(U.trans k.1).seq ag,(S5.trans (S6.trans k.1)).tup ai⟩) (λj x y l c t Y hy ht k=>?_) (λl H7 k l7 ar=>?_)
 ·obtain⟨S7,u⟩:=k
  have b:j<n:=by have:=(cT.mp Y).1;omega
  obtain⟨C,G,aj,h1,h2⟩:=aC j b
  rw[aj]at Y
  cases Y
  rw[uQ (by omega)]at hy
  cases hy
  have hb:=a5 j b
  have S8:Same c (upd c t (.tup [.ref C,.int ((HM.dealOf M).getD j 0)])):=nJ ht _
  have al:upd c t (.tup [.ref C,.int ((HM.dealOf M).getD j 0)]) t=some (.tup [.ref C,.int ((HM.dealOf M).getD j 0)]):=sQ
  generalize upd c t (.tup [.ref C,.int ((HM.dealOf M).getD j 0)])=Hy at S8 al ⊢
  have ae:=U.trans (S7.trans S8)
  have aE:=Paired.len u
  rw[cX,HM.addDeal_len (L▸B)]at aE
  have h3:=aY j b
  have h4:=o.nn j ((HM.dealOf M).getD j 0).toNat
  refine⟨t,_,rfl,SqT.of al,rfl,_,_,rfl,_,_,rfl,rfl,?_⟩
  refine⟨_,rfl,_,rfl,_,rfl,C,wa,G,M.getD j [],_,T,HM.wOf M,rfl,ae.seq h1,tq ae h2,⟨wa,rfl,(S7.trans S8).tup aO⟩,⟨hT,a0⟩,⟨hb.1,by rw[ap j b];exact hb.2⟩,by rw[ap j b];exact aA,⟨h4,h3⟩,⟨dZ bq,gm bs aD⟩,λp ak Hw Sw aU hp ba=>⟨F4 (by omega),S7.trans (S8.trans Sw),?_⟩⟩
  rw[dg,HM.addDeal_get (by omega) (B▸b)]
  exact Paired.app (Paired.mapP u λ_ _ h=>h.mono (S8.trans Sw)) (.cons ⟨p,ak,rfl,(λz=>by rw[z,ae _ _ X]at aU;cases aU),hp,ba⟩ .nil)
 obtain⟨S7,u⟩:=k
 rw[eh (by rw[HM.addDeal_len (L▸B)];exact gi (Eq.symm av))]at u
 have S8:Same H7 (upd H7 l7 (.lst l)):=nJ ar _
 have aW:upd H7 l7 (.lst l) l7=some (.lst l):=sQ
 generalize upd H7 l7 (.lst l)=H8 at S8 aW ⊢
 have aM:=S7.trans S8
 have ae:=U.trans aM
 -- spent
 refine⟨_,rfl,_,rfl,sp,wa,_,_,rfl,ae.tup az,aM.tup aO,wW W (by omega) (by omega),wW W (by omega) (by omega),λpf H9 S9 a3=>?_⟩
 rw[yq W]at a3
 have a1:=ae.trans S9
 -- the lot
 have bc:=a1 _ _ X
 have aK:=Paired.len aF
 unfold HM.lotsL at aK
 rw[cx,fL]at aK
 refine⟨_,rfl,.inl ⟨rfl,_,SqL.of bc⟩,_,rfl,_,rfl,by show 2<=sizeLine;decide,λpt bl=>?_⟩
 have SA:Same H9 (upd H9 pt (.tup [.ref wa,.ref pd])):=nJ bl _
 have aG:upd H9 pt (.tup [.ref wa,.ref pd]) pt=some (.tup [.ref wa,.ref pd]):=sQ
 generalize upd H9 pt (.tup [.ref wa,.ref pd])=HA at SA aG ⊢
 have aQ:=a1.trans SA
 have aa:=aQ _ _ X
 refine⟨lo,ls,_,rfl,rfl,aa,F4 (by omega),?_⟩
 have aI:=S9.trans SA
 have aZ:=aM.trans aI
 refine bf _ _ ⟨(R-HM.wOf M).toNat,by omega,i+1,l7,pf,l,ls++[.ref pt],_,_,by rw[eN],rfl,(S2.trans aQ).over ao _,a8,?_,?_,?_,sQ,?_⟩
 ·exact SqL.over (SqL.of (aI _ _ aW)) (λz=>by rw[z]at ar;rw[(U.trans S7) _ _ X]at ar;cases ar)
 ·rw[eN]
  exact Paired.mapP u λ_ _ h=>(h.mono (S8.trans aI)).over aa
 ·rw[eN]
  refine IsF.over ⟨pf,rfl,SqT.of (SA _ _ ?_)⟩ aa
  rw[a3]
  show some (Le (FQ.red (T-R+HM.wOf M) T))=some (Le (FQ.red (T-(R-HM.wOf M)) T))
  rw[show T-R+HM.wOf M=T-(R-HM.wOf M)by omega]
 ·rw[eL]
  refine Paired.app (Paired.mapP aF λ_ _ h=>(h.mono aQ).over aa) (.cons (IsLot.over ⟨pt,wa,pd,rfl,SqT.of aG,⟨wa,rfl,aZ.tup aO⟩,((S5.trans S6).trans aZ).tup ai⟩ aa) .nil)
theorem Lo
  (b:Dn P w K mg base Ge 1 "before" ["one","two"] (Iz K))
  (J:Dn P w K mg base Ge 3 "plus" ["one","two"] (IS Hr K)):Dn P w K mg base (Hj P w) 4 "picked" ["lots","number"] (J3 K x):=by
 have S:F6 ["lots","number","place","so_far"] ["lots","number"] (F3 (F8 35)):=GE
 have F:=S.nd
 refine M.bX.okE S (λvs H Q E h=>?_) (λ_ _ _ _ _ _ us hl=>Ia (λ_ _=>rfl) us hl) (λf an A al s H vs Q E I h=>?_)
 ·obtain⟨L,m,B,a,T,n,p,rfl,G,g,o,hm,hz,hp,X,q⟩:=h
  rfl
 obtain⟨L,m,B,a,T,n,p,rfl,G,g,o,hm,hz,hp,X,q⟩:=h
 refine⟨_,(sR (tH (PW.pt (yF (tV (tF b I (by decide) rfl F9 (me (pv 1) (me (vj M.ah) sS)))) (xE (uP (tV (tF b I (by decide) rfl F9 (me (pv 1) (me (vj M.ay) sS)))))))) (sU (u8 M.aJ rfl (me tr sS))) sY)
   (sR (sW (i:=2) F rfl (Or.inl rfl) sT)
   (sR (sW (i:=3) F rfl (Or.inl rfl) (ti tD (ti tw (pv 0) sT (λ_ _=>rfl)) sT (λ_ _=>rfl)))
   (sR (vt sH (uP (tV (tF b I (by decide) rfl F9 (me (pv 1) (me (pv 3) sS))))) (sR (sW (i:=2) F rfl (Or.inl rfl) (sZ t6 (pv 2) sT))
   (sU (sW (i:=3) F rfl (Or.inl rfl) (tF J I (by decide) rfl F9 (me (pv 3) (me (ti tD (ti tw (pv 0) (pv 2) (λ_ _=>rfl)) sT (λ_ _=>rfl)) sS)))))))
   (sU (s9 (ti tD (ti tw (pv 0) (pv 2) (λ_ _=>rfl)) sT (λ_ _=>rfl)))))))),?_⟩
 try dsimp -proj only[tJ,tz,tx]
 obtain⟨_,Y,C⟩:=id hm
 cases Y
 have hT:=o.T0
 have r:T≠0:=dM hT.1
 have u:Sz 4000 p:=hz.up (by decide)
 have aa:Sz 4000 ((0,1):Int×Int):=Sz.up (m:=30) ⟨by decide,by decide,by decide⟩ (by decide)
 have af:Sz 4000 ((1,1):Int×Int):=Sz.up (m:=30) ⟨by decide,by decide,by decide⟩ (by decide)
 refine⟨_,rfl,λc0 ai=>⟨m,c0,p,(0,1),rfl,C,ai _,u,aa,_,rfl,?_⟩⟩
 show if Gx p (0,1)=true then _ else _
 refine KZ (λc=>⟨by show 1<=sizeLine;decide,X (.inl c)⟩) (λn0=>?_)
 refine⟨_,rfl,λc1 ae=>⟨m,c1,p,(1,1),rfl,C,ae _,u,af,_,rfl,?_⟩⟩
 show if(!Gx p (1,1))=true then _ else _
 refine KZ (λc=>⟨by show 1<=sizeLine;decide,X (.inr (by simpa using c))⟩) (λU=>?_)
 have ag:¬G6 p:=λz=>by
  rcases z with z|z
  ·exact n0 z
  ·rw[z]at U;exact U rfl
 have q:=q ag
 have y1:Gx p (1,1)=true:=by simpa using U
 have ao:=Paired.len g
 have ak:=o.ne
 obtain⟨v0,aj,a0,f0,g0,rfl,h1,h2,h3⟩:=Paired.get g (cD (show 0<a.length from ak))
 refine⟨_,rfl,L,B,0,_,rfl,rfl,G,t9 aj,a0,_,0,_,rfl,rfl,h1,rfl,?_⟩
 have e1:cw a 1=(a[0]).1:=by
  have:=cw_succ (cD (show 0<a.length by omega))
  rw[cw_zero,fe]at this
  exact this
 refine⟨λk σ t=>∃(i:Nat) (Z:V),k=a.length-i/\i<a.length/\Same H t/\σ=[some (.ref L),some (.ref m),some (.int i),some Z]/\IsF K t Z (FQ.red (cw a (i+1)) T)/\∀j,j<i->Gx p (FQ.red (cw a (j+1)) T)=false,
  ⟨_,0,.ref f0,rfl,by omega,Same.refl _,rfl,by rw[oH,e1];exact h2,λj hj=>absurd hj (gJ _)⟩,λk σ t hP=>?_⟩
 obtain⟨i,Z,rfl,v,d,rfl,ac,N⟩:=hP
 obtain⟨O,rfl,y⟩:=ac
 have bd:=o.bd (i:=i+1) v
 have zc:Sz 4000 (FQ.red (cw a (i+1)) T):=wW r (by omega) (by omega)
 refine⟨_,rfl,_,rfl,m,O,p,FQ.red (cw a (i+1)) T,rfl,d.tup C,y,u,zc,_,rfl,?_⟩
 show if(!Gx p (FQ.red (cw a (i+1)) T))=true then _ else _
 refine KZ (λc=>?_) (λc=>?_)
 ·have cn:Gx p (FQ.red (cw a (i+1)) T)=false:=by simpa using c
  have l:i+1<a.length:=by
   refine dU λz=>?_
   have e:i+1=a.length:=jn v (fh z)
   rw[e,o.tot,zM r,y1]at cn
   cases cn
  obtain⟨v1,D,a1,f1,g1,rfl,W,k2,k3⟩:=Paired.get g (cD l)
  obtain⟨_,Y,ab⟩:=id k2
  cases Y
  have wb:=o.w1 _ (db l)
  have ap:=o.w2 _ (db l)
  refine⟨_,(λam t z=>z),?_⟩
  refine⟨_,rfl,_,_,rfl,rfl,?_⟩
  refine⟨_,rfl,_,rfl,_,rfl,L,B,_,_,rfl,rfl,d.seq G,by show Ic B ((i:Int)+1)=_;exact uE (mV (ea _) (by decide)) (by rw[show((i:Int)+1).toNat=i+1 by omega];exact D),a1,_,0,_,rfl,rfl,d.tup W,rfl,O,f1,_,_,rfl,y,d.tup ab,zc,wW r (by omega) (by omega),λpf H2 S2 R=>?_⟩
  rw[yq r,<-cw_succ (cD l)]at R
  exact⟨a.length-(i+1),by omega,i+1,.ref pf,rfl,l,d.trans S2,rfl,⟨pf,rfl,SqT.of R⟩,λj hj=>by
   rcases f4.mp hj with z|z
   ·exact N j z
   ·rw[z];exact cn⟩
 ·have cy:Gx p (FQ.red (cw a (i+1)) T)=true:=by simpa using c
  obtain⟨v1,D,a1,f1,g1,rfl,W,k2,k3⟩:=Paired.get g (cD v)
  refine⟨_,rfl,_,rfl,L,B,_,_,rfl,rfl,d.seq G,t9 D,a1,_,1,_,rfl,rfl,d.tup W,rfl,?_⟩
  refine q i (.ref g1) t ⟨v,cy,N⟩ d ⟨g1,rfl,?_⟩
  rw[cA,cD v]
  exact d.tup k3
theorem Jr:Dn P w K mg base Ge 1 "is_listing" ["value"] (Jc K):=by
 have b:F6 ["value"] ["value"] (F3 (F8 38)):=GE;have m:=b.nd;refine M.bb.ok b (λvs H Q E h=>?_) (λ_ _ _ _ _ _ e j=>Kv (λ_=>rfl) e j) (λf k A d s H vs Q E l h=>?_)
 ·obtain⟨v,t,rfl,c,q⟩:=h;rfl
 obtain⟨v,t,rfl,c,q⟩:=h;refine⟨_,(sU (s9 (sV CN rfl M.aa Boot.«isinstance» (me (pv 0) (me (tQ (me (uV rfl M.af Boot.«list») (me (uV rfl M.ag Boot.«tuple») sS))) sS))))),?_⟩
 try dsimp -proj only[tJ,tz,tx]
 refine⟨_,rfl,by show 2<=sizeLine;decide,λg a=>?_⟩;exact⟨v,g,t,rfl,SqT.of sQ,c.mono (nJ a _),q _ (nJ a _)⟩
theorem Jl
  (d:Dn P w K mg base Ge 1 "is_listing" ["value"] (Jc K)):Dn P w K mg base Ge 2 "has_people" ["rows"] (JC K):=by
 have j:F6 ["rows"] ["rows"] (F3 (F8 39)):=GE
 have z:=j.nd
 refine M.bc.ok j (λvs H Q E h=>?_) (λ_ _ _ _ _ _ b x=>Kv (λ_=>rfl) b x) (λf y A p s H vs Q E v h=>?_)
 ·obtain⟨a,b,rfl,g,q⟩:=h
  rfl
 obtain⟨a,b,rfl,g,q⟩:=h
 refine⟨_,(sU (s9 (vH (tF d v (by decide) rfl F9 (me (pv 0) sS)) (xj (Aj Bi Bi sT (sV tm rfl M.ac dL (me (pv 0) sS)) (CM M.a9)))))),?_⟩
 try dsimp -proj only[tJ,tz,tx]
 have o:∃t,tyOf K H (.ref a) t/\(Im t "list"||Im t "tuple")=true:=by
  rcases g with g|g
  ·exact⟨"list",.inl ⟨rfl,_,g⟩,rfl⟩
  ·exact⟨"tuple",.inr ⟨rfl,_,g⟩,rfl⟩
 obtain⟨t,u,r⟩:=o
 refine⟨_,rfl,.ref a,t,rfl,u,λk l=>⟨_,rfl,?_⟩⟩
 rw[r]
 refine Gu ?_
 have n:SqL K k a b\/SqT K k a b:=g.imp l.seq l.tup
 refine⟨_,rfl,a,b,rfl,n,_,_,rfl,rfl,_,rfl,?_⟩
 have m:=q k l
 refine Gq (λc=>?_) (λc=>?_)
 ·refine⟨_,_,rfl,rfl,?_⟩
  have e:decide ((b.length:Int)<=6)=decide (1<=b.length/\b.length<=6):=by
   apply gF.mpr;simp only[decide_eq_true_eq];omega
  dsimp only
  rw[e]
  exact m
 ·have e:decide (1<=b.length/\b.length<=6)=false:=decide_eq_false (by omega)
  rw[e]at m
  exact m
theorem Jy:Dn P w K mg base Ge 1 "best_free" ["wish","taken"] (J4 K):=by
 have p:F6 ["wish","taken"] ["wish","taken"] (F3 (F8 41)):=GE;have J:=p.nd;refine M.bp.ok p (λvs H Q E h=>?_) (λ_ _ _ _ _ _ D o=>Ia (λ_ _=>rfl) D o) (λf G A C s H vs Q E I h=>?_)
 ·obtain⟨w,l,a,d,rfl,v,o,B,r,q⟩:=h;rfl
 obtain⟨w,l,a,d,rfl,v,o,B,r,q⟩:=h;refine⟨_,(sU (s9 (ti tw (ug rfl (N:=["thing","taken"]) (caps:=[none,some 1]) (CompOk.of (by kernel_rfl)) (tI rfl) (wV (pv 0)) (λ_ _ _ _=>(tj (i:=0) (show(["thing","taken"]:List Str).Nodup by decide +kernel) rfl (Or.inl rfl) (Or.inr rfl))) (λ_ _ _ _=>(vC (sX (v6 (K:=K) rfl) (pv 0) (pv 1) (by with_unfolding_all rfl)))) (λ_ _ _ _=>(pv 0))) sT (λ_ _=>rfl)))),?_⟩
 try dsimp -proj only[tJ,tz,tx]
 refine⟨_,rfl,w,rfl,⟨_,v⟩,?_⟩;refine vO (xs:=a.map V.int) (λj n m=>m=H/\n=(GV (a.take j) d).map V.int)
  ⟨rfl,rfl⟩ (λj n m _ g=>by rw[g.1];exact v) (λj y n m e g=>?_) (λn m g F x=>?_)
 ·obtain⟨rfl,rfl⟩:=g;rw[cL]at e
  cases k:a[j]? with
  | none=>rw[k]at e;cases e
  | some u=>
   rw[k]at e;have z:V.int u=y:=Option.some.inj e;subst z;refine⟨_,rfl,_,rfl,l,_,rfl,o,rfl,xk _,_,rfl,?_⟩;have b:((GV (a.take j) d).map V.int).length<sizeLine:=by
    rw[cx];have h1:=er (λt=>!decide (t∈d)) (a.take j);rw[cX]at h1;exact F4 (by unfold GV;omega)
   show if(!Js (.int u) (d.map V.int))=true then _ else _
   unfold GV at b ⊢;rw[yb,dg,k,hI,cV];refine Ir (λc=>?_) (λc=>?_)
   ·refine⟨_,rfl,b,rfl,?_⟩;simp[c]
   ·refine⟨rfl,?_⟩;simp[c]
 ·obtain⟨rfl,rfl⟩:=g;rw[cx,dy];exact⟨F,_,0,_,rfl,rfl,SqL.of sQ,uE (by decide) (by show _=_;rw[show(0:Int).toNat=0 from rfl];rw[cL,(yB r).1];rfl),q _ (nJ x _)⟩
theorem Kx:Dn P w K mg base Ge 1 "with_one" ["numbers","number"] (IW K):=by
 have d:F6 ["numbers","number"] ["numbers","number"] (F3 (F8 42)):=GE;have D:=d.nd;refine M.bG.ok d (λvs H Q E h=>?_) (λ_ _ _ _ _ _ o g=>Ia (λ_ _=>rfl) o g) (λf y A n s H vs Q E C h=>?_)
 ·obtain⟨a,k,x,rfl,hA,b,q⟩:=h;rfl
 obtain⟨a,k,x,rfl,hA,b,q⟩:=h;refine⟨_,(sU (s9 (tP ux rfl M.ag Boot.«tuple» (me (sV (zA) rfl M.al Boot.«sorted» (me (sZ Cm (pv 0) (tQ (me (pv 1) sS))) sS)) sS)))),?_⟩
 try dsimp -proj only[tJ,tz,tx]
 refine⟨_,rfl,_,rfl,by show 1<=sizeLine;decide,λc m=>?_⟩;have e:Same H (upd H c (.tup [.int x])):=nJ m _;have h1:SqT K (upd H c (.tup [.int x])) c (([x]:List Int).map V.int):=SqT.of sQ;generalize upd H c (.tup [.int x])=B at e h1 ⊢;refine FF (e.tup hA) h1 (by simp;exact cO b (by decide)) λt z r h2=>?_;refine⟨t,k++[x],rfl,.inr h2,by simp;exact m3 (dP b (by decide)) _,λl v g hp u=>?_⟩;refine⟨l,_,rfl,.inl ⟨SqL.of sQ,λp j=>q p _ (e.trans (r.trans ((nJ g _).trans (nJ j _)))) ?_⟩⟩;rw[TM.srt_eq hp u];exact SqT.of sQ
theorem Jg
  (k:Dn P w K mg base Ge 1 "best_free" ["wish","taken"] (J4 K)):Dn P w K mg base Ge 2 "turns_from" ["wishes","gone","taken"] (Jv K):=by
 have O:F6 ["wishes","gone","taken","people"] ["wishes","gone","taken"] (F3 (F8 43)):=GE
 have nd:=O.nd
 refine M.be.ok O (λvs H Q E h=>?_) (λ_ _ _ _ _ _ us hl=>K1 (λ_ _ _=>rfl) us hl) (λf ak A aj s H vs Q E hr h=>?_)
 ·obtain⟨a,g,t,z,W,n,b,rfl,hA,U,B,X,ht,I,q⟩:=h
  rfl
 obtain⟨a,g,t,z,W,n,b,rfl,hA,U,B,X,ht,I,q⟩:=h
 refine⟨_,(sR (ut (i:=3) nd rfl rfl rfl rfl (N:=["person","gone"]) (caps:=[none,some 1]) (CompOk.of (by kernel_rfl)) (tI rfl) (tS rfl M.ae (me (sV tm rfl M.ac dL (me (pv 0) sS)) sS)) (λ_ _ _ _=>(tj (i:=0) (show(["person","gone"]:List Str).Nodup by decide +kernel) rfl (Or.inl rfl) (Or.inr rfl))) (λ_ _ _ _=>(vC (sX (v6 (K:=K) rfl) (pv 0) (pv 1) (by with_unfolding_all rfl)))) (λ_ _ _ _=>(pv 0)))
   (sU (s9 (ug rfl (N:=["person","wishes","taken"]) (caps:=[none,some 0,some 2]) (CompOk.of (by kernel_rfl)) (tI rfl) (uy (pv 3)) (λ_ _ _ _=>(tj (i:=0) (show(["person","wishes","taken"]:List Str).Nodup by decide +kernel) rfl (Or.inl rfl) (Or.inr rfl))) (λ_ _ _ _=>ud) (λ_ _ _ _=>(tQ (me (pv 0) (me (tF k hr (by decide) rfl F9 (me (ti (u6 (K:=K) rfl) (pv 1) (pv 0) (λ_ _=>rfl)) (me (pv 2) sS))) sS)))))))),?_⟩
 try dsimp -proj only[tJ,tz,tx]
 have ah:=Paired.len U
 have am:=B.lo
 have al:=B.hi
 have ag:=B.len
 have R:z.length=n:=ag▸ah
 refine⟨_,rfl,a,z,rfl,.inl hA,_,rfl,by omega,by omega,?_⟩
 refine xL (n:=z.length) (λi d m=>m=H/\d=(((LM.rng n).take i).filter λp=>!decide (p∈b.1)).map V.int) ⟨rfl,rfl⟩ (λi d m hi e=>?_) (λd m e D hD=>?_)
 ·obtain⟨rfl,rfl⟩:=e
  have af:(LM.rng n)[i]?=some (i:Int):=by unfold LM.rng;rw[cL,eg (R▸hi)];rfl
  have S:((((LM.rng n).take i).filter λp=>!decide (p∈b.1)).map V.int).length<sizeLine:=by
   rw[cx]
   have h1:=er (λp=>!decide (p∈b.1)) ((LM.rng n).take i)
   rw[cX]at h1
   exact F4 (by omega)
  refine⟨_,rfl,_,rfl,g,_,rfl,.inr X,rfl,xk _,_,rfl,?_⟩
  show if(!Js (.int (0+(i:Int))) (b.1.map V.int))=true then _ else _
  rw[fe,yb,dg,af,hI,cV]
  refine Ir (λc=>?_) (λc=>?_)
  ·refine⟨_,rfl,S,rfl,?_⟩
   simp[c]
  ·refine⟨rfl,?_⟩
   simp[c]
 obtain⟨rfl,rfl⟩:=e
 rw[eh (by rw[LM.rng_len];exact gi (Eq.symm R)),show rP (λp=>!decide (p∈b.1)) (LM.rng n)=TM.freeP n b.1 from rfl]
 have u:Same m (upd m D (.lst ((TM.freeP n b.1).map V.int))):=nJ hD _
 have C:SqL K (upd m D (.lst ((TM.freeP n b.1).map V.int))) D ((TM.freeP n b.1).map V.int):=SqL.of sQ
 generalize upd m D (.lst ((TM.freeP n b.1).map V.int))=H2 at u C ⊢
 refine⟨_,rfl,D,rfl,⟨_,C⟩,?_⟩
 refine ur (xs:=(TM.freeP n b.1).map V.int) (λj d F=>Same H2 F/\dJ (IsF K F) d ((Gv n W b).take j)) ⟨Same.refl _,by rw[eY];exact .nil⟩ (λj d F _ e=>e.1.seq C) (λj y d F T e=>?_) (λd F e De v=>?_)
 ·obtain⟨r,l⟩:=e
  have hj:j<(TM.freeP n b.1).length:=by have:=(cT.mp T).1;rw[cx]at this;exact this
  obtain⟨p,hp⟩:∃p,(TM.freeP n b.1)[j]?=some p:=⟨_,cD hj⟩
  rw[cL,hp]at T
  cases T
  have Z:=LM.mem_rng.mp (ef.mp (dh hp)).1
  have x:p.toNat<W.length:=by omega
  have o:=B.pm _ (db x)
  have eW:W.getD p.toNat []=W[p.toNat]:=HM.getD_lt x
  obtain⟨wv,aa,ai⟩:=Paired.get U (cD x)
  obtain⟨wa,rfl,L⟩:=ai.mono (u.trans r)
  have ab:=Paired.len l
  rw[cX]at ab
  have an:(TM.freeP n b.1).length<=n:=by
   have h1:=er (λp=>!decide (p∈b.1)) (LM.rng n)
   rw[LM.rng_len]at h1
   exact h1
  have et:(Gv n W b)[j]?=some (p,GY W[p.toNat] b.2):=by
   unfold Gv
   rw[cL,hp]
   show some (p,GZ W p b.2)=_
   unfold GZ
   rw[eW]
  have G:=o.len
  generalize W[p.toNat]=Y at L o et G
  refine⟨_,rfl,_,rfl,_,rfl,a,z,_,_,rfl,rfl,(u.trans r).seq hA,uE Z.1 aa,_,rfl,wa,t,Y,b.2,rfl,L,.inr ((u.trans r).tup ht),by omega,CY o I,λH4 S4=>⟨by show 2<=sizeLine;decide,λpt J=>⟨F4 (by omega),r.trans (S4.trans (nJ J _)),?_⟩⟩⟩
  rw[dg,et]
  exact Paired.app (tq (S4.trans (nJ J _)) l) (.cons ⟨pt,rfl,SqT.of sQ⟩ .nil)
 ·obtain⟨r,l⟩:=e
  rw[eh (by unfold Gv;rw[cx,cx];exact cI _)]at l
  exact q De d _ (u.trans (r.trans (nJ v _))) ((u.trans r).free v) sQ (tq (nJ v _) l)
theorem J8:Dn P w K mg base Ge 1 "orders_of" ["count"] (Ht):=by
 have a:F6 ["count","orders","number"] ["count"] (F3 (F8 44)):=GE;have d:=a.nd;refine M.bq.ok a (λvs H Q E h=>?_) (λ_ _ _ _ _ _ l m=>Kv (λ_=>rfl) l m) (λf o A j s H vs Q E p h=>?_)
 ·obtain⟨k,rfl,hk,q⟩:=h;rfl
 obtain⟨k,rfl,hk,q⟩:=h;refine⟨_,(sR (sW (i:=1) d rfl (Or.inl rfl) sT)
   (sR (uH dV rfl (Ci rfl M.ae (me sT (me (sZ t6 (pv 0) sT) sS))) (tj (i:=2) d rfl (Or.inl rfl)) (sU (sW (i:=1) d rfl (Or.inl rfl) (sZ t7 (pv 1) (pv 2)))))
   (sU (s9 (pv 1))))),?_⟩
 try dsimp -proj only[tJ,tz,tx]
 refine⟨_,rfl,_,_,rfl,rfl,_,_,rfl,⟨by decide,by omega,by omega,by omega⟩,?_⟩;have e:((k:Int)+1-1).toNat=k:=by omega
 show ∃_,_;rw[e];refine ua (n:=k) (λi c b=>b=H/\∃r,c=[some (.int k),some (.int (TM.fct i)),r]) ⟨rfl,_,rfl⟩ (λi c b t g=>?_) (λc b g=>?_)
 ·obtain⟨rfl,r,rfl⟩:=g;refine⟨_,rfl,_,rfl,_,_,rfl,rfl,LD (by omega),rfl,some (.int (1+(i:Int))),?_⟩;rw[show TM.fct (i+1)=TM.fct i*(1+(i:Int))by show TM.fct i*((i:Int)+1)=_;rw[rB (i:Int) 1]];rfl
 ·obtain⟨rfl,r,rfl⟩:=g;exact⟨_,rfl,q⟩
theorem J5
  (ab:Dn P w K mg base Ge 1 "orders_of" ["count"] (Ht))
  (T:Dn P w K mg base Ge 2 "turns_from" ["wishes","gone","taken"] (Jv K))
  (J:Dn P w K mg base Ge 1 "with_one" ["numbers","number"] (IW K)):Dn P w K mg base Ge 3 "counts_of" ["wishes"] (JR P w K):=by
 have bb:F6 ["wishes","counts","beginnings","turn","endings","longer","beginning","number","person","thing","state"] ["wishes"] (F3 (F8 45)):=GE
 have R:=bb.nd
 refine M.br.ok bb (λvs H Q E h=>?_) (λ_ _ _ _ _ _ us hl=>Kv (λ_=>rfl) us hl) (λf bP A bN s H vs Q E hr h=>?_)
 ·obtain⟨a,ws,W,n,rfl,hA,hW,ok,q⟩:=h
  rfl
 obtain⟨a,ws,W,n,rfl,hA,hW,ok,q⟩:=h
 refine⟨_,(sR (sW (i:=1) R rfl (Or.inl rfl) (BJ (W:=Ih) (P:=P) (w:=w) (K:=K) rfl rfl rfl))
   (sR (sW (i:=2) R rfl (Or.inl rfl) (DR (W:=Ij) (P:=P) (w:=w) (K:=K) rfl rfl rfl hr (tQ (me (tQ sS) (me (tQ sS) sS))) sT))
   (sR (uH dV rfl (tS rfl M.ae (me (sV tm rfl M.ac dL (me (pv 0) sS)) sS)) (tj (i:=3) R rfl (Or.inl rfl)) (sR (sW (i:=4) R rfl (Or.inl rfl) (tF ab hr (by decide) rfl F9 (me (sZ xK (sZ xK (sV tm rfl M.ac dL (me (pv 0) sS)) (pv 3)) sT) sS)))
   (sR (sW (i:=5) R rfl (Or.inl rfl) (BJ (W:=Ij) (P:=P) (w:=w) (K:=K) rfl rfl rfl))
   (sR (uH dV rfl (DF (W:=Ij) (P:=P) (w:=w) (K:=K) rfl rfl rfl (pv 2)) (zd rfl (tX (tj (i:=6) R rfl (Or.inl rfl)) (tX (tj (i:=7) R rfl (Or.inl rfl)) vc))) (sU (uH dV rfl (uy (tF T hr (by decide) rfl F9 (me (pv 0) (me (ti tD (pv 6) sT (λ_ _=>rfl)) (me (ti tD (pv 6) sT (λ_ _=>rfl)) sS))))) (zd rfl (tX (tj (i:=8) R rfl (Or.inl rfl)) (tX (tj (i:=9) R rfl (Or.inl rfl)) vc))) (sR (wr (sZ t6 (zE (W:=Ih) (P:=P) (w:=w) (K:=K) rfl rfl rfl hr (pv 1) (tQ (me (pv 8) (me (pv 9) sS))) sT) (sZ t7 (pv 7) (pv 4))) (xv (pv 1) (tQ (me (pv 8) (me (pv 9) sS))) (FB (W:=Ih) (P:=P) (w:=w) (K:=K) rfl rfl rfl hr)))
   (sR (sW (i:=10) R rfl (Or.inl rfl) (tQ (me (tF J hr (by decide) rfl F9 (me (ti tD (pv 6) sT (λ_ _=>rfl)) (me (pv 8) sS))) (me (tF J hr (by decide) rfl F9 (me (ti tD (pv 6) sT (λ_ _=>rfl)) (me (pv 9) sS))) sS))))
   (sU (wr (sZ t6 (zE (W:=Ij) (P:=P) (w:=w) (K:=K) rfl rfl rfl hr (pv 5) (pv 10) sT) (pv 7)) (xv (pv 5) (pv 10) (FB (W:=Ij) (P:=P) (w:=w) (K:=K) rfl rfl rfl hr)))))))))
   (sU (sW (i:=2) R rfl (Or.inl rfl) (pv 5)))))))
   (sU (s9 (pv 1)))))),?_⟩
 try dsimp -proj only[tJ,tz,tx]
 have bI:=Paired.len hW
 have bS:=ok.lo
 have aq:=ok.hi
 have bF:=ok.len
 have bc:ws.length=n:=bF▸bI
 have aj:(0:Nat)<=sizeLine:=by decide
 have y:(2:Nat)<=sizeLine:=by decide
 refine λc H1 bh aC aG=>?_
 have S1:Same H H1:=by obtain⟨φ,rfl⟩:=aC;exact nJ bh _
 clear aC
 refine λm H2 U aI aK=>?_
 have al:H m=none:=S1.free U
 have S2:Same H1 H2:=by obtain⟨φ,rfl⟩:=aI;exact nJ U _
 have Z:c≠m:=λz=>by obtain⟨φ,e⟩:=aG.ext;rw[z,U]at e;cases e
 clear aI
 refine⟨aj,λF bf=>⟨aj,λD aT=>⟨y,λp3 au=>?_⟩⟩⟩
 have S3:Same H2 (upd (upd (upd H2 F (.tup [])) D (.tup [])) p3 (.tup [.ref F,.ref D])):=(nJ bf _).trans ((nJ aT _).trans (nJ au _))
 have aH:SqT K (upd (upd (upd H2 F (.tup [])) D (.tup [])) p3 (.tup [.ref F,.ref D])) p3 [.ref F,.ref D]:=SqT.of sQ
 have aO:SqT K (upd (upd (upd H2 F (.tup [])) D (.tup [])) p3 (.tup [.ref F,.ref D])) F (([]:List Int).map V.int):=SqT.of (nJ au _ _ _ (nJ aT _ _ _ sQ))
 have aZ:SqT K (upd (upd (upd H2 F (.tup [])) D (.tup [])) p3 (.tup [.ref F,.ref D])) D (([]:List Int).map V.int):=SqT.of (nJ au _ _ _ sQ)
 generalize upd (upd (upd H2 F (.tup [])) D (.tup [])) p3 (.tup [.ref F,.ref D])=H3 at S3 aH aO aZ ⊢
 refine⟨p3,([],[]),1,rfl,rfl,⟨F,D,aH,aO,aZ⟩,aK.mono S3,λH4 aY a0=>?_⟩
 have ba:=(aK.mono S3).ext
 have X4:KX [m] H3 H4:=KX.put (λb hb=>by rw[cK.mp hb];exact ba) (cK.mpr rfl) aY
 have aX:Same H H4:=X4.same (S1.trans (S2.trans S3)) λb hb=>by rw[cK.mp hb];exact al
 have a5:DictI Ih P w K H4 c []:=by
  obtain⟨ep,hC⟩:=aG
  exact⟨ep,X4.dict (hC.mono (S2.trans S3)) (λz=>Z (cK.mp z))⟩
 clear X4 aY ba S3 aH aO aZ aK aG S1 S2 bf aT au U
 refine⟨_,rfl,a,ws,rfl,.inl (aX.seq hA),_,rfl,by omega,by omega,?_⟩
 obtain⟨P1,ar⟩:∃P1:Nat->L2.St->Hp->Prop,∀k o H5,P1 k o H5↔(Same H H5/\∃(m:cG) (C:List (List Int×Int)) (B:List (Gy×Int)) (r3 r4 r5 r6 r7 r8 r9 S:Option V),o=[some (.ref a),some (.ref c),some (.ref m),r3,r4,r5,r6,r7,r8,r9,S]/\H m=none/\c≠m/\
   DictI Ih P w K H5 c C/\CI n W k C/\DictI Ij P w K H5 m B/\BI n W k B):=⟨_,λ_ _ _=>Iff.rfl⟩
 refine ua (n:=ws.length) P1
  ((ar _ _ _).mpr ⟨aX,m,[],_,_,_,_,_,_,_,_,_,rfl,al,Z,a5,CI.zero,a0,BI.zero⟩) (λk o H5 hk u=>?_) (λo H5 u=>?_)
 ·clear aX a5 a0 Z al
  obtain⟨S5,m,C,B,r3,r4,r5,r6,r7,r8,r9,S,rfl,U,Z,hC,ax,hB,ay⟩:=(ar _ _ _).mp u
  have aD:k<n:=bc▸hk
  refine⟨_,rfl,a,ws,rfl,.inl (S5.seq hA),_,rfl,_,_,rfl,rfl,_,_,rfl,rfl,n-(k+1),by show[V.int _]=[V.int _];rw[show(ws.length:Int)-(0+(k:Int))-1=((n-(k+1):Nat):Int)by omega],cO (sD _ _) aq,?_⟩
  have bR:=Ap (show n-(k+1)<=6 by omega)
  refine λl H6 aB aQ bK=>?_
  have bk:H l=none:=S5.free aB
  have S6:Same H5 H6:=by obtain⟨φ,rfl⟩:=aQ;exact nJ aB _
  have aN:c≠l:=λz=>by obtain⟨φ,e⟩:=hC.ext;rw[z,aB]at e;cases e
  have bu:m≠l:=λz=>by obtain⟨φ,e⟩:=hB.ext;rw[z,aB]at e;cases e
  clear aQ
  obtain⟨ep,a8⟩:=hB.mono S6
  have bo:m∉[c,l]:=λz=>by
   rcases da.mp z with z|z
   ·exact Z z.symm
   ·exact bu (cK.mp z)
  have bD:∀b∈[c,l],H b=none:=λb hb=>by
   rcases da.mp hb with z|z
   ·rw[z];exact bh
   ·rw[cK.mp z];exact bk
  have exts:∀{H':Hp} {C:List (List Int×Int)} {L:List (Gy×Int)},DictI Ih P w K H' c C->DictI Ij P w K H' l L->∀b∈[c,l],∃φ,H' b=some (.ext φ):=λh1 h2 b hb=>by
   rcases da.mp hb with z|z
   ·rw[z];exact h1.ext
   ·rw[cK.mp z];exact h2.ext
  refine⟨_,rfl,m,ep,B,rfl,a8,?_⟩
  obtain⟨P2,af⟩:∃P2:Nat->L2.St->Hp->Prop,∀i o O,P2 i o O↔(Same H O/\DictE Ij P w K O m ep B/\∃(r:List (List Int×Int)) (L:List (Gy×Int)) (r6 r7 r8 r9 S:Option V),o=[some (.ref a),some (.ref c),some (.ref m),some (.int (0+(k:Int))),some (.int (TM.fct (n-(k+1)))),some (.ref l),r6,r7,r8,r9,S]/\
    DictI Ih P w K O c r/\DictI Ij P w K O l L/\TI0 n W k B i r L):=⟨_,λ_ _ _=>Iff.rfl⟩
  refine Bg (kvs:=B) P2
   ((af _ _ _).mpr ⟨S5.trans S6,a8,C,[],_,_,_,_,_,rfl,hC.mono S6,bK,TI0.start ax⟩) (λi o O _ u=>((af _ _ _).mp u).2.1) (λi g G ka o O t aR bL ht u=>?_) (λo O u=>?_)
  ·obtain⟨S7,aW,r,L,bx,bG,aS,aV,ao,rfl,az,aA,hT⟩:=(af _ _ _).mp u
   obtain⟨kx,ky,aJ,a1,bj⟩:=bL
   obtain⟨π,a2,aa⟩:=ay.key _ (dh aR)
   have I:=TM.pre_ok a2
   have bU:g.1.length=k:=by rw[show g=GJ W π from aa];show(TM.srt π).length=k;rw[CJ,I.len]
   have bv:g.2.length=k:=by rw[show g=GJ W π from aa];show(TM.srt (KI W π)).length=k;rw[CJ];unfold KI;rw[BE,I.len]
   have S8:Same O (upd O t (.tup [.ref ka,.int G])):=nJ ht _
   have bi:upd O t (.tup [.ref ka,.int G]) t=some (.tup [.ref ka,.int G]):=sQ
   generalize upd O t (.tup [.ref ka,.int G])=H8 at S8 bi ⊢
   refine⟨t,_,rfl,SqT.of bi,rfl,_,_,rfl,_,_,rfl,rfl,?_⟩
   refine⟨_,rfl,_,rfl,ka,_,0,_,rfl,rfl,S8.tup aJ,rfl,_,rfl,ka,_,1,_,rfl,rfl,S8.tup aJ,rfl,a,kx,ky,ws,W,n,g,rfl,(S7.trans S8).seq hA,Paired.mapP hW (λ_ _ h=>h.mono (S7.trans S8)),ok,S8.tup a1,S8.tup bj,bv▸aD,λtl ls H9 S9 bO a6 a7=>?_⟩
   have x:=S8.trans S9
   have bw:=Paired.len a7
   have aE:(Gv n W g).length<=6:=by
    unfold Gv TM.freeP
    rw[cx]
    have h1:=er (λp=>!decide (p∈g.1)) (LM.rng n)
    rw[LM.rng_len]at h1
    exact cO h1 aq
   have bz:=exts (az.mono x) (aA.mono x)
   refine⟨tl,rfl,⟨_,SqL.of a6⟩,?_⟩
   obtain⟨P3,ag⟩:∃P3:Nat->L2.St->Hp->Prop,∀j o N,P3 j o N↔(KX [c,l] H9 N/\∃(r:List (List Int×Int)) (L:List (Gy×Int)) (r8 r9 S:Option V),o=[some (.ref a),some (.ref c),some (.ref m),some (.int (0+(k:Int))),some (.int (TM.fct (n-(k+1)))),some (.ref l),some (.ref ka),some (.int G),r8,r9,S]/\
     DictI Ih P w K N c r/\DictI Ij P w K N l L/\TJ n W k B i g G j r L):=⟨_,λ_ _ _=>Iff.rfl⟩
   refine wH (xs:=ls) P3
    ((ag _ _ _).mpr ⟨KX.refl bz,r,L,_,_,_,rfl,az.mono x,aA.mono x,hT g G⟩) (λj o N _ u=>SqL.of (((ag _ _ _).mp u).1.lst a6)) (λj v o N hv u=>?_) (λo N u=>?_)
   ·obtain⟨XA,r,L,aS,aV,ao,rfl,X,ap,Y⟩:=(ag _ _ _).mp u
    obtain⟨d,aU,pa,rfl,bH⟩:=Paired.get' a7 hv
    have bT:j<6:=by have:=(cT.mp aU).1;exact cJ this aE
    have bQ:i<=7776:=by
     have h1:=(cT.mp aR).1
     have h2:6^k<=6^5:=eK (by decide) (jA (cJ aD aq))
     have h3:=ay.len
     have h4:(6:Nat)^5=7776:=by decide
     omega
    have bm:r.length<=1000000:=by have:=Y.cl;omega
    have bq:L.length<=1000000:=by have:=Y.ll;omega
    refine⟨pa,_,rfl,XA.tup bH,rfl,_,_,rfl,_,_,rfl,rfl,?_⟩
    -- the count
    refine⟨_,rfl,c,rfl,⟨_,X⟩,_,rfl,_,rfl,y,λpk a4=>?_⟩
    have SB:Same N (upd N pk (.tup [.int d.1,.int d.2])):=nJ a4 _
    have an:SqT K (upd N pk (.tup [.int d.1,.int d.2])) pk (([d.1,d.2]:List Int).map V.int):=SqT.of sQ
    generalize upd N pk (.tup [.int d.1,.int d.2])=HB at SB an ⊢
    refine⟨pk,[d.1,d.2],0,r,rfl,rfl,X.mono SB,an,?_⟩
    refine⟨_,rfl,_,rfl,_,_,rfl,rfl,LD (by omega),_,_,rfl,rfl,?_⟩
    refine⟨_,rfl,_,rfl,_,rfl,y,λai aP=>?_⟩
    have SC:Same HB (upd HB ai (.tup [.int d.1,.int d.2])):=nJ aP _
    have am:SqT K (upd HB ai (.tup [.int d.1,.int d.2])) ai (([d.1,d.2]:List Int).map V.int):=SqT.of sQ
    generalize upd HB ai (.tup [.int d.1,.int d.2])=HC at SC am ⊢
    refine⟨c,ai,[d.1,d.2],_,r,rfl,rfl,rfl,X.mono (SB.trans SC),am,bm,λHD ak bs=>?_⟩
    have ah:=SB.trans SC
    have a3:=exts (X.mono ah) (ap.mono ah)
    have XD:KX [c,l] N HD:=(KX.of ah XA.is).trans (KX.put a3 cM ak)
    have bB:DictI Ij P w K HD l L:=by
     obtain⟨e2,hL⟩:=ap.mono ah
     obtain⟨φ,bM,h1,rfl⟩:=ak
     exact⟨e2,hL.overX h1 (Ne.symm aN)⟩
    clear ak a3 am an SB SC ah a4 aP
    -- the state
    have aw:=XA.trans XD
    have be:=aw.tup ((x).tup aJ)
    refine⟨_,rfl,ka,_,0,_,rfl,rfl,be,rfl,_,rfl,kx,g.1,d.1,rfl,aw.tup (x.tup a1),by omega,λq1 HE SE bE=>?_⟩
    refine⟨_,rfl,ka,_,1,_,rfl,rfl,SE.tup be,rfl,_,rfl,ky,g.2,d.2,rfl,SE.tup (aw.tup (x.tup bj)),by omega,λq2 HF SF bJ=>?_⟩
    refine⟨y,λqs aL=>?_⟩
    have SG:Same HD (upd HF qs (.tup [.ref q1,.ref q2])):=SE.trans (SF.trans (nJ aL _))
    have aM:Ij.at' K (upd HF qs (.tup [.ref q1,.ref q2])) (Hg g d) qs:=⟨q1,q2,SqT.of sQ,(SF.trans (nJ aL _)).tup bE,(nJ aL _).tup bJ⟩
    generalize upd HF qs (.tup [.ref q1,.ref q2])=HG at SG aM ⊢
    have av:=bB.mono SG
    refine⟨_,rfl,l,rfl,⟨_,av⟩,_,rfl,qs,Hg g d,0,L,rfl,rfl,av,aM,?_⟩
    refine⟨_,rfl,_,_,rfl,rfl,?_⟩
    refine⟨_,rfl,_,rfl,l,qs,Hg g d,_,L,rfl,rfl,rfl,av,aM,bq,λHI aF bC=>?_⟩
    have a9:=bs.mono SG
    have bA:=exts a9 av
    have XI:KX [c,l] HD HI:=(KX.of SG XD.is).trans (KX.put bA (cN _ (cK.mpr rfl)) aF)
    have bl:DictI Ih P w K HI c (Ju r [d.1,d.2] (G*TM.fct (n-(k+1)))):=by
     obtain⟨e2,hC⟩:=a9
     obtain⟨φ,bM,h1,rfl⟩:=aF
     exact⟨e2,hC.overX h1 aN⟩
    refine(ag _ _ _).mpr ⟨aw.trans XI,_,_,_,_,_,rfl,bl,bC,Y.step aU ?_⟩
    rw[show g=GJ W π from aa]
    exact DE a2 (by rw[<-show g=GJ W π from aa];exact dh aU)
   ·obtain⟨XA,r,L,aS,aV,ao,rfl,X,ap,Y⟩:=(ag _ _ _).mp u
    rw[bw]at Y
    exact(af _ _ _).mpr ⟨XA.same (S7.trans x) bD,XA.dict (aW.mono x) bo,r,L,_,_,_,_,_,rfl,X,ap,Y.done aR aE⟩
  ·obtain⟨S7,aW,r,L,bx,bG,aS,aV,ao,rfl,az,aA,hT⟩:=(af _ _ _).mp u
   obtain⟨bp,bn⟩:=TI0.finish ay (cJ aD aq) hT
   exact⟨_,rfl,(ar _ _ _).mpr ⟨S7,l,r,L,_,_,_,_,_,_,_,_,rfl,bk,aN,az,bp,aA,bn⟩⟩
 ·obtain⟨S5,m,C,B,r3,r4,r5,r6,r7,r8,r9,S,rfl,U,Z,hC,ax,hB,ay⟩:=(ar _ _ _).mp u
  rw[bc]at ax
  exact⟨_,rfl,q c C H5 S5 hC ax⟩
theorem Hz
  (a:Dn P w K mg base Ge 1 "orders_of" ["count"] (Ht))
  (e:Dn P w K mg base (Hj P w) 2 "fraction" ["top","bottom"] (GI x)):Dn P w K mg base Ge 3 "shares_by_turns" ["counts","person","count"] (J2 P w K):=by
 have y:F6 ["counts","person","count","orders"] ["counts","person","count"] (F3 (F8 46)):=GE
 have X:=y.nd
 refine M.aG.ok y (λvs H Q E h=>?_) (λ_ _ _ _ _ _ T Z=>K1 (λ_ _ _=>rfl) T Z) (λf aa A S s H vs Q E F h=>?_)
 ·obtain⟨d,C,W,n,p,rfl,G,k,o,q⟩:=h
  rfl
 obtain⟨d,C,W,n,p,rfl,G,k,o,q⟩:=h
 refine⟨_,(sR (sW (i:=3) X rfl (Or.inr rfl) (tF a F (by decide) rfl F9 (me (pv 2) sS)))
   (sU (s9 (tP ux rfl M.ag Boot.«tuple» (me (ug rfl (N:=["thing","counts","person","orders"]) (caps:=[none,some 0,some 1,some 3]) (CompOk.of (by kernel_rfl)) (tI rfl) (tS rfl M.ae (me (pv 2) sS)) (λ_ _ _ _=>(tj (i:=0) (show(["thing","counts","person","orders"]:List Str).Nodup by decide +kernel) rfl (Or.inl rfl) (Or.inr rfl))) (λ_ _ _ _=>ud) (λ_ _ _ _=>(tF e F (by decide) rfl JZ (me (zE (W:=Ih) (P:=P) (w:=w) (K:=K) rfl rfl rfl F (pv 1) (tQ (me (pv 2) (me (pv 0) sS))) sT) (me (pv 3) sS))))) sS))))),?_⟩
 try dsimp -proj only[tJ,tz,tx]
 have hf:=Ap o
 refine⟨_,rfl,n,rfl,o,?_⟩
 refine⟨_,rfl,_,rfl,by omega,by omega,?_⟩
 refine uY (n:=n) (λi j b=>Same H b/\dJ (IsF K b) j ((GW n W p).take i)) ⟨Same.refl _,by rw[eY];exact .nil⟩ (λi j b hi I=>?_) (λj b I D Y=>?_)
 ·obtain⟨g,c⟩:=I
  have R:=Paired.len c
  rw[cX]at R
  refine⟨_,rfl,d,rfl,⟨_,G.mono g⟩,_,rfl,_,rfl,by show 2<=sizeLine;decide,λr O=>?_⟩
  rw[fe]
  have u:Same b (upd b r (.tup [.int p,.int (i:Int)])):=nJ O _
  have t:SqT K (upd b r (.tup [.int p,.int (i:Int)])) r (([p,(i:Int)]:List Int).map V.int):=SqT.of sQ
  generalize upd b r (.tup [.int p,.int (i:Int)])=H2 at u t ⊢
  refine⟨r,[p,(i:Int)],0,C,rfl,rfl,G.mono (g.trans u),t,_,rfl,L1 C [p,(i:Int)],TM.fct n,rfl,λz=>by omega,λ_=>⟨wM (m:=30) (by omega) (by decide),λpf H3 L v=>⟨F4 (by omega),g.trans (u.trans L),?_⟩⟩⟩
  rw[DT C k.kn n W k.sum]at v
  rw[dg,show(GW n W p)[i]?=some (FQ.red (GM n W (λl=>Ip p i (l.getD 0 0) (l.getD 1 0)) n) (TM.fct n))by unfold GW;rw[cL,eg hi];rfl]
  exact Paired.app (tq (u.trans L) c) (.cons ⟨pf,rfl,SqT.of v⟩ .nil)
 ·obtain⟨g,c⟩:=I
  rw[eh (by rw[AF];exact cI _)]at c
  have B:=nJ Y (.lst j)
  exact⟨D,j,rfl,.inl ⟨SqL.of sQ,λU J=>q U j _ (g.trans (B.trans (nJ J _))) (g.free (B.free J)) sQ (tq (B.trans (nJ J _)) c)⟩⟩
theorem Kf
  (c:Dn P w K mg base Ge 3 "counts_of" ["wishes"] (JR P w K))
  (b:Dn P w K mg base Ge 3 "shares_by_turns" ["counts","person","count"] (J2 P w K)):Dn P w K mg base Ge 4 "by_turns" ["wishes"] (IU K):=by
 have r:F6 ["wishes","counts"] ["wishes"] (F3 (F8 47)):=GE
 have X:=r.nd
 refine M.bH.ok r (λvs H Q E h=>?_) (λ_ _ _ _ _ _ R Y=>Kv (λ_=>rfl) R Y) (λf ab A L s H vs Q E y h=>?_)
 ·obtain⟨a,j,W,n,rfl,hA,t,p,q⟩:=h
  rfl
 obtain⟨a,j,W,n,rfl,hA,t,p,q⟩:=h
 refine⟨_,(sR (sW (i:=1) X rfl (Or.inr rfl) (tF c y (by decide) rfl F9 (me (pv 0) sS)))
   (sU (s9 (ug rfl (N:=["person","wishes","counts"]) (caps:=[none,some 0,some 1]) (CompOk.of (by kernel_rfl)) (tI rfl) (tS rfl M.ae (me (sV tm rfl M.ac dL (me (pv 0) sS)) sS)) (λ_ _ _ _=>(tj (i:=0) (show(["person","wishes","counts"]:List Str).Nodup by decide +kernel) rfl (Or.inl rfl) (Or.inr rfl))) (λ_ _ _ _=>ud) (λ_ _ _ _=>(tF b y (by decide) rfl F9 (me (pv 2) (me (pv 0) (me (sV (vZ (K:=K) rfl) rfl M.ac dL (me (pv 1) sS)) sS))))))))),?_⟩
 try dsimp -proj only[tJ,tz,tx]
 have x:=Paired.len t
 have B:=p.hi
 have F:=p.len
 have k:j.length=n:=F▸x
 refine⟨_,rfl,a,j,W,n,rfl,hA,t,p,λd C S m U z=>?_⟩
 refine⟨_,rfl,a,j,rfl,.inl (m.seq hA),_,rfl,by omega,by omega,?_⟩
 refine uY (n:=j.length) (λi o l=>Same S l/\dJ (RwG K l) o ((Jw n W).take i)) ⟨Same.refl _,by rw[eY];exact .nil⟩ (λi o l Z v=>?_) (λo l v D u=>?_)
 ·obtain⟨g,e⟩:=v
  have J:=Paired.len e
  rw[cX]at J
  refine⟨_,rfl,_,rfl,_,rfl,a,j,rfl,.inl ((m.trans g).seq hA),d,C,W,n,(i:Int),by show[V.ref d,V.int _,V.int _]=[V.ref d,V.int _,V.int _];rw[k,fe],U.mono g,z,B,λT O H3 I aa hq G=>⟨F4 (by omega),g.trans I,?_⟩⟩
  rw[dg,show(Jw n W)[i]?=some (GW n W i)by unfold Jw;rw[cL,eg (k▸Z)];rfl]
  exact Paired.app (Paired.mapP e λ_ _ h=>h.mono I) (.cons ⟨T,O,rfl,SqT.of hq,G⟩ .nil)
 ·obtain⟨g,e⟩:=v
  rw[eh (by rw[DU];exact gi (Eq.symm k))]at e
  exact q D o _ (m.trans (g.trans (nJ u _))) ((m.trans g).free u) sQ (Paired.mapP e λ_ _ h=>h.mono (nJ u _))
theorem KS:Dn P w K mg base Ge 1 "is_word" ["value"] (Jz):=by
 have j:F6 ["value"] ["value"] (F3 (F8 50)):=GE;have S:=j.nd;refine M.bQ.ok j (λvs H Q E h=>?_) (λ_ _ _ _ _ _ y J=>Kv (λ_=>rfl) y J) (λf L A x s H vs Q E R h=>?_)
 ·obtain⟨z,rfl,l,p,q⟩:=h;rfl
 obtain⟨z,rfl,l,p,q⟩:=h;refine⟨_,(sR (tH (PW.pt (yF (uP (tV (sV tW rfl M.aa Boot.«isinstance» (me (pv 0) (me (uV rfl M.aN Boot.«str») sS))))) (xE (uP (Ai Bi Bi sT (sV vi rfl M.ac dL (me (pv 0) sS)) (CM M.bn)))))) (sU (s9 wj)) sY)
   (sU (s9 (sV (Ab rfl) rfl M.bL Boot.«all» (me (ug rfl (N:=["sign"]) (caps:=[none]) (CompOk.of (by kernel_rfl)) (tI rfl) (Fm (pv 0)) (λ_ _ _ _=>(tj (i:=0) (show(["sign"]:List Str).Nodup by decide +kernel) rfl (Or.inl rfl) (Or.inr rfl))) (λ_ _ _ _=>ud) (λ_ _ _ _=>(Aj zo zo tr (pv 0) tr))) sS))))),?_⟩
 try dsimp -proj only[tJ,tz,tx]
 have v:z.length<=sizeLine:=cZ (F4 l);refine⟨_,rfl,_,"str","str",rfl,by decide,rfl,_,rfl,Gg ?_⟩;refine⟨_,rfl,z,rfl,v,_,_,rfl,rfl,_,rfl,?_⟩;refine Gq (λB=>?_) (λB=>?_);rotate_left
 ·rw[xR (by omega)]at q;exact⟨_,rfl,Gu (q H (Same.refl _))⟩
 refine⟨_,_,rfl,rfl,_,rfl,?_⟩;by_cases u:(z.length:Int)<=12;rotate_left
 ·rw[xR (by omega)]at q;dsimp only;rw[decide_eq_false u];exact Gu (q H (Same.refl _))
 dsimp only;rw[decide_eq_true u];refine Gg ?_;rw[AN (by omega)]at q;refine⟨_,rfl,z,rfl,p,?_⟩;have G:(cU "a").cps.toList=[97]:=by decide +kernel
 have C:(cU "z").cps.toList=[122]:=by decide +kernel
 have a:z.cps.size=z.cps.toList.length:=by simp
 have O:z.cps.toList.length<=1000:=by rw[<-a];exact l
 refine Cp (z:=z) (λi n k=>k=H/\n=((z.cps.toList.take i).map λc=>decide (97<=c)&&decide (c<=122)).map V.bl) ⟨rfl,rfl⟩ (λi c n k t o=>?_) (λn k o D I=>?_)
 ·obtain⟨rfl,rfl⟩:=o;have T:i<z.cps.toList.length:=by rw[<-a];exact(kD.mp t).1
  have d:(((z.cps.toList.take i).map λc=>decide (97<=c)&&decide (c<=122)).map V.bl).length<sizeLine:=F4 (by rw[cx,cx,cX];omega);have r:z.cps.toList[i]?=some c:=by rw[fZ];exact t
  have e:∀b:Bool,b=(decide (97<=c)&&decide (c<=122))->(((z.cps.toList.take i).map λc=>decide (97<=c)&&decide (c<=122)).map V.bl)++[V.bl b]=(((z.cps.toList.take (i+1)).map λc=>decide (97<=c)&&decide (c<=122)).map V.bl):=λb F=>by
   rw[dg,r,cV,cV,F];rfl
  refine⟨_,rfl,_,_,rfl,rfl,_,rfl,?_⟩;show if(!decide ([c]<(cU "a").cps.toList))=true then _ else _
  rw[G];by_cases g:c<97
  ·rw[decide_eq_true (show[c]<[97]by rw[hU];exact .inl g)];exact Gg ⟨d,rfl,e false (by rw[decide_eq_false (pi g)];rfl)⟩
  ·rw[decide_eq_false (show ¬[c]<[97]by rw[hU];simp;exact fh g)];refine Gu ⟨_,_,rfl,rfl,d,rfl,e _ ?_⟩;show(!decide ((cU "z").cps.toList<[c]))=_;rw[C];by_cases m:122<c
   ·rw[decide_eq_true (show[122]<[c]by rw[hU];exact .inl m),decide_eq_false (show ¬c<=122 from pi m),kg];rfl
   ·rw[decide_eq_false (show ¬[122]<[c]by rw[hU];simp;exact fh m),decide_eq_true (show 97<=c from fh g),decide_eq_true (show c<=122 by omega)];rfl
 ·obtain⟨rfl,rfl⟩:=o;rw[a,dy];refine⟨D,_,rfl,SqL.of sQ,?_⟩;rw[rC];exact q _ (nJ I _)
theorem KR
  (d:Dn P w K mg base Ge 2 "has_people" ["rows"] (JC K))
  (g:Dn P w K mg base Ge 1 "is_word" ["value"] (Jz)):Dn P w K mg base Ge 3 "is_roll" ["words"] (JV K):=by
 have x:F6 ["words"] ["words"] (F3 (F8 51)):=GE
 have X:=x.nd
 refine M.bR.ok x (λvs H Q E h=>?_) (λ_ _ _ _ _ _ S C=>Kv (λ_=>rfl) S C) (λf W A R s H vs Q E L h=>?_)
 ·obtain⟨a,b,rfl,hA,y,r,q⟩:=h
  rfl
 obtain⟨a,b,rfl,hA,y,r,q⟩:=h
 refine⟨_,(sU (s9 (vH (tF d L (by decide) rfl F9 (me (pv 0) sS)) (vH (sV (Ab rfl) rfl M.bL Boot.«all» (me (ug rfl (N:=["word"]) (caps:=[none]) (CompOk.of (by kernel_rfl)) (tI rfl) (uy (pv 0)) (λ_ _ _ _=>(tj (i:=0) (show(["word"]:List Str).Nodup by decide +kernel) rfl (Or.inl rfl) (Or.inr rfl))) (λ_ _ _ _=>ud) (λ_ _ _ _=>(tF g L (by decide) rfl F9 (me (pv 0) sS)))) sS)) (xj (uZ uj (Bc rfl rfl M.ac rfl M.bK (pv 0)) (sV tm rfl M.ac dL (me (pv 0) sS)) (F7 _))))))),?_⟩
 try dsimp -proj only[tJ,tz,tx]
 refine⟨_,rfl,a,b.map V.str,rfl,.inl hA,λF B=>⟨_,rfl,?_⟩⟩
 rw[cx]
 refine Gq (λc=>?_) (λc=>?_)
 rotate_left
 ·have O:=q F B
  rw[AL c]at O
  exact O
 have u:=B.seq hA
 refine⟨_,rfl,a,rfl,⟨_,u⟩,?_⟩
 refine ur (xs:=b.map V.str) (λi o e=>Same F e/\o=((b.take i).map Gr).map V.bl) ⟨Same.refl _,rfl⟩ (λi o e _ m=>m.1.seq u) (λi v o e j m=>?_) (λo e m D U=>?_)
 ·obtain⟨z,rfl⟩:=m
  rw[cL]at j
  cases l:b[i]? with
  | none=>rw[l]at j;cases j
  | some w=>
   rw[l]at j
   have I:V.str w=v:=Option.some.inj j
   subst I
   have Y:i<b.length:=(cT.mp l).1
   obtain⟨C,T⟩:=r w (dh l)
   refine⟨_,rfl,w,rfl,C,T,λG p=>⟨F4 (by rw[cx,cx,cX];omega),z.trans p,?_⟩⟩
   rw[dg,l,cV,cV]
   rfl
 obtain⟨z,rfl⟩:=m
 rw[cx,dy]
 have p:Same e (upd e D (.lst ((b.map Gr).map V.bl))):=nJ U _
 have t:upd e D (.lst ((b.map Gr).map V.bl)) D=some (.lst ((b.map Gr).map V.bl)):=sQ
 generalize upd e D (.lst ((b.map Gr).map V.bl))=G at p t ⊢
 have k:=B.trans (z.trans p)
 have n:=q G k
 refine⟨D,b.map Gr,rfl,SqL.of t,_,rfl,?_⟩
 rw[rC]
 show if b.all Gr=true then _ else _
 cases J:b.all Gr with
 | false=>
  rw[yQ J]at n
  exact Gg n
 | true=>
  rw[AS c J]at n
  refine Gu ?_
  refine⟨_,rfl,a,b,rfl,k.seq hA,y,_,rfl,a,_,rfl,.inl (k.seq hA),rfl,?_⟩
  rw[cx]
  exact n
theorem Io
  (n:Dn P w K mg base Ge 3 "is_roll" ["words"] (JV K)):Bn P w K mg base (Hj P w) 4 cB "Book" ["self","people","things"] (Kk K cB x):=by
 have X:F6 ["self","people","things"] ["self","people","things"] (F3 (IY 52 0)):=GE
 have nd:=X.nd
 refine M.ci.okE X (λvs H Q E h=>?_) (λ_ _ _ _ _ _ us hl=>K1 (λ_ _ _=>rfl) us hl) (λf al A ak s H vs Q E hr h=>?_)
 ·obtain⟨s0,a,b,g,l,m,rfl,hs,hA,G,O,R,S,T,J,q⟩:=h
  rfl
 obtain⟨s0,a,b,g,l,m,rfl,hs,hA,G,O,R,S,T,J,q⟩:=h
 refine⟨_,(sR (tH (PW.pt (yF (uP (tV (tF n hr (by decide) rfl F9 (me (pv 1) sS)))) (yF (uP (tV (tF n hr (by decide) rfl F9 (me (pv 2) sS)))) (xE (sX zb (sV tm rfl M.ac dL (me (pv 1) sS)) (sV tm rfl M.ac dL (me (pv 2) sS)) (F7 _)))))) (sU (u8 M.aK rfl (me tr sS))) sY)
   (sR (B1 (pv 0) (tP vy rfl M.ag Boot.«tuple» (me (pv 1) sS)) rfl)
   (sR (B1 (pv 0) (tP vy rfl M.ag Boot.«tuple» (me (pv 2) sS)) rfl)
   (sU (B1 (pv 0) Ew rfl))))),?_⟩
 try dsimp -proj only[tJ,tz,tx]
 refine⟨_,rfl,a,l,rfl,hA,O,S,λH1 S1=>⟨_,rfl,?_⟩⟩
 cases ep:GQ l with
 | false=>exact Gu ⟨by show 1<=sizeLine;decide,J (λz=>by rw[vq.mpr z.1]at ep;cases ep) H1 S1⟩
 | true=>
 have rp:=vq.mp ep
 refine Gg ?_
 refine⟨_,rfl,b,m,rfl,S1.seq G,R,T,λt S2=>⟨_,rfl,?_⟩⟩
 have k:=S1.trans S2
 cases et:GQ m with
 | false=>exact Gu ⟨by show 1<=sizeLine;decide,J (λz=>by rw[vq.mpr z.2.1]at et;cases et) t k⟩
 | true=>
 have rt:=vq.mp et
 refine Gg ?_
 refine⟨_,rfl,a,_,rfl,.inl (k.seq hA),_,rfl,b,_,rfl,.inl (k.seq G),rfl,_,rfl,?_⟩
 rw[cx,cx]
 by_cases el:l.length=m.length
 rotate_left
 ·refine J0 (Ol (by omega)) ⟨by show 1<=sizeLine;decide,J (λz=>el z.2.2) t k⟩
 refine HJ (by rw[el]) ?_
 have v:=k _ _ hs
 have aa:=k.seq hA
 have af:=k.seq G
 refine⟨_,rfl,a,_,rfl,aa,λc p Y ah=>?_⟩
 have F:=nJ Y (.frz p (.tup (l.map V.str)))
 refine⟨_,rfl,s0,cB,g,_,rfl,F _ _ v,M.cl,M.aj,by show 0<1000;decide,?_⟩
 have n1:c≠s0:=Ne.symm (tE v Y)
 have U3:SameBut1 s0 H (upd (upd t c (.frz p (.tup (l.map V.str)))) s0 (.ins cB g (GL "people" (.ref c) []))):=(SameBut1.of (k.trans F)).trans SameBut1.upd
 have B:upd (upd t c (.frz p (.tup (l.map V.str)))) s0 (.ins cB g (GL "people" (.ref c) [])) s0=some (.ins cB g [("people",.ref c)]):=sQ
 have D:upd (upd t c (.frz p (.tup (l.map V.str)))) s0 (.ins cB g (GL "people" (.ref c) [])) c=some (.frz p (.tup (l.map V.str))):=by rw[td n1,sQ]
 have W:=(F.seq af).overI (o:= .ins cB g (GL "people" (.ref c) [])) (F _ _ v)
 dsimp only
 generalize upd (upd t c (.frz p (.tup (l.map V.str)))) s0 (.ins cB g (GL "people" (.ref c) []))=u at U3 B D W ⊢
 refine⟨_,rfl,b,_,rfl,W,λj r y ae=>?_⟩
 have T2:=nJ y (.frz r (.tup (m.map V.str)))
 refine⟨_,rfl,s0,cB,g,_,rfl,T2 _ _ B,M.cl,M.am,by show 1<1000;decide,?_⟩
 have n2:j≠s0:=Ne.symm (tE B y)
 have n3:c≠j:=tE D y
 have Z:SameBut1 s0 H (upd (upd u j (.frz r (.tup (m.map V.str)))) s0 (.ins cB g (GL "things" (.ref j) [("people",.ref c)]))):=(U3.trans (SameBut1.of T2)).trans SameBut1.upd
 have C:upd (upd u j (.frz r (.tup (m.map V.str)))) s0 (.ins cB g (GL "things" (.ref j) [("people",.ref c)])) s0=some (.ins cB g [("people",.ref c),("things",.ref j)]):=sQ
 have U:upd (upd u j (.frz r (.tup (m.map V.str)))) s0 (.ins cB g (GL "things" (.ref j) [("people",.ref c)])) c=some (.frz p (.tup (l.map V.str))):=by rw[td n1,td n3];exact D
 have N:upd (upd u j (.frz r (.tup (m.map V.str)))) s0 (.ins cB g (GL "things" (.ref j) [("people",.ref c)])) j=some (.frz r (.tup (m.map V.str))):=by rw[td n2,sQ]
 dsimp only
 generalize upd (upd u j (.frz r (.tup (m.map V.str)))) s0 (.ins cB g (GL "things" (.ref j) [("people",.ref c)]))=H4 at Z C U N ⊢
 refine λd I=>?_
 have L:=nJ I (.dK (wK []))
 have n4:d≠s0:=Ne.symm (tE C I)
 have ab:H d=none:=by
  cases e:H d with
  | none=>rfl
  | some o=>rw[Z d o n4 e]at I;cases I
 refine⟨_,rfl,s0,cB,g,_,rfl,L _ _ C,M.cl,M.ai,by show 2<1000;decide,?_⟩
 refine q rp rt el d _ ((Z.trans (SameBut1.of L)).trans SameBut1.upd) ab ⟨g,c,j,p,r,sQ,?_,ah,?_,ae,?_⟩
 ·rw[td n1];exact L _ _ U
 ·rw[td n2];exact L _ _ N
 ·rw[td n4,sQ]
theorem Hl:Mn P w K mg base (Hj P w) 1 cB "check_person" ["self","person"] (Jj cB x):=by
 have a:F6 ["self","person"] ["self","person"] (F3 (IY 52 1)):=GE;have v:=a.nd;refine M.aS.okE a (λvs H Q E h=>?_) (λ_ _ _ _ _ _ k o=>Ia (λ_ _=>rfl) k o) (λf r A j s H vs Q E u h=>?_)
 ·obtain⟨s0,d,b,n,R,p,rfl,e,g,q⟩:=h;rfl
 obtain⟨s0,d,b,n,R,p,rfl,e,g,q⟩:=h;refine⟨_,(sU (tH (sX uC (pv 1) (vV (pv 0) rfl) (by with_unfolding_all rfl)) (sU (u8 M.aC rfl (me tr sS))) sY)),?_⟩
 try dsimp -proj only[tJ,tz,tx]
 obtain⟨l,m,z,t,y,h1,h2,h3,h4,h5,h6⟩:=e.ex;refine⟨_,rfl,_,rfl,s0,cB,l,_,_,rfl,h1,M.cl,M.aj,rfl,m,_,rfl,.inr (SqT.frz h2),rfl,ve _,_,rfl,?_⟩;show if(!Js (.str p) (b.map V.str))=true then _ else _
 rw[vg];by_cases c:p∈b
 ·rw[decide_eq_true c];exact Gg (q c)
 ·rw[decide_eq_false c];exact Gu ⟨by show 1<=sizeLine;decide,g c⟩
theorem J1
  (a:Mn P w K mg base (Hj P w) 1 cB "check_person" ["self","person"] (Jj cB x)):Mn P w K mg base (Hj P w) 2 cB "wish" ["self","person","text"] (Lf K cB x):=by
 have ab:F6 ["self","person","text","words"] ["self","person","text"] (F3 (IY 52 2)):=GE
 have nd:=ab.nd
 refine M.cj.okE ab (λvs H Q E h=>?_) (λ_ _ _ _ _ _ j hl=>K1 (λ_ _ _=>rfl) j hl) (λf ax A aw s H vs Q E u h=>?_)
 ·obtain⟨s0,d,ps,g,R,p,t,rfl,hb,J,ae,aa,S,y,hR,qP,qW,q⟩:=h
  rfl
 obtain⟨s0,d,ps,g,R,p,t,rfl,hb,J,ae,aa,S,y,hR,qP,qW,q⟩:=h
 refine⟨_,(sR (tO (Ac (pl:=_) (pv 0) M.cl a u (by decide) (JE (λ_ _ _ z=>z)) (me (pv 1) sS)))
   (sR (sW (i:=3) nd rfl (Or.inl rfl) (uF iF lR mf zX (pv 2) (me tr sS)))
   (sR (tH (sX (xf u) (sV (uR) rfl M.al Boot.«sorted» (me (pv 3) sS)) (sV (uR) rfl M.al Boot.«sorted» (me (vV (pv 0) rfl) sS)) (F7 _)) (sU (u8 M.aB rfl (me tr sS))) sY)
   (sU (wr (tP ux rfl M.ag Boot.«tuple» (me (ug rfl (N:=["word","self"]) (caps:=[none,some 0]) (CompOk.of (by kernel_rfl)) (tI rfl) (uy (pv 3)) (λ_ _ _ _=>(tj (i:=0) (show(["word","self"]:List Str).Nodup by decide +kernel) rfl (Or.inl rfl) (Or.inr rfl))) (λ_ _ _ _=>ud) (λ_ _ _ _=>(Bj (K:=K) rfl (xo (K:=K) rfl (pv 1) rfl) (pv 0)))) sS)) (xv (vV (pv 0) rfl) (pv 1) FU)))))),?_⟩
 try dsimp -proj only[tJ,tz,tx]
 obtain⟨T,pp,pt,op,ot,h1,h2,h3,h4,h5,h6⟩:=hb.ex
 have au:∀w∈L2.wordsOf t,Gz w:=y9 S
 refine⟨_,rfl,s0,T,_,rfl,h1,rfl,_,rfl,s0,d,ps,g,R,p,rfl,hb,(λc=>qP c H (Same.refl _)),λhp=>?_⟩
 refine⟨_,rfl,rfl,t," ",rfl,rfl,by decide,cZ (F4 (m5 (cO aa (by decide)) _)),λo ap=>?_⟩
 have S1:Same H (upd H o (.lst ((L2.wordsOf t).map V.str))):=nJ ap _
 have m:upd H o (.lst ((L2.wordsOf t).map V.str)) o=some (.lst ((L2.wordsOf t).map V.str)):=sQ
 change Lm _ _ _ _ (upd H o (.lst ((L2.wordsOf t).map V.str)))
 generalize upd H o (.lst ((L2.wordsOf t).map V.str))=Y at S1 m ⊢
 refine⟨_,rfl,o,L2.wordsOf t,rfl,.inl (SqL.of m),y,λl1 n aq C ah=>?_⟩
 have S2:Same Y (upd Y l1 (.lst (n.map V.str))):=nJ aq _
 have O:upd Y l1 (.lst (n.map V.str)) l1=some (.lst (n.map V.str)):=sQ
 generalize upd Y l1 (.lst (n.map V.str))=X at S2 O ⊢
 have G:=S1.trans S2
 refine⟨_,rfl,s0,cB,T,_,_,rfl,G _ _ h1,M.cl,M.am,rfl,pt,g,rfl,.inr (SqT.frz (G _ _ h4)),dP J (by decide),λl2 j aj B ao=>?_⟩
 have S3:Same X (upd X l2 (.lst (j.map V.str))):=nJ aj _
 have L:upd X l2 (.lst (j.map V.str)) l2=some (.lst (j.map V.str)):=sQ
 generalize upd X l2 (.lst (j.map V.str))=H3 at S3 L ⊢
 have e:=G.trans S3
 refine⟨.list (n.map fi),.list (j.map fi),.lst (SqL.of (S3 _ _ O)) (Reps.strs n) (by rw[cx,C.length_eq];exact cZ (cJ y (by decide))),.lst (SqL.of L) (Reps.strs j) (by rw[cx,B.length_eq];exact cO J (by decide)),tN (uz λw k=>au w (C.mem_iff.mp k)) (by decide),tN (uz λw k=>ae w (B.mem_iff.mp k)) (by decide),_,rfl,?_⟩
 rw[tU]
 by_cases l:(L2.wordsOf t).Perm g
 rotate_left
 ·rw[decide_eq_false (λ(z:n=j)=>l (C.symm.trans (by rw[z];exact B)))]
  exact Gu ⟨by show 1<=sizeLine;decide,qW hp l H3 e⟩
 rw[decide_eq_true (wk ah ao (C.trans (l.trans B.symm)))]
 refine Gg ?_
 have U:=(S2.trans S3) _ _ m
 have av:=e _ _ h1
 have ac:=e _ _ h4
 refine⟨_,rfl,o,rfl,⟨_,SqL.of U⟩,?_⟩
 refine ur (xs:=(L2.wordsOf t).map V.str) (λi ys Z=>Z=H3/\ys=(HH g ((L2.wordsOf t).take i)).map V.int) ⟨rfl,rfl⟩ (λi ys Z _ W=>by rw[W.1];exact SqL.of U) (λi v ys Z I W=>?_) (λys Z W D hD=>?_)
 ·obtain⟨rfl,rfl⟩:=W
  rw[cL]at I
  cases k:(L2.wordsOf t)[i]? with
  | none=>rw[k]at I;cases I
  | some w=>
   rw[k]at I
   have an:V.str w=v:=Option.some.inj I
   subst an
   have hi:i<(L2.wordsOf t).length:=(cT.mp k).1
   have hm:w∈g:=l.mem_iff.mp (dh k)
   refine⟨_,rfl,s0,cB,T,_,_,rfl,av,M.cl,M.am,rfl,pt,ot,_,rfl,ac,h5,_,rfl,g,w,rfl,SqT.frz ac,hm,F4 (by unfold HH;rw[cx,cx,cX];omega),rfl,?_⟩
   unfold HH
   rw[dg,k,cV,cV]
   rfl
 obtain⟨rfl,rfl⟩:=W
 rw[cx,dy]
 have S4:=nJ hD (.lst ((HH g (L2.wordsOf t)).map V.int))
 refine⟨D,_,rfl,.inl ⟨SqL.of sQ,λr u=>?_⟩⟩
 have S5:=nJ u (.tup ((HH g (L2.wordsOf t)).map V.int))
 have b:=e.trans (S4.trans S5)
 have af:=b _ _ h6
 have ak:r≠d:=λz=>by rw[z,(e.trans S4) _ _ h6]at u;cases u
 have ar:H r=none:=(e.trans S4).free u
 refine⟨_,rfl,s0,cB,T,_,_,rfl,b _ _ h1,M.cl,M.ai,rfl,_,rfl,d,R,p,rfl,rfl,af,hR,?_⟩
 refine q hp l r _ ((SameBut1.of b).trans SameBut1.upd) ar (by rw[td ak,sQ]) ⟨T,pp,pt,op,ot,?_,?_,h3,?_,h5,sQ⟩
 ·rw[td (vb h1 h6 (λz=>nomatch z))];exact b _ _ h1
 ·rw[td (vb h2 h6 (λz=>nomatch z))];exact b _ _ h2
 ·rw[td (vb h4 h6 (λz=>nomatch z))];exact b _ _ h4
theorem ID:Mn P w K mg base Ge 1 cB "lacking" ["self"] (HY cB):=by
 have n:F6 ["self"] ["self"] (F3 (IY 52 3)):=GE;have J:=n.nd;refine M.bS.ok n (λvs H Q E h=>?_) (λ_ _ _ _ _ _ B m=>Kv (λ_=>rfl) B m) (λf F A z s H vs Q E I h=>?_)
 ·obtain⟨s0,d,b,D,R,rfl,u,y,q⟩:=h;rfl
 obtain⟨s0,d,b,D,R,rfl,u,y,q⟩:=h;refine⟨_,(sU (s9 (ug rfl (N:=["person","self"]) (caps:=[none,some 0]) (CompOk.of (by kernel_rfl)) (tI rfl) (wV (vV (pv 0) rfl)) (λ_ _ _ _=>(tj (i:=0) (show(["person","self"]:List Str).Nodup by decide +kernel) rfl (Or.inl rfl) (Or.inr rfl))) (λ_ _ _ _=>(vC (sX BF (pv 0) (xo (K:=K) rfl (pv 1) rfl) (by with_unfolding_all rfl)))) (λ_ _ _ _=>(pv 0))))),?_⟩
 try dsimp -proj only[tJ,tz,tx]
 obtain⟨r,C,O,G,L,h1,h2,h3,h4,h5,h6⟩:=u.ex;have x:=SqT.frz (K:=K) h2;refine⟨_,rfl,s0,cB,r,_,_,rfl,h1,M.cl,M.aj,rfl,C,rfl,⟨_,x⟩,?_⟩;refine vO (xs:=b.map V.str) (λi k g=>g=H/\k=((b.take i).filter λp=>!(Gf R p).isSome).map V.str) ⟨rfl,rfl⟩ (λi k g _ a=>by rw[a.1];exact x) (λi v k g e a=>?_) (λk g a l m=>?_)
 ·obtain⟨rfl,rfl⟩:=a;rw[cL]at e
  cases j:b[i]? with
  | none=>rw[j]at e;cases e
  | some w=>
   rw[j]at e;have t:V.str w=v:=Option.some.inj e;subst t;have S:i<b.length:=(cT.mp j).1;have o:(((b.take i).filter λp=>!(Gf R p).isSome).map V.str).length<sizeLine:=by
    rw[cx];have h1:=er (λp=>!(Gf R p).isSome) (b.take i);rw[cX]at h1;exact F4 (by omega)
   refine⟨_,rfl,_,rfl,s0,cB,r,_,_,rfl,h1,M.cl,M.ai,rfl,d,R,w,rfl,rfl,h6,_,rfl,?_⟩;rw[dg,j,hI,cV]
   cases c:(!(Gf R w).isSome)with
   | true=>
    refine Gu ⟨_,rfl,o,rfl,?_⟩;show _=_++List.map V.str ([w].filter _);rw[List.filter_cons_of_pos (p:=λp=>!(Gf R p).isSome) c];rfl
   | false=>
    refine Gg ⟨rfl,?_⟩;show _=_++List.map V.str ([w].filter _);rw[List.filter_cons_of_neg (p:=λp=>!(Gf R p).isSome) (by rw[c];exact dj)];exact(fC _).symm
 ·obtain⟨rfl,rfl⟩:=a;rw[cx,dy];exact q l _ (nJ m _) m sQ
theorem Ik
  (a:Mn P w K mg base Ge 1 cB "lacking" ["self"] (HY cB))
  (L:Dn P w K mg base Ge 7 "eaten" ["wishes"] (KO K))
  (o:Dn P w K mg base Ge 4 "by_turns" ["wishes"] (IU K)):Mn P w K mg base (Hj P w) 8 cB "table_by" ["self","way"] (HU K cB x):=by
 have U:F6 ["self","way","wishes"] ["self","way"] (F3 (IY 52 4)):=GE
 have nd:=U.nd
 refine M.bI.okE U (λvs H Q E h=>?_) (λ_ _ _ _ _ _ G X=>Ia (λ_ _=>rfl) G X) (λf an A am s H vs Q E hr h=>?_)
 ·obtain⟨s0,d,b,ts,R,J,rfl,hb,S,qU,q⟩:=h
  rfl
 obtain⟨s0,d,b,ts,R,J,rfl,hb,S,qU,q⟩:=h
 refine⟨_,(sR (tH (DX (Bt (pl:=_) (pv 0) M.cl a hr (by decide) F9) (λ_=>rfl)) (sU (u8 M.aE rfl (me tr sS))) sY)
   (sR (ut (i:=2) nd rfl rfl rfl rfl (N:=["person","self"]) (caps:=[none,some 0]) (CompOk.of (by kernel_rfl)) (tI rfl) (wV (vV (pv 0) rfl)) (λ_ _ _ _=>(tj (i:=0) (show(["person","self"]:List Str).Nodup by decide +kernel) rfl (Or.inl rfl) (Or.inr rfl))) (λ_ _ _ _=>ud) (λ_ _ _ _=>(ti F2 (xo (K:=K) rfl (pv 1) rfl) (pv 0) (λ_ _=>rfl))))
   (sR (tH (sX uj (pv 1) tr (F7 _)) (sU (s9 (tF L hr (by decide) rfl F9 (me (pv 2) sS)))) sY)
   (sR (tH (sX uj (pv 1) tr (F7 _)) (sU (s9 (tF o hr (by decide) rfl F9 (me (pv 2) sS)))) sY)
   (sU (u8 M.aW rfl (me tr sS))))))),?_⟩
 try dsimp -proj only[tJ,tz,tx]
 obtain⟨dx,pp,pt,op,ot,h1,h2,h3,h4,h5,h6⟩:=hb.ex
 refine⟨_,rfl,s0,dx,_,rfl,h1,rfl,s0,d,b,ts,R,rfl,hb,S,λl H1 r ap X=>?_⟩
 refine⟨_,.inl ⟨_,SqL.of X,rfl⟩,?_⟩
 by_cases hall:∀p∈b,Gf R p≠none
 rotate_left
 ·have ak:∃p∈b,Gf R p=none:=dU λz=>hall λp hp e=>z ⟨p,hp,e⟩
  have al:¬(b.filter λp=>!(Gf R p).isSome)=[]:=λz=>hall (yo.mp z)
  have e:(!(((b.filter λp=>!(Gf R p).isSome).map V.str).isEmpty))=true:=by simpa using al
  rw[e]
  exact Gu ⟨by show 1<=sizeLine;decide,qU ak H1 r⟩
 have e:(!(((b.filter λp=>!(Gf R p).isSome).map V.str).isEmpty))=false:=by rw[yo.mpr hall];rfl
 rw[e]
 refine Gg ?_
 obtain⟨W,hT,I,qN,q⟩:=q hall
 have ab:=Paired.len hT
 have T:=r _ _ h1
 have hP:=SqT.frz (K:=K) (r _ _ h2)
 have aa:=r _ _ h6
 refine⟨_,rfl,s0,cB,dx,_,_,rfl,T,M.cl,M.aj,rfl,pp,rfl,⟨_,hP⟩,?_⟩
 refine yS (xs:=b.map V.str) (λi g j=>j=H1/\dJ (IsR K H1) g (W.take i)) ⟨rfl,by rw[eY];exact .nil⟩ (λi g j _ k=>by rw[k.1];exact hP) (λi v g j y k=>?_) (λg j k t ac=>?_)
 ·obtain⟨rfl,n⟩:=k
  rw[cL]at y
  cases hw:b[i]? with
  | none=>rw[hw]at y;cases y
  | some w=>
   rw[hw]at y
   have ae:V.str w=v:=Option.some.inj y
   subst ae
   obtain⟨ao,Y,u,ah,ag⟩:=Paired.get' hT hw
   have af:=Paired.len n
   rw[cX]at af
   refine⟨_,rfl,s0,cB,dx,_,_,rfl,T,M.cl,M.ai,rfl,_,rfl,d,R,w,u,rfl,rfl,aa,ah,F4 (by omega),rfl,?_⟩
   rw[dg,Y]
   exact Paired.app n (.cons (ag.mono r) .nil)
 obtain⟨rfl,n⟩:=k
 rw[cx,ab,dy]at n
 have S3:Same j (upd j t (.lst g)):=nJ ac _
 have D:upd j t (.lst g) t=some (.lst g):=sQ
 generalize upd j t (.lst g)=H3 at S3 D ⊢
 have C:=Paired.mapP n λ_ _ (h:IsR K j _ _)=>h.mono S3
 have m:=r.trans S3
 refine⟨_,rfl,rfl,_,rfl,?_⟩
 refine Gq (λc=>?_) (λc=>?_)
 ·have Z:J="eaten":=by injection c
  refine⟨_,rfl,t,g,W,b.length,rfl,SqL.of D,C,⟨I.lo,I.hi,I.len,I.pm⟩,λq1 G N H4 S4 B F hN O=>?_⟩
  exact q _ _ q1 G H4 (.inl ⟨Z,N,hN,rfl,rfl⟩) (m.trans S4) (m.free B) F O
 refine⟨_,rfl,rfl,_,rfl,?_⟩
 refine Gq (λc2=>?_) (λc2=>?_)
 ·have Z:J="turns":=by injection c2
  refine⟨_,rfl,t,g,W,b.length,rfl,SqL.of D,C,I,λq1 G H4 S4 B F O=>?_⟩
  rw[Fj]at O
  exact q _ _ q1 G H4 (.inr ⟨Z,rfl,rfl⟩) (m.trans S4) (m.free B) F (vS O)
 ·exact⟨by show 1<=sizeLine;decide,qN (λz=>c (by rw[z])) (λz=>c2 (by rw[z])) H3 m⟩
theorem IQ
  (b:Mn P w K mg base (Hj P w) 1 cB "check_person" ["self","person"] (Jj cB x))
  (g:Mn P w K mg base (Hj P w) 8 cB "table_by" ["self","way"] (HU K cB x)):Mn P w K mg base (Hj P w) 9 cB "shares" ["self","person","way"] (Iy K cB x):=by
 have ao:F6 ["self","person","way","table","row"] ["self","person","way"] (F3 (IY 52 5)):=GE
 have nd:=ao.nd
 refine M.bY.okE ao (λvs H Q E h=>?_) (λ_ _ _ _ _ _ us hl=>K1 (λ_ _ _=>rfl) us hl) (λf aM A aK s H vs Q E hr h=>?_)
 ·obtain⟨s0,d,a,j,R,p,ar,rfl,hb,ak,an,qP,qU,q⟩:=h
  rfl
 obtain⟨s0,d,a,j,R,p,ar,rfl,hb,ak,an,qP,qU,q⟩:=h
 refine⟨_,(sR (tO (Ac (pl:=_) (pv 0) M.cl b hr (by decide) (JE (λ_ _ _ z=>z)) (me (pv 1) sS)))
   (sR (sW (i:=3) nd rfl (Or.inl rfl) (Ac (pl:=_) (pv 0) M.cl g hr (by decide) (JE (λ_ _ _ z=>z)) (me (pv 2) sS)))
   (sR (sW (i:=4) nd rfl (Or.inr rfl) (ti tw (pv 3) (Bj (K:=K) rfl (vV (pv 0) rfl) (pv 1)) (λ_ _=>rfl)))
   (sU (s9 (ug rfl (N:=["thing","self","row"]) (caps:=[none,some 0,some 4]) (CompOk.of (by kernel_rfl)) (tI rfl) (wV (ti F2 (vV (pv 0) rfl) (pv 1) (λ_ _=>rfl))) (λ_ _ _ _=>(tj (i:=0) (show(["thing","self","row"]:List Str).Nodup by decide +kernel) rfl (Or.inl rfl) (Or.inr rfl))) (λ_ _ _ _=>(vC (sX (Bw (K:=K) rfl hr) (ti (yl (K:=K) rfl) (pv 2) (pv 0) (λ_ _=>rfl)) (wB (K:=K) rfl M.ah) (F7 _)))) (λ_ _ _ _=>(tQ (me (ti (yl (K:=K) rfl) (xo (K:=K) rfl (pv 1) rfl) (pv 0) (λ_ _=>rfl)) (me (ti (yl (K:=K) rfl) (pv 2) (pv 0) (λ_ _=>rfl)) sS)))))))))),?_⟩
 try dsimp -proj only[tJ,tz,tx]
 obtain⟨Y,pp,pt,op,ot,h1,h2,h3,h4,h5,h6⟩:=hb.ex
 have J:(2:Nat)<=sizeLine:=by decide
 refine⟨_,rfl,s0,Y,_,rfl,h1,rfl,_,rfl,s0,d,a,j,R,p,rfl,hb,(λc=>qP c H (Same.refl _)),λhp=>?_⟩
 refine⟨_,rfl,s0,Y,_,rfl,h1,rfl,_,rfl,s0,d,a,j,R,ar,rfl,hb,ak,qU hp,λhall=>?_⟩
 obtain⟨W,hT,hW,qN,q⟩:=q hp hall
 refine⟨W,hT,hW,qN,λZ T tb us H1 ae u aL B hZ=>?_⟩
 have I:=ae.tb hW
 have F:a.idxOf p<a.length:=gw.mpr hp
 have aq:=I.reg.len
 have ag:=hW.len
 have av:=I.t0
 obtain⟨uv,aA,ra,gs,rfl,ay,L⟩:=Paired.get hZ (cD (show a.idxOf p<Z.length from aq▸F))
 obtain⟨e,ap,v,aE,ab⟩:=Paired.get hT (cD (show a.idxOf p<W.length from ag▸F))
 have ep:e=p:=by
  have:=iE F
  rw[cD F]at ap
  rw[<-Option.some.inj ap]
  exact this
 subst ep
 have o:=hW.pm _ (db (show a.idxOf e<W.length from ag▸F))
 have S:=I.reg.cols _ (db (show a.idxOf e<Z.length from aq▸F))
 have q2:=λl xs H'=>q Z T l xs H' ae
 rw[show W[a.idxOf e]=W.getD (a.idxOf e) []from(HM.getD_lt (show a.idxOf e<W.length by omega)).symm]at ab o
 rw[show Z[a.idxOf e]=Z.getD (a.idxOf e) []from(HM.getD_lt (show a.idxOf e<Z.length by omega)).symm]at L S
 generalize W.getD (a.idxOf e) []=m at ab o q2
 generalize Z.getD (a.idxOf e) []=z at L S q2
 have U:=u _ _ h1
 refine⟨_,rfl,_,rfl,s0,cB,Y,_,_,rfl,U,M.cl,M.aj,rfl,pp,op,_,rfl,u _ _ h2,h3,_,rfl,a,e,rfl,SqT.frz (u _ _ h2),hp,tb,_,_,_,rfl,rfl,SqL.of B,t9 aA,?_⟩
 obtain⟨wa,rfl,aG⟩:=ab
 have aa:=u.tup aG
 have aw:=u _ _ h6
 have aF:=u _ _ h4
 have aN:=o.len
 refine⟨_,rfl,s0,cB,Y,_,_,rfl,U,M.cl,M.ai,rfl,_,rfl,d,R,e,_,rfl,rfl,aw,aE,wa,rfl,⟨_,aa⟩,?_⟩
 refine vO (xs:=m.map V.int) (λi C O=>Same H1 O/\dJ (IsShr K O T) C (HV j (m.take i) z)) ⟨Same.refl _,.nil⟩ (λi C O _ r=>r.1.tup aa) (λi y C O X r=>?_) (λC O r l hl=>?_)
 ·obtain⟨k,n⟩:=r
  rw[cL]at X
  cases D:m[i]? with
  | none=>rw[D]at X;cases X
  | some t=>
   rw[D]at X
   have aD:V.int t=y:=Option.some.inj X
   subst aD
   have B:=o.mem.mp (dh D)
   have af:t.toNat<z.length:=by omega
   have aC:(fr T z)[t.toNat]?=some (FQ.red (EM.at0 z t) T):=by
    unfold fr EM.at0
    rw[cL,cA,cD af]
    rfl
   obtain⟨fv,al,hF⟩:=Paired.get L aC
   have aB:=Paired.len n
   have au:C.length<sizeLine:=by
    rw[aB]
    unfold HV
    rw[cx]
    have h1:=er (λt=>decide (EM.at0 z t≠0)) (m.take i)
    rw[cX]at h1
    exact F4 (by omega)
   have az:HV j (m.take (i+1)) z=HV j (m.take i) z++if EM.at0 z t≠0 then[(j.getD t.toNat gc,EM.at0 z t)]else[]:=by
    unfold HV
    rw[dg,D,hI,cV]
    by_cases c:EM.at0 z t=0
    ·simp[c]
    ·simp[c]
   have ac:=k.tup ay
   refine⟨_,rfl,_,rfl,ra,gs,t,fv,rfl,rfl,ac,uE B.1 al,λc0 aH=>?_⟩
   refine⟨dF (FQ.red (EM.at0 z t) T),dF (0,1),(hF.mono k).rep,IsF.rep ⟨c0,rfl,aH _⟩,ub _,ub _,_,rfl,?_⟩
   rw[wc,az]
   refine Ir (λc=>?_) (λc=>?_)
   ·have hn:EM.at0 z t≠0:=λe0=>c ((tY (dM av)).mpr e0)
    have aI:t.toNat<j.length:=kF af (an▸S)
    have ax:(j.map V.str)[t.toNat]?=some (.str (j.getD t.toNat gc)):=by rw[cL,cA,cD aI];rfl
    obtain⟨fg,rfl,aO⟩:=id hF
    refine⟨_,rfl,s0,cB,Y,_,_,rfl,k _ _ U,M.cl,M.am,rfl,_,rfl,pt,_,t,_,rfl,rfl,SqT.frz (k _ _ aF),uE B.1 ax,_,rfl,_,rfl,ra,gs,t,_,rfl,rfl,ac,uE B.1 al,J,λtp aJ=>?_⟩
    have G:=nJ aJ (.tup [.str (j.getD t.toNat gc),.ref fg])
    refine⟨au,k.trans G,?_⟩
    rw[if_pos hn]
    exact Paired.app (Paired.mapP n λ_ _ h=>h.mono G) (.cons ⟨tp,fg,rfl,SqT.of sQ,hF.mono (k.trans G)⟩ .nil)
   ·have hn:EM.at0 z t=0:=(tY (by omega)).mp c
    refine⟨k,?_⟩
    rw[if_neg (λe0=>e0 hn),fC]
    exact n
 ·obtain⟨k,n⟩:=r
  rw[cx,dy]at n
  have G:=nJ hl (.lst C)
  exact q2 l C _ (u.trans (k.trans G)) ((u.trans k).free hl) sQ (Paired.mapP n λ_ _ h=>h.mono G)
theorem JQ
  (g:Dn P w K mg base Ge 8 "lots_of" ["table"] (JH K))
  (a:Mn P w K mg base (Hj P w) 8 cB "table_by" ["self","way"] (HU K cB x))
  (B:Dn P w K mg base (Hj P w) 4 "picked" ["lots","number"] (J3 K x)):Mn P w K mg base (Hj P w) 9 cB "deal" ["self","way","number"] (JB K cB x):=by
 have ae:F6 ["self","way","number","lots","words"] ["self","way","number"] (F3 (IY 52 6)):=GE
 have nd:=ae.nd
 refine M.cm.okE ae (λvs H Q E h=>?_) (λ_ _ _ _ _ _ us hl=>K1 (λ_ _ _=>rfl) us hl) (λf aE A aC s H vs Q E O h=>?_)
 ·obtain⟨s0,d,m,u,b,R,ak,ag,rfl,hb,I,av,hm,aa,ai,qU,q⟩:=h
  rfl
 obtain⟨s0,d,m,u,b,R,ak,ag,rfl,hb,I,av,hm,aa,ai,qU,q⟩:=h
 refine⟨_,(sR (sW (i:=3) nd rfl (Or.inl rfl) (tF g O (by decide) rfl F9 (me (Ac (pl:=_) (pv 0) M.cl a O (by decide) (JE (λ_ _ _ z=>z)) (me (pv 1) sS)) sS)))
   (sR (ut (i:=4) nd rfl rfl rfl rfl (N:=["thing","self"]) (caps:=[none,some 0]) (CompOk.of (by kernel_rfl)) (tI rfl) (wV (tF B O (by decide) rfl (JE (λ_ _ _ z=>z)) (me (pv 3) (me (pv 2) sS)))) (λ_ _ _ _=>(tj (i:=0) (show(["thing","self"]:List Str).Nodup by decide +kernel) rfl (Or.inl rfl) (Or.inr rfl))) (λ_ _ _ _=>ud) (λ_ _ _ _=>(ti (yl (K:=K) rfl) (xo (K:=K) rfl (pv 1) rfl) (pv 0) (λ_ _=>rfl))))
   (sU (s9 (AJ rfl rfl M.af rfl M.aP (me (vV (pv 0) rfl) (me (pv 4) sS))))))),?_⟩
 try dsimp -proj only[tJ,tz,tx]
 obtain⟨dx,pp,pt,op,ot,h1,h2,h3,h4,h5,h6⟩:=hb.ex
 refine⟨_,rfl,s0,dx,_,rfl,h1,rfl,_,rfl,s0,d,u,b,R,ak,rfl,hb,I,qU,λhall=>?_⟩
 obtain⟨W,hT,hW,qN,qR,q⟩:=q hall
 refine⟨W,hT,hW,qN,λZ T tb us H1 n S1 aD U hZ=>?_⟩
 have D:=n.tb hW
 refine⟨tb,us,Z,T,u.length,rfl,SqL.of U,hZ,D,λk pL ls H2 e S2 aF hL ax=>?_⟩
 have C:=S1.trans S2
 have aq:=EW D (n.le hW) e
 refine⟨_,rfl,_,rfl,pL,m,ls,_,T,u.length,ag,rfl,SqL.of hL,ax,aq,hm.mono C,aa,ai,(λO=>qR n.way O H2 C),λaw i v H3 c S3 au=>?_⟩
 obtain⟨va,rfl,o⟩:=au
 have q2:=λl xs H'=>q aw Z T k i l xs H' n e c
 have ac:i<k:=by
  have:=c.lt
  unfold HM.lotsL at this
  rwa[cx,fL]at this
 have ed:(HM.lotsL Z T k).getD i (0,[])=HM.lotAt Z T i:=by
  unfold HM.lotsL
  rw[cA,cL,eg ac]
  rfl
 have G:=(EG D e ac).1
 rw[ed]at q2 o
 generalize(HM.lotAt Z T i).2=dl at o G q2
 have an:=G.len
 have L:=C.trans S3
 refine⟨va,rfl,⟨_,o⟩,?_⟩
 refine yS (xs:=dl.map V.int) (λj Y X=>X=H3/\Y=(Gk b (dl.take j)).map V.str) ⟨rfl,rfl⟩ (λj Y X _ S=>by rw[S.1];exact o) (λj y Y X J S=>?_) (λY X S pw ap=>?_)
 ·obtain⟨rfl,rfl⟩:=S
  rw[cL]at J
  cases p:dl[j]? with
  | none=>rw[p]at J;cases J
  | some t=>
   rw[p]at J
   have ar:V.int t=y:=Option.some.inj J
   subst ar
   have U:=G.mem.mp (dh p)
   have ay:t.toNat<b.length:=by omega
   have al:(b.map V.str)[t.toNat]?=some (.str (b.getD t.toNat gc)):=by rw[cL,cA,cD ay];rfl
   refine⟨_,rfl,s0,cB,dx,_,_,rfl,L _ _ h1,M.cl,M.am,rfl,_,rfl,pt,_,t,_,rfl,rfl,SqT.frz (L _ _ h4),uE U.1 al,F4 (by unfold Gk;rw[cx,cx,cX];omega),rfl,?_⟩
   unfold Gk
   rw[dg,p,cV,cV]
   rfl
 obtain⟨rfl,rfl⟩:=S
 rw[cx,dy]
 have ah:(Gk b dl).length=u.length:=by unfold Gk;rw[cx,an]
 have S4:=nJ ap (.lst ((Gk b dl).map V.str))
 have r:=L.trans S4
 refine⟨_,rfl,s0,cB,dx,_,_,rfl,r _ _ h1,M.cl,M.aj,rfl,_,rfl,true,false,pp,pw,u.map V.str,(Gk b dl).map V.str,rfl,SqT.frz (r _ _ h2),SqL.of sQ,by rw[cx,cx,ah],by rw[cx];exact cO I (by decide),λl az H5 S5 aB hl ab aA=>?_⟩
 refine q2 l _ H5 (r.trans S5) (r.free aB) hl ?_
 rw[cx]at ab
 refine vY (by rw[cx,List.length_zip,ah,ab];simp) λj v x F hx=>?_
 rw[cL]at F
 cases ht:az[j]? with
 | none=>rw[ht]at F;cases F
 | some t=>
  rw[ht]at F
  have ao:V.ref t=v:=Option.some.inj F
  subst ao
  obtain⟨x1,x2⟩:=x
  obtain⟨e1,e2⟩:=kG.mp hx
  exact⟨t,rfl,SqT.of (aA j t (.str x1) (.str x2) ht (by rw[cL,e1];rfl) (by rw[cL,e2];rfl))⟩
theorem IA:Dn P w K mg base Ge 1 "_law_cell_at" ["_law_script","_law_k"] (Kg K):=by
 have g:F6 ["_law_script","_law_k"] ["_law_script","_law_k"] (F3 (F8 54)):=GE;have p:=g.nd;refine M.aT.ok g (λvs H Q E h=>?_) (λ_ _ _ _ _ _ m d=>Ia (λ_ _=>rfl) m d) (λf n A l s H vs Q E o h=>?_)
 ·obtain⟨a,b,k,rfl,j,h0,q⟩:=h;rfl
 obtain⟨a,b,k,rfl,j,h0,q⟩:=h;refine⟨_,(sR (tH (sX AY (pv 1) (sV tm rfl M.ac dL (me (pv 0) sS)) (F7 _)) (sU (s9 (ti tw (pv 0) (pv 1) (λ_ _=>rfl)))) sY)
   (sU (s9 sT))),?_⟩
 try dsimp -proj only[tJ,tz,tx]
 have d:(b.map V.int).length=b.length:=cx _;refine⟨_,rfl,_,rfl,a,_,rfl,.inl j,_,_,rfl,rfl,_,rfl,?_⟩;refine Gq (λc=>?_) (λc=>?_)
 ·rw[d]at c;refine⟨_,rfl,_,rfl,a,_,k,_,rfl,rfl,j,uE h0 (uQ (by omega)),?_⟩;have e:LM.cellAt b k=b.getD k.toNat 0:=by unfold LM.cellAt;rw[if_pos c]
  rw[<-e];exact q
 ·rw[d]at c;have e:LM.cellAt b k=0:=by unfold LM.cellAt;rw[if_neg c]
  rw[e]at q;exact q
theorem Jp:Dn P w K mg base Ge 1 "_law_mixed" ["_law_cell","_law_many"] (KQ):=by
 have o:F6 ["_law_cell","_law_many","_law_found","_law_number","_law_k"] ["_law_cell","_law_many"] (F3 (F8 55)):=GE;have j:=o.nd;refine M.bf.ok o (λvs H Q E h=>?_) (λ_ _ _ _ _ _ x b=>Ia (λ_ _=>rfl) x b) (λf I A v s H vs Q E J h=>?_)
 ·obtain⟨c,m,rfl,B,q⟩:=h;rfl
 obtain⟨c,m,rfl,B,q⟩:=h;refine⟨_,(sR (sW (i:=2) j rfl (Or.inl rfl) (tT sS))
   (sR (sW (i:=3) j rfl (Or.inl rfl) (sZ ul (pv 0) sT))
   (sR (tH (sX uj (sZ tG (pv 0) sT) sT (F7 _)) (sR (uH dV rfl (tS rfl M.ae (me (pv 1) sS)) (tj (i:=4) j rfl (Or.inl rfl)) (sR (tO (uF df dB dC tL (pv 2) (me (sZ tG (pv 3) sT) sS)))
   (sU (sW (i:=3) j rfl (Or.inl rfl) (sZ ul (pv 3) sT)))))
   (sU (s9 (pv 2)))) sY)
   (sR (sW (i:=3) j rfl (Or.inl rfl) (sZ tG (sZ t6 (sZ t7 (sZ tG (pv 3) sT) sT) sT) sT))
   (sR (uH dV rfl (tS rfl M.ae (me (pv 1) sS)) (tj (i:=4) j rfl (Or.inl rfl)) (sR (sW (i:=3) j rfl (Or.inl rfl) (sZ tG (sZ t6 (sZ t6 (sZ t6 (sZ t7 (pv 3) (pv 3)) (sZ t7 sT (pv 3))) (pv 4)) sT) sT))
   (sU (tO (uF df dB dC tL (pv 2) (me (pv 3) sS))))))
   (sU (s9 (pv 2)))))))),?_⟩
 try dsimp -proj only[tJ,tz,tx]
 have l:(0:Nat)<=sizeLine:=by decide
 refine⟨l,λp hp=>?_⟩;refine⟨_,rfl,c,2,rfl,rfl,c9 (by decide) (by decide),?_⟩;refine⟨_,rfl,c,2,rfl,rfl,by show(0:Int)<2;decide,rfl,_,rfl,?_⟩;refine Gq (λt=>?_) (λt=>?_)
 ·have u:c%2=1:=Ke t;refine⟨_,rfl,(m:Int),rfl,by omega,by omega,?_⟩;refine ua (n:=m) (λi g a=>Same H a/\a p=some (.lst ((LM.oddGo (c/2) i).1.map V.int))/\∃r,g=[some (.int c),some (.int m),some (.ref p),some (.int (LM.oddGo (c/2) i).2),r])
   ⟨nJ hp _,sQ,_,rfl⟩ (λi g a G k=>?_) (λg a k=>?_)
  ·obtain⟨e,b,r,rfl⟩:=k;have d:=LM.oddGo_len (c/2) i;refine⟨_,rfl,.inl ⟨rfl,_,SqL.of b⟩,_,rfl,_,5040,rfl,rfl,by show(0:Int)<5040;decide,p,_,_,rfl,rfl,b,F4 (by rw[cx,d];omega),?_⟩;refine⟨_,rfl,_,5040,rfl,rfl,c9 (by decide) (by decide),?_⟩;refine⟨e.over hp _,?_,_,rfl⟩;rw[sQ,LM.oddGo,cV];rfl
  ·obtain⟨e,b,r,rfl⟩:=k;refine⟨_,rfl,q p a e hp ?_⟩;rw[b,LM.mixed,if_pos u]
 ·have u:¬c%2=1:=λz=>t (by show V.int (c%2)=V.int 1;rw[z]);refine⟨_,rfl,_,_,rfl,rfl,by show(0:Int)<2147483647;decide,_,_,rfl,rfl,LD (by decide),_,_,rfl,rfl,_,_,rfl,rfl,by show(0:Int)<2147483647;decide,?_⟩;refine⟨_,rfl,(m:Int),rfl,by omega,by omega,?_⟩;have y:=dQ (c/2%2147483647*16807+11) (show(2147483647:Int)≠0 by decide);have D:=dH (c/2%2147483647*16807+11) (show(0:Int)<2147483647 by decide);refine ua (n:=m) (λi g a=>Same H a/\a p=some (.lst ((LM.evenGo ((c/2%2147483647*16807+11)%2147483647) i).1.map V.int))/\∃r,g=[some (.int c),some (.int m),some (.ref p),some (.int (LM.evenGo ((c/2%2147483647*16807+11)%2147483647) i).2),r])
   ⟨nJ hp _,sQ,_,rfl⟩ (λi g a G k=>?_) (λg a k=>?_)
  ·obtain⟨e,b,r,rfl⟩:=k;have d:=LM.evenGo_len ((c/2%2147483647*16807+11)%2147483647) i;have C:=LM.evenGo_num _ y D i;refine⟨_,rfl,_,rfl,_,_,rfl,rfl,Lu (by omega),_,rfl,_,_,rfl,rfl,Lu (by decide),_,_,rfl,rfl,_,rfl,_,_,rfl,rfl,_,_,rfl,rfl,_,_,rfl,rfl,by show(0:Int)<2147483647;decide,?_⟩;refine⟨_,rfl,.inl ⟨rfl,_,SqL.of b⟩,_,rfl,p,_,_,rfl,rfl,b,F4 (by rw[cx,d];omega),?_⟩;refine⟨e.over hp _,?_,some (.int (0+(i:Int))),?_⟩
   ·rw[sQ,LM.evenGo,cV,LM.evenX,fe];rfl
   ·rw[LM.evenGo,LM.evenX,fe];rfl
  ·obtain⟨e,b,r,rfl⟩:=k;refine⟨_,rfl,q p a e hp ?_⟩;rw[b,LM.mixed,if_neg u]
theorem JU:Dn P w K mg base Ge 1 "_law_perm" ["_law_number","_law_count"] (Ln):=by
 have g:F6 ["_law_number","_law_count","_law_found","_law_k"] ["_law_number","_law_count"] (F3 (F8 56)):=GE;have l:=g.nd;refine M.bu.ok g (λvs H Q E h=>?_) (λ_ _ _ _ _ _ t b=>Ia (λ_ _=>rfl) t b) (λf x A o s H vs Q E z h=>?_)
 ·obtain⟨a,n,rfl,u,q⟩:=h;rfl
 obtain⟨a,n,rfl,u,q⟩:=h;refine⟨_,(sR (sW (i:=2) l rfl (Or.inl rfl) (tT sS))
   (sR (uH dV rfl (tS rfl M.ae (me (pv 1) sS)) (tj (i:=3) l rfl (Or.inl rfl)) (sR (tO (uF df ly lz yT (pv 2) (me (sZ tG (pv 0) (sZ t6 (pv 3) sT)) (me (pv 3) sS))))
   (sU (sW (i:=0) l rfl (Or.inl rfl) (sZ ul (pv 0) (sZ t6 (pv 3) sT))))))
   (sU (s9 (pv 2))))),?_⟩
 try dsimp -proj only[tJ,tz,tx]
 have e:(0:Nat)<=sizeLine:=by decide
 refine⟨e,λp hp=>?_⟩;refine⟨_,rfl,(n:Int),rfl,by omega,by omega,?_⟩;refine ua (n:=n) (λi k d=>Same H d/\d p=some (.lst ((LM.permGo a i).1.map V.int))/\∃r,k=[some (.int (LM.permGo a i).2),some (.int n),some (.ref p),r])
  ⟨nJ hp _,sQ,_,rfl⟩ (λi k d B m=>?_) (λk d m=>?_)
 ·obtain⟨j,b,r,rfl⟩:=m;have c:(LM.permGo a i).1.length=i:=LM.perm_len a i;have v:=dQ (LM.permGo a i).2 (show(0+(i:Int)+1)≠0 by omega);have y:=dH (LM.permGo a i).2 (show 0<(0+(i:Int)+1)by omega);refine⟨_,rfl,.inl ⟨rfl,_,SqL.of b⟩,_,rfl,_,rfl,_,_,rfl,rfl,_,_,rfl,rfl,by show 0<(0+(i:Int)+1);omega,_,rfl,p,_,_,_,rfl,rfl,b,v,by rw[cx,c];omega,F4 (by rw[cx,c];omega),?_⟩;refine⟨_,rfl,_,rfl,_,_,rfl,rfl,_,_,rfl,rfl,c9 (by omega) (by omega),?_⟩;refine⟨j.over hp _,?_,some (.int (0+(i:Int))),?_⟩
  ·rw[sQ,LM.permGo,LM.ins,fe,cV,d2,lb,lg]
  ·rw[LM.permGo,fe];rfl
 ·obtain⟨j,b,r,rfl⟩:=m;exact⟨_,rfl,q p d j hp b⟩
theorem JT:Dn P w K mg base Ge 1 "_law_base" ["_law_cell","_law_size"] (Lr):=by
 have x:F6 ["_law_cell","_law_size","_law_found","_law_rest","_law_k"] ["_law_cell","_law_size"] (F3 (F8 59)):=GE;have l:=x.nd;refine M.bv.ok x (λvs H Q E h=>?_) (λ_ _ _ _ _ _ J d=>Ia (λ_ _=>rfl) J d) (λf T A I s H vs Q E W h=>?_)
 ·obtain⟨c,n,rfl,N,q⟩:=h;rfl
 obtain⟨c,n,rfl,N,q⟩:=h;refine⟨_,(sR (sW (i:=2) l rfl (Or.inl rfl) tr)
   (sR (sW (i:=3) l rfl (Or.inl rfl) (sZ ul (pv 0) sT))
   (sR (tH (sX uj (sZ tG (pv 0) sT) sT (F7 _)) (sU (sW (i:=3) l rfl (Or.inl rfl) (sZ tG (sZ t6 (sZ t7 (sZ tG (pv 3) sT) sT) sT) sT))) sY)
   (sR (uH dV rfl (tS rfl M.ae (me (pv 1) sS)) (tj (i:=4) l rfl (Or.inl rfl)) (sR (tH (sX uj (sZ tG (pv 0) sT) sT (F7 _)) (sU (sW (i:=3) l rfl (Or.inl rfl) (sZ tG (sZ t6 (sZ t6 (sZ t6 (sZ t7 (pv 3) (pv 3)) (sZ t7 sT (pv 3))) (pv 4)) sT) sT))) sY)
   (sR (sW (i:=2) l rfl (Or.inl rfl) (sZ uc (pv 2) (ti yG tr (sZ tG (pv 3) sT) (λ_ _=>rfl))))
   (sU (tH (sX uj (sZ tG (pv 0) sT) sT (F7 _)) (sU (sW (i:=3) l rfl (Or.inl rfl) (sZ ul (pv 3) sT))) sY)))))
   (sU (s9 (pv 2))))))),?_⟩
 try dsimp -proj only[tJ,tz,tx]
 have L:=dQ (c/2%2147483647*16807+11) (show(2147483647:Int)≠0 by decide);have R:=dH (c/2%2147483647*16807+11) (show(0:Int)<2147483647 by decide);refine⟨_,rfl,c,2,rfl,rfl,c9 (by decide) (by decide),?_⟩;have nil:Ltr "":=λc v=>nomatch (show c∈([]:List Nat)from v);have p:Ll.length<=sizeLine:=by show 26<=sizeLine;decide
 have pick:∀r:Int,∃k:Nat,k<26/\Ic Ll.cps.toList (r%26)=some (97+k):=λr=>by
  have G:=dQ r (show(26:Int)≠0 by decide);have D:=dH r (show(0:Int)<26 by decide);exact⟨(r%26).toNat,by omega,D6 G D⟩
 have b:∀k:Nat,(⟨#[97+k]⟩:Str).length=1:=λ_=>rfl;refine⟨_,rfl,c,2,rfl,rfl,by show(0:Int)<2;decide,rfl,_,rfl,?_⟩;refine Gq (λu=>?_) (λu=>?_)
 ·have v:c%2=0:=Ke u;refine⟨_,rfl,_,_,rfl,rfl,by show(0:Int)<2147483647;decide,_,_,rfl,rfl,LD (by decide),_,_,rfl,rfl,_,_,rfl,rfl,by show(0:Int)<2147483647;decide,?_⟩;refine⟨_,rfl,(n:Int),rfl,by omega,by omega,?_⟩;refine ua (n:=n) (λi j g=>g=H/\∃(z:Str) (r:Int) (k:Option V),j=[some (.int c),some (.int n),some (.str z),some (.int r),k]/\z.length=i/\Ltr z/\0<=r/\r<2147483647) ⟨rfl,"",_,_,rfl,rfl,nil,L,R⟩ (λi j g S o=>?_) (λj g o=>?_)
  ·obtain⟨rfl,z,r,k,rfl,a,d,U,X⟩:=o;refine⟨_,rfl,c,2,rfl,rfl,by show(0:Int)<2;decide,rfl,_,rfl,Gp u ?_⟩;refine⟨_,rfl,_,rfl,_,_,rfl,rfl,Lu (by omega),_,rfl,_,_,rfl,rfl,Lu (by decide),_,_,rfl,rfl,_,rfl,_,_,rfl,rfl,_,_,rfl,rfl,_,_,rfl,rfl,by show(0:Int)<2147483647;decide,?_⟩;dsimp -proj only;have F:=dQ (r*r+48271*r+(0+(i:Int))+1) (show(2147483647:Int)≠0 by decide);have C:=dH (r*r+48271*r+(0+(i:Int))+1) (show(0:Int)<2147483647 by decide);generalize(r*r+48271*r+(0+(i:Int))+1)%2147483647=y at F C;obtain⟨m,B,t⟩:=pick y;refine⟨_,rfl,_,rfl,y,26,rfl,rfl,by show(0:Int)<26;decide,Ll,_,_,rfl,rfl,p,t,z,_,rfl,rfl,by rw[b,a];exact cZ (F4 (by omega)),?_⟩;refine⟨_,rfl,c,2,rfl,rfl,by show(0:Int)<2;decide,rfl,_,rfl,Gb (λO=>by have:=Ke O;omega) ?_⟩;exact⟨rfl,_,y,_,rfl,by rw[tZ,b,a],d.app (Ltr.one B),F,C⟩
  ·obtain⟨rfl,z,r,k,rfl,a,d,_⟩:=o;exact⟨_,rfl,q z a d⟩
 ·refine⟨_,rfl,(n:Int),rfl,by omega,by omega,?_⟩;have v:c%2=1:=by
   have G:=dQ c (show(2:Int)≠0 by decide);have D:=dH c (show(0:Int)<2 by decide);have:¬c%2=0:=λe=>u (by show V.int (c%2)=V.int 0;rw[e]);omega
  refine ua (n:=n) (λi j g=>g=H/\∃(z:Str) (r:Int) (k:Option V),j=[some (.int c),some (.int n),some (.str z),some (.int r),k]/\z.length=i/\Ltr z) ⟨rfl,"",_,_,rfl,rfl,nil⟩ (λi j g S o=>?_) (λj g o=>?_)
  ·obtain⟨rfl,z,r,k,rfl,a,d⟩:=o;refine⟨_,rfl,c,2,rfl,rfl,by show(0:Int)<2;decide,rfl,_,rfl,Gb u ?_⟩;obtain⟨m,B,t⟩:=pick r;refine⟨_,rfl,_,rfl,r,26,rfl,rfl,by show(0:Int)<26;decide,Ll,_,_,rfl,rfl,p,t,z,_,rfl,rfl,by rw[b,a];exact cZ (F4 (by omega)),?_⟩;refine⟨_,rfl,c,2,rfl,rfl,by show(0:Int)<2;decide,rfl,_,rfl,Gp (by show V.int (c%2)=V.int 1;rw[v]) ?_⟩;refine⟨_,rfl,r,26,rfl,rfl,c9 (by decide) (by decide),?_⟩;exact⟨rfl,_,_,_,rfl,by rw[tZ,b,a],d.app (Ltr.one B)⟩
  ·obtain⟨rfl,z,r,k,rfl,a,d⟩:=o;exact⟨_,rfl,q z a d⟩
theorem JW:Dn P w K mg base Ge 1 "_law_word" ["_law_base_here","_law_place","_law_size","_law_k"] (JS):=by
 have l:F6 ["_law_base_here","_law_place","_law_size","_law_k","_law_letters","_law_other"] ["_law_base_here","_law_place","_law_size","_law_k"] (F3 (F8 60)):=GE;have v:=l.nd;refine M.bw.ok l (λvs H Q E h=>?_) (λ_ _ _ _ _ _ z g=>Oh (λ_ _ _ _=>rfl) z g) (λf D A y s H vs Q E G h=>?_)
 ·obtain⟨b,p,d,k,rfl,o,g,hp,n,hk,q⟩:=h;rfl
 obtain⟨b,p,d,k,rfl,o,g,hp,n,hk,q⟩:=h;refine⟨_,(sR (sW (i:=4) v rfl (Or.inl rfl) tr)
   (sR (sW (i:=5) v rfl (Or.inl rfl) (ti yG (pv 4) (sZ tG (sZ t6 (uF iF PySem.F.slot_str_find PySem.F.type_str_find EK (pv 4) (me (ti yG (pv 0) (pv 1) (λ_ _=>rfl)) sS)) (sZ t7 sT (pv 3))) sT) (λ_ _=>rfl)))
   (sU (s9 (sZ uc (sZ uc (ue wu (pv 0) uG (um (pv 1))) (pv 5)) (ue wu (pv 0) (um (sZ t6 (pv 1) sT)) (um (pv 2)))))))),?_⟩
 try dsimp -proj only[tJ,tz,tx]
 have m:Ll.length<=sizeLine:=by show 26<=sizeLine;decide
 have c:b.length<=sizeLine:=cZ (F4 (by omega));have j:b.cps.toList.length=12:=by rw[<-ui];exact o
 have a:p<b.cps.toList.length:=cJ hp (j▸n);have t:=g _ (db a);have u:Ic b.cps.toList (p:Int)=some b.cps.toList[p]:=t9 (cD a);have r:=C5 (show b.cps.toList[p]-97<26 by omega);rw[show 97+(b.cps.toList[p]-97)=b.cps.toList[p]from iN t.1]at r;have C:=dQ (((b.cps.toList[p]-97:Nat):Int)+3*(k:Int)) (show(26:Int)≠0 by decide);have B:=dH (((b.cps.toList[p]-97:Nat):Int)+3*(k:Int)) (show(0:Int)<26 by decide);refine⟨_,rfl,_,rfl,rfl,_,rfl,_,rfl,b,_,_,rfl,rfl,c,u,Ll,_,rfl,rfl,_,rfl,_,_,rfl,rfl,Lu (by decide),_,_,rfl,rfl,_,_,rfl,rfl,by show(0:Int)<26;decide,Ll,_,_,rfl,rfl,m,by rw[r];exact D6 C B,?_⟩;refine⟨_,rfl,_,rfl,_,rfl,b,rfl,c,?_⟩;rw[wz (show p<=b.cps.toList.length from cZ a)];refine⟨_,rfl,_,_,rfl,rfl,by rw[u9,cX];exact cZ (F4 (by show _+1<=1000;omega)),?_⟩;refine⟨_,rfl,_,rfl,_,_,rfl,rfl,_,rfl,_,rfl,_,rfl,b,rfl,c,?_⟩;rw[show((p:Int)+1)=((p+1:Nat):Int)by push_cast;rfl,CO (show p+1<=d from hp) (show d<=b.cps.toList.length from j▸n)];refine⟨_,_,rfl,rfl,by rw[tZ,u9,u9,u9,cX,cX,eQ];exact cZ (F4 (by show _+1+_<=1000;omega)),?_⟩;have e:(((⟨(b.cps.toList.take p).toArray⟩:Str)++⟨#[97+((((b.cps.toList[p]-97:Nat):Int)+3*(k:Int))%26).toNat]⟩)++⟨((b.cps.toList.drop (p+1)).take (d-(p+1))).toArray⟩:Str)=⟨(GP b.cps.toList p d k).toArray⟩:=by
  refine wJ ?_;rw[t5,t5];unfold GP;rw[HM.getD_lt a,show((((b.cps.toList[p]-97:Nat):Int)+3*(k:Int))%26).toNat=(b.cps.toList[p]-97+3*k)%26 by omega];simp
 have x:=q;rw[<-e]at x;exact x
theorem Jm
  (d:Dn P w K mg base Ge 1 "_law_cell_at" ["_law_script","_law_k"] (Kg K))
  (o:Dn P w K mg base Ge 1 "_law_base" ["_law_cell","_law_size"] (Lr))
  (m:Dn P w K mg base Ge 1 "_law_word" ["_law_base_here","_law_place","_law_size","_law_k"] (JS)):Dn P w K mg base Ge 2 "_law_words" ["_law_script","_law_at","_law_many"] (IZ K):=by
 have G:F6 ["_law_script","_law_at","_law_many","_law_cell","_law_size","_law_base_here","_law_words_here","_law_k","_law_word_here"] ["_law_script","_law_at","_law_many"] (F3 (F8 61)):=GE
 have r:=G.nd
 refine M.bh.ok G (λvs H Q E h=>?_) (λ_ _ _ _ _ _ Y D=>K1 (λ_ _ _=>rfl) Y D) (λf Z A X s H vs Q E C h=>?_)
 ·obtain⟨a,z,y,n,rfl,J,h1,h6,q⟩:=h
  rfl
 obtain⟨a,z,y,n,rfl,J,h1,h6,q⟩:=h
 refine⟨_,(sR (sW (i:=3) r rfl (Or.inl rfl) (tF d C (by decide) rfl F9 (me (pv 0) (me (pv 1) sS))))
   (sR (sW (i:=4) r rfl (Or.inl rfl) (sZ t6 sT (sZ tG (pv 3) sT)))
   (sR (sW (i:=5) r rfl (Or.inl rfl) (tF o C (by decide) rfl F9 (me (tF d C (by decide) rfl F9 (me (pv 0) (me (sZ t6 (pv 1) sT) sS))) (me sT sS))))
   (sR (sW (i:=6) r rfl (Or.inl rfl) (tT sS))
   (sR (uH dV rfl (tS rfl M.ae (me (pv 2) sS)) (tj (i:=7) r rfl (Or.inl rfl)) (sR (sW (i:=8) r rfl (Or.inl rfl) (tF m C (by decide) rfl F9 (me (pv 5) (me (sZ tG (sZ ul (pv 3) sT) (pv 4)) (me (pv 4) (me (pv 7) sS))))))
   (sR (tH (sX uj (sZ tG (sZ ul (pv 3) sT) sT) sT (F7 _)) (sU (sW (i:=8) r rfl (Or.inl rfl) (ue wu (pv 5) uG (um (sZ t6 (pv 7) sT))))) sY)
   (sU (tO (uF df dB dC tL (pv 6) (me (pv 8) sS)))))))
   (sU (s9 (pv 6)))))))),?_⟩
 try dsimp -proj only[tJ,tz,tx]
 refine⟨_,rfl,_,rfl,a,z,_,rfl,J,ea _,?_⟩
 generalize LM.cellAt z (y:Int)=c
 have m0:=dQ c (show(12:Int)≠0 by decide)
 have m1:=dH c (show(0:Int)<12 by decide)
 obtain⟨g,T⟩:∃g:Nat,1+c%12=(g:Int):=⟨(1+c%12).toNat,by omega⟩
 have W:=dQ (c/48) (show(g:Int)≠0 by omega)
 have R:=dH (c/48) (show(0:Int)<g by omega)
 obtain⟨p,hp⟩:∃p:Nat,c/48%(g:Int)=(p:Int):=⟨(c/48%(g:Int)).toNat,Eq.symm (gL W)⟩
 refine⟨_,rfl,c,12,rfl,rfl,by show(0:Int)<12;decide,_,_,rfl,rfl,?_⟩
 dsimp only
 rw[T]
 refine⟨_,rfl,_,rfl,_,_,rfl,rfl,a,z,_,rfl,J,mV (ea _) (by decide),_,12,rfl,by decide,λb I D=>?_⟩
 have x:(0:Nat)<=sizeLine:=by decide
 have U:b.length<=sizeLine:=cZ (F4 (by omega))
 have aa:b.cps.toList.length=12:=by rw[<-ui];exact I
 refine⟨x,λl t=>?_⟩
 refine⟨_,rfl,(n:Int),rfl,by omega,by omega,?_⟩
 refine ua (n:=n) (λi L u=>Same H u/\u l=some (.lst (((dc i).map λk=>if c/12%4=1 then(⟨(b.cps.toList.take (k+1)).toArray⟩:Str)else⟨(GP b.cps.toList p g k).toArray⟩).map V.str))/\∃k w,L=[some (.ref a),some (.int y),some (.int n),some (.int c),some (.int g),some (.str b),some (.ref l),k,w]) ⟨nJ t _,sQ,_,_,rfl⟩ (λi L u hi S=>?_) (λL u S=>?_)
 ·obtain⟨B,j,k,w,rfl⟩:=S
  have v:(((dc i).map λk=>if c/12%4=1 then(⟨(b.cps.toList.take (k+1)).toArray⟩:Str)else⟨(GP b.cps.toList p g k).toArray⟩).map V.str).length<sizeLine:=F4 (by rw[cx,cx,fL];omega)
  refine⟨_,rfl,_,rfl,c,48,rfl,rfl,c9 (by decide) (by decide),_,rfl,_,_,rfl,rfl,by show(0:Int)<g;exact ku W R,_,rfl,_,rfl,b,p,g,i,by show[V.str b,V.int (c/48%(g:Int)),V.int g,V.int (0+(i:Int))]=_;rw[hp,fe],I,D,gv.mp (hp▸R),by omega,by omega,?_⟩
  refine⟨_,rfl,c,12,rfl,rfl,c9 (by decide) (by decide),_,_,rfl,rfl,by show(0:Int)<4;decide,rfl,_,rfl,?_⟩
  refine Gq (λN=>?_) (λN=>?_)
  ·have O:c/12%4=1:=Ke N
   refine⟨_,rfl,_,rfl,_,_,rfl,rfl,_,rfl,b,rfl,U,?_⟩
   rw[show((0:Int)+(i:Int)+1)=((i+1:Nat):Int)by omega,wz (show i+1<=b.cps.toList.length by omega)]
   refine⟨_,rfl,.inl ⟨rfl,_,SqL.of j⟩,_,rfl,l,_,_,rfl,rfl,j,v,?_⟩
   refine⟨B.over t _,?_,_,_,rfl⟩
   rw[sQ,gq,cV,cV,nZ,if_pos O]
   rfl
  ·have O:¬c/12%4=1:=λe=>N (by show V.int (c/12%4)=V.int 1;rw[e])
   refine⟨_,rfl,.inl ⟨rfl,_,SqL.of j⟩,_,rfl,l,_,_,rfl,rfl,j,v,?_⟩
   refine⟨B.over t _,?_,_,_,rfl⟩
   rw[sQ,gq,cV,cV,nZ,if_neg O]
   rfl
 ·obtain⟨B,j,k,w,rfl⟩:=S
  exact⟨_,rfl,q l _ u B t j (AU I D (gv.mp (hp▸R)) (by omega) h1 h6) (by rw[cx,fL])⟩
theorem IE:Dn P w K mg base Ge 1 "_law_divisor" ["_law_one","_law_other"] (Je):=by
 have g:F6 ["_law_one","_law_other","_law_rest"] ["_law_one","_law_other"] (F3 (F8 57)):=GE;have o:=g.nd;refine M.aU.ok g (λvs H Q E h=>?_) (λ_ _ _ _ _ _ x D=>Ia (λ_ _=>rfl) x D) (λf G A u s H vs Q E L h=>?_)
 ·obtain⟨i,j,rfl,p,q⟩:=h;rfl
 obtain⟨i,j,rfl,p,q⟩:=h;refine⟨_,(sR (vt dV (sX zb (pv 1) sT (F7 _)) (sR (sW (i:=2) o rfl (Or.inl rfl) (sZ tG (pv 0) (pv 1)))
   (sR (sW (i:=0) o rfl (Or.inl rfl) (pv 1))
   (sU (sW (i:=1) o rfl (Or.inl rfl) (pv 2))))))
   (sU (s9 (sV yu rfl M.aO Boot.«abs» (me (pv 0) sS))))),?_⟩
 try dsimp -proj only[tJ,tz,tx]
 refine yn (λm n l=>l=H/\∃(a b:Int) (r:Option V),n=[some (.int a),some (.int b),r]/\0<=b/\Int.gcd a b=Int.gcd i j/\m=b.toNat)
  ⟨_,rfl,_,_,_,rfl,p,rfl,rfl⟩ (λm n l F=>?_) (λn l N J y h=>?_)
 ·obtain⟨rfl,a,b,r,rfl,I,t,rfl⟩:=F;refine⟨_,rfl,rfl,_,rfl,?_⟩;refine Ir (λc=>?_) (λc=>?_)
  ·have d:b≠0:=λz=>c (by rw[z]);refine⟨_,rfl,_,rfl,a,b,rfl,rfl,by show(0:Int)<b;omega,_,rfl,_,rfl,?_⟩;refine⟨(a%b).toNat,?_,rfl,b,a%b,_,rfl,dQ _ d,?_,rfl⟩
   ·have:=dH a (show 0<b by omega);have:=dQ a d;omega
   ·rw[FQ.gcd_turn,t]
  ·have d:b=0:=Ke c;subst d;refine⟨_,rfl,a,rfl,?_⟩;have e:(if a<0 then -a else a)=(Int.gcd i j:Int):=by rw[<-t];simp;split <;> omega
   rw[e];exact q
 ·obtain⟨v,e,B,k,C,q⟩:=h;exact⟨v,e,B,k,C,y _ _ q⟩
theorem IK
  (a:Dn P w K mg base Ge 1 "_law_divisor" ["_law_one","_law_other"] (Je)):Dn P w K mg base Ge 2 "_law_lowest" ["_law_top","_law_bottom"] (JL):=by
 have e:F6 ["_law_top","_law_bottom","_law_share"] ["_law_top","_law_bottom"] (F3 (F8 58)):=GE
 have j:=e.nd
 refine M.a7.ok e (λvs H Q E h=>?_) (λ_ _ _ _ _ _ l o=>Ia (λ_ _=>rfl) l o) (λf r A k s H vs Q E n h=>?_)
 ·obtain⟨t,b,rfl,c,g,q⟩:=h
  rfl
 obtain⟨t,b,rfl,c,g,q⟩:=h
 refine⟨_,(sR (tH (sX AY (pv 1) sT (F7 _)) Br sY)
   (sR (tH (sX uj (pv 1) sT (F7 _)) (sU (sW (i:=1) j rfl (Or.inl rfl) sT)) sY)
   (sR (sW (i:=2) j rfl (Or.inl rfl) (tF a n (by decide) rfl F9 (me (pv 0) (me (pv 1) sS))))
   (sU (s9 (tQ (me (sZ ul (pv 0) (pv 2)) (me (sZ ul (pv 1) (pv 2)) sS)))))))),?_⟩
 try dsimp -proj only[tJ,tz,tx]
 refine⟨_,rfl,_,_,rfl,rfl,_,rfl,Gb (lE (dZ c)) ?_⟩
 refine⟨_,rfl,rfl,_,rfl,Gb (Ol (dM c)) ?_⟩
 refine⟨_,rfl,_,rfl,t,b,rfl,dZ c,?_⟩
 have d:=(wm (t:=t) (b:=b) (by omega) g).2 (by omega)
 have m:0<Int.gcd t b:=fE _ (dM c)
 refine⟨_,rfl,_,rfl,t,_,rfl,rfl,⟨gv.mpr m,d.1.2⟩,_,rfl,_,rfl,b,_,rfl,rfl,⟨by omega,d.1.2⟩,by show 2<=sizeLine;decide,λp hp=>q p _ (nJ hp _) ?_⟩
 rw[sQ]
 show some (HO.tup [V.int (t/_),V.int (b/_)])=_
 rw[<-iW t (ea _),<-iW b (by omega),d.2.1,d.2.2]
 rfl
theorem GS{n:Nat}
  (e:Dn P w K mg base Ge n "_law_same" ["_law_found","_law_due_here"] (Lh (Ko K) n)):Dn P w K mg base Ge (n+1) "_law_same" ["_law_found","_law_due_here"] (Ko K n):=by
 have D:F6 ["_law_found","_law_due_here","_law_k"] ["_law_found","_law_due_here"] (F3 (F8 62)):=GE
 have U:=D.nd
 refine M.av.ok D (λvs H Q E h=>?_) (λ_ _ _ _ _ _ T V=>Ia (λ_ _=>rfl) T V) (λf W A S s H vs Q E B h=>?_)
 ·obtain⟨v,u,d,rfl,O,o,c,q⟩:=h
  rfl
 obtain⟨v,u,d,rfl,O,o,c,q⟩:=h
 refine⟨_,(sR (tH (PW.pt (yF (tV (sV tW rfl M.aa Boot.«isinstance» (me (pv 1) (me (uV rfl M.ag Boot.«tuple») sS)))) (xE (tV (sV tW rfl M.aa Boot.«isinstance» (me (pv 1) (me (uV rfl M.af Boot.«list») sS))))))) (sR (tH (PW.pt (yF (sX zb (sV tW rfl M.aa Boot.«isinstance» (me (pv 0) (me (uV rfl M.ag Boot.«tuple») sS))) (sV tW rfl M.aa Boot.«isinstance» (me (pv 1) (me (uV rfl M.ag Boot.«tuple») sS))) (F7 _)) (xE (sX zb (sV tW rfl M.aa Boot.«isinstance» (me (pv 0) (me (uV rfl M.af Boot.«list») sS))) (sV tW rfl M.aa Boot.«isinstance» (me (pv 1) (me (uV rfl M.af Boot.«list») sS))) (F7 _))))) (sU (s9 wj)) sY)
   (sR (tH (sX zb (sV tm rfl M.ac dL (me (pv 0) sS)) (sV tm rfl M.ac dL (me (pv 1) sS)) (F7 _)) (sU (s9 wj)) sY)
   (sR (uH dV rfl (tS rfl M.ae (me (sV tm rfl M.ac dL (me (pv 1) sS)) sS)) (tj (i:=2) U rfl (Or.inl rfl)) (sU (tH (uP (tV (tF e B (cI _) rfl F9 (me (ti Eb (pv 0) (pv 2) (λ_ _=>rfl)) (me (ti Eb (pv 1) (pv 2) (λ_ _=>rfl)) sS))))) (sU (s9 wj)) sY)))
   (sU (s9 wj))))) sY)
   (sR (tH (tV (sV tW rfl M.aa Boot.«isinstance» (me (pv 1) (me (uV rfl M.ar Boot.«bool») sS)))) (sU (s9 (vH (sV tW rfl M.aa Boot.«isinstance» (me (pv 0) (me (uV rfl M.ar Boot.«bool») sS))) (xj (uZ (vP B) (pv 0) (pv 1) (F7 _)))))) sY)
   (sR (tH (tV (sV tW rfl M.aa Boot.«isinstance» (me (pv 1) (me (uV rfl M.aA Boot.«int») sS)))) (sU (s9 (vH (sV tW rfl M.aa Boot.«isinstance» (me (pv 0) (me (uV rfl M.aA Boot.«int») sS))) (vH (Ea (sV tW rfl M.aa Boot.«isinstance» (me (pv 0) (me (uV rfl M.ar Boot.«bool») sS)))) (xj (uZ (vP B) (pv 0) (pv 1) (F7 _))))))) sY)
   (sR (tH (tV (sV tW rfl M.aa Boot.«isinstance» (me (pv 1) (me (uV rfl M.aN Boot.«str») sS)))) (sU (s9 (vH (sV tW rfl M.aa Boot.«isinstance» (me (pv 0) (me (uV rfl M.aN Boot.«str») sS))) (xj (uZ (vP B) (pv 0) (pv 1) (F7 _)))))) sY)
   (sU (s9 (vH (uZ Bu (pv 1) vv (F7 _)) (xj (uZ Bu (pv 0) vv (F7 _)))))))))),?_⟩
 try dsimp -proj only[tJ,tz,tx]
 cases O with
 | non=>
  cases o
  refine⟨_,rfl,_,_,"NoneType",rfl,by decide,rfl,_,rfl,Gg ⟨_,rfl,_,_,"NoneType",rfl,by decide,rfl,_,rfl,Gg ?_⟩⟩
  refine⟨_,rfl,_,_,"NoneType",rfl,by decide,rfl,_,rfl,Gg ?_⟩
  refine⟨_,rfl,_,_,"NoneType",rfl,by decide,rfl,_,rfl,Gg ?_⟩
  refine⟨_,rfl,_,_,"NoneType",rfl,by decide,rfl,_,rfl,Gg ?_⟩
  exact⟨_,rfl,rfl,_,rfl,Gu ⟨_,rfl,rfl,q⟩⟩
 | bl b=>
  cases o
  refine⟨_,rfl,_,_,"bool",rfl,by decide,rfl,_,rfl,Gg ⟨_,rfl,_,_,"bool",rfl,by decide,rfl,_,rfl,Gg ?_⟩⟩
  refine⟨_,rfl,_,_,"bool",rfl,by decide,rfl,_,rfl,Gu ?_⟩
  refine⟨_,rfl,_,_,"bool",rfl,by decide,rfl,_,rfl,Gu ?_⟩
  refine⟨_,rfl,_,rfl,_,_,.bl b,.bl b,rfl,rfl,?_⟩
  rw[show fz (.bool b) (.bool b)=true by simp[fz]]
  exact q
 | int i=>
  cases o
  refine⟨_,rfl,_,_,"int",rfl,by decide,rfl,_,rfl,Gg ⟨_,rfl,_,_,"int",rfl,by decide,rfl,_,rfl,Gg ?_⟩⟩
  refine⟨_,rfl,_,_,"int",rfl,by decide,rfl,_,rfl,Gg ?_⟩
  refine⟨_,rfl,_,_,"int",rfl,by decide,rfl,_,rfl,Gu ?_⟩
  refine⟨_,rfl,_,_,"int",rfl,by decide,rfl,_,rfl,Gu ⟨_,rfl,_,_,"int",rfl,by decide,rfl,_,rfl,_,rfl,Gu ?_⟩⟩
  refine⟨_,rfl,_,rfl,_,_,.int i,.int i,rfl,rfl,?_⟩
  rw[show fz (.int i) (.int i)=true by simp[fz]]
  exact q
 | str x=>
  cases o
  have C:fy (.str x)=true:=by cases n <;> simpa [Ho]using c
  refine⟨_,rfl,_,_,"str",rfl,by decide,rfl,_,rfl,Gg ⟨_,rfl,_,_,"str",rfl,by decide,rfl,_,rfl,Gg ?_⟩⟩
  refine⟨_,rfl,_,_,"str",rfl,by decide,rfl,_,rfl,Gg ?_⟩
  refine⟨_,rfl,_,_,"str",rfl,by decide,rfl,_,rfl,Gg ?_⟩
  refine⟨_,rfl,_,_,"str",rfl,by decide,rfl,_,rfl,Gu ?_⟩
  refine⟨_,rfl,_,_,"str",rfl,by decide,rfl,_,rfl,Gu ?_⟩
  refine⟨_,rfl,_,rfl,_,_,.str x,.str x,C,C,?_⟩
  rw[show fz (.str x) (.str x)=true by simp[fz]]
  exact q
 | @lst a xs ds hv hvs hl1=>
  cases o with
  | @lst b ys _ hu hus hl2=>
  cases n with
  | zero=>cases c
  | succ n=>

  have z:=Reps.length hvs
  have p:=Reps.length hus
  refine⟨_,rfl,_,_,"list",rfl,by decide,.inl ⟨rfl,_,hu⟩,_,rfl,Gg ⟨_,rfl,_,_,"list",rfl,by decide,.inl ⟨rfl,_,hu⟩,_,rfl,Gu ?_⟩⟩
  refine⟨_,rfl,_,_,"list",rfl,by decide,.inl ⟨rfl,_,hv⟩,_,rfl,_,_,"list",rfl,by decide,.inl ⟨rfl,_,hu⟩,rfl,_,rfl,HJ rfl ?_⟩
  refine⟨_,rfl,_,_,"list",rfl,by decide,.inl ⟨rfl,_,hv⟩,_,rfl,_,_,"list",rfl,by decide,.inl ⟨rfl,_,hu⟩,rfl,_,rfl,HJ rfl ?_⟩
  refine⟨_,rfl,_,_,rfl,.inl hv,_,rfl,_,_,rfl,.inl hu,rfl,_,rfl,HJ (by rw[z,p]) ?_⟩
  refine⟨_,rfl,_,_,rfl,.inl hu,_,rfl,by omega,by omega,?_⟩
  refine ua (λi l j=>j=H/\∃r,l=[some _,some _,r]) ⟨rfl,_,rfl⟩ (λi l j R m=>?_) (λl j m=>?_)
  ·obtain⟨rfl,r,rfl⟩:=m
   have g:i<ds.length:=kF R p
   have t:ds[i]?=some ds[i]:=by simp[g]
   obtain⟨x,J,G⟩:=Reps.get hvs t
   obtain⟨y,L,F⟩:=Reps.get hus t
   have k:Ho n ds[i]=true:=dX.mp c _ (db g)
   have N:Ic xs (0+(i:Int))=some x:=by rw[fe];exact t9 J
   have I:Ic ys (0+(i:Int))=some y:=by rw[fe];exact t9 L
   exact⟨_,rfl,_,rfl,.inl ⟨_,xs,_,x,rfl,rfl,hv,N,_,rfl,_,rfl,.inl ⟨_,ys,_,y,rfl,rfl,hu,I,x,y,ds[i],rfl,G,F,k,_,rfl,Gg ⟨rfl,_,rfl⟩⟩⟩⟩
  ·obtain⟨rfl,r,rfl⟩:=m
   exact q
 | @tup a xs ds hv hvs hl1=>
  cases o with
  | @tup b ys _ hu hus hl2=>
  cases n with
  | zero=>cases c
  | succ n=>

  have z:=Reps.length hvs
  have p:=Reps.length hus
  refine⟨_,rfl,_,_,"tuple",rfl,by decide,.inr ⟨rfl,_,hu⟩,_,rfl,Gu ?_⟩
  refine⟨_,rfl,_,_,"tuple",rfl,by decide,.inr ⟨rfl,_,hv⟩,_,rfl,_,_,"tuple",rfl,by decide,.inr ⟨rfl,_,hu⟩,rfl,_,rfl,HJ rfl ?_⟩
  refine⟨_,rfl,_,_,"tuple",rfl,by decide,.inr ⟨rfl,_,hv⟩,_,rfl,_,_,"tuple",rfl,by decide,.inr ⟨rfl,_,hu⟩,rfl,_,rfl,HJ rfl ?_⟩
  refine⟨_,rfl,_,_,rfl,.inr hv,_,rfl,_,_,rfl,.inr hu,rfl,_,rfl,HJ (by rw[z,p]) ?_⟩
  refine⟨_,rfl,_,_,rfl,.inr hu,_,rfl,by omega,by omega,?_⟩
  refine ua (λi l j=>j=H/\∃r,l=[some _,some _,r]) ⟨rfl,_,rfl⟩ (λi l j R m=>?_) (λl j m=>?_)
  ·obtain⟨rfl,r,rfl⟩:=m
   have g:i<ds.length:=by omega
   have t:ds[i]?=some ds[i]:=by simp[g]
   obtain⟨x,J,G⟩:=Reps.get hvs t
   obtain⟨y,L,F⟩:=Reps.get hus t
   have k:Ho n ds[i]=true:=dX.mp c _ (db g)
   have N:Ic xs (0+(i:Int))=some x:=by rw[fe];exact t9 J
   have I:Ic ys (0+(i:Int))=some y:=by rw[fe];exact t9 L
   exact⟨_,rfl,_,rfl,.inr (.inl ⟨_,xs,_,x,rfl,rfl,hv,N,_,rfl,_,rfl,.inr (.inl ⟨_,ys,_,y,rfl,rfl,hu,I,x,y,ds[i],rfl,G,F,k,_,rfl,Gg ⟨rfl,_,rfl⟩⟩)⟩)⟩
  ·obtain⟨rfl,r,rfl⟩:=m
   exact q
theorem Ji:Dn P w K mg base Ge 1 "_law_kinds" ["_law_e"] (HS x):=by
 have j:F6 ["_law_e","_law_found"] ["_law_e"] (F3 (F8 63)):=GE;have r:=j.nd;refine M.bi.ok j (λvs H Q E h=>?_) (λ_ _ _ _ _ _ n t=>Kv (λ_=>rfl) n t) (λf v A m s H vs Q E y h=>?_)
 ·obtain⟨a,C,l,rfl,k,hk,q⟩:=h;rfl
 obtain⟨a,C,l,rfl,k,hk,q⟩:=h;refine⟨_,(sR (sW (i:=1) r rfl (Or.inl rfl) (tT sS))
   (sR (tH (tV (sV uA rfl M.aa Boot.«isinstance» (me (pv 0) (me (vJ M.au) sS)))) (sU (tO (uF df dB dC tL (pv 1) (me tr sS)))) sY)
   (sR (tH (tV (sV uA rfl M.aa Boot.«isinstance» (me (pv 0) (me (vJ M.aB) sS)))) (sU (tO (uF df dB dC tL (pv 1) (me tr sS)))) sY)
   (sR (tH (tV (sV uA rfl M.aa Boot.«isinstance» (me (pv 0) (me (vJ M.bT) sS)))) (sU (tO (uF df dB dC tL (pv 1) (me tr sS)))) sY)
   (sR (tH (tV (sV uA rfl M.aa Boot.«isinstance» (me (pv 0) (me (vJ M.aJ) sS)))) (sU (tO (uF df dB dC tL (pv 1) (me tr sS)))) sY)
   (sR (tH (tV (sV uA rfl M.aa Boot.«isinstance» (me (pv 0) (me (vJ M.bU) sS)))) (sU (tO (uF df dB dC tL (pv 1) (me tr sS)))) sY)
   (sR (tH (tV (sV uA rfl M.aa Boot.«isinstance» (me (pv 0) (me (vJ M.aK) sS)))) (sU (tO (uF df dB dC tL (pv 1) (me tr sS)))) sY)
   (sR (tH (tV (sV uA rfl M.aa Boot.«isinstance» (me (pv 0) (me (vJ M.aC) sS)))) (sU (tO (uF df dB dC tL (pv 1) (me tr sS)))) sY)
   (sR (tH (tV (sV uA rfl M.aa Boot.«isinstance» (me (pv 0) (me (vJ M.aE) sS)))) (sU (tO (uF df dB dC tL (pv 1) (me tr sS)))) sY)
   (sR (tH (tV (sV uA rfl M.aa Boot.«isinstance» (me (pv 0) (me (vJ M.aW) sS)))) (sU (tO (uF df dB dC tL (pv 1) (me tr sS)))) sY)
   (sR (tH (uP (tV (sV uA rfl M.aa Boot.«isinstance» (me (pv 0) (me (uV rfl M.bj Boot.«ValueError») sS))))) (sU (tO (uF df dB dC tL (pv 1) (me tr sS)))) sY)
   (sU (s9 (pv 1)))))))))))))),?_⟩
 try dsimp -proj only[tJ,tz,tx]
 obtain⟨i,c,u,rfl⟩:∃i,KK K x C i/\i<9/\l=Nl i:=by
  rcases hk with⟨rfl,rfl⟩|⟨rfl,rfl⟩|⟨rfl,rfl⟩|⟨rfl,rfl⟩|⟨rfl,rfl⟩|⟨rfl,rfl⟩
  ·exact⟨1,M.bN,by decide,rfl⟩
  ·exact⟨3,M.b5,by decide,rfl⟩
  ·exact⟨5,M.b6,by decide,rfl⟩
  ·exact⟨6,M.bO,by decide,rfl⟩
  ·exact⟨7,M.bV,by decide,rfl⟩
  ·exact⟨8,M.cf,by decide,rfl⟩
 refine⟨by show(0:Nat)<=sizeLine;decide,λp hp=>?_⟩;have d:a≠p:=tE k hp;have h1:upd H p (.lst []) a=some (Kr C a):=by rw[td d];exact k
 have h2:Same H (upd H p (.lst [])):=nJ hp _;have h3:upd H p (.lst []) p=some (.lst (kL i 0)):=sQ;generalize upd H p (.lst [])=b at h1 h2 h3 ⊢

 refine⟨_,rfl,a,C,.ref (K6 x 0),decide (i=0),rfl,h1,c.is,.inl ⟨_,rfl,c.one 0 (by decide)⟩,_,rfl,?_⟩;show if decide (i=0)=true then _ else _
 apply HP (KP H C a p i 1) b (λe=>⟨h1,h2,(ya e).symm▸h3⟩)
 case hA=>
  intro e g;exact⟨_,rfl,.inl ⟨rfl,_,SqL.of h3⟩,p,_,_,rfl,rfl,h3,v4 i 0,g _ (KP.put h1 h2 d hp e)⟩
 clear h1 h2 h3 b;rintro b ⟨h1,h2,h3⟩

 refine⟨_,rfl,a,C,.ref (K6 x 1),decide (i=1),rfl,h1,c.is,.inl ⟨_,rfl,c.one 1 (by decide)⟩,_,rfl,?_⟩;show if decide (i=1)=true then _ else _
 apply HP (KP H C a p i 2) b (λe=>⟨h1,h2,(ya e).symm▸h3⟩)
 case hA=>
  intro e g;exact⟨_,rfl,.inl ⟨rfl,_,SqL.of h3⟩,p,_,_,rfl,rfl,h3,v4 i 1,g _ (KP.put h1 h2 d hp e)⟩
 clear h1 h2 h3 b;rintro b ⟨h1,h2,h3⟩

 refine⟨_,rfl,a,C,.ref (K6 x 2),decide (i=2),rfl,h1,c.is,.inl ⟨_,rfl,c.one 2 (by decide)⟩,_,rfl,?_⟩;show if decide (i=2)=true then _ else _
 apply HP (KP H C a p i 3) b (λe=>⟨h1,h2,(ya e).symm▸h3⟩)
 case hA=>
  intro e g;exact⟨_,rfl,.inl ⟨rfl,_,SqL.of h3⟩,p,_,_,rfl,rfl,h3,v4 i 2,g _ (KP.put h1 h2 d hp e)⟩
 clear h1 h2 h3 b;rintro b ⟨h1,h2,h3⟩

 refine⟨_,rfl,a,C,.ref (K6 x 3),decide (i=3),rfl,h1,c.is,.inl ⟨_,rfl,c.one 3 (by decide)⟩,_,rfl,?_⟩;show if decide (i=3)=true then _ else _
 apply HP (KP H C a p i 4) b (λe=>⟨h1,h2,(ya e).symm▸h3⟩)
 case hA=>
  intro e g;exact⟨_,rfl,.inl ⟨rfl,_,SqL.of h3⟩,p,_,_,rfl,rfl,h3,v4 i 3,g _ (KP.put h1 h2 d hp e)⟩
 clear h1 h2 h3 b;rintro b ⟨h1,h2,h3⟩

 refine⟨_,rfl,a,C,.ref (K6 x 4),decide (i=4),rfl,h1,c.is,.inl ⟨_,rfl,c.one 4 (by decide)⟩,_,rfl,?_⟩;show if decide (i=4)=true then _ else _
 apply HP (KP H C a p i 5) b (λe=>⟨h1,h2,(ya e).symm▸h3⟩)
 case hA=>
  intro e g;exact⟨_,rfl,.inl ⟨rfl,_,SqL.of h3⟩,p,_,_,rfl,rfl,h3,v4 i 4,g _ (KP.put h1 h2 d hp e)⟩
 clear h1 h2 h3 b;rintro b ⟨h1,h2,h3⟩

 refine⟨_,rfl,a,C,.ref (K6 x 5),decide (i=5),rfl,h1,c.is,.inl ⟨_,rfl,c.one 5 (by decide)⟩,_,rfl,?_⟩;show if decide (i=5)=true then _ else _
 apply HP (KP H C a p i 6) b (λe=>⟨h1,h2,(ya e).symm▸h3⟩)
 case hA=>
  intro e g;exact⟨_,rfl,.inl ⟨rfl,_,SqL.of h3⟩,p,_,_,rfl,rfl,h3,v4 i 5,g _ (KP.put h1 h2 d hp e)⟩
 clear h1 h2 h3 b;rintro b ⟨h1,h2,h3⟩

 refine⟨_,rfl,a,C,.ref (K6 x 6),decide (i=6),rfl,h1,c.is,.inl ⟨_,rfl,c.one 6 (by decide)⟩,_,rfl,?_⟩;show if decide (i=6)=true then _ else _
 apply HP (KP H C a p i 7) b (λe=>⟨h1,h2,(ya e).symm▸h3⟩)
 case hA=>
  intro e g;exact⟨_,rfl,.inl ⟨rfl,_,SqL.of h3⟩,p,_,_,rfl,rfl,h3,v4 i 6,g _ (KP.put h1 h2 d hp e)⟩
 clear h1 h2 h3 b;rintro b ⟨h1,h2,h3⟩

 refine⟨_,rfl,a,C,.ref (K6 x 7),decide (i=7),rfl,h1,c.is,.inl ⟨_,rfl,c.one 7 (by decide)⟩,_,rfl,?_⟩;show if decide (i=7)=true then _ else _
 apply HP (KP H C a p i 8) b (λe=>⟨h1,h2,(ya e).symm▸h3⟩)
 case hA=>
  intro e g;exact⟨_,rfl,.inl ⟨rfl,_,SqL.of h3⟩,p,_,_,rfl,rfl,h3,v4 i 7,g _ (KP.put h1 h2 d hp e)⟩
 clear h1 h2 h3 b;rintro b ⟨h1,h2,h3⟩

 refine⟨_,rfl,a,C,.ref (K6 x 8),decide (i=8),rfl,h1,c.is,.inl ⟨_,rfl,c.one 8 (by decide)⟩,_,rfl,?_⟩;show if decide (i=8)=true then _ else _
 apply HP (KP H C a p i 9) b (λe=>⟨h1,h2,(ya e).symm▸h3⟩)
 case hA=>
  intro e g;exact⟨_,rfl,.inl ⟨rfl,_,SqL.of h3⟩,p,_,_,rfl,rfl,h3,v4 i 8,g _ (KP.put h1 h2 d hp e)⟩
 clear h1 h2 h3 b;rintro b ⟨h1,h2,h3⟩

 refine⟨_,rfl,a,C,.ty "ValueError",true,rfl,h1,c.is,.inr ⟨_,rfl,c.val⟩,_,rfl,Gg ?_⟩;have o:kL i 9=[.str (Nl i)]:=if_pos u;exact⟨_,rfl,q p b h2 hp (o▸h3)⟩
theorem Ig:Dn P w K mg base Ge 1 "_law_bad_roll" ["_law_roll","_law_cell"] (IV):=by
 have ar:F6 ["_law_roll","_law_cell","_law_at","_law_place","_law_signs","_law_sign","_law_bad","_law_other"] ["_law_roll","_law_cell"] (F3 (F8 64)):=GE;have X:=ar.nd;refine M.aM.ok ar (λvs H Q E h=>?_) (λ_ _ _ _ _ _ us hl=>Ia (λ_ _=>rfl) us hl) (λf aE A aD s H vs Q E hr h=>?_)
 ·obtain⟨a,b,c,rfl,hA,B,q⟩:=h;rfl
 obtain⟨a,b,c,rfl,hA,B,q⟩:=h;refine⟨_,(sR (sW (i:=2) X rfl (Or.inl rfl) (sZ tG (sZ ul (pv 1) sT) (sV tm rfl M.ac dL (me (pv 0) sS))))
   (sR (tH (sX uj (sZ tG (pv 1) sT) sT (F7 _)) (sU (s9 (tT sS))) sY)
   (sR (tH (sX uj (sZ tG (pv 1) sT) sT (F7 _)) (sU (s9 (tT (BO (is:=["a","b","c","d","e","f","g"]) rfl)))) sY)
   (sR (tH (sX uj (sZ tG (pv 1) sT) sT (F7 _)) (sU (s9 (ue wh (pv 0) (um sT) uG))) sY)
   (sR (tH (sX uj (sZ tG (pv 1) sT) sT (F7 _)) (sU (s9 (sZ y4 (pv 0) (tT (me tr sS))))) sY)
   (sR (tH (PW.pt (vx (sX uj (sZ tG (pv 1) sT) sT (F7 _)) (vF (sX Fy (sV tm rfl M.ac dL (me (pv 0) sS)) sT (F7 _))))) (sU (s9 (sZ y4 (sZ y4 (ue wh (pv 0) uG (um (pv 2))) (tT (me (ti tw (pv 0) (sZ xK (pv 2) sT) (λ_ _=>rfl)) sS))) (ue wh (pv 0) (um (sZ t6 (pv 2) sT)) uG)))) sY)
   (sR (sW (i:=3) X rfl (Or.inl rfl) (sZ tG (sZ ul (pv 1) sT) (sV vi rfl M.ac dL (me (ti tw (pv 0) (pv 2) (λ_ _=>rfl)) sS))))
   (sR (sW (i:=4) X rfl (Or.inl rfl) tr)
   (sR (sW (i:=5) X rfl (Or.inl rfl) (ti yG (pv 4) (sZ tG (sZ ul (pv 1) sT) (sV vi rfl M.ac dL (me (pv 4) sS))) (λ_ _=>rfl)))
   (sR (sW (i:=6) X rfl (Or.inl rfl) (sZ uc (sZ uc (ue wu (ti tw (pv 0) (pv 2) (λ_ _=>rfl)) uG (um (pv 3))) (pv 5)) (ue wu (ti tw (pv 0) (pv 2) (λ_ _=>rfl)) (um (sZ t6 (pv 3) sT)) uG)))
   (sR (sW (i:=7) X rfl (Or.inl rfl) (ti tw (tT (me (ue wu (sZ AK (ti tw (pv 0) (pv 2) (λ_ _=>rfl)) sT) uG (um sT)) (me tr (me (pv 6) sS)))) (sZ tG (pv 1) sT) (λ_ _=>rfl)))
   (sU (s9 (sZ y4 (sZ y4 (ue wh (pv 0) uG (um (pv 2))) (tT (me (pv 7) sS))) (ue wh (pv 0) (um (sZ t6 (pv 2) sT)) uG))))))))))))))),?_⟩
 try dsimp -proj only[tJ,tz,tx]
 have ak:(0:Nat)<=sizeLine:=by decide
 have y:(1:Nat)<=sizeLine:=by decide
 have ah:(3:Nat)<=sizeLine:=by decide
 have h1:=B.lo;have h6:=B.hi;have O:(b.map V.str).length=b.length:=cx ..;obtain⟨k,hk,d⟩:=yr (x:=c/8) h1;refine⟨_,rfl,c,8,rfl,rfl,c9 (by decide) (by decide),_,rfl,a,_,rfl,.inl (SqL.of hA),_,_,rfl,rfl,zK h1,?_⟩;dsimp only;rw[O,hk];have p8:(0:Int)<8:=by decide
 refine⟨_,rfl,c,8,rfl,rfl,p8,rfl,_,rfl,?_⟩;refine Gq (λ_=>⟨ak,λp hp=>q p [] _ (nJ hp _) sQ EH⟩) (λ_=>?_);refine⟨_,rfl,c,8,rfl,rfl,p8,rfl,_,rfl,?_⟩;refine Gq (λ_=>⟨by show 7<=sizeLine;decide,λp hp=>q p Lv _ (nJ hp _) sQ B6⟩) (λ_=>?_);refine⟨_,rfl,c,8,rfl,rfl,p8,rfl,_,rfl,?_⟩;refine Gq (λ_=>?_) (λ_=>?_)
 ·refine⟨_,rfl,1,rfl,a,_,rfl,SqL.of hA,λp hp=>q p (b.drop 1) _ (nJ hp _) ?_ (DQ B)⟩;rw[sQ];exact congrArg (λz=>some (HO.lst z)) (xc (k:=1) h1)
 refine⟨_,rfl,c,8,rfl,rfl,p8,rfl,_,rfl,?_⟩;refine Gq (λ_=>?_) (λ_=>?_)
 ·refine⟨_,rfl,y,λp1 aj=>?_⟩;have Y:=nJ aj (.lst [V.str "aaaaaaaaaaaa"]);refine⟨a,p1,_,_,rfl,rfl,Y _ _ hA,sQ,by rw[O];exact cZ (F4 (by show _+1<=1000;exact dS (cO h6 (by decide)))),λp hp=>?_⟩;refine q p (b++[cU "aaaaaaaaaaaa"]) _ (Y.trans (nJ hp _)) ?_ (Ds B ⟨by decide,vB (by decide +kernel)⟩);rw[sQ,cV];rfl
 have Z:(b.map V.str)[k]?=some (.str b[k]):=by rw[cL,cD d];rfl
 have L:=B.wd _ (db d);refine⟨_,rfl,c,8,rfl,rfl,p8,rfl,_,rfl,Nf ?_ (λ_ hB=>?_)⟩;rotate_left
 ·refine⟨_,rfl,a,_,rfl,.inl (SqL.of hA),_,_,rfl,rfl,_,rfl,Gq (λc1=>?_) (λ_=>hB)⟩;rw[O]at c1;obtain⟨v,hv⟩:∃v,b[if k=0 then b.length-1 else k-1]?=some v:=⟨_,cD (by split <;> omega)⟩;have aw:=B3 (v:=v) (k:=k) B d hv (by split <;> omega);have ay:Ic (b.map V.str) ((k:Int)-1)=some (.str v):=zS (by rw[O];exact d) (by rw[O,cL,hv];rfl);have I:=(Same.refl H) _ _ hA;refine⟨_,rfl,_,rfl,_,rfl,a,_,rfl,SqL.of I,λl ag=>?_⟩;have T:Same H (upd H l (.lst ((b.take k).map V.str))):=nJ ag _;have n:upd H l (.lst ((b.take k).map V.str)) l=some (.lst ((b.take k).map V.str)):=sQ;rw[Cu (cZ d)];generalize upd H l (.lst ((b.take k).map V.str))=C at T n ⊢;have W:=T _ _ I;refine⟨_,rfl,_,rfl,_,_,rfl,rfl,a,_,_,_,rfl,rfl,SqL.of W,ay,?_⟩;refine⟨y,λu af=>?_⟩;have F:Same C (upd C u (.lst [V.str v])):=nJ af _;have r:upd C u (.lst [V.str v]) u=some (.lst [V.str v]):=sQ;generalize upd C u (.lst [V.str v])=G at F r ⊢;refine⟨l,u,_,_,rfl,rfl,F _ _ n,r,cZ (F4 (by rw[cx,cX];show _+1<=1000;omega)),λg ai=>?_⟩;have R:Same G (upd G g (.lst ((b.take k).map V.str++[V.str v]))):=nJ ai _;have j:upd G g (.lst ((b.take k).map V.str++[V.str v])) g=some (.lst ((b.take k).map V.str++[V.str v])):=sQ;generalize upd G g (.lst ((b.take k).map V.str++[V.str v]))=D at R j ⊢;have al:=(F.trans R) _ _ W;refine⟨_,rfl,_,rfl,_,_,rfl,rfl,_,rfl,a,_,rfl,SqL.of al,λm N=>?_⟩;dsimp only at N ⊢;rw[show((k:Int)+1)=((k+1:Nat):Int)from rfl,xc (show k+1<=b.length from d)];have S:Same D (upd D m (.lst ((b.drop (k+1)).map V.str))):=nJ N _;have t:upd D m (.lst ((b.drop (k+1)).map V.str)) m=some (.lst ((b.drop (k+1)).map V.str)):=sQ;generalize upd D m (.lst ((b.drop (k+1)).map V.str))=H5 at S t ⊢;refine⟨g,m,_,_,rfl,rfl,S _ _ j,t,cZ (F4 (by rw[de,cx,cx,cX,eQ];show _+1+_<=1000;omega)),λp6 aa=>?_⟩;refine q p6 (b.take k++[v]++b.drop (k+1)) _ ((Same.refl H).trans (T.trans (F.trans (R.trans (S.trans (nJ aa _)))))) ?_ aw;rw[sQ,cV,cV];rfl

 generalize b[k]=z at Z L;have am:=L.lo;have ab:=L.hi;have ae:z.length<=sizeLine:=cZ (F4 (cO ab (by decide)));have ao:z.cps.toList.length=z.length:=(ui z).symm;obtain⟨U,aC,aq⟩:=yr (x:=c/64) am;have hg:=t9 Z;refine⟨_,rfl,c,64,rfl,rfl,c9 (by decide) (by decide),_,rfl,_,rfl,a,_,_,_,rfl,rfl,SqL.of hA,hg,z,rfl,ae,_,_,rfl,rfl,pN.mpr am,?_⟩;dsimp only;rw[aC];have ap:GA.length<=sizeLine:=by rw[vK];decide
 have r0:=dQ (c/768) (show((68:Nat):Int)≠0 by decide);have r1:=dH (c/768) (show(0:Int)<((68:Nat):Int)by decide);have aB:GA.cps.toList.length=68:=by rw[<-ui,vK]
 obtain⟨sg,av,aA⟩:∃sg,Ic GA.cps.toList (c/768%((68:Nat):Int))=some sg/\sg∈GA.cps.toList:=by
  have an:(c/768%((68:Nat):Int)).toNat<GA.cps.toList.length:=by rw[aB];omega
  exact⟨_,uE r0 (cD an),db an⟩
 rw[<-vK]at av;refine⟨_,rfl,_,rfl,c,768,rfl,rfl,c9 (by decide) (by decide),_,rfl,GA,rfl,ap,_,_,rfl,rfl,by show(0:Int)<(GA.length:Int);rw[vK];decide,GA,_,_,rfl,rfl,ap,av,?_⟩;have J:=DD (p:=U) L aA;refine⟨_,rfl,_,rfl,a,_,_,_,rfl,rfl,SqL.of hA,hg,_,rfl,_,rfl,z,rfl,ae,?_⟩;rw[wz (show U<=z.cps.toList.length from ao.symm▸cZ aq)];refine⟨_,rfl,_,_,rfl,rfl,by rw[u9,cX];exact cZ (F4 (by show _+1<=1000;omega)),?_⟩;refine⟨_,rfl,_,rfl,a,_,_,_,rfl,rfl,SqL.of hA,hg,_,rfl,_,_,rfl,rfl,_,rfl,z,rfl,ae,?_⟩;rw[show((U:Int)+1)=((U+1:Nat):Int)from rfl,AX (show U+1<=z.cps.toList.length from ao.symm▸aq)];refine⟨_,_,rfl,rfl,by have:=J.1;rw[tZ]at this;exact cZ (F4 this),?_⟩;dsimp only;generalize(⟨(z.cps.toList.take U).toArray⟩++⟨#[sg]⟩++⟨(z.cps.toList.drop (U+1)).toArray⟩:Str)=bd at J ⊢;have au:=BM L;have az:(jI z 13).length<=sizeLine:=by
  have hl:((jI z 13).length:Int)=(z.length:Int)*13:=by rw[len_mul];rfl
  exact cZ (F4 (by omega))
 refine⟨_,rfl,_,rfl,a,_,_,_,rfl,rfl,SqL.of hA,hg,z,13,rfl,rfl,mulOk_of 12 13 ab (by decide) (by decide) (by decide) (by decide),13,rfl,_,rfl,az,?_⟩;dsimp only;generalize gW (jI z 13) none (some 13)=lw at au ⊢;refine⟨_,rfl,ah,λp1 aj=>?_⟩;have m0:=dQ c (show(3:Int)≠0 by decide);have m1:=dH c (show(0:Int)<3 by decide);obtain⟨o,ho,ax⟩:∃o,Ic [V.str lw,V.str "",V.str bd] (c%3)=some (.str o)/\G8 b (b.take k++[o]++b.drop (k+1)):=by
  have:c%3=0\/c%3=1\/c%3=2:=by omega
  rcases this with e|e|e
  ·rw[e];exact⟨lw,rfl,x3 B ⟨by omega,au.2⟩ λw=>by have:=w.hi;omega⟩
  ·rw[e];exact⟨cU "",rfl,x3 B ⟨by decide,vB (by decide +kernel)⟩ CZ⟩
  ·rw[e];exact⟨bd,rfl,x3 B ⟨J.1,J.2.1⟩ J.2.2⟩
 refine⟨_,rfl,c,3,rfl,rfl,by show(0:Int)<3;decide,p1,_,_,_,rfl,rfl,SqL.of sQ,ho,?_⟩;have Y:Same H (upd H p1 (.lst [V.str lw,V.str "",V.str bd])):=nJ aj _;generalize upd H p1 (.lst [V.str lw,V.str "",V.str bd])=H1 at Y ⊢;have I:=Y _ _ hA;refine⟨_,rfl,_,rfl,_,rfl,a,_,rfl,SqL.of I,λl ag=>?_⟩;have T:Same H1 (upd H1 l (.lst ((b.take k).map V.str))):=nJ ag _;have n:upd H1 l (.lst ((b.take k).map V.str)) l=some (.lst ((b.take k).map V.str)):=sQ;rw[Cu (cZ d)];generalize upd H1 l (.lst ((b.take k).map V.str))=C at T n ⊢;have W:=T _ _ I;refine⟨_,rfl,?_⟩;refine⟨y,λu af=>?_⟩;have F:Same C (upd C u (.lst [V.str o])):=nJ af _;have r:upd C u (.lst [V.str o]) u=some (.lst [V.str o]):=sQ;generalize upd C u (.lst [V.str o])=G at F r ⊢;refine⟨l,u,_,_,rfl,rfl,F _ _ n,r,cZ (F4 (by rw[cx,cX];show _+1<=1000;omega)),λg ai=>?_⟩;have R:Same G (upd G g (.lst ((b.take k).map V.str++[V.str o]))):=nJ ai _;have j:upd G g (.lst ((b.take k).map V.str++[V.str o])) g=some (.lst ((b.take k).map V.str++[V.str o])):=sQ;generalize upd G g (.lst ((b.take k).map V.str++[V.str o]))=D at R j ⊢;have al:=(F.trans R) _ _ W;refine⟨_,rfl,_,rfl,_,_,rfl,rfl,_,rfl,a,_,rfl,SqL.of al,λm N=>?_⟩;dsimp only at N ⊢;rw[show((k:Int)+1)=((k+1:Nat):Int)from rfl,xc (show k+1<=b.length from d)];have S:Same D (upd D m (.lst ((b.drop (k+1)).map V.str))):=nJ N _;have t:upd D m (.lst ((b.drop (k+1)).map V.str)) m=some (.lst ((b.drop (k+1)).map V.str)):=sQ;generalize upd D m (.lst ((b.drop (k+1)).map V.str))=H5 at S t ⊢;refine⟨g,m,_,_,rfl,rfl,S _ _ j,t,cZ (F4 (by rw[de,cx,cx,cX,eQ];show _+1+_<=1000;omega)),λp6 aa=>?_⟩;refine q p6 (b.take k++[o]++b.drop (k+1)) _ (Y.trans (T.trans (F.trans (R.trans (S.trans (nJ aa _)))))) ?_ ax;rw[sQ,cV,cV];rfl
theorem IB
  (d:Dn P w K mg base Ge 1 "_law_bad_roll" ["_law_roll","_law_cell"] (IV))
  (k:Bn P w K mg base (Hj P w) 4 cB "Book" ["self","people","things"] (Kk K cB x))
  (n:Dn P w K mg base Ge 1 "_law_kinds" ["_law_e"] (HS x)):Dn P w K mg base Ge 7 "_law_no_roll" ["_law_people","_law_things","_law_cell"] (JY):=by
 have O:F6 ["_law_people","_law_things","_law_cell","_law_caught","_law_e"] ["_law_people","_law_things","_law_cell"] (F3 (F8 65)):=GE
 have C:=O.nd
 refine M.aV.ok O (λvs H Q E h=>?_) (λ_ _ _ _ _ _ u F=>K1 (λ_ _ _=>rfl) u F) (λf ae A ac s H vs Q E y h=>?_)
 ·obtain⟨a,b,T,V,c,rfl,hA,U,N,L,F,q⟩:=h
  rfl
 obtain⟨a,b,T,V,c,rfl,hA,U,N,L,F,q⟩:=h
 refine⟨_,(sR (tH (sX uj (sZ tG (pv 2) sT) sT (F7 _)) (sU (sW (i:=0) C rfl (Or.inl rfl) (tF d y (by decide) rfl F9 (me (pv 0) (me (sZ ul (pv 2) sT) sS))))) (sU (sW (i:=1) C rfl (Or.inl rfl) (tF d y (by decide) rfl F9 (me (pv 1) (me (sZ ul (pv 2) sT) sS))))))
   (sR (sW (i:=3) C rfl (Or.inl rfl) vv)
   (sR (Ec (ni:=4) rfl rfl C rfl rfl M.ax rfl (Eu (F1 k y (by decide) rfl (me (pv 0) (me (pv 1) sS)))) (λ_=>(sU (sW (i:=3) C rfl (Or.inl rfl) (pv 4)))))
   (sU (s9 (uZ (vP y) (tF n y (by decide) rfl F9 (me (pv 3) sS)) (tT (me tr sS)) (F7 _))))))),?_⟩
 try dsimp -proj only[tJ,tz,tx]
 have Z:=N.hi
 have aa:=L.hi
 refine⟨_,rfl,c,2,rfl,rfl,by show(0:Int)<2;decide,rfl,_,rfl,Gq (λ_=>?_) (λ_=>?_)⟩
 ·refine⟨_,rfl,_,rfl,c,2,rfl,rfl,c9 (by decide) (by decide),a,T,_,rfl,hA,N,λp u l v hp j=>?_⟩
  refine⟨_,rfl,_,rfl,λs0 g G D I=>?_⟩
  have J:upd l g (.own s0) s0=none:=by rw[td (Ne.symm I)];exact G
  have o:Same l (upd (upd l g (.own s0)) s0 (.ins cB g [])):=(nJ D _).trans (nJ J _)
  have t:upd (upd l g (.own s0)) s0 (.ins cB g []) s0=some (.ins cB g []):=sQ
  generalize upd (upd l g (.own s0)) s0 (.ins cB g [])=H2 at o t ⊢
  refine⟨s0,p,b,g,u,V,rfl,t,SqL.of (o _ _ hp),SqL.of (o _ _ (v _ _ U)),j.1,cO aa (by decide),j.2.1,L.okw,?_⟩
  refine⟨λ_ H3 X=>?_,λz1 Y S=>absurd (j.2.2 ⟨z1,F▸S⟩) (λz=>z)⟩
  refine⟨x.NoRoll,rfl,M.aL,λe R=>?_⟩
  refine⟨_,rfl,?_⟩
  refine⟨_,rfl,e,x.NoRoll,"NoRoll",rfl,sQ,.inr (.inr (.inl ⟨rfl,rfl⟩)),λpk H4 W ab B=>?_⟩
  refine⟨by show 1<=sizeLine;decide,λpl r=>?_⟩
  have m:Ho 1 (.list [.str "NoRoll"])=true:=by decide +kernel
  refine⟨_,_,.lst (SqL.of (nJ r _ _ _ B)) (.cons (.str _) .nil) (by simp),.lst (SqL.of sQ) (.cons (.str _) .nil) (by simp),tN m (by decide),tN m (by decide),?_⟩
  rw[x8 1 _ m]
  exact q _ (v.trans (o.trans (X.trans ((nJ R _).trans (W.trans (nJ r _))))))

 ·refine⟨_,rfl,_,rfl,c,2,rfl,rfl,c9 (by decide) (by decide),b,V,_,rfl,U,L,λp u l v hp j=>?_⟩
  refine⟨_,rfl,_,rfl,λs0 g G D I=>?_⟩
  have J:upd l g (.own s0) s0=none:=by rw[td (Ne.symm I)];exact G
  have o:Same l (upd (upd l g (.own s0)) s0 (.ins cB g [])):=(nJ D _).trans (nJ J _)
  have t:upd (upd l g (.own s0)) s0 (.ins cB g []) s0=some (.ins cB g []):=sQ
  generalize upd (upd l g (.own s0)) s0 (.ins cB g [])=H2 at o t ⊢
  refine⟨s0,a,p,g,T,u,rfl,t,SqL.of (o _ _ (v _ _ hA)),SqL.of (o _ _ hp),cO Z (by decide),j.1,N.okw,j.2.1,?_⟩
  refine⟨λ_ H3 X=>?_,λz1 Y S=>absurd (j.2.2 ⟨Y,S▸F⟩) (λz=>z)⟩
  refine⟨x.NoRoll,rfl,M.aL,λe R=>?_⟩
  refine⟨_,rfl,?_⟩
  refine⟨_,rfl,e,x.NoRoll,"NoRoll",rfl,sQ,.inr (.inr (.inl ⟨rfl,rfl⟩)),λpk H4 W ab B=>?_⟩
  refine⟨by show 1<=sizeLine;decide,λpl r=>?_⟩
  have m:Ho 1 (.list [.str "NoRoll"])=true:=by decide +kernel
  refine⟨_,_,.lst (SqL.of (nJ r _ _ _ B)) (.cons (.str _) .nil) (by simp),.lst (SqL.of sQ) (.cons (.str _) .nil) (by simp),tN m (by decide),tN m (by decide),?_⟩
  rw[x8 1 _ m]
  exact q _ (v.trans (o.trans (X.trans ((nJ R _).trans (W.trans (nJ r _))))))
theorem IL:Dn P w K mg base Ge 1 "_law_person" ["_law_people","_law_xs"] (IC K):=by
 have S:F6 ["_law_people","_law_xs","_law_person_here","_law_other"] ["_law_people","_law_xs"] (F3 (F8 66)):=GE;have T:=S.nd;refine M.a8.ok S (λvs H Q E h=>?_) (λ_ _ _ _ _ _ us hl=>Ia (λ_ _=>rfl) us hl) (λf ai A ah s H vs Q E hr h=>?_)
 ·obtain⟨a,m,p,ns,rfl,hA,n,I,Y,q⟩:=h;rfl
 obtain⟨a,m,p,ns,rfl,hA,n,I,Y,q⟩:=h;refine⟨_,(sR (sW (i:=2) T rfl (Or.inl rfl) (ti tw (pv 0) (sZ tG (ti tw (pv 1) sT (λ_ _=>rfl)) (sV tm rfl M.ac dL (me (pv 0) sS))) (λ_ _=>rfl)))
   (sR (tH (sX Fy (sZ tG (ti tw (pv 1) sT (λ_ _=>rfl)) sT) sT (F7 _)) (sU (s9 (pv 2))) sY)
   (sR (sW (i:=3) T rfl (Or.inl rfl) (ti tw (tT (me (sZ uc (pv 2) tr) (me (ue wu (pv 2) uG (um (C1 zk sT))) (me tr (me (sZ uc (ue wu (pv 2) uG (um (C1 zk sT))) tr) sS))))) (sZ tG (sZ ul (ti tw (pv 1) sT (λ_ _=>rfl)) sT) sT) (λ_ _=>rfl)))
   (sR (vt dV (sX zn (pv 3) (pv 0) (by with_unfolding_all rfl)) (sU (sW (i:=3) T rfl (Or.inl rfl) (sZ uc (pv 3) tr))))
   (sU (s9 (pv 3))))))),?_⟩
 try dsimp -proj only[tJ,tz,tx]
 have h1:=n.lo;have h6:=n.hi;have ag:(p.map V.str).length=p.length:=cx ..;have at0:=yX (ns:=ns) (i:=0) (Y.symm▸by decide);have ae:=yX (ns:=ns) (i:=1) (Y.symm▸by decide);obtain⟨k,hk,J⟩:=yr (x:=ns.getD 0 0) n.lo;have t:(p.map V.str)[k]?=some (.str p[k]):=by rw[cL,cD J];rfl
 have g:=n.wd _ (db J);generalize p[k]=z at t g;have aa:=g.lo;have l:=g.hi;have O:z.length<=sizeLine:=cZ (F4 (cO l (by decide)));refine⟨_,rfl,_,rfl,m,_,_,_,rfl,rfl,I,at0,_,rfl,a,_,rfl,.inl hA,_,_,rfl,rfl,zK n.lo,a,_,_,_,rfl,rfl,hA,(by rw[ag,hk];exact t9 t),?_⟩;refine⟨_,rfl,m,_,_,_,rfl,rfl,I,ae,_,_,rfl,rfl,by show(0:Int)<7;decide,_,_,rfl,rfl,_,rfl,?_⟩;refine Gq (λ_=>⟨_,rfl,q z H (Same.refl _) (cO l (by decide)) g.asc⟩) (λ_=>?_);have aq:Gz "q":=vB (by decide +kernel);have aQ:Gz "Q":=vB (by decide +kernel);have az:Gz "z":=vB (by decide +kernel);have Z:(cU "q").length=1:=by decide +kernel
 have lQ:(cU "Q").length=1:=by decide +kernel
 have W:(cU "z").length=1:=by decide +kernel
 obtain⟨d,X,C,R⟩:∃d:Str,gW z none (some (-1))=d/\d.length<=12/\Gz d:=⟨_,yw aa,by rw[u9,cX];omega,λc hc=>g.asc c (eP (by simpa using hc))⟩;refine⟨_,rfl,_,_,rfl,rfl,by rw[Z];exact cZ (F4 (dS (cO l (by decide)))),?_⟩;refine⟨_,rfl,1,rfl,_,rfl,z,rfl,O,?_⟩;refine⟨_,rfl,1,rfl,_,rfl,z,rfl,O,?_⟩;dsimp only;rw[X];refine⟨_,_,rfl,rfl,by rw[lQ];exact cZ (F4 (dS (cO C (by decide)))),by show 4<=sizeLine;decide,λD af=>?_⟩;have G:Same H (upd H D (.lst [V.str (z++"q"),V.str d,V.str "",V.str (d++"Q")])):=nJ af _;have B:upd H D (.lst [V.str (z++"q"),V.str d,V.str "",V.str (d++"Q")]) D=some (.lst [V.str (z++"q"),V.str d,V.str "",V.str (d++"Q")]):=sQ;have m0:=dQ (ns.getD 0 0/7) (show(4:Int)≠0 by decide);have m1:=dH (ns.getD 0 0/7) (show(0:Int)<4 by decide);obtain⟨o,ho,y,r⟩:∃o:Str,Ic [V.str (z++"q"),V.str d,V.str "",V.str (d++"Q")] (ns.getD 0 0/7%4)=some (.str o)/\o.length<=13/\Gz o:=by
  have:ns.getD 0 0/7%4=0\/ns.getD 0 0/7%4=1\/ns.getD 0 0/7%4=2\/ns.getD 0 0/7%4=3:=by omega
  rcases this with e|e|e|e
  ·rw[e];exact⟨_,rfl,by rw[tZ,Z];exact dS l,zI g.asc aq⟩
  ·rw[e];exact⟨_,rfl,fJ C,R⟩
  ·rw[e];exact⟨_,rfl,by decide,vB (by decide +kernel)⟩
  ·rw[e];exact⟨_,rfl,by rw[tZ,lQ];exact dS C,zI R aQ⟩
 generalize upd H D (.lst [V.str (z++"q"),V.str d,V.str "",V.str (d++"Q")])=H1 at G B ⊢;have ab:=G.seq hA;refine⟨_,rfl,m,_,_,_,rfl,rfl,G.seq I,at0,_,_,rfl,rfl,c9 (by decide) (by decide),_,_,rfl,rfl,by show(0:Int)<4;decide,D,_,_,_,rfl,rfl,SqL.of B,ho,?_⟩;refine yn (λj U F=>F=H1/\∃o:Str,U=[some (.ref a),some (.ref m),some (.str z),some (.str o)]/\o.length<=13/\Gz o/\j=13-o.length) ⟨_,rfl,o,rfl,y,r,rfl⟩ (λj U F hP=>?_) (λU F Q1 Q2 hQ h=>?_)
 ·obtain⟨rfl,o,rfl,y,r,rfl⟩:=hP;refine⟨_,rfl,_,rfl,a,_,rfl,.inl ab,rfl,ve _,_,rfl,?_⟩;show if Js (.str o) (p.map V.str)=true then _ else _
  rw[vg];refine Gq (λL=>?_) (λL=>?_)
  ·have N:=(n.wd o L).hi;refine⟨_,rfl,o,_,rfl,rfl,by rw[W];exact cZ (F4 (dS (cO N (by decide)))),?_⟩;refine⟨13-(o++"z").length,by rw[tZ,W];omega,rfl,o++"z",rfl,by rw[tZ,W];exact dS N,zI r az,rfl⟩
  ·exact⟨_,rfl,q o F G (cO y (by decide)) r⟩
 ·obtain⟨v,e,u,e2,b,ys,e3,z1,z2,z3,k,ek,q⟩:=h;exact⟨v,e,u,e2,b,ys,e3,z1,z2,z3,k,ek,hQ _ _ q⟩
theorem JF
  (S:Dn P w K mg base Ge 1 "_law_perm" ["_law_number","_law_count"] (Ln)):Dn P w K mg base Ge 2 "_law_text" ["_law_things","_law_xs"] (JA K):=by
 have ag:F6 ["_law_things","_law_xs","_law_words_here","_law_at"] ["_law_things","_law_xs"] (F3 (F8 67)):=GE
 have nd:=ag.nd
 refine M.bz.ok ag (λvs H Q E h=>?_) (λ_ _ _ _ _ _ us hl=>Ia (λ_ _=>rfl) us hl) (λf av A ar s H vs Q E hr h=>?_)
 ·obtain⟨a,m,B,ns,rfl,hA,W,J,h8,q⟩:=h
  rfl
 obtain⟨a,m,B,ns,rfl,hA,W,J,h8,q⟩:=h
 refine⟨_,(sR (ut (i:=2) nd rfl rfl rfl rfl (N:=["_law_k","_law_things"]) (caps:=[none,some 0]) (CompOk.of (by kernel_rfl)) (tI rfl) (uy (tF S hr (by decide) rfl F9 (me (ti tw (pv 1) sT (λ_ _=>rfl)) (me (sV tm rfl M.ac dL (me (pv 0) sS)) sS)))) (λ_ _ _ _=>(tj (i:=0) (show(["_law_k","_law_things"]:List Str).Nodup by decide +kernel) rfl (Or.inl rfl) (Or.inr rfl))) (λ_ _ _ _=>ud) (λ_ _ _ _=>(ti (u6 (K:=K) rfl) (pv 1) (pv 0) (λ_ _=>rfl))))
   (sR (sW (i:=3) nd rfl (Or.inl rfl) (sZ tG (sZ ul (ti tw (pv 1) sT (λ_ _=>rfl)) sT) (sV tm rfl M.ac dL (me (pv 2) sS))))
   (sR (tH (sX uj (sZ tG (ti tw (pv 1) sT (λ_ _=>rfl)) sT) sT (F7 _)) (sU (wr (ti tw (pv 2) (sZ xK (pv 3) sT) (λ_ _=>rfl)) (xv (pv 2) (pv 3) wC))) sY)
   (sR (tH (sX uj (sZ tG (ti tw (pv 1) sT (λ_ _=>rfl)) sT) sT (F7 _)) (sU (tO (uF df PySem.F.slot_list_pop PySem.F.type_list_pop Dz (pv 2) (me (pv 3) sS)))) sY)
   (sR (tH (sX uj (sZ tG (ti tw (pv 1) sT (λ_ _=>rfl)) sT) sT (F7 _)) (sU (wr (sZ uc (ti tw (pv 2) (pv 3) (λ_ _=>rfl)) tr) (xv (pv 2) (pv 3) wC))) sY)
   (sR (tH (sX uj (sZ tG (ti tw (pv 1) sT (λ_ _=>rfl)) sT) sT (F7 _)) (sU (tO (uF df ly lz yT (pv 2) (me (pv 3) (me tr sS))))) sY)
   (sR (tH (sX uj (sZ tG (ti tw (pv 1) sT (λ_ _=>rfl)) sT) sT (F7 _)) (sU (wr (sZ uc (ti tw (pv 2) (pv 3) (λ_ _=>rfl)) tr) (xv (pv 2) (pv 3) wC))) sY)
   (sR (tH (sX uj (sZ tG (ti tw (pv 1) sT (λ_ _=>rfl)) sT) sT (F7 _)) (sU (tO (uF df dB dC tL (pv 2) (me (ti tw (pv 2) (pv 3) (λ_ _=>rfl)) sS)))) sY)
   (sU (s9 (uF iF PySem.F.slot_str_join PySem.F.type_str_join Ez tr (me (pv 2) sS)))))))))))),?_⟩
 try dsimp -proj only[tJ,tz,tx]
 have aq:(1:Nat)<=sizeLine:=by decide
 have h1:=W.lo
 have h6:=W.hi
 have al:(B.map V.str).length=B.length:=cx ..
 have an:=yX (ns:=ns) (i:=2) (h8.symm▸by decide)
 have b:=yX (ns:=ns) (i:=3) (h8.symm▸by decide)
 refine⟨_,rfl,m,_,_,_,rfl,rfl,J,an,_,rfl,a,_,rfl,.inl hA,ns.getD 2 0,B.length,by rw[al];rfl,cO h6 (by decide),λp0 H1 S1 au aa=>?_⟩
 generalize ns.getD 2 0=num at aa
 obtain⟨D,Z,ae⟩:=Dy (num:=num) W
 have aj:=S1.seq hA
 refine⟨p0,rfl,⟨_,SqL.of aa⟩,?_⟩
 refine ur (xs:=(LM.perm num B.length).map V.int) (λj ys T=>T=H1/\ys=(Gk B ((LM.perm num B.length).take j)).map V.str) ⟨rfl,rfl⟩ (λj ys T _ hP=>by rw[hP.1];exact SqL.of aa) (λj y ys T hy hP=>?_) (λys T hP l hl=>?_)
 ·obtain⟨rfl,rfl⟩:=hP
  rw[cL]at hy
  cases U:(LM.perm num B.length)[j]? with
  | none=>rw[U]at hy;cases hy
  | some t=>
   rw[U]at hy
   have ap:V.int t=y:=Option.some.inj hy
   subst ap
   have ai:=B4 t (dh U)
   have hj:=(cT.mp U).1
   rw[LM.perm_len]at hj
   have ak:(B.map V.str)[t.toNat]?=some (.str (B.getD t.toNat gc)):=by rw[cL,cA,cD ai.2];rfl
   refine⟨_,rfl,_,rfl,a,_,t,_,rfl,rfl,aj,uE ai.1 ak,F4 (by unfold Gk;rw[cx,cx,cX];omega),rfl,?_⟩
   unfold Gk
   rw[dg,U,cV,cV]
   rfl
 obtain⟨rfl,rfl⟩:=hP
 rw[cx,dy]
 have S2:Same T (upd T l (.lst ((Gk B (LM.perm num B.length)).map V.str))):=nJ hl _
 have r:upd T l (.lst ((Gk B (LM.perm num B.length)).map V.str)) l=some (.lst ((Gk B (LM.perm num B.length)).map V.str)):=sQ
 have L:H l=none:=S1.free hl
 generalize upd T l (.lst ((Gk B (LM.perm num B.length)).map V.str))=C at S2 r ⊢
 generalize Gk B (LM.perm num B.length)=d at D Z ae r
 have R:=S1.trans S2
 have I:(d.map V.str).length=d.length:=cx ..
 have ah:1<=d.length:=by rw[ae];exact h1
 obtain⟨k,hk,G⟩:=yr (x:=ns.getD 3 0/16) ah
 have c:(0:Int)<16:=by decide
 refine⟨_,rfl,m,_,_,_,rfl,rfl,R.seq J,b,_,_,rfl,rfl,c9 (by decide) (by decide),_,rfl,l,_,rfl,.inl (SqL.of r),_,_,rfl,rfl,zK ah,?_⟩
 dsimp only
 rw[I,hk]
 have O:(d.map V.str)[k]?=some (.str d[k]):=by rw[cL,cD G];rfl
 have ao:=D.wd _ (db G)
 have af:=(W.wd _ (Z _ (db G))).hi
 have ab:=D.cs _ (db G)
 have Y:KY (d.map V.str).length (k:Int)=some k:=by
  rw[I]
  exact Fa G
 have n:=R.seq J
 have lq:(cU "q").length=1:=by decide +kernel
 have lc:(cU ",").length=1:=by decide +kernel
 have X:ns.getD 3 0%16=1\/ns.getD 3 0%16=3\/ns.getD 3 0%16=5\/ns.getD 3 0%16=7\/ns.getD 3 0%16=9\/ns.getD 3 0%16=11\/(ns.getD 3 0%16≠1/\ns.getD 3 0%16≠3/\ns.getD 3 0%16≠5/\ns.getD 3 0%16≠7/\ns.getD 3 0%16≠9/\ns.getD 3 0%16≠11):=LV _
 rcases X with e|e|e|e|e|e|e
 ·refine⟨_,rfl,m,_,_,_,rfl,rfl,n,b,_,_,rfl,rfl,c,rfl,_,rfl,Gp (by show V.int (ns.getD 3 0%16)=V.int 1;rw[e]) ?_⟩
  obtain⟨v,hv⟩:∃v,d[if k=0 then d.length-1 else k-1]?=some v:=⟨_,cD (by split <;> omega)⟩
  have am:Ic (d.map V.str) ((k:Int)-1)=some (.str v):=zS (by rw[I];exact G) (by rw[I,cL,hv];rfl)
  refine⟨_,rfl,_,rfl,_,_,rfl,rfl,l,_,_,_,rfl,rfl,SqL.of r,am,_,rfl,_,rfl,l,_,_,_,rfl,rfl,r,Y,?_⟩
  have u:Same H (upd C l (.lst ((d.map V.str).set k (.str v)))):=R.over L _
  have p:upd C l (.lst ((d.map V.str).set k (.str v))) l=some (.lst ((d.set k v).map V.str)):=by rw[sQ,md]
  generalize upd C l (.lst ((d.map V.str).set k (.str v)))=H4 at u p ⊢
  have g:TxtOk (d.set k v):=D.set (D.wd v (dh hv)) (D.cs v (dh hv))
  have o:=u.seq J
  refine⟨_,rfl,m,_,_,_,rfl,rfl,o,b,_,_,rfl,rfl,c,rfl,_,rfl,Gb (Hu e (by decide)) ?_⟩
  refine⟨_,rfl,m,_,_,_,rfl,rfl,o,b,_,_,rfl,rfl,c,rfl,_,rfl,Gb (Hu e (by decide)) ?_⟩
  refine⟨_,rfl,m,_,_,_,rfl,rfl,o,b,_,_,rfl,rfl,c,rfl,_,rfl,Gb (Hu e (by decide)) ?_⟩
  refine⟨_,rfl,m,_,_,_,rfl,rfl,o,b,_,_,rfl,rfl,c,rfl,_,rfl,Gb (Hu e (by decide)) ?_⟩
  refine⟨_,rfl,m,_,_,_,rfl,rfl,o,b,_,_,rfl,rfl,c,rfl,_,rfl,Gb (Hu e (by decide)) ?_⟩
  exact⟨rfl,_,rfl,_,l,_,rfl,rfl,SqL.of p,by decide,g.sumk,q _ _ u g.out.1 g.out.2.1 g.out.2.2⟩
 ·refine⟨_,rfl,m,_,_,_,rfl,rfl,n,b,_,_,rfl,rfl,c,rfl,_,rfl,Gb (Hu e (by decide)) ?_⟩
  refine⟨_,rfl,m,_,_,_,rfl,rfl,n,b,_,_,rfl,rfl,c,rfl,_,rfl,Gp (by show V.int (ns.getD 3 0%16)=V.int 3;rw[e]) ?_⟩
  refine⟨_,rfl,.inl ⟨rfl,_,SqL.of r⟩,_,rfl,l,_,_,k,_,rfl,rfl,r,by omega,by omega,(by rw[I,mQ (ea _) (gv.mpr G)];exact congrArg some (by omega)),O,?_⟩
  have u:Same H (upd C l (.lst ((d.map V.str).eraseIdx k))):=R.over L _
  have p:upd C l (.lst ((d.map V.str).eraseIdx k)) l=some (.lst ((d.eraseIdx k).map V.str)):=by rw[sQ,wg]
  generalize upd C l (.lst ((d.map V.str).eraseIdx k))=H4 at u p ⊢
  have g:TxtOk (d.eraseIdx k):=D.erase
  have o:=u.seq J
  refine⟨_,rfl,m,_,_,_,rfl,rfl,o,b,_,_,rfl,rfl,c,rfl,_,rfl,Gb (Hu e (by decide)) ?_⟩
  refine⟨_,rfl,m,_,_,_,rfl,rfl,o,b,_,_,rfl,rfl,c,rfl,_,rfl,Gb (Hu e (by decide)) ?_⟩
  refine⟨_,rfl,m,_,_,_,rfl,rfl,o,b,_,_,rfl,rfl,c,rfl,_,rfl,Gb (Hu e (by decide)) ?_⟩
  refine⟨_,rfl,m,_,_,_,rfl,rfl,o,b,_,_,rfl,rfl,c,rfl,_,rfl,Gb (Hu e (by decide)) ?_⟩
  exact⟨rfl,_,rfl,_,l,_,rfl,rfl,SqL.of p,by decide,g.sumk,q _ _ u g.out.1 g.out.2.1 g.out.2.2⟩
 ·refine⟨_,rfl,m,_,_,_,rfl,rfl,n,b,_,_,rfl,rfl,c,rfl,_,rfl,Gb (Hu e (by decide)) ?_⟩
  refine⟨_,rfl,m,_,_,_,rfl,rfl,n,b,_,_,rfl,rfl,c,rfl,_,rfl,Gb (Hu e (by decide)) ?_⟩
  refine⟨_,rfl,m,_,_,_,rfl,rfl,n,b,_,_,rfl,rfl,c,rfl,_,rfl,Gp (by show V.int (ns.getD 3 0%16)=V.int 5;rw[e]) ?_⟩
  refine⟨_,rfl,_,rfl,l,_,_,_,rfl,rfl,SqL.of r,t9 O,_,_,rfl,rfl,by rw[lq];exact cZ (F4 (dS (cO af (by decide)))),_,rfl,_,rfl,l,_,_,_,rfl,rfl,r,Y,?_⟩
  have u:Same H (upd C l (.lst ((d.map V.str).set k (.str (d[k]++"q"))))):=R.over L _
  have p:upd C l (.lst ((d.map V.str).set k (.str (d[k]++"q")))) l=some (.lst ((d.set k (d[k]++"q")).map V.str)):=by rw[sQ,md]
  generalize upd C l (.lst ((d.map V.str).set k (.str (d[k]++"q"))))=H4 at u p ⊢
  have g:TxtOk (d.set k (d[k]++"q")):=D.set (by rw[tZ,lq];exact dS af) (D7 ab (BS (by decide +kernel)))
  have o:=u.seq J
  refine⟨_,rfl,m,_,_,_,rfl,rfl,o,b,_,_,rfl,rfl,c,rfl,_,rfl,Gb (Hu e (by decide)) ?_⟩
  refine⟨_,rfl,m,_,_,_,rfl,rfl,o,b,_,_,rfl,rfl,c,rfl,_,rfl,Gb (Hu e (by decide)) ?_⟩
  refine⟨_,rfl,m,_,_,_,rfl,rfl,o,b,_,_,rfl,rfl,c,rfl,_,rfl,Gb (Hu e (by decide)) ?_⟩
  exact⟨rfl,_,rfl,_,l,_,rfl,rfl,SqL.of p,by decide,g.sumk,q _ _ u g.out.1 g.out.2.1 g.out.2.2⟩
 ·refine⟨_,rfl,m,_,_,_,rfl,rfl,n,b,_,_,rfl,rfl,c,rfl,_,rfl,Gb (Hu e (by decide)) ?_⟩
  refine⟨_,rfl,m,_,_,_,rfl,rfl,n,b,_,_,rfl,rfl,c,rfl,_,rfl,Gb (Hu e (by decide)) ?_⟩
  refine⟨_,rfl,m,_,_,_,rfl,rfl,n,b,_,_,rfl,rfl,c,rfl,_,rfl,Gb (Hu e (by decide)) ?_⟩
  refine⟨_,rfl,m,_,_,_,rfl,rfl,n,b,_,_,rfl,rfl,c,rfl,_,rfl,Gp (by show V.int (ns.getD 3 0%16)=V.int 7;rw[e]) ?_⟩
  refine⟨_,rfl,.inl ⟨rfl,_,SqL.of r⟩,_,rfl,l,_,_,_,rfl,rfl,r,by omega,by rw[I];exact dZ (gv.mpr G),F4 (by rw[I];omega),?_⟩
  dsimp only
  rw[show(k:Int).toNat=k by omega]
  have u:Same H (upd C l (.lst ((d.map V.str).take k++V.str ""::(d.map V.str).drop k))):=R.over L _
  have p:upd C l (.lst ((d.map V.str).take k++V.str ""::(d.map V.str).drop k)) l=some (.lst ((d.take k++cU ""::d.drop k).map V.str)):=by rw[sQ,cV,d2,lb,lg]
  generalize upd C l (.lst ((d.map V.str).take k++V.str ""::(d.map V.str).drop k))=H4 at u p ⊢
  have g:TxtOk (d.take k++cU ""::d.drop k):=D.more (ae▸h6) (by decide) (BS (by decide +kernel))
  have o:=u.seq J
  refine⟨_,rfl,m,_,_,_,rfl,rfl,o,b,_,_,rfl,rfl,c,rfl,_,rfl,Gb (Hu e (by decide)) ?_⟩
  refine⟨_,rfl,m,_,_,_,rfl,rfl,o,b,_,_,rfl,rfl,c,rfl,_,rfl,Gb (Hu e (by decide)) ?_⟩
  exact⟨rfl,_,rfl,_,l,_,rfl,rfl,SqL.of p,by decide,g.sumk,q _ _ u g.out.1 g.out.2.1 g.out.2.2⟩
 ·refine⟨_,rfl,m,_,_,_,rfl,rfl,n,b,_,_,rfl,rfl,c,rfl,_,rfl,Gb (Hu e (by decide)) ?_⟩
  refine⟨_,rfl,m,_,_,_,rfl,rfl,n,b,_,_,rfl,rfl,c,rfl,_,rfl,Gb (Hu e (by decide)) ?_⟩
  refine⟨_,rfl,m,_,_,_,rfl,rfl,n,b,_,_,rfl,rfl,c,rfl,_,rfl,Gb (Hu e (by decide)) ?_⟩
  refine⟨_,rfl,m,_,_,_,rfl,rfl,n,b,_,_,rfl,rfl,c,rfl,_,rfl,Gb (Hu e (by decide)) ?_⟩
  refine⟨_,rfl,m,_,_,_,rfl,rfl,n,b,_,_,rfl,rfl,c,rfl,_,rfl,Gp (by show V.int (ns.getD 3 0%16)=V.int 9;rw[e]) ?_⟩
  refine⟨_,rfl,_,rfl,l,_,_,_,rfl,rfl,SqL.of r,t9 O,_,_,rfl,rfl,by rw[lc];exact cZ (F4 (by omega)),_,rfl,_,rfl,l,_,_,_,rfl,rfl,r,Y,?_⟩
  have u:Same H (upd C l (.lst ((d.map V.str).set k (.str (d[k]++","))))):=R.over L _
  have p:upd C l (.lst ((d.map V.str).set k (.str (d[k]++",")))) l=some (.lst ((d.set k (d[k]++",")).map V.str)):=by rw[sQ,md]
  generalize upd C l (.lst ((d.map V.str).set k (.str (d[k]++","))))=H4 at u p ⊢
  have g:TxtOk (d.set k (d[k]++",")):=D.set (by rw[tZ,lc];omega) (D7 ab (BS (by decide +kernel)))
  have o:=u.seq J
  refine⟨_,rfl,m,_,_,_,rfl,rfl,o,b,_,_,rfl,rfl,c,rfl,_,rfl,Gb (Hu e (by decide)) ?_⟩
  exact⟨rfl,_,rfl,_,l,_,rfl,rfl,SqL.of p,by decide,g.sumk,q _ _ u g.out.1 g.out.2.1 g.out.2.2⟩
 ·refine⟨_,rfl,m,_,_,_,rfl,rfl,n,b,_,_,rfl,rfl,c,rfl,_,rfl,Gb (Hu e (by decide)) ?_⟩
  refine⟨_,rfl,m,_,_,_,rfl,rfl,n,b,_,_,rfl,rfl,c,rfl,_,rfl,Gb (Hu e (by decide)) ?_⟩
  refine⟨_,rfl,m,_,_,_,rfl,rfl,n,b,_,_,rfl,rfl,c,rfl,_,rfl,Gb (Hu e (by decide)) ?_⟩
  refine⟨_,rfl,m,_,_,_,rfl,rfl,n,b,_,_,rfl,rfl,c,rfl,_,rfl,Gb (Hu e (by decide)) ?_⟩
  refine⟨_,rfl,m,_,_,_,rfl,rfl,n,b,_,_,rfl,rfl,c,rfl,_,rfl,Gb (Hu e (by decide)) ?_⟩
  refine⟨_,rfl,m,_,_,_,rfl,rfl,n,b,_,_,rfl,rfl,c,rfl,_,rfl,Gp (by show V.int (ns.getD 3 0%16)=V.int 11;rw[e]) ?_⟩
  refine⟨_,rfl,.inl ⟨rfl,_,SqL.of r⟩,_,rfl,_,rfl,l,_,_,_,rfl,rfl,SqL.of r,t9 O,l,_,_,rfl,rfl,r,F4 (by rw[I];omega),?_⟩
  have u:Same H (upd C l (.lst (d.map V.str++[V.str d[k]]))):=R.over L _
  have p:upd C l (.lst (d.map V.str++[V.str d[k]])) l=some (.lst ((d++[d[k]]).map V.str)):=by rw[sQ,cV];rfl
  generalize upd C l (.lst (d.map V.str++[V.str d[k]]))=H4 at u p ⊢
  have g:TxtOk (d++[d[k]]):=(by have z:=D.more (k:=d.length) (by omega) ao ab;rw[dy,List.drop_length]at z;exact z)
  have o:=u.seq J
  exact⟨rfl,_,rfl,_,l,_,rfl,rfl,SqL.of p,by decide,g.sumk,q _ _ u g.out.1 g.out.2.1 g.out.2.2⟩
 ·refine⟨_,rfl,m,_,_,_,rfl,rfl,n,b,_,_,rfl,rfl,c,rfl,_,rfl,Gb (λz=>e.1 (Ke z)) ?_⟩
  refine⟨_,rfl,m,_,_,_,rfl,rfl,n,b,_,_,rfl,rfl,c,rfl,_,rfl,Gb (λz=>e.2.1 (Ke z)) ?_⟩
  refine⟨_,rfl,m,_,_,_,rfl,rfl,n,b,_,_,rfl,rfl,c,rfl,_,rfl,Gb (λz=>e.2.2.1 (Ke z)) ?_⟩
  refine⟨_,rfl,m,_,_,_,rfl,rfl,n,b,_,_,rfl,rfl,c,rfl,_,rfl,Gb (λz=>e.2.2.2.1 (Ke z)) ?_⟩
  refine⟨_,rfl,m,_,_,_,rfl,rfl,n,b,_,_,rfl,rfl,c,rfl,_,rfl,Gb (λz=>e.2.2.2.2.1 (Ke z)) ?_⟩
  refine⟨_,rfl,m,_,_,_,rfl,rfl,n,b,_,_,rfl,rfl,c,rfl,_,rfl,Gb (λz=>e.2.2.2.2.2 (Ke z)) ?_⟩
  exact⟨rfl,_,rfl,_,l,_,rfl,rfl,SqL.of r,by decide,D.sumk,q _ _ R D.out.1 D.out.2.1 D.out.2.2⟩
theorem JK
  (j:Dn P w K mg base Ge 1 "_law_person" ["_law_people","_law_xs"] (IC K))
  (D:Dn P w K mg base Ge 2 "_law_text" ["_law_things","_law_xs"] (JA K))
  (o:Dn P w K mg base Ge 2 "_law_lowest" ["_law_top","_law_bottom"] (JL)):Dn P w K mg base Ge 3 "_law_deed" ["_law_people","_law_things","_law_xs"] (JI K):=by
 have ae:F6 ["_law_people","_law_things","_law_xs","_law_way","_law_top","_law_number"] ["_law_people","_law_things","_law_xs"] (F3 (F8 68)):=GE
 have nd:=ae.nd
 refine M.bA.ok ae (λvs H Q E h=>?_) (λ_ _ _ _ _ _ us hl=>K1 (λ_ _ _=>rfl) us hl) (λf aE A aD s H vs Q E hr h=>?_)
 ·obtain⟨a,b,m,ps,ts,ns,rfl,hA,rp,hB,rt,C,h8,q⟩:=h
  rfl
 obtain⟨a,b,m,ps,ts,ns,rfl,hA,rp,hB,rt,C,h8,q⟩:=h
 refine⟨_,(KT.h (Ca (Cj (i:=3) (is:=["eaten","turns","eaten","turns","eaten","Turns","","eaten "]) nd rfl (Or.inl rfl) tw rfl (sZ tG (ti tw (pv 2) sT (λ_ _=>rfl)) sT) (λ_ _=>rfl))
   (wE (tH (sX AY (sZ tG (ti tw (pv 2) sT (λ_ _=>rfl)) sT) sT (F7 _)) (sU (s9 (tQ (me tr (me (tF j hr (by decide) rfl F9 (me (pv 0) (me (pv 2) sS))) (me (tF D hr (by decide) rfl F9 (me (pv 1) (me (pv 2) sS))) sS)))))) sY)
   (wE (tH (sX uj (sZ tG (ti tw (pv 2) sT (λ_ _=>rfl)) sT) sT (F7 _)) (sU (s9 (tQ (me tr (me (tF j hr (by decide) rfl F9 (me (pv 0) (me (pv 2) sS))) (me (pv 3) sS)))))) sY)
   (wE (sW (i:=4) nd rfl (Or.inl rfl) (sZ tG (ti tw (pv 2) sT (λ_ _=>rfl)) sT))
   (wE (sW (i:=5) nd rfl (Or.inl rfl) (ti tw (tT (me (tQ (me (pv 4) (me sT sS))) (me (tQ (me (pv 4) (me sT sS))) (me (tQ (me sT (me sT sS))) (me (tQ (me sT (me sT sS))) (me (tQ (me (sZ t6 sT (pv 4)) (me sT sS))) (me (tQ (me (sZ xK (C1 zk sT) (pv 4)) (me sT sS))) sS))))))) (sZ tG (ti tw (pv 2) sT (λ_ _=>rfl)) sT) (λ_ _=>rfl)))
   (Fq (sU (s9 (tQ (me tr (me (pv 3) (me (tF o hr (by decide) rfl F9 (me (ti tD (pv 5) sT (λ_ _=>rfl)) (me (ti tD (pv 5) sT (λ_ _=>rfl)) sS))) sS))))))))))))),?_⟩
 try dsimp -proj only[tJ,tz,tx]
 have c:(2:Nat)<=sizeLine:=by decide
 have n:(3:Nat)<=sizeLine:=by decide
 have aC:=yX (ns:=ns) (i:=4) (by omega)
 have af:=yX (ns:=ns) (i:=5) (by omega)
 have au:=yX (ns:=ns) (i:=6) (by omega)
 have ak:=yX (ns:=ns) (i:=7) (by omega)
 have w0:=dQ (ns.getD 4 0) (show(8:Int)≠0 by decide)
 have w1:=dH (ns.getD 4 0) (show(0:Int)<8 by decide)
 obtain⟨ah,ai⟩:=ES w0 w1
 refine⟨by show 8<=sizeLine;decide,λL ao=>?_⟩
 have l:Same H (upd H L (.lst (Ie.map V.str))):=nJ ao _
 have N:upd H L (.lst (Ie.map V.str)) L=some (.lst (Ie.map V.str)):=sQ
 change MH _ _ _ _ (upd H L (.lst (Ie.map V.str))) _
 generalize upd H L (.lst (Ie.map V.str))=W at l N ⊢
 refine⟨_,rfl,m,_,_,_,rfl,rfl,l.seq C,aC,_,_,rfl,rfl,by show(0:Int)<8;decide,L,_,_,_,rfl,rfl,SqL.of N,ai,?_⟩
 refine⟨_,rfl,m,_,_,_,rfl,rfl,l.seq C,af,_,_,rfl,rfl,by show(0:Int)<4;decide,_,_,rfl,rfl,_,rfl,?_⟩
 refine Gq (λ_=>?_) (λ_=>?_)
 ·refine⟨_,rfl,_,rfl,a,m,ps,ns,rfl,l.seq hA,rp,l.seq C,h8,λp J S1 aA az=>?_⟩
  have U:=l.trans S1
  refine⟨_,rfl,_,rfl,b,m,ts,ns,rfl,U.seq hB,rt,U.seq C,h8,λt S S2 al aB ax=>?_⟩
  refine⟨n,λR B=>q _ (.wish p t) _ (U.trans (S2.trans (nJ B _))) ⟨R,rfl,SqT.of sQ,al,aB,ax⟩⟩
 refine⟨_,rfl,m,_,_,_,rfl,rfl,l.seq C,af,_,_,rfl,rfl,by show(0:Int)<4;decide,rfl,_,rfl,?_⟩
 refine Gq (λ_=>?_) (λ_=>?_)
 ·refine⟨_,rfl,_,rfl,a,m,ps,ns,rfl,l.seq hA,rp,l.seq C,h8,λp J S1 aA az=>?_⟩
  refine⟨_,rfl,n,λR B=>q _ (.shares p ah) _ (l.trans (S1.trans (nJ B _))) ⟨R,rfl,SqT.of sQ⟩⟩
 refine⟨_,rfl,m,_,_,_,rfl,rfl,l.seq C,au,_,_,rfl,rfl,by show(0:Int)<1009;decide,?_⟩
 have t0:=dQ (ns.getD 6 0) (show(1009:Int)≠0 by decide)
 have t1:=dH (ns.getD 6 0) (show(0:Int)<1009 by decide)
 dsimp only
 generalize ns.getD 6 0%1009=k at t0 t1
 refine⟨_,rfl,c,λy ay=>?_⟩
 have T1:Same W (upd W y (.tup [.int k,.int 1009])):=nJ ay _
 have e1:upd W y (.tup [.int k,.int 1009]) y=some (.tup [.int k,.int 1009]):=sQ
 generalize upd W y (.tup [.int k,.int 1009])=J at T1 e1 ⊢
 refine⟨_,rfl,c,λu ar=>?_⟩
 have T2:Same J (upd J u (.tup [.int k,.int 1009])):=nJ ar _
 have e2:upd J u (.tup [.int k,.int 1009]) u=some (.tup [.int k,.int 1009]):=sQ
 generalize upd J u (.tup [.int k,.int 1009])=S at T2 e2 ⊢
 refine⟨c,λz ap=>?_⟩
 have Z:Same S (upd S z (.tup [.int 0,.int 1])):=nJ ap _
 have e3:upd S z (.tup [.int 0,.int 1]) z=some (.tup [.int 0,.int 1]):=sQ
 generalize upd S z (.tup [.int 0,.int 1])=H3 at Z e3 ⊢
 refine⟨c,λr av=>?_⟩
 have O:Same H3 (upd H3 r (.tup [.int 1,.int 1])):=nJ av _
 have e4:upd H3 r (.tup [.int 1,.int 1]) r=some (.tup [.int 1,.int 1]):=sQ
 generalize upd H3 r (.tup [.int 1,.int 1])=Y at O e4 ⊢
 refine⟨_,rfl,_,_,rfl,rfl,c,λx aw=>?_⟩
 have I:Same Y (upd Y x (.tup [.int (1009+k),.int 1009])):=nJ aw _
 have e5:upd Y x (.tup [.int (1009+k),.int 1009]) x=some (.tup [.int (1009+k),.int 1009]):=sQ
 generalize upd Y x (.tup [.int (1009+k),.int 1009])=H5 at I e5 ⊢
 refine⟨1,rfl,_,rfl,_,_,rfl,rfl,c,λv ab=>?_⟩
 dsimp only at ab ⊢
 have G:Same H5 (upd H5 v (.tup [.int (-1-k),.int 1009])):=nJ ab _
 have e6:upd H5 v (.tup [.int (-1-k),.int 1009]) v=some (.tup [.int (-1-k),.int 1009]):=sQ
 generalize upd H5 v (.tup [.int (-1-k),.int 1009])=X at G e6 ⊢
 refine⟨by show 6<=sizeLine;decide,λT aq=>?_⟩
 have F:Same X (upd X T (.lst [.ref y,.ref u,.ref z,.ref r,.ref x,.ref v])):=nJ aq _
 have e7:upd X T (.lst [.ref y,.ref u,.ref z,.ref r,.ref x,.ref v]) T=some (.lst [.ref y,.ref u,.ref z,.ref r,.ref x,.ref v]):=sQ
 generalize upd X T (.lst [.ref y,.ref u,.ref z,.ref r,.ref x,.ref v])=H7 at F e7 ⊢
 have ag:=l.trans (T1.trans (T2.trans (Z.trans (O.trans (I.trans (G.trans F))))))
 have m0:=dQ (ns.getD 7 0) (show(6:Int)≠0 by decide)
 have m1:=dH (ns.getD 7 0) (show(0:Int)<6 by decide)
 obtain⟨pn,t,d,am,aa,hd,aj,ac⟩:∃(pn:cG) (t d:Int),Ic [V.ref y,.ref u,.ref z,.ref r,.ref x,.ref v] (ns.getD 7 0%6)=some (.ref pn)/\H7 pn=some (.tup [.int t,.int d])/\0<d/\t.natAbs<4000/\d.natAbs<4000:=by
  have:ns.getD 7 0%6=0\/ns.getD 7 0%6=1\/ns.getD 7 0%6=2\/ns.getD 7 0%6=3\/ns.getD 7 0%6=4\/ns.getD 7 0%6=5:=by omega
  rcases this with e|e|e|e|e|e
  ·rw[e];exact⟨y,_,_,rfl,F _ _ (G _ _ (I _ _ (O _ _ (Z _ _ (T2 _ _ e1))))),by decide,by omega,by decide⟩
  ·rw[e];exact⟨u,_,_,rfl,F _ _ (G _ _ (I _ _ (O _ _ (Z _ _ e2)))),by decide,by omega,by decide⟩
  ·rw[e];exact⟨z,_,_,rfl,F _ _ (G _ _ (I _ _ (O _ _ e3))),by decide,by decide,by decide⟩
  ·rw[e];exact⟨r,_,_,rfl,F _ _ (G _ _ (I _ _ e4)),by decide,by decide,by decide⟩
  ·rw[e];exact⟨x,_,_,rfl,F _ _ (G _ _ e5),by decide,by omega,by decide⟩
  ·rw[e];exact⟨v,_,_,rfl,F _ _ e6,by decide,by omega,by decide⟩
 have an:d.natAbs<2^9000:=cJ ac (cO (show 4000<=2^12 by decide) (eK (by decide) (by decide)))
 refine⟨_,rfl,m,_,_,_,rfl,rfl,ag.seq C,ak,_,_,rfl,rfl,by show(0:Int)<6;decide,T,_,_,_,rfl,rfl,SqL.of e7,am,?_⟩
 refine⟨_,rfl,_,rfl,pn,_,0,_,rfl,rfl,SqT.of aa,rfl,_,rfl,pn,_,1,_,rfl,rfl,SqT.of aa,rfl,t,d,rfl,hd,an,λg H8 S8 hg=>?_⟩
 have hn:=M2 hd aj ac
 refine⟨n,λR B=>q _ (.deal ah (FQ.red t d)) _ (ag.trans (S8.trans (nJ B _))) ⟨R,g,rfl,SqT.of sQ,?_,hn.1,hn.2⟩⟩
 exact SqT.of (nJ B _ _ _ hg)
theorem Kl:Dn P w K mg base Ge 1 "_law_due" ["_law_people","_law_things","_law_lacks","_law_deed_here"] (KB K):=by
 have aj:F6 ["_law_people","_law_things","_law_lacks","_law_deed_here","_law_way"] ["_law_people","_law_things","_law_lacks","_law_deed_here"] (F3 (F8 69)):=GE;have nd:=aj.nd;refine M.bJ.ok aj (λvs H Q E h=>?_) (λ_ _ _ _ _ _ Z hl=>Oh (λ_ _ _ _=>rfl) Z hl) (λf aF A aC s H vs Q E hr h=>?_)
 ·obtain⟨a,b,l,v,x,C,u,D,rfl,hA,hB,T,ak,hL,am,ae,hD,q⟩:=h;rfl
 obtain⟨a,b,l,v,x,C,u,D,rfl,hA,hB,T,ak,hL,am,ae,hD,q⟩:=h;refine⟨_,(sR (tH (PW.pt (vx (sX zb (ti tD (pv 3) sT (λ_ _=>rfl)) tr (F7 _)) (vF (sX uC (ti tD (pv 3) sT (λ_ _=>rfl)) (pv 0) (by with_unfolding_all rfl))))) (sU (s9 (tT (me tr sS)))) sY)
   (sR (tH (sX uj (ti tD (pv 3) sT (λ_ _=>rfl)) tr (F7 _)) (sU (s9 (ti tw (tT (me (tT (me tr sS)) (me (tT sS) sS))) (tP Bv rfl M.aA Boot.«int» (me (uZ (vP hr) (sV (uR) rfl M.al Boot.«sorted» (me (uF iF lR mf zX (ti tD (pv 3) sT (λ_ _=>rfl)) (me tr sS)) sS)) (sV (uR) rfl M.al Boot.«sorted» (me (pv 1) sS)) (F7 _)) sS)) (λ_ _=>rfl)))) sY)
   (sR (tH (sX (xf hr) (pv 2) (tT sS) (F7 _)) (sU (s9 (tT (me tr sS)))) sY)
   (sR (sW (i:=4) nd rfl (Or.inl rfl) (ti tD (pv 3) sT (λ_ _=>rfl)))
   (sR (tH (sX uj (ti tD (pv 3) sT (λ_ _=>rfl)) tr (F7 _)) (sU (sW (i:=4) nd rfl (Or.inl rfl) (ti tD (pv 3) sT (λ_ _=>rfl)))) sY)
   (sR (tH (sX uC (pv 4) (tQ (me tr (me tr sS))) (by with_unfolding_all rfl)) (sU (s9 (tT (me tr sS)))) sY)
   (sR (tH (PW.pt (vx (sX uj (ti tD (pv 3) sT (λ_ _=>rfl)) tr (F7 _)) (vF (uP (Ai Bi AY sT (ti tD (ti tD (pv 3) sT (λ_ _=>rfl)) sT (λ_ _=>rfl)) (ti tD (ti tD (pv 3) sT (λ_ _=>rfl)) sT (λ_ _=>rfl))))))) (sU (s9 (tT (me tr sS)))) sY)
   (sU (s9 (tT sS)))))))))),?_⟩
 try dsimp -proj only[tJ,tz,tx]
 have B:(0:Nat)<=sizeLine:=by decide
 have c:(1:Nat)<=sizeLine:=by decide
 have J:(2:Nat)<=sizeLine:=by decide
 have ax:¬V.str "wish"=V.str "deal":=λz=>by injection z with z;revert z;decide
 have ag:¬V.str "shares"=V.str "deal":=λz=>by injection z with z;revert z;decide
 have ar:¬V.str "shares"=V.str "wish":=λz=>by injection z with z;revert z;decide
 have aB:¬V.str "deal"=V.str "wish":=λz=>by injection z with z;revert z;decide
 have aa:∀(G:Hp) (p:cG),Same H G->G p=some (.lst [])->Rep K G (.ref l) (.list (u.map fi))/\Rep K G (.ref p) (.list (([]:List Str).map fi))/\fy (.list (u.map fi))=true/\fy (.list (([]:List Str).map fi))=true:=λG p S hp=>
  ⟨.lst (S.seq hL) (Reps.strs u) (by rw[cx];exact cO ae (by decide)),.lst (SqL.of hp) (Reps.strs []) (by simp),tN (uz am) (by decide),tN (uz (λw y=>nomatch y)) (by decide)⟩
 cases D with
 | wish p t=>
  obtain⟨d,rfl,o,au,ao,af⟩:=hD;refine⟨_,rfl,d,_,_,_,rfl,rfl,o,rfl,rfl,_,rfl,J0 ax ?_⟩;refine⟨_,rfl,d,_,_,_,rfl,rfl,o,rfl,_,rfl,a,_,rfl,.inl hA,rfl,ve _,_,rfl,?_⟩;show if(!Js (.str p) (x.map V.str))=true then _ else _
  rw[vg];by_cases hp:p∈x;rotate_left
  ·rw[decide_eq_false hp];have e:Gm x C u (.wish p t)=[cU "NoPerson"]:=if_neg hp;rw[e]at q;exact Gu ⟨c,λp hp=>q p _ (nJ hp _) hp sQ⟩
  rw[decide_eq_true hp];refine Gg ?_;refine⟨_,rfl,d,_,_,_,rfl,rfl,o,rfl,rfl,_,rfl,Gp rfl ?_⟩;refine⟨c,λm O=>⟨B,λI L=>⟨J,λY ac=>?_⟩⟩⟩;have n:Same H (upd H m (.lst [V.str "NoWishes"])):=nJ O _;have R:upd H m (.lst [V.str "NoWishes"]) m=some (.lst [V.str "NoWishes"]):=sQ;generalize upd H m (.lst [V.str "NoWishes"])=G at n R L ac ⊢;have j:Same G (upd G I (.lst [])):=nJ L _;have e2:upd G I (.lst []) I=some (.lst []):=sQ;generalize upd G I (.lst [])=H2 at j e2 ac ⊢;have T3:Same H2 (upd H2 Y (.lst [V.ref m,V.ref I])):=nJ ac _;have e3:upd H2 Y (.lst [V.ref m,V.ref I]) Y=some (.lst [V.ref m,V.ref I]):=sQ;generalize upd H2 Y (.lst [V.ref m,V.ref I])=H3 at T3 e3 ⊢;have ai:=n.trans (j.trans T3);have az:∀w∈L2.wordsOf t,Gz w:=y9 ao;refine⟨_,rfl,d,_,_,_,rfl,rfl,ai.tup o,rfl,rfl,t," ",rfl,rfl,by decide,cZ (F4 (m5 (cO au (by decide)) _)),λpw aw=>?_⟩;have S1:Same H3 (upd H3 pw (.lst ((L2.wordsOf t).map V.str))):=nJ aw _;have an:upd H3 pw (.lst ((L2.wordsOf t).map V.str)) pw=some (.lst ((L2.wordsOf t).map V.str)):=sQ;refine⟨pw,L2.wordsOf t,rfl,.inl (SqL.of an),af,λl1 ws ay X ap=>?_⟩;have S2:Same (upd H3 pw (.lst ((L2.wordsOf t).map V.str))) _:=nJ ay (.lst (ws.map V.str));have ah:=ai.trans (S1.trans S2);refine⟨_,rfl,b,C,rfl,.inl (ah.seq hB),T,λl2 Z aq U av=>?_⟩;have S3:=nJ aq (.lst (Z.map V.str));refine⟨.list (ws.map fi),.list (Z.map fi),.lst (SqL.of (S3 _ _ sQ)) (Reps.strs ws) (by rw[cx,X.length_eq];exact cZ (cJ af (by decide))),.lst (SqL.of sQ) (Reps.strs Z) (by rw[cx,U.length_eq];exact cZ (cJ T (by decide))),tN (uz λw y=>az w (X.mem_iff.mp y)) (by decide),tN (uz λw y=>ak w (U.mem_iff.mp y)) (by decide),?_⟩;rw[tU];have ab:=ah.trans S3;have Sr:=S1.trans (S2.trans S3);by_cases W:(L2.wordsOf t).Perm C
  ·rw[decide_eq_true (wk ap av (X.trans (W.trans U.symm)))];have e:Gm x C u (.wish p t)=[]:=(if_pos hp).trans (if_pos W);rw[e]at q;exact .inr ⟨_,rfl,Y,_,1,_,rfl,rfl,SqL.of (Sr _ _ e3),rfl,q I _ ab (n.free L) (Sr _ _ (T3 _ _ e2))⟩
  ·rw[decide_eq_false (λ(z:ws=Z)=>W (X.symm.trans (by rw[z];exact U)))];have e:Gm x C u (.wish p t)=[cU "NoWishes"]:=(if_pos hp).trans (if_neg W);rw[e]at q;exact .inr ⟨_,rfl,Y,_,0,_,rfl,rfl,SqL.of (Sr _ _ e3),rfl,q m _ ab O (Sr _ _ (T3 _ _ (j _ _ R)))⟩
 | shares p k=>
  obtain⟨d,rfl,o⟩:=hD;refine⟨_,rfl,d,_,_,_,rfl,rfl,o,rfl,rfl,_,rfl,J0 ag ?_⟩;refine⟨_,rfl,d,_,_,_,rfl,rfl,o,rfl,_,rfl,a,_,rfl,.inl hA,rfl,ve _,_,rfl,?_⟩;show if(!Js (.str p) (x.map V.str))=true then _ else _
  rw[vg];by_cases hp:p∈x;rotate_left
  ·rw[decide_eq_false hp];have e:Gm x C u (.shares p k)=[cU "NoPerson"]:=if_neg hp;rw[e]at q;exact Gu ⟨c,λp hp=>q p _ (nJ hp _) hp sQ⟩
  rw[decide_eq_true hp];refine Gg ?_;refine⟨_,rfl,d,_,_,_,rfl,rfl,o,rfl,rfl,_,rfl,Gb ar ?_⟩;refine⟨_,rfl,B,λm O=>?_⟩;have n:Same H (upd H m (.lst [])):=nJ O _;have R:upd H m (.lst []) m=some (.lst []):=sQ;generalize upd H m (.lst [])=G at n R ⊢;obtain⟨r1,r2,s1,s2⟩:=aa G m n R;refine⟨_,_,r1,r2,s1,s2,_,rfl,?_⟩;rw[tU];by_cases r:u=[];rotate_left
  ·have e:Gm x C u (.shares p k)=[cU "Unready"]:=(if_pos hp).trans (if_neg r);rw[e]at q;rw[decide_eq_false r];exact Gu ⟨c,λp hp=>q p _ (n.trans (nJ hp _)) (n.free hp) sQ⟩
  rw[decide_eq_true r];refine Gg ?_;refine⟨_,rfl,d,_,_,_,rfl,rfl,n.tup o,rfl,?_⟩;refine⟨_,rfl,d,_,_,_,rfl,rfl,n.tup o,rfl,rfl,_,rfl,Gb ag ?_⟩;refine⟨_,rfl,J,λI L=>?_⟩;have j:=n.trans (nJ L (.tup [V.str "eaten",V.str "turns"]));refine⟨I,_,rfl,.inr (SqT.of sQ),rfl,rfl,_,rfl,?_⟩;show if(!Js (.str k) ([cU "eaten",cU "turns"].map V.str))=true then _ else _
  rw[vg];by_cases y:k∈[cU "eaten",cU "turns"];rotate_left
  ·have e:Gm x C u (.shares p k)=[cU "NoWay"]:=(if_pos hp).trans ((if_pos r).trans (if_neg y));rw[e]at q;rw[decide_eq_false y];exact Gu ⟨c,λp hp=>q p _ (j.trans (nJ hp _)) (j.free hp) sQ⟩
  rw[decide_eq_true y];refine Gg ?_;have e:Gm x C u (.shares p k)=[]:=(if_pos hp).trans ((if_pos r).trans (if_pos y));rw[e]at q;refine⟨_,rfl,d,_,_,_,rfl,rfl,j.tup o,rfl,rfl,_,rfl,Gb ag ?_⟩;exact⟨B,λp hp=>q p _ (j.trans (nJ hp _)) (j.free hp) sQ⟩
 | deal k N=>
  obtain⟨d,g,rfl,o,hg,aE,aD⟩:=hD;refine⟨_,rfl,d,_,_,_,rfl,rfl,o,rfl,rfl,_,rfl,HJ rfl ?_⟩;refine⟨_,rfl,d,_,_,_,rfl,rfl,o,rfl,rfl,_,rfl,Gb aB ?_⟩;refine⟨_,rfl,B,λm O=>?_⟩;have n:Same H (upd H m (.lst [])):=nJ O _;have R:upd H m (.lst []) m=some (.lst []):=sQ;generalize upd H m (.lst [])=G at n R ⊢;obtain⟨r1,r2,s1,s2⟩:=aa G m n R;refine⟨_,_,r1,r2,s1,s2,_,rfl,?_⟩;rw[tU];by_cases r:u=[];rotate_left
  ·have e:Gm x C u (.deal k N)=[cU "Unready"]:=if_neg r;rw[e]at q;rw[decide_eq_false r];exact Gu ⟨c,λp hp=>q p _ (n.trans (nJ hp _)) (n.free hp) sQ⟩
  rw[decide_eq_true r];refine Gg ?_;refine⟨_,rfl,d,_,_,_,rfl,rfl,n.tup o,rfl,?_⟩;refine⟨_,rfl,d,_,_,_,rfl,rfl,n.tup o,rfl,rfl,_,rfl,Gp rfl ?_⟩;refine⟨_,rfl,d,_,_,_,rfl,rfl,n.tup o,rfl,?_⟩;refine⟨_,rfl,J,λI L=>?_⟩;have j:=n.trans (nJ L (.tup [V.str "eaten",V.str "turns"]));refine⟨I,_,rfl,.inr (SqT.of sQ),rfl,rfl,_,rfl,?_⟩;show if(!Js (.str k) ([cU "eaten",cU "turns"].map V.str))=true then _ else _
  rw[vg];by_cases y:k∈[cU "eaten",cU "turns"];rotate_left
  ·have e:Gm x C u (.deal k N)=[cU "NoWay"]:=(if_pos r).trans (if_neg y);rw[e]at q;rw[decide_eq_false y];exact Gu ⟨c,λp hp=>q p _ (j.trans (nJ hp _)) (j.free hp) sQ⟩
  rw[decide_eq_true y];refine Gg ?_;refine⟨_,rfl,d,_,_,_,rfl,rfl,j.tup o,rfl,rfl,_,rfl,Gp rfl ?_⟩;refine⟨_,rfl,d,_,_,_,rfl,rfl,j.tup o,rfl,g,_,0,_,rfl,rfl,j.tup hg,rfl,_,_,rfl,rfl,_,rfl,?_⟩;refine Gq (λc1=>?_) (λc1=>?_);rotate_left
  ·have e:Gm x C u (.deal k N)=[cU "NoPick"]:=(if_pos r).trans ((if_pos y).trans (if_neg (λz=>c1 z.1)));rw[e]at q;exact⟨_,rfl,Gu ⟨c,λp hp=>q p _ (j.trans (nJ hp _)) (j.free hp) sQ⟩⟩
  refine⟨_,rfl,d,_,_,_,rfl,rfl,j.tup o,rfl,g,_,1,_,rfl,rfl,j.tup hg,rfl,_,_,rfl,rfl,_,rfl,?_⟩;by_cases c2:N.1<N.2
  ·have e:Gm x C u (.deal k N)=[]:=(if_pos r).trans ((if_pos y).trans (if_pos ⟨c1,c2⟩));rw[e]at q;dsimp only;rw[decide_eq_true c2];exact Gg ⟨B,λp hp=>q p _ (j.trans (nJ hp _)) (j.free hp) sQ⟩
  ·have e:Gm x C u (.deal k N)=[cU "NoPick"]:=(if_pos r).trans ((if_pos y).trans (if_neg (λz=>c2 z.2)));rw[e]at q;dsimp only;rw[decide_eq_false c2];exact Gu ⟨c,λp hp=>q p _ (j.trans (nJ hp _)) (j.free hp) sQ⟩
theorem JG
  (ac:Mn P w K mg base (Hj P w) 2 cB "wish" ["self","person","text"] (Lf K cB x))
  (X:Mn P w K mg base (Hj P w) 9 cB "shares" ["self","person","way"] (Iy K cB x))
  (ab:Mn P w K mg base (Hj P w) 9 cB "deal" ["self","way","number"] (JB K cB x))
  (aa:Dn P w K mg base Ge 1 "_law_kinds" ["_law_e"] (HS x)):Dn P w K mg base Ge 11 "_law_told" ["_law_book","_law_deed_here"] (JJ K cB):=by
 have ak:F6 ["_law_book","_law_deed_here","_law_caught","_law_told_here","_law_e"] ["_law_book","_law_deed_here"] (F3 (F8 70)):=GE
 have nd:=ak.nd
 refine M.bB.ok ak (λvs H Q E h=>?_) (λ_ _ _ _ _ _ us hl=>Ia (λ_ _=>rfl) us hl) (λf aJ A aH s H vs Q E hr h=>?_)
 ·obtain⟨s0,d,v,u,I,R,D,rfl,L,rp,rt,ah,aj,ag,hD,q⟩:=h
  rfl
 obtain⟨s0,d,v,u,I,R,D,rfl,L,rp,rt,ah,aj,ag,hD,q⟩:=h
 refine⟨_,(sR (sW (i:=2) nd rfl (Or.inl rfl) vv)
   (sR (sW (i:=3) nd rfl (Or.inl rfl) vv)
   (sR (Ec (ni:=4) rfl rfl nd rfl rfl M.ax rfl (FC (sX uj (ti tD (pv 1) sT (λ_ _=>rfl)) tr (F7 _)) (BG (i:=3) nd rfl (Or.inl rfl) (Cc (pl:=_) (pv 0) M.cl ac hr (by decide) (me (ti tD (pv 1) sT (λ_ _=>rfl)) (me (ti tD (pv 1) sT (λ_ _=>rfl)) sS)))) (FC (sX uj (ti tD (pv 1) sT (λ_ _=>rfl)) tr (F7 _)) (BG (i:=3) nd rfl (Or.inl rfl) (Cc (pl:=_) (pv 0) M.cl X hr (by decide) (me (ti tD (pv 1) sT (λ_ _=>rfl)) (me (ti tD (pv 1) sT (λ_ _=>rfl)) sS)))) (BG (i:=3) nd rfl (Or.inl rfl) (Cc (pl:=_) (pv 0) M.cl ab hr (by decide) (me (ti tD (pv 1) sT (λ_ _=>rfl)) (me (ti tD (pv 1) sT (λ_ _=>rfl)) sS)))))) (λ_=>(sU (sW (i:=2) nd rfl (Or.inl rfl) (pv 4)))))
   (sR (tH (sX Bu (pv 2) vv (F7 _)) (sU (s9 (tQ (me (pv 3) (me (tT sS) sS))))) sY)
   (sU (s9 (tQ (me vv (me (tF aa hr (by decide) rfl F9 (me (pv 2) sS)) sS))))))))),?_⟩
 try dsimp -proj only[tJ,tz,tx]
 obtain⟨dx,pp,p3,op,ot,h1,h2,h3,h4,h5,h6⟩:=L.ex
 have U:(0:Nat)<=sizeLine:=by decide
 have m:(2:Nat)<=sizeLine:=by decide
 have ai:=rp.hi
 have au:=rt.hi
 have ay:¬V.str "shares"=V.str "wish":=λz=>by injection z with z;revert z;decide
 have aC:¬V.str "deal"=V.str "wish":=λz=>by injection z with z;revert z;decide
 have aB:¬V.str "deal"=V.str "shares":=λz=>by injection z with z;revert z;decide
 cases D with
 | wish p t=>
  obtain⟨N,rfl,O,az,am,ap⟩:=hD
  refine⟨_,rfl,N,_,_,_,rfl,rfl,O,rfl,rfl,_,rfl,Gp rfl ?_⟩
  refine⟨_,rfl,s0,dx,_,rfl,h1,rfl,_,rfl,N,_,_,_,rfl,rfl,O,rfl,_,rfl,N,_,_,_,rfl,rfl,O,rfl,?_⟩
  refine⟨s0,d,u,I,R,p,t,rfl,L,cO au (by decide),(λw hw=>(rt.wd w hw).asc),az,am,ap,cJ aj (by decide),λhn Y n=>?_,λhp hn Y n=>?_,λhp aw r Y U1 aK hr al=>?_⟩
  ·have b:Gm u I (Ga u R) (.wish p t)=[cU "NoPerson"]:=if_neg hn
   refine⟨x.NoPerson,rfl,M.aD,λe C=>?_⟩
   refine⟨_,rfl,?_⟩
   refine⟨_,rfl,rfl,_,rfl,Gg ?_⟩
   refine⟨_,rfl,e,x.NoPerson,"NoPerson",rfl,sQ,.inr (.inr (.inr (.inl ⟨rfl,rfl⟩))),λj H4 J c B=>⟨m,λF a=>?_⟩⟩
   have y:=n.trans ((nJ C _).trans (J.trans (nJ a (.tup [.non,.ref j]))))
   exact q F j .non R _ (SameBut1.of y) sQ ((n.trans (nJ C _)).free c) (by rw[b];exact nJ a _ _ _ B) (L.mono y) (.inl ⟨by rw[b];exact fV _ _,rfl⟩)

  ·have b:Gm u I (Ga u R) (.wish p t)=[cU "NoWishes"]:=(if_pos hp).trans (if_neg hn)
   refine⟨x.NoWishes,rfl,M.bM,λe C=>?_⟩
   refine⟨_,rfl,?_⟩
   refine⟨_,rfl,rfl,_,rfl,Gg ?_⟩
   refine⟨_,rfl,e,x.NoWishes,"NoWishes",rfl,sQ,.inl ⟨rfl,rfl⟩,λj H4 J c B=>⟨m,λF a=>?_⟩⟩
   have y:=n.trans ((nJ C _).trans (J.trans (nJ a (.tup [.non,.ref j]))))
   exact q F j .non R _ (SameBut1.of y) sQ ((n.trans (nJ C _)).free c) (by rw[b];exact nJ a _ _ _ B) (L.mono y) (.inl ⟨by rw[b];exact fV _ _,rfl⟩)

  ·have b:Gm u I (Ga u R) (.wish p t)=[]:=(if_pos hp).trans (if_pos aw)
   refine⟨_,rfl,rfl,_,rfl,Gu ?_⟩
   refine⟨_,rfl,U,λj c=>⟨m,λF a=>?_⟩⟩
   have S:=(nJ c (.lst [])).trans (nJ a (.tup [.non,.ref j]))
   have ao:j≠d:=λz=>by
    obtain⟨_,_,_,_,_,_,_,_,_,_,av⟩:=al.ex
    rw[z,av]at c
    cases c
   have an:H j=none:=by
    cases e:H j with
    | none=>rfl
    | some o=>rw[U1 j o ao e]at c;cases c
   exact q F j .non _ _ (U1.trans (SameBut1.of S)) sQ an (by rw[b];exact nJ a _ _ _ sQ) (al.mono S) (.inr ⟨b,rfl,r,rfl,S _ _ hr⟩)
 | shares p G=>
  obtain⟨N,rfl,O⟩:=hD
  refine⟨_,rfl,N,_,_,_,rfl,rfl,O,rfl,rfl,_,rfl,Gb ay ?_⟩
  refine⟨_,rfl,N,_,_,_,rfl,rfl,O,rfl,rfl,_,rfl,Gp rfl ?_⟩
  refine⟨_,rfl,s0,dx,_,rfl,h1,rfl,_,rfl,N,_,_,_,rfl,rfl,O,rfl,_,rfl,N,_,_,_,rfl,rfl,O,rfl,?_⟩
  refine⟨s0,d,u,I,R,p,G,rfl,L,cO ai (by decide),ah,λhn Y n=>?_,λhp hn Y n=>?_,λhp hall=>?_⟩
  ·have b:Gm u I (Ga u R) (.shares p G)=[cU "NoPerson"]:=if_neg hn
   refine⟨x.NoPerson,rfl,M.aD,λe C=>?_⟩
   refine⟨_,rfl,?_⟩
   refine⟨_,rfl,rfl,_,rfl,Gg ?_⟩
   refine⟨_,rfl,e,x.NoPerson,"NoPerson",rfl,sQ,.inr (.inr (.inr (.inl ⟨rfl,rfl⟩))),λj H4 J c B=>⟨m,λF a=>?_⟩⟩
   have y:=n.trans ((nJ C _).trans (J.trans (nJ a (.tup [.non,.ref j]))))
   exact q F j .non R _ (SameBut1.of y) sQ ((n.trans (nJ C _)).free c) (by rw[b];exact nJ a _ _ _ B) (L.mono y) (.inl ⟨by rw[b];exact fV _ _,rfl⟩)

  ·have b:Gm u I (Ga u R) (.shares p G)=[cU "Unready"]:=(if_pos hp).trans (if_neg (y7 hn))
   refine⟨x.Unready,rfl,M.aF,λe C=>?_⟩
   refine⟨_,rfl,?_⟩
   refine⟨_,rfl,rfl,_,rfl,Gg ?_⟩
   refine⟨_,rfl,e,x.Unready,"Unready",rfl,sQ,.inr (.inr (.inr (.inr (.inl ⟨rfl,rfl⟩)))),λj H4 J c B=>⟨m,λF a=>?_⟩⟩
   have y:=n.trans ((nJ C _).trans (J.trans (nJ a (.tup [.non,.ref j]))))
   exact q F j .non R _ (SameBut1.of y) sQ ((n.trans (nJ C _)).free c) (by rw[b];exact nJ a _ _ _ B) (L.mono y) (.inl ⟨by rw[b];exact fV _ _,rfl⟩)

  ·obtain⟨W,hT,hW⟩:=Bf rp ag hall
   refine⟨W,hT,hW,λn1 n2 Y n=>?_,λZ T l xs Y af n aG hl hx=>?_⟩
   ·have b:Gm u I (Ga u R) (.shares p G)=[cU "NoWay"]:=(if_pos hp).trans ((if_pos (uL.mpr hall)).trans (if_neg (Ej n1 n2)))
    refine⟨x.NoWay,rfl,M.aX,λe C=>?_⟩
    refine⟨_,rfl,?_⟩
    refine⟨_,rfl,rfl,_,rfl,Gg ?_⟩
    refine⟨_,rfl,e,x.NoWay,"NoWay",rfl,sQ,.inr (.inr (.inr (.inr (.inr ⟨rfl,rfl⟩)))),λj H4 J c B=>⟨m,λF a=>?_⟩⟩
    have y:=n.trans ((nJ C _).trans (J.trans (nJ a (.tup [.non,.ref j]))))
    exact q F j .non R _ (SameBut1.of y) sQ ((n.trans (nJ C _)).free c) (by rw[b];exact nJ a _ _ _ B) (L.mono y) (.inl ⟨by rw[b];exact fV _ _,rfl⟩)

   ·have b:Gm u I (Ga u R) (.shares p G)=[]:=(if_pos hp).trans ((if_pos (uL.mpr hall)).trans (if_pos (zu af.way)))
    refine⟨_,rfl,rfl,_,rfl,Gu ?_⟩
    refine⟨_,rfl,U,λj c=>⟨m,λF a=>?_⟩⟩
    have S:=(nJ c (.lst [])).trans (nJ a (.tup [.ref l,.ref j]))
    exact q F j (.ref l) R _ (SameBut1.of (n.trans S)) sQ (n.free c) (by rw[b];exact nJ a _ _ _ sQ) (L.mono (n.trans S)) (.inr ⟨b,rfl,l,xs,rfl,S _ _ hl⟩)
 | deal G ae=>
  obtain⟨N,g,rfl,O,hg,ar,aq⟩:=hD
  refine⟨_,rfl,N,_,_,_,rfl,rfl,O,rfl,rfl,_,rfl,Gb aC ?_⟩
  refine⟨_,rfl,N,_,_,_,rfl,rfl,O,rfl,rfl,_,rfl,Gb aB ?_⟩
  refine⟨_,rfl,s0,dx,_,rfl,h1,rfl,_,rfl,N,_,_,_,rfl,rfl,O,rfl,_,rfl,N,_,_,_,rfl,rfl,O,rfl,?_⟩
  refine⟨s0,d,g,u,I,R,G,ae,rfl,L,cO ai (by decide),ah,⟨g,rfl,hg⟩,ar,aq,λhn Y n=>?_,λhall=>?_⟩
  ·have b:Gm u I (Ga u R) (.deal G ae)=[cU "Unready"]:=if_neg (y7 hn)
   refine⟨x.Unready,rfl,M.aF,λe C=>?_⟩
   refine⟨_,rfl,?_⟩
   refine⟨_,rfl,rfl,_,rfl,Gg ?_⟩
   refine⟨_,rfl,e,x.Unready,"Unready",rfl,sQ,.inr (.inr (.inr (.inr (.inl ⟨rfl,rfl⟩)))),λj H4 J c B=>⟨m,λF a=>?_⟩⟩
   have y:=n.trans ((nJ C _).trans (J.trans (nJ a (.tup [.non,.ref j]))))
   exact q F j .non R _ (SameBut1.of y) sQ ((n.trans (nJ C _)).free c) (by rw[b];exact nJ a _ _ _ B) (L.mono y) (.inl ⟨by rw[b];exact fV _ _,rfl⟩)

  ·obtain⟨W,hT,hW⟩:=Bf rp ag hall
   refine⟨W,hT,hW,λn1 n2 Y n=>?_,λhy hR Y n=>?_,λaA Z T k i l xs Y af aI aE n aG hl hx=>?_⟩
   ·have b:Gm u I (Ga u R) (.deal G ae)=[cU "NoWay"]:=(if_pos (uL.mpr hall)).trans (if_neg (Ej n1 n2))
    refine⟨x.NoWay,rfl,M.aX,λe C=>?_⟩
    refine⟨_,rfl,?_⟩
    refine⟨_,rfl,rfl,_,rfl,Gg ?_⟩
    refine⟨_,rfl,e,x.NoWay,"NoWay",rfl,sQ,.inr (.inr (.inr (.inr (.inr ⟨rfl,rfl⟩)))),λj H4 J c B=>⟨m,λF a=>?_⟩⟩
    have y:=n.trans ((nJ C _).trans (J.trans (nJ a (.tup [.non,.ref j]))))
    exact q F j .non R _ (SameBut1.of y) sQ ((n.trans (nJ C _)).free c) (by rw[b];exact nJ a _ _ _ B) (L.mono y) (.inl ⟨by rw[b];exact fV _ _,rfl⟩)

   ·have b:Gm u I (Ga u R) (.deal G ae)=[cU "NoPick"]:=(if_pos (uL.mpr hall)).trans ((if_pos (zu hy)).trans (if_neg λz=>xu.mpr z hR))
    refine⟨x.NoPick,rfl,M.bZ,λe C=>?_⟩
    refine⟨_,rfl,?_⟩
    refine⟨_,rfl,rfl,_,rfl,Gg ?_⟩
    refine⟨_,rfl,e,x.NoPick,"NoPick",rfl,sQ,.inr (.inl ⟨rfl,rfl⟩),λj H4 J c B=>⟨m,λF a=>?_⟩⟩
    have y:=n.trans ((nJ C _).trans (J.trans (nJ a (.tup [.non,.ref j]))))
    exact q F j .non R _ (SameBut1.of y) sQ ((n.trans (nJ C _)).free c) (by rw[b];exact nJ a _ _ _ B) (L.mono y) (.inl ⟨by rw[b];exact fV _ _,rfl⟩)

   ·have b:Gm u I (Ga u R) (.deal G ae)=[]:=(if_pos (uL.mpr hall)).trans ((if_pos (zu af.way)).trans (if_pos (xu.mp aA)))
    refine⟨_,rfl,rfl,_,rfl,Gu ?_⟩
    refine⟨_,rfl,U,λj c=>⟨m,λF a=>?_⟩⟩
    have S:=(nJ c (.lst [])).trans (nJ a (.tup [.ref l,.ref j]))
    exact q F j (.ref l) R _ (SameBut1.of (n.trans S)) sQ (n.free c) (by rw[b];exact nJ a _ _ _ sQ) (L.mono (n.trans S)) (.inr ⟨b,rfl,l,xs,rfl,S _ _ hl⟩)
theorem HL
  (a:Mn P w K mg base Ge 1 cB "lacking" ["self"] (HY cB))
  (b:Dn P w K mg base Ge 4 "_law_same" ["_law_found","_law_due_here"] (Ko K 3)):Dn P w K mg base Ge 5 "_law_lacks_well" ["_law_book","_law_lacks"] (Ib K cB):=by
 have r:F6 ["_law_book","_law_lacks","_law_k","_law_found"] ["_law_book","_law_lacks"] (F3 (F8 71)):=GE
 have G:=r.nd
 refine M.aH.ok r (λvs H Q E h=>?_) (λ_ _ _ _ _ _ S Y=>Ia (λ_ _=>rfl) S Y) (λf Z A O s H vs Q E C h=>?_)
 ·obtain⟨s0,d,l,c,D,R,rfl,y,j,o,z,q⟩:=h
  rfl
 obtain⟨s0,d,l,c,D,R,rfl,y,j,o,z,q⟩:=h
 refine⟨_,(sR (uH dV rfl (tS rfl M.ae (me sT sS)) (tj (i:=2) G rfl (Or.inl rfl)) (sR (sW (i:=3) G rfl (Or.inl rfl) (Bt (pl:=_) (pv 0) M.cl a C (by decide) F9))
   (sR (tH (uP (tV (tF b C (by decide) rfl F9 (me (pv 3) (me (pv 1) sS))))) (sU (s9 wj)) sY)
   (sU (tO (FI df PySem.F.slot_list_clear PySem.F.type_list_clear DB (pv 3)))))))
   (sU (s9 wj))),?_⟩
 try dsimp -proj only[tJ,tz,tx]
 have I:=xF c R
 have B:∀w∈Ga c R,Gz w:=λw X=>o w (xN.mp X).1
 refine⟨2,rfl,by decide,by decide,?_⟩
 refine ua (n:=2) (λi t m=>Same H m/\∃k f,t=[some (.ref s0),some (.ref l),k,f]) ⟨Same.refl _,_,_,rfl⟩ (λi t m L u=>?_) (λt m u=>?_)
 ·obtain⟨g,k,f,rfl⟩:=u
  have p:=y.mono g
  obtain⟨T,pp,pt,op,ot,h1,h2,h3,h4,h5,h6⟩:=p.ex
  refine⟨_,rfl,s0,T,_,rfl,h1,rfl,s0,d,c,D,R,rfl,p,j,λJ U v N x=>?_⟩
  have e:U J=some (.lst ((Ga c R).map V.str)):=x
  refine⟨_,rfl,_,rfl,_,_,.list ((Ga c R).map fi),rfl,.lst (SqL.of e) (Reps.strs _) (by rw[cx];exact cO I (cO j (by decide))),.lst ((g.trans v).seq z) (Reps.strs _) (by rw[cx];omega),?_,_,rfl,Gg ?_⟩
  ·show((Ga c R).map fi).all (Ho 2)=true
   rw[dX]
   intro d W
   obtain⟨i,L,rfl⟩:=dG.mp W
   exact Eg (B i L) 2
  refine⟨_,rfl,.inl ⟨rfl,_,SqL.of e⟩,J,_,rfl,rfl,e,?_⟩
  exact⟨g.trans (v.over N _),_,_,rfl⟩
 ·obtain⟨g,k,f,rfl⟩:=u
  exact q m g
theorem M8{fl:cG}{bl:FuncData}(Fl:Fun K "law" "law" (F8 72) fl bl)
  (I:Dn P w K mg base Ge 1 "_law_cell_at" ["_law_script","_law_k"] (Kg K))
  (ag:Dn P w K mg base Ge 2 "_law_words" ["_law_script","_law_at","_law_many"] (IZ K))
  (al:Dn P w K mg base Ge 7 "_law_no_roll" ["_law_people","_law_things","_law_cell"] (JY))
  (aj:Bn P w K mg base (Hj P w) 4 cB "Book" ["self","people","things"] (Kk K cB x))
  (ar:Dn P w K mg base Ge 1 "_law_mixed" ["_law_cell","_law_many"] (KQ))
  (aA:Dn P w K mg base Ge 3 "_law_deed" ["_law_people","_law_things","_law_xs"] (JI K))
  (az:Dn P w K mg base Ge 11 "_law_told" ["_law_book","_law_deed_here"] (JJ K cB))
  (aE:Dn P w K mg base Ge 1 "_law_due" ["_law_people","_law_things","_law_lacks","_law_deed_here"] (KB K))
  (ai:Dn P w K mg base Ge 5 "_law_lacks_well" ["_law_book","_law_lacks"] (Ib K cB)):FnOk P w K mg base Ge 13 fl bl ["_law_script"] (KG K):=by
 have bg:F6 ["_law_script","_law_count","_law_people","_law_things","_law_k","_law_book","_law_lacks","_law_cell","_law_deed_here","_law_told_here","_law_refused"] ["_law_script"] (F3 (F8 72)):=GE
 have nd:=bg.nd
 refine Fl.ok bg (λvs H Q E h=>?_) (λbD A bw s H vs Q E hr h=>?_)
 ·obtain⟨a,U,rfl,hS,bu,q⟩:=h
  rfl
 obtain⟨a,U,rfl,hS,bu,q⟩:=h
 refine⟨_,(sR (sW (i:=1) nd rfl (Or.inl rfl) (sZ t6 sT (sZ tG (tF I hr (by decide) rfl F9 (me (pv 0) (me sT sS))) sT)))
   (sR (sW (i:=2) nd rfl (Or.inl rfl) (tF ag hr (by decide) rfl F9 (me (pv 0) (me sT (me (pv 1) sS)))))
   (sR (sW (i:=3) nd rfl (Or.inl rfl) (tF ag hr (by decide) rfl F9 (me (pv 0) (me sT (me (pv 1) sS)))))
   (sR (tH (sX uj (sZ tG (tF I hr (by decide) rfl F9 (me (pv 0) (me sT sS))) sT) sT (F7 _)) (sU (sW (i:=3) nd rfl (Or.inl rfl) (Fz (ts:=tC .non) (pv 2) (C1 zk sT)))) sY)
   (sR (uH dV rfl (tS rfl M.ae (me sT sS)) (tj (i:=4) nd rfl (Or.inl rfl)) (sU (tH (uP (tV (tF al hr (by decide) rfl F9 (me (tP uf rfl M.af Boot.«list» (me (pv 2) sS)) (me (tP uf rfl M.af Boot.«list» (me (pv 3) sS)) (me (tF I hr (by decide) rfl F9 (me (pv 0) (me (sZ t6 sT (pv 4)) sS))) sS)))))) (sU (s9 wj)) sY)))
   (sR (sW (i:=5) nd rfl (Or.inl rfl) (FY aj hr (by decide) rfl JZ (me (tP uf rfl M.af Boot.«list» (me (pv 2) sS)) (me (tP uf rfl M.af Boot.«list» (me (pv 3) sS)) sS))))
   (sR (sW (i:=6) nd rfl (Or.inl rfl) (tP uf rfl M.af Boot.«list» (me (pv 2) sS)))
   (sR (uH dV rfl (uy (ue wh (pv 0) (um sT) (um sT))) (tj (i:=7) nd rfl (Or.inl rfl)) (sR (sW (i:=8) nd rfl (Or.inl rfl) (tF aA hr (by decide) rfl F9 (me (pv 2) (me (pv 3) (me (tF ar hr (by decide) rfl F9 (me (pv 7) (me sT sS))) sS)))))
   (sR (wr (tF az hr (by decide) rfl F9 (me (pv 5) (me (pv 8) sS))) (zd rfl (tX (tj (i:=9) nd rfl (Or.inl rfl)) (tX (tj (i:=10) nd rfl (Or.inl rfl)) vc))))
   (sR (tH (sX (xf hr) (pv 10) (tF aE hr (by decide) rfl F9 (me (pv 2) (me (pv 3) (me (pv 6) (me (pv 8) sS))))) (F7 _)) (sU (s9 wj)) sY)
   (sR (tH (PW.pt (vx (sX (vP hr) (pv 10) (tT sS) (F7 _)) (vx (sX uj (ti tD (pv 8) sT (λ_ _=>rfl)) tr (F7 _)) (vF (sX BU (pv 9) vv (F7 _)))))) (sU (s9 wj)) sY)
   (sR (tH (PW.pt (vx (sX (vP hr) (pv 10) (tT sS) (F7 _)) (vx (sX zb (ti tD (pv 8) sT (λ_ _=>rfl)) tr (F7 _)) (vF (uP (tV (sV tW rfl M.aa Boot.«isinstance» (me (pv 9) (me (uV rfl M.af Boot.«list») sS))))))))) (sU (s9 wj)) sY)
   (sR (tH (PW.pt (vx (sX (vP hr) (pv 10) (tT sS) (F7 _)) (vx (sX uj (ti tD (pv 8) sT (λ_ _=>rfl)) tr (F7 _)) (vF (sX zn (ti tD (pv 8) sT (λ_ _=>rfl)) (pv 6) (by with_unfolding_all rfl)))))) (sU (tO (uF df lu PySem.F.type_list_remove A2 (pv 6) (me (ti tD (pv 8) sT (λ_ _=>rfl)) sS)))) sY)
   (sU (tH (uP (tV (tF ai hr (by decide) rfl F9 (me (pv 5) (me (pv 6) sS))))) (sU (s9 wj)) sY)))))))))
   (sU (s9 wj)))))))))),?_⟩
 try dsimp -proj only[tJ,tz,tx]
 have j:(0:Nat)<=sizeLine:=by decide
 have aS:¬V.str "shares"=V.str "wish":=λz=>by injection z with z;revert z;decide
 have aX:¬V.str "deal"=V.str "wish":=λz=>by injection z with z;revert z;decide
 obtain⟨n,hn,ba,aZ⟩:∃n:Nat,1+LM.cellAt U 0%6=(n:Int)/\1<=n/\n<=6:=by
  have h0:=dQ (LM.cellAt U 0) (show(6:Int)≠0 by decide)
  have h1:=dH (LM.cellAt U 0) (show(0:Int)<6 by decide)
  exact⟨(1+LM.cellAt U 0%6).toNat,by omega,by omega,by omega⟩
 refine⟨_,rfl,a,U,0,rfl,hS,fH 0,_,_,rfl,rfl,by show(0:Int)<6;decide,_,_,rfl,rfl,?_⟩
 dsimp only
 rw[hn]
 refine uI λC G=>?_
 refine⟨_,rfl,_,rfl,a,U,1,n,rfl,hS,ba,aZ,λpl ps H1 S bm bh rp a1=>?_⟩
 refine G _ _ ?_
 clear G C
 refine uI λC G=>?_
 refine⟨_,rfl,_,rfl,a,U,3,n,rfl,S.seq hS,ba,aZ,λt0 us H2 B _ aY ru bc=>?_⟩
 refine G _ _ ?_
 clear G C
 have a0:=S.trans B
 have aN:=a0.seq hS
 have aw:=B _ _ bh
 refine uI λC G=>?_
 refine⟨_,rfl,a,U,5,rfl,aN,by decide,_,_,rfl,rfl,by show(0:Int)<4;decide,rfl,_,rfl,?_⟩
 show if decide (V.int (LM.cellAt U 5%4)=V.int 1)=true then _ else _
 apply Nu (λtl H3=>∃ts:List Str,SqL K H3 a (U.map V.int)/\H3 pl=some (.lst (ps.map V.str))/\H3 tl=some (.lst (ts.map V.str))/\Roll ts/\ts.length=n) t0 H2 ⟨us,aN,aw,aY,ru,bc⟩
 case hA=>
  intro hG
  refine⟨_,rfl,pl,_,rfl,SqL.of aw,λp hp=>?_⟩
  have T1:=nJ hp (.lst (ps.map V.str).reverse)
  exact hG p _ ⟨ps.reverse,T1.seq aN,T1 _ _ aw,by rw[sQ,List.map_reverse],rp.rev,by rw[jg];exact a1⟩
 intro tl H3 hP
 refine G _ _ ?_
 clear G C
 clear aN aw aY ru bc bh bm a0 B S hS
 obtain⟨ts,aU,aG,aM,rt,bn⟩:=hP
 have aQ:ts.length=ps.length:=bn.trans a1.symm
 have am:ps.length<=60:=cO rp.hi (by decide)
 have bq:ts.length<=60:=cO rt.hi (by decide)
 refine uI λC G=>?_
 refine⟨2,rfl,by decide,by decide,?_⟩
 refine ua (n:=2) (λi σ H'=>Same H3 H'/\∃k,σ=[some (.ref a),some (.int n),some (.ref pl),some (.ref tl),k,none,none,none,none,none,none]) ⟨Same.refl _,_,rfl⟩ (λi σ H' hi hP=>?_) (λσ H' hP=>?_)
 ·obtain⟨y,k,rfl⟩:=hP
  refine⟨_,rfl,pl,_,rfl,.inl (SqL.of (y _ _ aG)),λl1 aP=>?_⟩
  have T1:=nJ aP (.lst (ps.map V.str))
  refine⟨_,rfl,tl,_,rfl,.inl (SqL.of ((y.trans T1) _ _ aM)),λl2 aO=>?_⟩
  have T2:=nJ aO (.lst (ts.map V.str))
  have bf:=y.trans (T1.trans T2)
  refine⟨_,rfl,_,rfl,_,_,rfl,rfl,a,U,_,rfl,bf.seq aU,by omega,?_⟩
  exact⟨l1,l2,ps,ts,_,rfl,T2 _ _ sQ,sQ,rp,rt,aQ.symm,λJ S5=>⟨_,rfl,Gg ⟨bf.trans S5,_,rfl⟩⟩⟩
 obtain⟨y,k,rfl⟩:=hP
 refine G _ _ ?_
 clear G C
 have bj:=y.seq aU
 have aI:=y _ _ aG
 have aJ:=y _ _ aM
 clear aU aG aM y
 refine uI λC G=>?_
 refine⟨_,rfl,pl,_,rfl,.inl (SqL.of aI),λl1 aP=>?_⟩
 have T1:=nJ aP (.lst (ps.map V.str))
 refine⟨_,rfl,tl,_,rfl,.inl (SqL.of (T1 _ _ aJ)),λl2 aO=>?_⟩
 have T2:=nJ aO (.lst (ts.map V.str))
 have aK:=T2 _ _ (sQ (H:=H') (a:=l1) (o:= .lst (ps.map V.str)))
 have aF:upd (upd H' l1 (.lst (ps.map V.str))) l2 (.lst (ts.map V.str)) l2=some (.lst (ts.map V.str)):=sQ
 have S5:=T1.trans T2
 generalize upd (upd H' l1 (.lst (ps.map V.str))) l2 (.lst (ts.map V.str))=J at S5 aK aF ⊢
 refine λs0 dx aR a8 aD=>?_
 have bb:upd J dx (.own s0) s0=none:=by rw[td (Ne.symm aD)];exact aR
 have T3:=(nJ a8 (.own s0)).trans (nJ bb (.ins cB dx []))
 refine⟨s0,l1,l2,dx,ps,ts,rfl,sQ,SqL.of (T3 _ _ aK),SqL.of (T3 _ _ aF),am,bq,rp.ok,rt.ok,(λz=>absurd ⟨rp,rt,aQ.symm⟩ z),λ_ _ _ d H6 U6 br hb=>⟨rfl,?_⟩⟩
 refine G _ _ ?_
 clear G C
 have S6:Same H' H6:=S5.trans λb o e=>U6 b o (tE e aR) (T3 b o e)
 have bi:=S6.seq bj
 have av:=S6 _ _ aI
 have aL:=S6 _ _ aJ
 clear bj aI aJ S6 S5 aK aF T1 T2 T3 U6 br aR bb a8 aP aO
 refine uI λC G=>?_
 refine⟨_,rfl,pl,_,rfl,.inl (SqL.of av),λl hl=>?_⟩
 refine G _ _ ?_
 clear G C
 have T4:=nJ hl (.lst (ps.map V.str))
 have au:upd H6 l (.lst (ps.map V.str)) l=some (.lst (ps.map V.str)):=sQ
 have n1:pl≠l:=tE av hl
 have n2:tl≠l:=tE aL hl
 generalize upd H6 l (.lst (ps.map V.str))=H7 at T4 au ⊢
 refine⟨_,rfl,8,rfl,63,rfl,a,_,rfl,T4.seq bi,λc hc=>?_⟩
 have T5:=nJ hc (.lst (Ha (U.map V.int) (some 8) (some 63)))
 have n3:c≠l:=Ne.symm (tE au hc)
 have a6:=w4 (U.map V.int) (some 8) (some 63)
 rw[cx]at a6
 refine⟨c,rfl,⟨_,SqL.of sQ⟩,?_⟩
 have T6:=T4.trans T5
 have at0:At51 K cB (upd H7 c (.lst (Ha (U.map V.int) (some 8) (some 63)))) pl tl c l s0 d ps ts (Ha (U.map V.int) (some 8) (some 63)) (Ga ps []) []:=
  ⟨T6 _ _ av,T6 _ _ aL,sQ,(AC ps).symm▸T5 _ _ au,hb.mono T6,(λp v e=>nomatch e)⟩
 generalize upd H7 c (.lst (Ha (U.map V.int) (some 8) (some 63)))=H8 at at0 ⊢
 clear T6 T5 T4 au hb hc hl bi av aL
 have a2:∀i v,(Ha (U.map V.int) (some 8) (some 63))[i]?=some v->∃c:Int,v=V.int c:=λi v h=>E9 h
 generalize Ha (U.map V.int) (some 8) (some 63)=xs at at0 a6 a2 ⊢
 obtain⟨P1,ak⟩:∃P1:Nat->L2.St->Hp->Prop,∀i σ H4,P1 i σ H4↔(∃R c7 c8 c9 a9,σ=[some (.ref a),some (.int n),some (.ref pl),some (.ref tl),k,some (.ref s0),some (.ref l),c7,c8,c9,a9]/\R.length<=i/\At51 K cB H4 pl tl c l s0 d ps ts xs (Ga ps R) R):=⟨_,λ_ _ _=>Iff.rfl⟩
 refine wH (xs:=xs) P1
  ((ak _ _ _).mpr ⟨[],_,_,_,_,rfl,cI 0,at0⟩) (λi σ H4 _ hP=>by obtain⟨_,_,_,_,_,_,_,hP⟩:=(ak _ _ _).mp hP;exact SqL.of hP.ce) (λi v σ H1 hv hP=>?_) (λσ H4 hP=>q _)
 obtain⟨R,c7,c8,c9,a9,rfl,aB,a4⟩:=(ak _ _ _).mp hP
 have bC:i<xs.length:=(cT.mp hv).1
 obtain⟨cl,rfl⟩:=a2 i v hv
 refine uI λC G=>?_
 refine⟨_,rfl,_,rfl,_,rfl,cl,8,rfl,by decide,λpm H2 B _ hm=>?_⟩
 have ay:=a4.mono B
 refine⟨pl,tl,pm,ps,ts,LM.mixed cl 8,rfl,SqL.of ay.pe,rp,SqL.of ay.th,rt,SqL.of hm,LM.mixed_len _ _,λdv D H3 y aW=>?_⟩
 refine G _ _ ?_
 clear G C
 have ah:=ay.mono y
 have bF:=rp.hi
 have au:=xF ps R
 refine uI λC G=>?_
 refine⟨_,rfl,_,rfl,s0,d,dv,ps,ts,R,D,rfl,ah.bk,rp,rt,aQ,by omega,ah.ok,aW,λpt q0 tv Z H4 U4 be _ a7 a3 ap=>?_⟩
 have ao:=ah.told U4 a3 (ap.ok ah.ok ah.dk U4 rt aQ)
 have aV:=aW.but ah.dk U4
 have aC:=ap.len
 have T:=EY (ps:=ps) (ts:=ts) (L:=Ga ps R) D
 have aH:=Fb (ps:=ps) (ts:=ts) (L:=Ga ps R) D
 have X:(Gm ps ts (Ga ps R) D).length<=60:=cO aH (by decide)
 clear a4 ay ah aW a3 hm B y U4
 refine⟨pt,[tv,.ref q0],rfl,SqT.of be,rfl,_,_,rfl,_,_,rfl,rfl,?_⟩
 refine G _ _ ?_
 clear G C
 refine uI λC G=>?_
 refine⟨_,rfl,_,rfl,_,rfl,_,rfl,_,rfl,pl,tl,l,dv,ps,ts,Ga ps R,D,rfl,SqL.of ao.pe,SqL.of ao.th,dP rt.hi (by decide),(λw hw=>(rt.ok w hw).2),SqL.of ao.la,(λw hw=>(rp.ok w (xN.mp hw).1).2),cO au am,aV,λq1 J S5 _ bs=>?_⟩
 have ax:=ao.mono S5
 have aT:=aV.mono S5
 have hq:=S5 _ _ a7
 refine⟨_,_,.lst (SqL.of hq) (Reps.strs _) (by rw[cx];exact cO aH (by decide)),.lst (SqL.of bs) (Reps.strs _) (by rw[cx];exact cO aH (by decide)),tN (uz T) (by decide),tN (uz T) (by decide),_,rfl,?_⟩
 rw[tU,decide_eq_true rfl]
 refine Gg ?_
 refine G _ _ ?_
 clear G C
 have S0:=Same.refl J
 have a5:=S5
 clear a7 ao aV S5 be
 rcases ap with⟨aD,rfl⟩|⟨W,ap⟩
 ·refine⟨_,rfl,j,λe1 ac=>?_⟩
  obtain⟨u,m,N,O⟩:=G9 (K:=K) (S0 _ _ hq) T X ac
  have S:Same J (upd J e1 (.lst [])):=S0.trans (nJ ac (.lst []))
  generalize upd J e1 (.lst [])=G1 at u m S ⊢
  refine⟨_,_,u,m,N,O,_,rfl,?_⟩
  rw[tU]

  refine Gb aD ?_

  refine⟨_,rfl,j,λe2 Y=>?_⟩
  obtain⟨u,m,N,O⟩:=G9 (K:=K) (S _ _ hq) T X Y
  have B:Same J (upd G1 e2 (.lst [])):=S.trans (nJ Y (.lst []))
  generalize upd G1 e2 (.lst [])=G2 at u m B ⊢
  refine⟨_,_,u,m,N,O,_,rfl,?_⟩
  rw[tU]

  refine Gb aD ?_

  refine⟨_,rfl,j,λe3 ab=>?_⟩
  obtain⟨u,m,N,O⟩:=G9 (K:=K) (B _ _ hq) T X ab
  have y:Same J (upd G2 e3 (.lst [])):=B.trans (nJ ab (.lst []))
  generalize upd G2 e3 (.lst [])=G3 at u m y ⊢
  refine⟨_,_,u,m,N,O,_,rfl,?_⟩
  rw[tU]

  refine Gb aD ?_
  have f:=ax.mono y
  have lk:Ga ps Z=Ga ps Z:=rfl

  refine⟨_,rfl,_,rfl,s0,d,l,ps,ts,Z,rfl,f.bk,am,(λw hw=>(rp.ok w hw).2),lk▸SqL.of f.la,λH9 S9=>⟨_,rfl,Gg ?_⟩⟩
  exact(ak _ _ _).mpr ⟨Z,_,_,_,_,rfl,cO aC (dS aB),lk▸f.mono S9⟩

 cases D with
 | wish p t=>
  obtain⟨dd,rfl,hd,bE,bx,bA⟩:=aT
  obtain⟨rfl,r,bp,hr⟩:=ap
  have lk:Ga ps Z=(Ga ps R).erase p:=by rw[bp];exact AW rp.nd

  refine⟨_,rfl,j,λe1 ac=>?_⟩
  obtain⟨u,m,N,O⟩:=G9 (K:=K) (S0 _ _ hq) T X ac
  have S:Same J (upd J e1 (.lst [])):=S0.trans (nJ ac (.lst []))
  generalize upd J e1 (.lst [])=G1 at u m S ⊢
  refine⟨_,_,u,m,N,O,_,rfl,?_⟩
  rw[tU]

  refine Gp W ?_
  refine⟨_,rfl,dd,_,_,_,rfl,rfl,S.tup hd,rfl,rfl,_,rfl,Gp rfl ?_⟩
  refine⟨_,rfl,rfl,_,rfl,Gg ?_⟩

  refine⟨_,rfl,j,λe2 Y=>?_⟩
  obtain⟨u,m,N,O⟩:=G9 (K:=K) (S _ _ hq) T X Y
  have B:Same J (upd G1 e2 (.lst [])):=S.trans (nJ Y (.lst []))
  generalize upd G1 e2 (.lst [])=G2 at u m B ⊢
  refine⟨_,_,u,m,N,O,_,rfl,?_⟩
  rw[tU]

  refine Gp W ?_
  refine⟨_,rfl,dd,_,_,_,rfl,rfl,B.tup hd,rfl,rfl,_,rfl,HJ rfl ?_⟩

  refine⟨_,rfl,j,λe3 ab=>?_⟩
  obtain⟨u,m,N,O⟩:=G9 (K:=K) (B _ _ hq) T X ab
  have y:Same J (upd G2 e3 (.lst [])):=B.trans (nJ ab (.lst []))
  generalize upd G2 e3 (.lst [])=G3 at u m y ⊢
  refine⟨_,_,u,m,N,O,_,rfl,?_⟩
  rw[tU]

  refine Gp W ?_
  refine⟨_,rfl,dd,_,_,_,rfl,rfl,y.tup hd,rfl,rfl,_,rfl,Gp rfl ?_⟩
  have an:=ax.mono y
  refine⟨_,rfl,dd,_,_,_,rfl,rfl,y.tup hd,rfl,_,rfl,l,_,rfl,.inl (SqL.of an.la),rfl,ve _,_,rfl,?_⟩
  show if Js (.str p) ((Ga ps R).map V.str)=true then _ else _
  rw[vg]
  refine Gq (λhp=>?_) (λhp=>?_)
  ·refine⟨_,rfl,.inl ⟨rfl,_,SqL.of an.la⟩,_,rfl,dd,_,_,_,rfl,rfl,y.tup hd,rfl,l,Ga ps R,p,rfl,rfl,an.la,hp,?_⟩
   have f:=an.rem (L':=(Ga ps R).erase p) n1 n2 n3
   generalize upd G3 l (.lst (((Ga ps R).erase p).map V.str))=G4 at f ⊢
   refine⟨_,rfl,_,rfl,s0,d,l,ps,ts,Z,rfl,f.bk,am,(λw hw=>(rp.ok w hw).2),lk▸SqL.of f.la,λH9 S9=>⟨_,rfl,Gg ?_⟩⟩
   exact(ak _ _ _).mpr ⟨Z,_,_,_,_,rfl,cO aC (dS aB),lk▸f.mono S9⟩

  ·have f:=an
   rw[<-List.erase_of_not_mem hp]at f
   refine⟨_,rfl,_,rfl,s0,d,l,ps,ts,Z,rfl,f.bk,am,(λw hw=>(rp.ok w hw).2),lk▸SqL.of f.la,λH9 S9=>⟨_,rfl,Gg ?_⟩⟩
   exact(ak _ _ _).mpr ⟨Z,_,_,_,_,rfl,cO aC (dS aB),lk▸f.mono S9⟩

 | shares p bv=>
  obtain⟨dd,rfl,hd⟩:=aT
  obtain⟨rfl,l9,bo,rfl,aq⟩:=ap
  have aq:=a5 _ _ aq

  refine⟨_,rfl,j,λe1 ac=>?_⟩
  obtain⟨u,m,N,O⟩:=G9 (K:=K) (S0 _ _ hq) T X ac
  have S:Same J (upd J e1 (.lst [])):=S0.trans (nJ ac (.lst []))
  generalize upd J e1 (.lst [])=G1 at u m S ⊢
  refine⟨_,_,u,m,N,O,_,rfl,?_⟩
  rw[tU]

  refine Gp W ?_
  refine⟨_,rfl,dd,_,_,_,rfl,rfl,S.tup hd,rfl,rfl,_,rfl,Gb aS ?_⟩

  refine⟨_,rfl,j,λe2 Y=>?_⟩
  obtain⟨u,m,N,O⟩:=G9 (K:=K) (S _ _ hq) T X Y
  have B:Same J (upd G1 e2 (.lst [])):=S.trans (nJ Y (.lst []))
  generalize upd G1 e2 (.lst [])=G2 at u m B ⊢
  refine⟨_,_,u,m,N,O,_,rfl,?_⟩
  rw[tU]

  refine Gp W ?_
  refine⟨_,rfl,dd,_,_,_,rfl,rfl,B.tup hd,rfl,rfl,_,rfl,J0 aS ?_⟩
  refine⟨_,rfl,_,"list","list",rfl,by decide,.inl ⟨rfl,_,SqL.of (B _ _ aq)⟩,_,rfl,Gg ?_⟩

  refine⟨_,rfl,j,λe3 ab=>?_⟩
  obtain⟨u,m,N,O⟩:=G9 (K:=K) (B _ _ hq) T X ab
  have y:Same J (upd G2 e3 (.lst [])):=B.trans (nJ ab (.lst []))
  generalize upd G2 e3 (.lst [])=G3 at u m y ⊢
  refine⟨_,_,u,m,N,O,_,rfl,?_⟩
  rw[tU]

  refine Gp W ?_
  refine⟨_,rfl,dd,_,_,_,rfl,rfl,y.tup hd,rfl,rfl,_,rfl,Gb aS ?_⟩
  have f:=ax.mono y
  have lk:Ga ps Z=Ga ps Z:=rfl

  refine⟨_,rfl,_,rfl,s0,d,l,ps,ts,Z,rfl,f.bk,am,(λw hw=>(rp.ok w hw).2),lk▸SqL.of f.la,λH9 S9=>⟨_,rfl,Gg ?_⟩⟩
  exact(ak _ _ _).mpr ⟨Z,_,_,_,_,rfl,cO aC (dS aB),lk▸f.mono S9⟩

 | deal bv bG=>
  obtain⟨dd,g,rfl,hd,hg,bB,bz⟩:=aT
  obtain⟨rfl,l9,bo,rfl,aq⟩:=ap
  have aq:=a5 _ _ aq

  refine⟨_,rfl,j,λe1 ac=>?_⟩
  obtain⟨u,m,N,O⟩:=G9 (K:=K) (S0 _ _ hq) T X ac
  have S:Same J (upd J e1 (.lst [])):=S0.trans (nJ ac (.lst []))
  generalize upd J e1 (.lst [])=G1 at u m S ⊢
  refine⟨_,_,u,m,N,O,_,rfl,?_⟩
  rw[tU]

  refine Gp W ?_
  refine⟨_,rfl,dd,_,_,_,rfl,rfl,S.tup hd,rfl,rfl,_,rfl,Gb aX ?_⟩

  refine⟨_,rfl,j,λe2 Y=>?_⟩
  obtain⟨u,m,N,O⟩:=G9 (K:=K) (S _ _ hq) T X Y
  have B:Same J (upd G1 e2 (.lst [])):=S.trans (nJ Y (.lst []))
  generalize upd G1 e2 (.lst [])=G2 at u m B ⊢
  refine⟨_,_,u,m,N,O,_,rfl,?_⟩
  rw[tU]

  refine Gp W ?_
  refine⟨_,rfl,dd,_,_,_,rfl,rfl,B.tup hd,rfl,rfl,_,rfl,J0 aX ?_⟩
  refine⟨_,rfl,_,"list","list",rfl,by decide,.inl ⟨rfl,_,SqL.of (B _ _ aq)⟩,_,rfl,Gg ?_⟩

  refine⟨_,rfl,j,λe3 ab=>?_⟩
  obtain⟨u,m,N,O⟩:=G9 (K:=K) (B _ _ hq) T X ab
  have y:Same J (upd G2 e3 (.lst [])):=B.trans (nJ ab (.lst []))
  generalize upd G2 e3 (.lst [])=G3 at u m y ⊢
  refine⟨_,_,u,m,N,O,_,rfl,?_⟩
  rw[tU]

  refine Gp W ?_
  refine⟨_,rfl,dd,_,_,_,rfl,rfl,y.tup hd,rfl,rfl,_,rfl,Gb aX ?_⟩
  have f:=ax.mono y
  have lk:Ga ps Z=Ga ps Z:=rfl

  refine⟨_,rfl,_,rfl,s0,d,l,ps,ts,Z,rfl,f.bk,am,(λw hw=>(rp.ok w hw).2),lk▸SqL.of f.la,λH9 S9=>⟨_,rfl,Gg ?_⟩⟩
  exact(ak _ _ _).mpr ⟨Z,_,_,_,_,rfl,cO aC (dS aB),lk▸f.mono S9⟩
end
open PySem.W
abbrev L4:String:="wishlots.lots"
abbrev Ks:String:="wishlots.eating"
abbrev Kb:String:="wishlots.turns"
abbrev Jt:String:="wishlots.fractions"
abbrev Iu:String:="wishlots.book"
abbrev G5:String:="law_wishlots_k51_texts_and_refusals"
def vs(x:String)(n:Nat):cz:= .str (.ofString x) n
def i(n:Nat):cz:= .int n 0
def en(P:Params)(x:String)(n:Nat)(v:cz):DictEntry:={hash:=PyData.keyHash P (.ofString x),key:=vs x n,val:=v}
def di(l:List DictEntry)(n:Nat):Obj:={cls:= .type "dict",data:= .dict l.toArray n}
def tu(l:List cz):Obj:={cls:= .type "tuple",data:= .seq l.toArray}
def nf(l:List cz):Obj:={cls:= .none,data:= .fields l.toArray}
def ft(k:Nat)(x:String):Obj:={cls:= .none,data:= .func {name:= .ofString x,qualname:= .ofString x,params:=Gi (F8 k),body:= .stmts (Gc (F8 k)),scope:=F3 (F8 k),globals:=0,closure:=[],defaults:= .none,kwdefaults:= .none}}
def fo(k:Nat)(x m:String)(t c:Nat):Obj:={cls:= .type "function",data:= .func {name:= .ofString x,qualname:= .ofString x,params:=Gi (F8 k),body:= .stmts (Gc (F8 k)),scope:=F3 (F8 k),globals:=3,closure:=[],defaults:= .none,kwdefaults:= .none,pyModule:=vs m t,code:= .ref c}}
def co(x:String)(a b c:Nat)(r:List cz)(z:Nat):Obj:={cls:= .type "code",data:= .fields (vs x a::vs x b::vs "/claim/cut.py" c::(r++[vs "/claim/cut.py" z])).toArray}
def fc(k j:Nat)(x q:String):Obj:={cls:= .none,data:= .func {name:= .ofString x,qualname:= .ofString q,params:=Gi (IY k j),body:= .stmts (Gc (IY k j)),scope:=F3 (IY k j),globals:=0,closure:=[],defaults:= .none,kwdefaults:= .none}}
def fm(k j:Nat)(x q m:String)(t c:Nat):Obj:={cls:= .type "function",data:= .func {name:= .ofString x,qualname:= .ofString q,params:=Gi (IY k j),body:= .stmts (Gc (IY k j)),scope:=F3 (IY k j),globals:=3,closure:=[],defaults:= .none,kwdefaults:= .none,pyModule:=vs m t,code:= .ref c}}
def cq(x q:String)(a b c:Nat)(r:List cz)(z:Nat):Obj:={cls:= .type "code",data:= .fields (vs x a::vs q b::vs "/claim/cut.py" c::(r++[vs "/claim/cut.py" z])).toArray}
def Nm(P:Params):List DictEntry:=[en P "__name__" 165 (vs G5 684),en P "__doc__" 166 (.none),en P "__package__" 167 (.none),en P "__loader__" 168 (.builtin "__main__.__loader__#opaque"),en P "__spec__" 169 (.none),en P "__annotations__" 170 (.ref 6),en P "__builtins__" 171 (.ref 4),en P "__file__" 173 (vs "/claim/cut.py" 172),en P "__cached__" 174 (.none),en P "WishError" 206 (.ref 24),en P "NoFraction" 222 (.ref 37),en P "NoWishes" 238 (.ref 49),en P "NoTable" 254 (.ref 61),en P "NoPick" 270 (.ref 73),en P "NoOrder" 286 (.ref 85),en P "NoRoll" 302 (.ref 97),en P "NoPerson" 318 (.ref 109),en P "Unready" 334 (.ref 121),en P "NoWay" 350 (.ref 133),en P "NOTHING" 355 (.ref 136),en P "WHOLE" 358 (.ref 137),en P "is_whole" 365 (.ref 144),en P "common_divisor" 376 (.ref 151),en P "fraction" 385 (.ref 158),en P "plus" 393 (.ref 165),en P "minus" 401 (.ref 172),en P "times" 409 (.ref 179),en P "before" 417 (.ref 186),en P "total" 426 (.ref 193),en P "least" 435 (.ref 200),en P "best_left" 443 (.ref 205),en P "time_to_stop" 449 (.ref 210),en P "left_behind" 455 (.ref 215),en P "courses_of" 461 (.ref 220),en P "eaten_of" 467 (.ref 225),en P "eaten_by" 473 (.ref 230),en P "eaten" 479 (.ref 235),en P "deal_within" 493 (.ref 242),en P "row_without" 503 (.ref 249),en P "lots_of" 509 (.ref 254),en P "picked" 519 (.ref 261),en P "MOST_PEOPLE" 523 (.int 6 522),en P "is_listing" 530 (.ref 268),en P "has_people" 537 (.ref 275),en P "best_free" 545 (.ref 280),en P "with_one" 553 (.ref 287),en P "turns_from" 559 (.ref 292),en P "orders_of" 568 (.ref 299),en P "counts_of" 585 (.ref 306),en P "shares_by_turns" 591 (.ref 311),en P "by_turns" 597 (.ref 316),en P "MOST_SIGNS" 601 (.int 12 600),en P "is_word" 607 (.ref 321),en P "is_roll" 613 (.ref 326),en P "Book" 683 (.ref 375),en P "_law_cell_at" 693 (.ref 386),en P "_law_mixed" 704 (.ref 393),en P "_law_perm" 714 (.ref 400),en P "_law_divisor" 723 (.ref 407),en P "_law_lowest" 732 (.ref 414),en P "_law_base" 743 (.ref 421),en P "_law_word" 755 (.ref 428),en P "_law_words" 770 (.ref 435),en P "_law_same" 779 (.ref 442),en P "_law_kinds" 787 (.ref 449),en P "_law_bad_roll" 801 (.ref 456),en P "_law_no_roll" 812 (.ref 463),en P "_law_person" 822 (.ref 470),en P "_law_text" 828 (.ref 475),en P "_law_deed" 840 (.ref 482),en P "_law_due" 851 (.ref 489),en P "_law_told" 862 (.ref 496),en P "_law_lacks_well" 872 (.ref 503),en P "law" 889 (.ref 510)]
def Ox:List cz:=[i 2,i 0,.ref 20,i 4,i 0,.ref 33,i 6,i 0,.ref 45,i 8,i 0,.ref 57,i 10,i 0,.ref 69,i 12,i 0,.ref 81,i 14,i 0,.ref 93,i 16,i 0,.ref 105,i 18,i 0,.ref 117,i 20,i 0,.ref 129,i 25,i 0,.ref 143,i 27,i 0,.ref 150,i 35,i 0,.ref 157,i 42,i 0,.ref 164,i 44,i 0,.ref 171,i 46,i 0,.ref 178,i 48,i 0,.ref 185,i 50,i 0,.ref 192,i 55,i 0,.ref 199,i 62,i 0,.ref 204,i 64,i 0,.ref 209,i 66,i 0,.ref 214,i 68,i 0,.ref 219,i 78,i 0,.ref 224,i 80,i 0,.ref 229,i 82,i 0,.ref 234,i 86,i 0,.ref 241,i 96,i 0,.ref 248,i 100,i 0,.ref 253,i 111,i 0,.ref 260,i 122,i 0,.ref 267,i 124,i 0,.ref 274,i 127,i 0,.ref 279,i 129,i 0,.ref 286,i 131,i 0,.ref 291,i 134,i 0,.ref 298,i 139,i 0,.ref 305,i 152,i 0,.ref 310,i 155,i 0,.ref 315,i 160,i 0,.ref 320,i 164,i 0,.ref 325,i 166,i 0,.ref 332,i 210,i 0,.ref 385,i 214,i 0,.ref 392,i 227,i 0,.ref 399,i 233,i 0,.ref 406,i 239,i 0,.ref 413,i 246,i 0,.ref 420,i 258,i 0,.ref 427,i 262,i 0,.ref 434,i 273,i 0,.ref 441,i 290,i 0,.ref 448,i 313,i 0,.ref 455,i 331,i 0,.ref 462,i 342,i 0,.ref 469,i 350,i 0,.ref 474,i 366,i 0,.ref 481,i 375,i 0,.ref 488,i 390,i 0,.ref 495,i 405,i 0,.ref 502,i 412,i 0,.ref 509]
noncomputable def obs(P:Params):List Obj:=(ju P).objs.toList++[tu [],
 nf [],
 co "<module>" 182 183 184 [i 1,i 0,i 0,i 0,i 0,.ref 11,.bool false,i 181,.ref 12,.none,.none,.none,.none,i 185,i 1] 186,
 {cls:= .type "frame",slots:= #[some (.ref 13),some (.ref 3),some (.ref 3),none,some (vs "__main__" 164),none,some (.ref 0)]},
 tu [.type "ValueError"],
 {cls:= .type "builtin_function_or_method",data:= .fields #[.builtin "type.__prepare__",.type "type"]},
 di [en P "__module__" 196 (vs "wishlots.errors" 187),en P "__qualname__" 198 (vs "WishError" 197),en P "__firstlineno__" 200 (.int 2 199),en P "__static_attributes__" 201 (.ref 22)] 4,
 tu [],
 nf [],
 co "WishError" 191 192 193 [i 2,i 0,i 0,i 0,i 0,.ref 18,.bool false,i 181,.ref 19,.none,.none,.none,.none,i 194,i 2] 195,
 {cls:= .type "frame",slots:= #[some (.ref 20),some (.ref 3),some (.ref 17),none,some (vs "wishlots.errors" 187),none,some (.ref 0)]},
 tu [],
 di [en P "__module__" 196 (vs "wishlots.errors" 187),en P "__firstlineno__" 200 (.int 2 199),en P "__static_attributes__" 201 (.ref 22),en P "__weakref__" 203 (.ref 25),en P "__doc__" 204 (.none)] 3,
 {cls:= .type "type",data:= .cls {name:="WishError",bases:=[.type "ValueError"],mro:=[.ref 24,.type "ValueError",.type "Exception",.type "BaseException",.type "object"],ns:=23,qualname:="WishError",subclasses:=[.ref 37,.ref 49,.ref 61,.ref 73,.ref 85,.ref 97,.ref 109,.ref 121,.ref 133]},slots:= #[some (.ref 15),none,some (vs "WishError" 189),some (vs "WishError" 197),some (.builtin "ValueError.__new__"),some (.bool true)]},
 {cls:= .type "getset_descriptor",data:= .fields #[vs "__weakref__" 202,.ref 24,.builtin "ExceptionGroup.__weakref__",.none]},
 {cls:= .type "super",data:= .fields #[.ref 24,.ref 24,.ref 24]},
 {cls:= .type "builtin_function_or_method",data:= .fields #[.builtin "object.__init_subclass__",.ref 24]},
 tu [.ref 24],
 {cls:= .type "builtin_function_or_method",data:= .fields #[.builtin "type.__prepare__",.type "type"]},
 di [en P "__module__" 214 (vs "wishlots.errors" 187),en P "__qualname__" 216 (vs "NoFraction" 215),en P "__firstlineno__" 218 (.int 4 217),en P "__static_attributes__" 219 (.ref 35)] 4,
 tu [],
 nf [],
 co "NoFraction" 209 210 211 [i 4,i 0,i 0,i 0,i 0,.ref 31,.bool false,i 181,.ref 32,.none,.none,.none,.none,i 212,i 4] 213,
 {cls:= .type "frame",slots:= #[some (.ref 33),some (.ref 3),some (.ref 30),none,some (vs "wishlots.errors" 187),none,some (.ref 0)]},
 tu [],
 di [en P "__module__" 214 (vs "wishlots.errors" 187),en P "__firstlineno__" 218 (.int 4 217),en P "__static_attributes__" 219 (.ref 35),en P "__doc__" 220 (.none)] 2,
 {cls:= .type "type",data:= .cls {name:="NoFraction",bases:=[.ref 24],mro:=[.ref 37,.ref 24,.type "ValueError",.type "Exception",.type "BaseException",.type "object"],ns:=36,qualname:="NoFraction"},slots:= #[some (.ref 28),none,some (vs "NoFraction" 207),some (vs "NoFraction" 215),some (.builtin "ValueError.__new__"),some (.bool true)]},
 {cls:= .type "super",data:= .fields #[.ref 37,.ref 37,.ref 37]},
 {cls:= .type "builtin_function_or_method",data:= .fields #[.builtin "object.__init_subclass__",.ref 37]},
 tu [.ref 24],
 {cls:= .type "builtin_function_or_method",data:= .fields #[.builtin "type.__prepare__",.type "type"]},
 di [en P "__module__" 230 (vs "wishlots.errors" 187),en P "__qualname__" 232 (vs "NoWishes" 231),en P "__firstlineno__" 234 (.int 6 233),en P "__static_attributes__" 235 (.ref 47)] 4,
 tu [],
 nf [],
 co "NoWishes" 225 226 227 [i 6,i 0,i 0,i 0,i 0,.ref 43,.bool false,i 181,.ref 44,.none,.none,.none,.none,i 228,i 6] 229,
 {cls:= .type "frame",slots:= #[some (.ref 45),some (.ref 3),some (.ref 42),none,some (vs "wishlots.errors" 187),none,some (.ref 0)]},
 tu [],
 di [en P "__module__" 230 (vs "wishlots.errors" 187),en P "__firstlineno__" 234 (.int 6 233),en P "__static_attributes__" 235 (.ref 47),en P "__doc__" 236 (.none)] 2,
 {cls:= .type "type",data:= .cls {name:="NoWishes",bases:=[.ref 24],mro:=[.ref 49,.ref 24,.type "ValueError",.type "Exception",.type "BaseException",.type "object"],ns:=48,qualname:="NoWishes"},slots:= #[some (.ref 40),none,some (vs "NoWishes" 223),some (vs "NoWishes" 231),some (.builtin "ValueError.__new__"),some (.bool true)]},
 {cls:= .type "super",data:= .fields #[.ref 49,.ref 49,.ref 49]},
 {cls:= .type "builtin_function_or_method",data:= .fields #[.builtin "object.__init_subclass__",.ref 49]},
 tu [.ref 24],
 {cls:= .type "builtin_function_or_method",data:= .fields #[.builtin "type.__prepare__",.type "type"]},
 di [en P "__module__" 246 (vs "wishlots.errors" 187),en P "__qualname__" 248 (vs "NoTable" 247),en P "__firstlineno__" 250 (.int 8 249),en P "__static_attributes__" 251 (.ref 59)] 4,
 tu [],
 nf [],
 co "NoTable" 241 242 243 [i 8,i 0,i 0,i 0,i 0,.ref 55,.bool false,i 181,.ref 56,.none,.none,.none,.none,i 244,i 8] 245,
 {cls:= .type "frame",slots:= #[some (.ref 57),some (.ref 3),some (.ref 54),none,some (vs "wishlots.errors" 187),none,some (.ref 0)]},
 tu [],
 di [en P "__module__" 246 (vs "wishlots.errors" 187),en P "__firstlineno__" 250 (.int 8 249),en P "__static_attributes__" 251 (.ref 59),en P "__doc__" 252 (.none)] 2,
 {cls:= .type "type",data:= .cls {name:="NoTable",bases:=[.ref 24],mro:=[.ref 61,.ref 24,.type "ValueError",.type "Exception",.type "BaseException",.type "object"],ns:=60,qualname:="NoTable"},slots:= #[some (.ref 52),none,some (vs "NoTable" 239),some (vs "NoTable" 247),some (.builtin "ValueError.__new__"),some (.bool true)]},
 {cls:= .type "super",data:= .fields #[.ref 61,.ref 61,.ref 61]},
 {cls:= .type "builtin_function_or_method",data:= .fields #[.builtin "object.__init_subclass__",.ref 61]},
 tu [.ref 24],
 {cls:= .type "builtin_function_or_method",data:= .fields #[.builtin "type.__prepare__",.type "type"]},
 di [en P "__module__" 262 (vs "wishlots.errors" 187),en P "__qualname__" 264 (vs "NoPick" 263),en P "__firstlineno__" 266 (.int 10 265),en P "__static_attributes__" 267 (.ref 71)] 4,
 tu [],
 nf [],
 co "NoPick" 257 258 259 [i 10,i 0,i 0,i 0,i 0,.ref 67,.bool false,i 181,.ref 68,.none,.none,.none,.none,i 260,i 10] 261,
 {cls:= .type "frame",slots:= #[some (.ref 69),some (.ref 3),some (.ref 66),none,some (vs "wishlots.errors" 187),none,some (.ref 0)]},
 tu [],
 di [en P "__module__" 262 (vs "wishlots.errors" 187),en P "__firstlineno__" 266 (.int 10 265),en P "__static_attributes__" 267 (.ref 71),en P "__doc__" 268 (.none)] 2,
 {cls:= .type "type",data:= .cls {name:="NoPick",bases:=[.ref 24],mro:=[.ref 73,.ref 24,.type "ValueError",.type "Exception",.type "BaseException",.type "object"],ns:=72,qualname:="NoPick"},slots:= #[some (.ref 64),none,some (vs "NoPick" 255),some (vs "NoPick" 263),some (.builtin "ValueError.__new__"),some (.bool true)]},
 {cls:= .type "super",data:= .fields #[.ref 73,.ref 73,.ref 73]},
 {cls:= .type "builtin_function_or_method",data:= .fields #[.builtin "object.__init_subclass__",.ref 73]},
 tu [.ref 24],
 {cls:= .type "builtin_function_or_method",data:= .fields #[.builtin "type.__prepare__",.type "type"]},
 di [en P "__module__" 278 (vs "wishlots.errors" 187),en P "__qualname__" 280 (vs "NoOrder" 279),en P "__firstlineno__" 282 (.int 12 281),en P "__static_attributes__" 283 (.ref 83)] 4,
 tu [],
 nf [],
 co "NoOrder" 273 274 275 [i 12,i 0,i 0,i 0,i 0,.ref 79,.bool false,i 181,.ref 80,.none,.none,.none,.none,i 276,i 12] 277,
 {cls:= .type "frame",slots:= #[some (.ref 81),some (.ref 3),some (.ref 78),none,some (vs "wishlots.errors" 187),none,some (.ref 0)]},
 tu [],
 di [en P "__module__" 278 (vs "wishlots.errors" 187),en P "__firstlineno__" 282 (.int 12 281),en P "__static_attributes__" 283 (.ref 83),en P "__doc__" 284 (.none)] 2,
 {cls:= .type "type",data:= .cls {name:="NoOrder",bases:=[.ref 24],mro:=[.ref 85,.ref 24,.type "ValueError",.type "Exception",.type "BaseException",.type "object"],ns:=84,qualname:="NoOrder"},slots:= #[some (.ref 76),none,some (vs "NoOrder" 271),some (vs "NoOrder" 279),some (.builtin "ValueError.__new__"),some (.bool true)]},
 {cls:= .type "super",data:= .fields #[.ref 85,.ref 85,.ref 85]},
 {cls:= .type "builtin_function_or_method",data:= .fields #[.builtin "object.__init_subclass__",.ref 85]},
 tu [.ref 24],
 {cls:= .type "builtin_function_or_method",data:= .fields #[.builtin "type.__prepare__",.type "type"]},
 di [en P "__module__" 294 (vs "wishlots.errors" 187),en P "__qualname__" 296 (vs "NoRoll" 295),en P "__firstlineno__" 298 (.int 14 297),en P "__static_attributes__" 299 (.ref 95)] 4,
 tu [],
 nf [],
 co "NoRoll" 289 290 291 [i 14,i 0,i 0,i 0,i 0,.ref 91,.bool false,i 181,.ref 92,.none,.none,.none,.none,i 292,i 14] 293,
 {cls:= .type "frame",slots:= #[some (.ref 93),some (.ref 3),some (.ref 90),none,some (vs "wishlots.errors" 187),none,some (.ref 0)]},
 tu [],
 di [en P "__module__" 294 (vs "wishlots.errors" 187),en P "__firstlineno__" 298 (.int 14 297),en P "__static_attributes__" 299 (.ref 95),en P "__doc__" 300 (.none)] 2,
 {cls:= .type "type",data:= .cls {name:="NoRoll",bases:=[.ref 24],mro:=[.ref 97,.ref 24,.type "ValueError",.type "Exception",.type "BaseException",.type "object"],ns:=96,qualname:="NoRoll"},slots:= #[some (.ref 88),none,some (vs "NoRoll" 287),some (vs "NoRoll" 295),some (.builtin "ValueError.__new__"),some (.bool true)]},
 {cls:= .type "super",data:= .fields #[.ref 97,.ref 97,.ref 97]},
 {cls:= .type "builtin_function_or_method",data:= .fields #[.builtin "object.__init_subclass__",.ref 97]},
 tu [.ref 24],
 {cls:= .type "builtin_function_or_method",data:= .fields #[.builtin "type.__prepare__",.type "type"]},
 di [en P "__module__" 310 (vs "wishlots.errors" 187),en P "__qualname__" 312 (vs "NoPerson" 311),en P "__firstlineno__" 314 (.int 16 313),en P "__static_attributes__" 315 (.ref 107)] 4,
 tu [],
 nf [],
 co "NoPerson" 305 306 307 [i 16,i 0,i 0,i 0,i 0,.ref 103,.bool false,i 181,.ref 104,.none,.none,.none,.none,i 308,i 16] 309,
 {cls:= .type "frame",slots:= #[some (.ref 105),some (.ref 3),some (.ref 102),none,some (vs "wishlots.errors" 187),none,some (.ref 0)]},
 tu [],
 di [en P "__module__" 310 (vs "wishlots.errors" 187),en P "__firstlineno__" 314 (.int 16 313),en P "__static_attributes__" 315 (.ref 107),en P "__doc__" 316 (.none)] 2,
 {cls:= .type "type",data:= .cls {name:="NoPerson",bases:=[.ref 24],mro:=[.ref 109,.ref 24,.type "ValueError",.type "Exception",.type "BaseException",.type "object"],ns:=108,qualname:="NoPerson"},slots:= #[some (.ref 100),none,some (vs "NoPerson" 303),some (vs "NoPerson" 311),some (.builtin "ValueError.__new__"),some (.bool true)]},
 {cls:= .type "super",data:= .fields #[.ref 109,.ref 109,.ref 109]},
 {cls:= .type "builtin_function_or_method",data:= .fields #[.builtin "object.__init_subclass__",.ref 109]},
 tu [.ref 24],
 {cls:= .type "builtin_function_or_method",data:= .fields #[.builtin "type.__prepare__",.type "type"]},
 di [en P "__module__" 326 (vs "wishlots.errors" 187),en P "__qualname__" 328 (vs "Unready" 327),en P "__firstlineno__" 330 (.int 18 329),en P "__static_attributes__" 331 (.ref 119)] 4,
 tu [],
 nf [],
 co "Unready" 321 322 323 [i 18,i 0,i 0,i 0,i 0,.ref 115,.bool false,i 181,.ref 116,.none,.none,.none,.none,i 324,i 18] 325,
 {cls:= .type "frame",slots:= #[some (.ref 117),some (.ref 3),some (.ref 114),none,some (vs "wishlots.errors" 187),none,some (.ref 0)]},
 tu [],
 di [en P "__module__" 326 (vs "wishlots.errors" 187),en P "__firstlineno__" 330 (.int 18 329),en P "__static_attributes__" 331 (.ref 119),en P "__doc__" 332 (.none)] 2,
 {cls:= .type "type",data:= .cls {name:="Unready",bases:=[.ref 24],mro:=[.ref 121,.ref 24,.type "ValueError",.type "Exception",.type "BaseException",.type "object"],ns:=120,qualname:="Unready"},slots:= #[some (.ref 112),none,some (vs "Unready" 319),some (vs "Unready" 327),some (.builtin "ValueError.__new__"),some (.bool true)]},
 {cls:= .type "super",data:= .fields #[.ref 121,.ref 121,.ref 121]},
 {cls:= .type "builtin_function_or_method",data:= .fields #[.builtin "object.__init_subclass__",.ref 121]},
 tu [.ref 24],
 {cls:= .type "builtin_function_or_method",data:= .fields #[.builtin "type.__prepare__",.type "type"]},
 di [en P "__module__" 342 (vs "wishlots.errors" 187),en P "__qualname__" 344 (vs "NoWay" 343),en P "__firstlineno__" 346 (.int 20 345),en P "__static_attributes__" 347 (.ref 131)] 4,
 tu [],
 nf [],
 co "NoWay" 337 338 339 [i 20,i 0,i 0,i 0,i 0,.ref 127,.bool false,i 181,.ref 128,.none,.none,.none,.none,i 340,i 20] 341,
 {cls:= .type "frame",slots:= #[some (.ref 129),some (.ref 3),some (.ref 126),none,some (vs "wishlots.errors" 187),none,some (.ref 0)]},
 tu [],
 di [en P "__module__" 342 (vs "wishlots.errors" 187),en P "__firstlineno__" 346 (.int 20 345),en P "__static_attributes__" 347 (.ref 131),en P "__doc__" 348 (.none)] 2,
 {cls:= .type "type",data:= .cls {name:="NoWay",bases:=[.ref 24],mro:=[.ref 133,.ref 24,.type "ValueError",.type "Exception",.type "BaseException",.type "object"],ns:=132,qualname:="NoWay"},slots:= #[some (.ref 124),none,some (vs "NoWay" 335),some (vs "NoWay" 343),some (.builtin "ValueError.__new__"),some (.bool true)]},
 {cls:= .type "super",data:= .fields #[.ref 133,.ref 133,.ref 133]},
 {cls:= .type "builtin_function_or_method",data:= .fields #[.builtin "object.__init_subclass__",.ref 133]},
 tu [.int 0 353,.int 1 354],
 tu [.int 1 356,.int 1 357],
 tu [],
 nf [],
 tu [vs "value" 362],
 tu [],
 ft 14 "is_whole",
 co "is_whole" 359 360 361 [i 25,i 1,i 0,i 0,i 3,.ref 138,.bool true,i 181,.ref 139,.none,.ref 140,.ref 141,.ref 142,i 363,i 25] 364,
 fo 14 "is_whole" Jt 351 143,
 tu [],
 nf [],
 tu [vs "one" 369,vs "two" 370,vs "greater" 371,vs "smaller" 372,vs "rest" 373],
 tu [],
 ft 15 "common_divisor",
 co "common_divisor" 366 367 368 [i 27,i 2,i 0,i 0,i 3,.ref 145,.bool true,i 181,.ref 146,.none,.ref 147,.ref 148,.ref 149,i 374,i 27] 375,
 fo 15 "common_divisor" Jt 351 150,
 tu [],
 nf [],
 tu [vs "top" 380,vs "bottom" 381,vs "divisor" 382],
 tu [],
 ft 16 "fraction",
 co "fraction" 377 378 379 [i 35,i 2,i 0,i 0,i 3,.ref 152,.bool true,i 181,.ref 153,.none,.ref 154,.ref 155,.ref 156,i 383,i 35] 384,
 fo 16 "fraction" Jt 351 157,
 tu [],
 nf [],
 tu [vs "one" 389,vs "two" 390],
 tu [],
 ft 17 "plus",
 co "plus" 386 387 388 [i 42,i 2,i 0,i 0,i 3,.ref 159,.bool true,i 181,.ref 160,.none,.ref 161,.ref 162,.ref 163,i 391,i 42] 392,
 fo 17 "plus" Jt 351 164,
 tu [],
 nf [],
 tu [vs "one" 397,vs "two" 398],
 tu [],
 ft 18 "minus",
 co "minus" 394 395 396 [i 44,i 2,i 0,i 0,i 3,.ref 166,.bool true,i 181,.ref 167,.none,.ref 168,.ref 169,.ref 170,i 399,i 44] 400,
 fo 18 "minus" Jt 351 171,
 tu [],
 nf [],
 tu [vs "one" 405,vs "two" 406],
 tu [],
 ft 19 "times",
 co "times" 402 403 404 [i 46,i 2,i 0,i 0,i 3,.ref 173,.bool true,i 181,.ref 174,.none,.ref 175,.ref 176,.ref 177,i 407,i 46] 408,
 fo 19 "times" Jt 351 178,
 tu [],
 nf [],
 tu [vs "one" 413,vs "two" 414],
 tu [],
 ft 20 "before",
 co "before" 410 411 412 [i 48,i 2,i 0,i 0,i 3,.ref 180,.bool true,i 181,.ref 181,.none,.ref 182,.ref 183,.ref 184,i 415,i 48] 416,
 fo 20 "before" Jt 351 185,
 tu [],
 nf [],
 tu [vs "parts" 421,vs "so_far" 422,vs "part" 423],
 tu [],
 ft 21 "total",
 co "total" 418 419 420 [i 50,i 1,i 0,i 0,i 3,.ref 187,.bool true,i 181,.ref 188,.none,.ref 189,.ref 190,.ref 191,i 424,i 50] 425,
 fo 21 "total" Jt 351 192,
 tu [],
 nf [],
 tu [vs "parts" 430,vs "smallest" 431,vs "part" 432],
 tu [],
 ft 22 "least",
 co "least" 427 428 429 [i 55,i 1,i 0,i 0,i 3,.ref 194,.bool true,i 181,.ref 195,.none,.ref 196,.ref 197,.ref 198,i 433,i 55] 434,
 fo 22 "least" Jt 351 199,
 tu [],
 nf [],
 ft 24 "best_left",
 co "best_left" 438 439 440 [i 62,i 2,i 0,i 0,i 3,.ref 201,.bool true,i 181,.ref 202,.none,.none,.none,.ref 203,i 441,i 62] 442,
 fo 24 "best_left" Ks 436 204,
 tu [],
 nf [],
 ft 25 "time_to_stop",
 co "time_to_stop" 444 445 446 [i 64,i 2,i 0,i 0,i 3,.ref 206,.bool true,i 181,.ref 207,.none,.none,.none,.ref 208,i 447,i 64] 448,
 fo 25 "time_to_stop" Ks 436 209,
 tu [],
 nf [],
 ft 26 "left_behind",
 co "left_behind" 450 451 452 [i 66,i 3,i 0,i 0,i 3,.ref 211,.bool true,i 181,.ref 212,.none,.none,.none,.ref 213,i 453,i 66] 454,
 fo 26 "left_behind" Ks 436 214,
 tu [],
 nf [],
 ft 27 "courses_of",
 co "courses_of" 456 457 458 [i 68,i 1,i 0,i 0,i 3,.ref 216,.bool true,i 181,.ref 217,.none,.none,.none,.ref 218,i 459,i 68] 460,
 fo 27 "courses_of" Ks 436 219,
 tu [],
 nf [],
 ft 28 "eaten_of",
 co "eaten_of" 462 463 464 [i 78,i 3,i 0,i 0,i 3,.ref 221,.bool true,i 181,.ref 222,.none,.none,.none,.ref 223,i 465,i 78] 466,
 fo 28 "eaten_of" Ks 436 224,
 tu [],
 nf [],
 ft 29 "eaten_by",
 co "eaten_by" 468 469 470 [i 80,i 3,i 0,i 0,i 3,.ref 226,.bool true,i 181,.ref 227,.none,.none,.none,.ref 228,i 471,i 80] 472,
 fo 29 "eaten_by" Ks 436 229,
 tu [],
 nf [],
 ft 30 "eaten",
 co "eaten" 474 475 476 [i 82,i 1,i 0,i 0,i 3,.ref 231,.bool true,i 181,.ref 232,.none,.none,.none,.ref 233,i 477,i 82] 478,
 fo 30 "eaten" Ks 436 234,
 tu [],
 nf [],
 tu [vs "left" 485,vs "begun" 486,vs "person" 487,vs "thing" 488,vs "part" 489,vs "deal" 490],
 tu [],
 ft 32 "deal_within",
 co "deal_within" 482 483 484 [i 86,i 2,i 0,i 0,i 3,.ref 236,.bool true,i 181,.ref 237,.none,.ref 238,.ref 239,.ref 240,i 491,i 86] 492,
 fo 32 "deal_within" L4 480 241,
 tu [],
 nf [],
 tu [vs "row" 497,vs "thing" 498,vs "weight" 499,vs "rest" 500],
 tu [],
 ft 33 "row_without",
 co "row_without" 494 495 496 [i 96,i 3,i 0,i 0,i 3,.ref 243,.bool true,i 181,.ref 244,.none,.ref 245,.ref 246,.ref 247,i 501,i 96] 502,
 fo 33 "row_without" L4 480 248,
 tu [],
 nf [],
 ft 34 "lots_of",
 co "lots_of" 504 505 506 [i 100,i 1,i 0,i 0,i 3,.ref 250,.bool true,i 181,.ref 251,.none,.none,.none,.ref 252,i 507,i 100] 508,
 fo 34 "lots_of" L4 480 253,
 tu [],
 nf [],
 tu [vs "lots" 513,vs "number" 514,vs "place" 515,vs "so_far" 516],
 tu [],
 ft 35 "picked",
 co "picked" 510 511 512 [i 111,i 2,i 0,i 0,i 3,.ref 255,.bool true,i 181,.ref 256,.none,.ref 257,.ref 258,.ref 259,i 517,i 111] 518,
 fo 35 "picked" L4 480 260,
 tu [],
 nf [],
 tu [vs "value" 527],
 tu [],
 ft 38 "is_listing",
 co "is_listing" 524 525 526 [i 122,i 1,i 0,i 0,i 3,.ref 262,.bool true,i 181,.ref 263,.none,.ref 264,.ref 265,.ref 266,i 528,i 122] 529,
 fo 38 "is_listing" "wishlots.tables" 520 267,
 tu [],
 nf [],
 tu [vs "rows" 534],
 tu [],
 ft 39 "has_people",
 co "has_people" 531 532 533 [i 124,i 1,i 0,i 0,i 3,.ref 269,.bool true,i 181,.ref 270,.none,.ref 271,.ref 272,.ref 273,i 535,i 124] 536,
 fo 39 "has_people" "wishlots.tables" 520 274,
 tu [],
 nf [],
 ft 41 "best_free",
 co "best_free" 540 541 542 [i 127,i 2,i 0,i 0,i 3,.ref 276,.bool true,i 181,.ref 277,.none,.none,.none,.ref 278,i 543,i 127] 544,
 fo 41 "best_free" Kb 538 279,
 tu [],
 nf [],
 tu [vs "numbers" 549,vs "number" 550],
 tu [],
 ft 42 "with_one",
 co "with_one" 546 547 548 [i 129,i 2,i 0,i 0,i 3,.ref 281,.bool true,i 181,.ref 282,.none,.ref 283,.ref 284,.ref 285,i 551,i 129] 552,
 fo 42 "with_one" Kb 538 286,
 tu [],
 nf [],
 ft 43 "turns_from",
 co "turns_from" 554 555 556 [i 131,i 3,i 0,i 0,i 3,.ref 288,.bool true,i 181,.ref 289,.none,.none,.none,.ref 290,i 557,i 131] 558,
 fo 43 "turns_from" Kb 538 291,
 tu [],
 nf [],
 tu [vs "count" 563,vs "orders" 564,vs "number" 565],
 tu [],
 ft 44 "orders_of",
 co "orders_of" 560 561 562 [i 134,i 1,i 0,i 0,i 3,.ref 293,.bool true,i 181,.ref 294,.none,.ref 295,.ref 296,.ref 297,i 566,i 134] 567,
 fo 44 "orders_of" Kb 538 298,
 tu [],
 nf [],
 tu [vs "wishes" 572,vs "counts" 573,vs "beginnings" 574,vs "turn" 575,vs "endings" 576,vs "longer" 577,vs "beginning" 578,vs "number" 579,vs "person" 580,vs "thing" 581,vs "state" 582],
 tu [],
 ft 45 "counts_of",
 co "counts_of" 569 570 571 [i 139,i 1,i 0,i 0,i 3,.ref 300,.bool true,i 181,.ref 301,.none,.ref 302,.ref 303,.ref 304,i 583,i 139] 584,
 fo 45 "counts_of" Kb 538 305,
 tu [],
 nf [],
 ft 46 "shares_by_turns",
 co "shares_by_turns" 586 587 588 [i 152,i 3,i 0,i 0,i 3,.ref 307,.bool true,i 181,.ref 308,.none,.none,.none,.ref 309,i 589,i 152] 590,
 fo 46 "shares_by_turns" Kb 538 310,
 tu [],
 nf [],
 ft 47 "by_turns",
 co "by_turns" 592 593 594 [i 155,i 1,i 0,i 0,i 3,.ref 312,.bool true,i 181,.ref 313,.none,.none,.none,.ref 314,i 595,i 155] 596,
 fo 47 "by_turns" Kb 538 315,
 tu [],
 nf [],
 ft 50 "is_word",
 co "is_word" 602 603 604 [i 160,i 1,i 0,i 0,i 3,.ref 317,.bool true,i 181,.ref 318,.none,.none,.none,.ref 319,i 605,i 160] 606,
 fo 50 "is_word" Iu 598 320,
 tu [],
 nf [],
 ft 51 "is_roll",
 co "is_roll" 608 609 610 [i 164,i 1,i 0,i 0,i 3,.ref 322,.bool true,i 181,.ref 323,.none,.none,.none,.ref 324,i 611,i 164] 612,
 fo 51 "is_roll" Iu 598 325,
 tu [],
 {cls:= .type "builtin_function_or_method",data:= .fields #[.builtin "type.__prepare__",.type "type"]},
 di [en P "__module__" 621 (vs Iu 598),en P "__qualname__" 623 (vs "Book" 622),en P "__firstlineno__" 625 (.int 166 624),en P "__init__" 634 (.ref 340),en P "check_person" 642 (.ref 347),en P "wish" 648 (.ref 352),en P "lacking" 654 (.ref 357),en P "table_by" 660 (.ref 362),en P "shares" 666 (.ref 367),en P "deal" 672 (.ref 372),en P "__static_attributes__" 676 (.ref 373)] 11,
 tu [],
 nf [i 168,i 4,.ref 339,i 175,i 4,.ref 346,i 179,i 4,.ref 351,i 186,i 4,.ref 356,i 189,i 4,.ref 361,i 199,i 4,.ref 366,i 205,i 4,.ref 371],
 co "Book" 616 617 618 [i 166,i 0,i 0,i 0,i 0,.ref 330,.bool false,i 181,.ref 331,.none,.none,.none,.none,i 619,i 166] 620,
 {cls:= .type "frame",slots:= #[some (.ref 332),some (.ref 3),some (.ref 329),none,some (vs Iu 598),none,some (.ref 0)]},
 tu [],
 nf [],
 tu [vs "self" 629,vs "people" 630,vs "things" 631],
 tu [],
 fc 52 0 "__init__" "Book.__init__",
 cq "__init__" "Book.__init__" 626 627 628 [i 168,i 3,i 0,i 0,i 3,.ref 334,.bool true,i 181,.ref 335,.none,.ref 336,.ref 337,.ref 338,i 632,i 168] 633,
 fm 52 0 "__init__" "Book.__init__" Iu 598 339,
 tu [],
 nf [],
 tu [vs "self" 638,vs "person" 639],
 tu [],
 fc 52 1 "check_person" "Book.check_person",
 cq "check_person" "Book.check_person" 635 636 637 [i 175,i 2,i 0,i 0,i 3,.ref 341,.bool true,i 181,.ref 342,.none,.ref 343,.ref 344,.ref 345,i 640,i 175] 641,
 fm 52 1 "check_person" "Book.check_person" Iu 598 346,
 tu [],
 nf [],
 fc 52 2 "wish" "Book.wish",
 cq "wish" "Book.wish" 643 644 645 [i 179,i 3,i 0,i 0,i 3,.ref 348,.bool true,i 181,.ref 349,.none,.none,.none,.ref 350,i 646,i 179] 647,
 fm 52 2 "wish" "Book.wish" Iu 598 351,
 tu [],
 nf [],
 fc 52 3 "lacking" "Book.lacking",
 cq "lacking" "Book.lacking" 649 650 651 [i 186,i 1,i 0,i 0,i 3,.ref 353,.bool true,i 181,.ref 354,.none,.none,.none,.ref 355,i 652,i 186] 653,
 fm 52 3 "lacking" "Book.lacking" Iu 598 356,
 tu [],
 nf [],
 fc 52 4 "table_by" "Book.table_by",
 cq "table_by" "Book.table_by" 655 656 657 [i 189,i 2,i 0,i 0,i 3,.ref 358,.bool true,i 181,.ref 359,.none,.none,.none,.ref 360,i 658,i 189] 659,
 fm 52 4 "table_by" "Book.table_by" Iu 598 361,
 tu [],
 nf [],
 fc 52 5 "shares" "Book.shares",
 cq "shares" "Book.shares" 661 662 663 [i 199,i 3,i 0,i 0,i 3,.ref 363,.bool true,i 181,.ref 364,.none,.none,.none,.ref 365,i 664,i 199] 665,
 fm 52 5 "shares" "Book.shares" Iu 598 366,
 tu [],
 nf [],
 fc 52 6 "deal" "Book.deal",
 cq "deal" "Book.deal" 667 668 669 [i 205,i 3,i 0,i 0,i 3,.ref 368,.bool true,i 181,.ref 369,.none,.none,.none,.ref 370,i 670,i 205] 671,
 fm 52 6 "deal" "Book.deal" Iu 598 371,
 tu [vs "people" 673,vs "things" 674,vs "wishes_told" 675],
 di [en P "__module__" 621 (vs Iu 598),en P "__firstlineno__" 625 (.int 166 624),en P "__init__" 634 (.ref 340),en P "check_person" 642 (.ref 347),en P "wish" 648 (.ref 352),en P "lacking" 654 (.ref 357),en P "table_by" 660 (.ref 362),en P "shares" 666 (.ref 367),en P "deal" 672 (.ref 372),en P "__static_attributes__" 676 (.ref 373),en P "__dict__" 678 (.ref 376),en P "__weakref__" 680 (.ref 377),en P "__doc__" 681 (.none)] 4,
 {cls:= .type "type",data:= .cls {name:="Book",bases:=[.type "object"],mro:=[.ref 375,.type "object"],ns:=374,qualname:="Book"},slots:= #[none,none,some (vs "Book" 614),some (vs "Book" 622),some (.builtin "object.__new__"),some (.bool true)]},
 {cls:= .type "getset_descriptor",data:= .fields #[vs "__dict__" 677,.ref 375,.builtin "function.__dict__",.builtin "function.__dict__#set"]},
 {cls:= .type "getset_descriptor",data:= .fields #[vs "__weakref__" 679,.ref 375,.builtin "ExceptionGroup.__weakref__",.none]},
 {cls:= .type "super",data:= .fields #[.ref 375,.ref 375,.ref 375]},
 {cls:= .type "builtin_function_or_method",data:= .fields #[.builtin "object.__init_subclass__",.ref 375]},
 tu [],
 nf [],
 tu [vs "_law_script" 689,vs "_law_k" 690],
 tu [],
 ft 54 "_law_cell_at",
 co "_law_cell_at" 686 687 688 [i 210,i 2,i 0,i 0,i 3,.ref 380,.bool true,i 181,.ref 381,.none,.ref 382,.ref 383,.ref 384,i 691,i 210] 692,
 fo 54 "_law_cell_at" G5 684 385,
 tu [],
 nf [],
 tu [vs "_law_cell" 697,vs "_law_many" 698,vs "_law_found" 699,vs "_law_number" 700,vs "_law_k" 701],
 tu [],
 ft 55 "_law_mixed",
 co "_law_mixed" 694 695 696 [i 214,i 2,i 0,i 0,i 3,.ref 387,.bool true,i 181,.ref 388,.none,.ref 389,.ref 390,.ref 391,i 702,i 214] 703,
 fo 55 "_law_mixed" G5 684 392,
 tu [],
 nf [],
 tu [vs "_law_number" 708,vs "_law_count" 709,vs "_law_found" 710,vs "_law_k" 711],
 tu [],
 ft 56 "_law_perm",
 co "_law_perm" 705 706 707 [i 227,i 2,i 0,i 0,i 3,.ref 394,.bool true,i 181,.ref 395,.none,.ref 396,.ref 397,.ref 398,i 712,i 227] 713,
 fo 56 "_law_perm" G5 684 399,
 tu [],
 nf [],
 tu [vs "_law_one" 718,vs "_law_other" 719,vs "_law_rest" 720],
 tu [],
 ft 57 "_law_divisor",
 co "_law_divisor" 715 716 717 [i 233,i 2,i 0,i 0,i 3,.ref 401,.bool true,i 181,.ref 402,.none,.ref 403,.ref 404,.ref 405,i 721,i 233] 722,
 fo 57 "_law_divisor" G5 684 406,
 tu [],
 nf [],
 tu [vs "_law_top" 727,vs "_law_bottom" 728,vs "_law_share" 729],
 tu [],
 ft 58 "_law_lowest",
 co "_law_lowest" 724 725 726 [i 239,i 2,i 0,i 0,i 3,.ref 408,.bool true,i 181,.ref 409,.none,.ref 410,.ref 411,.ref 412,i 730,i 239] 731,
 fo 58 "_law_lowest" G5 684 413,
 tu [],
 nf [],
 tu [vs "_law_cell" 736,vs "_law_size" 737,vs "_law_found" 738,vs "_law_rest" 739,vs "_law_k" 740],
 tu [],
 ft 59 "_law_base",
 co "_law_base" 733 734 735 [i 246,i 2,i 0,i 0,i 3,.ref 415,.bool true,i 181,.ref 416,.none,.ref 417,.ref 418,.ref 419,i 741,i 246] 742,
 fo 59 "_law_base" G5 684 420,
 tu [],
 nf [],
 tu [vs "_law_base_here" 747,vs "_law_place" 748,vs "_law_size" 749,vs "_law_k" 750,vs "_law_letters" 751,vs "_law_other" 752],
 tu [],
 ft 60 "_law_word",
 co "_law_word" 744 745 746 [i 258,i 4,i 0,i 0,i 3,.ref 422,.bool true,i 181,.ref 423,.none,.ref 424,.ref 425,.ref 426,i 753,i 258] 754,
 fo 60 "_law_word" G5 684 427,
 tu [],
 nf [],
 tu [vs "_law_script" 759,vs "_law_at" 760,vs "_law_many" 761,vs "_law_cell" 762,vs "_law_size" 763,vs "_law_base_here" 764,vs "_law_words_here" 765,vs "_law_k" 766,vs "_law_word_here" 767],
 tu [],
 ft 61 "_law_words",
 co "_law_words" 756 757 758 [i 262,i 3,i 0,i 0,i 3,.ref 429,.bool true,i 181,.ref 430,.none,.ref 431,.ref 432,.ref 433,i 768,i 262] 769,
 fo 61 "_law_words" G5 684 434,
 tu [],
 nf [],
 tu [vs "_law_found" 774,vs "_law_due_here" 775,vs "_law_k" 776],
 tu [],
 ft 62 "_law_same",
 co "_law_same" 771 772 773 [i 273,i 2,i 0,i 0,i 3,.ref 436,.bool true,i 181,.ref 437,.none,.ref 438,.ref 439,.ref 440,i 777,i 273] 778,
 fo 62 "_law_same" G5 684 441,
 tu [],
 nf [],
 tu [vs "_law_e" 783,vs "_law_found" 784],
 tu [],
 ft 63 "_law_kinds",
 co "_law_kinds" 780 781 782 [i 290,i 1,i 0,i 0,i 3,.ref 443,.bool true,i 181,.ref 444,.none,.ref 445,.ref 446,.ref 447,i 785,i 290] 786,
 fo 63 "_law_kinds" G5 684 448,
 tu [],
 nf [],
 tu [vs "_law_roll" 791,vs "_law_cell" 792,vs "_law_at" 793,vs "_law_place" 794,vs "_law_signs" 795,vs "_law_sign" 796,vs "_law_bad" 797,vs "_law_other" 798],
 tu [],
 ft 64 "_law_bad_roll",
 co "_law_bad_roll" 788 789 790 [i 313,i 2,i 0,i 0,i 3,.ref 450,.bool true,i 181,.ref 451,.none,.ref 452,.ref 453,.ref 454,i 799,i 313] 800,
 fo 64 "_law_bad_roll" G5 684 455,
 tu [],
 nf [],
 tu [vs "_law_people" 805,vs "_law_things" 806,vs "_law_cell" 807,vs "_law_caught" 808,vs "_law_e" 809],
 tu [],
 ft 65 "_law_no_roll",
 co "_law_no_roll" 802 803 804 [i 331,i 3,i 0,i 0,i 3,.ref 457,.bool true,i 181,.ref 458,.none,.ref 459,.ref 460,.ref 461,i 810,i 331] 811,
 fo 65 "_law_no_roll" G5 684 462,
 tu [],
 nf [],
 tu [vs "_law_people" 816,vs "_law_xs" 817,vs "_law_person_here" 818,vs "_law_other" 819],
 tu [],
 ft 66 "_law_person",
 co "_law_person" 813 814 815 [i 342,i 2,i 0,i 0,i 3,.ref 464,.bool true,i 181,.ref 465,.none,.ref 466,.ref 467,.ref 468,i 820,i 342] 821,
 fo 66 "_law_person" G5 684 469,
 tu [],
 nf [],
 ft 67 "_law_text",
 co "_law_text" 823 824 825 [i 350,i 2,i 0,i 0,i 3,.ref 471,.bool true,i 181,.ref 472,.none,.none,.none,.ref 473,i 826,i 350] 827,
 fo 67 "_law_text" G5 684 474,
 tu [],
 nf [],
 tu [vs "_law_people" 832,vs "_law_things" 833,vs "_law_xs" 834,vs "_law_way" 835,vs "_law_top" 836,vs "_law_number" 837],
 tu [],
 ft 68 "_law_deed",
 co "_law_deed" 829 830 831 [i 366,i 3,i 0,i 0,i 3,.ref 476,.bool true,i 181,.ref 477,.none,.ref 478,.ref 479,.ref 480,i 838,i 366] 839,
 fo 68 "_law_deed" G5 684 481,
 tu [],
 nf [],
 tu [vs "_law_people" 844,vs "_law_things" 845,vs "_law_lacks" 846,vs "_law_deed_here" 847,vs "_law_way" 848],
 tu [],
 ft 69 "_law_due",
 co "_law_due" 841 842 843 [i 375,i 4,i 0,i 0,i 3,.ref 483,.bool true,i 181,.ref 484,.none,.ref 485,.ref 486,.ref 487,i 849,i 375] 850,
 fo 69 "_law_due" G5 684 488,
 tu [],
 nf [],
 tu [vs "_law_book" 855,vs "_law_deed_here" 856,vs "_law_caught" 857,vs "_law_told_here" 858,vs "_law_e" 859],
 tu [],
 ft 70 "_law_told",
 co "_law_told" 852 853 854 [i 390,i 2,i 0,i 0,i 3,.ref 490,.bool true,i 181,.ref 491,.none,.ref 492,.ref 493,.ref 494,i 860,i 390] 861,
 fo 70 "_law_told" G5 684 495,
 tu [],
 nf [],
 tu [vs "_law_book" 866,vs "_law_lacks" 867,vs "_law_k" 868,vs "_law_found" 869],
 tu [],
 ft 71 "_law_lacks_well",
 co "_law_lacks_well" 863 864 865 [i 405,i 2,i 0,i 0,i 3,.ref 497,.bool true,i 181,.ref 498,.none,.ref 499,.ref 500,.ref 501,i 870,i 405] 871,
 fo 71 "_law_lacks_well" G5 684 502,
 tu [],
 nf [],
 tu [vs "_law_script" 876,vs "_law_count" 877,vs "_law_people" 878,vs "_law_things" 879,vs "_law_k" 880,vs "_law_book" 881,vs "_law_lacks" 882,vs "_law_cell" 883,vs "_law_deed_here" 884,vs "_law_told_here" 885,vs "_law_refused" 886],
 tu [],
 ft 72 "law",
 co "law" 873 874 875 [i 412,i 1,i 0,i 0,i 3,.ref 504,.bool true,i 181,.ref 505,.none,.ref 506,.ref 507,.ref 508,i 887,i 412] 888,
 fo 72 "law" G5 684 509]
noncomputable def hp(m f e:Nat)(x:cz)(P:Params):Heap:={objs:=((((obs P).take m).set 3 (di (en P "__name__" 165 x::(Nm P).tail.take e) (e+1))).set 12 (nf (Ox.take f))).toArray}
noncomputable def all(P:Params):List Obj:=(obs P).set 3 (di (Nm P) 74)
def N5:List cG:=[3,23,24,25,36,37,48,49,60,61,72,73,84,85,96,97,108,109,120,121,132,133,136,137,143,144,150,151,157,158,164,165,171,172,178,179,185,186,192,193,199,200,204,205,209,210,214,215,219,220,224,225,229,230,234,235,241,242,248,249,253,254,260,261,267,268,274,275,279,280,286,287,291,292,298,299,305,306,310,311,315,316,320,321,325,326,339,340,346,347,351,352,356,357,361,362,366,367,371,372,374,375,376,377,385,386,392,393,399,400,406,407,413,414,420,421,427,428,434,435,441,442,448,449,455,456,462,463,469,470,474,475,481,482,488,489,495,496,502,503,509,510]
noncomputable def K0(P:Params):b3:=N5.map λa=>(a,(all P).getD a default)
theorem FV:∀P,N5=(K0 P).map (·.1):=λ_=>rfl
noncomputable abbrev hk:Hook:=kHook K0 N5 FV
def vw:cY:={cH with main:={cH.main with body:=[F8 1,F8 2,F8 3,F8 4,F8 5,F8 6,F8 7,F8 8,F8 9,F8 10,F8 12,F8 13,F8 14,F8 15,F8 16,F8 17,F8 18,F8 19,F8 20,F8 21,F8 22,F8 24,F8 25,F8 26,F8 27,F8 28,F8 29,F8 30,F8 32,F8 33,F8 34,F8 35,F8 37,F8 38,F8 39,F8 41,F8 42,F8 43,F8 44,F8 45,F8 46,F8 47,F8 49,F8 50,F8 51,F8 52,F8 54,F8 55,F8 56,F8 57,F8 58,F8 59,F8 60,F8 61,F8 62,F8 63,F8 64,F8 65,F8 66,F8 67,F8 68,F8 69,F8 70,F8 71,F8 72]}}
def On:List Stmt:=[F8 0,F8 1,F8 2,F8 3,F8 4,F8 5,F8 6,F8 7,F8 8,F8 9,F8 10]
def Oi:List Stmt:=[F8 11,F8 12,F8 13,F8 14,F8 15,F8 16,F8 17,F8 18,F8 19,F8 20,F8 21,F8 22,F8 23,F8 24,F8 25,F8 26]
def Oj:List Stmt:=[F8 27,F8 28,F8 29,F8 30,F8 31,F8 32,F8 33,F8 34,F8 35,F8 36,F8 37,F8 38,F8 39,F8 40,F8 41,F8 42]
def Of:List Stmt:=[F8 43,F8 44,F8 45,F8 46,F8 47,F8 48,F8 49,F8 50,F8 51]
def Om:List Stmt:=[F8 52]
def Oo:List Stmt:=[F8 53,F8 54,F8 55,F8 56,F8 57,F8 58,F8 59,F8 60,F8 61,F8 62,F8 63,F8 64,F8 65]
def Og:List Stmt:=[F8 66,F8 67,F8 68,F8 69,F8 70,F8 71,F8 72]
def bd:List Stmt:=On++(Oi++(Oj++(Of++(Om++(Oo++(Og++([])))))))
def ev:Env:={scope:=cH.main.scope,locals:=mainNs,globals:=mainNs,cells:=[],code:= .ref 13,frame:=some 14}
def cE:Code:= .body bd ev
abbrev tf:List Frame:=[topFrame ⟨0,0,0,0⟩]
noncomputable def hA(P:Params):Heap:={objs:=((obs P).take 15).toArray}
theorem pre(w:dn)(os:OsState):topGo treeTable cH w 11 (some (.ref 6)) 12 ⟨ju w.params,Array.mk [],eB,rg,os⟩ (topStub cH)=some (⟨hA w.params,Array.mk [],eB,187,os⟩,⟨denote treeTable cE,cE,⟨0,0,0,0⟩,tf⟩):=by kernel_rfl
theorem Ow(w:dn)(os:OsState):segRun treeTable cH w 11 (some (.ref 6)) 1 1 ⟨hA w.params,Array.mk [],eB,187,os⟩ (blockOf bd ev cE ⟨0,0,0,0⟩ tf)=some (.next,⟨hA w.params,Array.mk [],eB,187,os⟩,cE,⟨0,0,0,0⟩):=by kernel_rfl
noncomputable def h0:Params->Heap:=hp 136 30 18 (vs "wishlots.errors" 187)
theorem g0(w:dn)(os:OsState):segRun treeTable cH w 11 (some (.ref 6)) 1 2113 ⟨hA w.params,Array.mk [],eB,187,os⟩ (piecesOf On ev cE ⟨0,0,0,0⟩ tf)=some (.next,⟨h0 w.params,Array.mk [],eB,351,os⟩,cE,⟨20,0,21,8⟩):=by kernel_rfl
noncomputable def h1:Params->Heap:=hp 216 66 32 (vs Ks 436)
theorem g1(w:dn)(os:OsState):segRun treeTable cH w 11 (some (.ref 6)) 1 396 ⟨h0 w.params,Array.mk [],eB,351,os⟩ (piecesOf Oi ev cE ⟨20,0,21,8⟩ tf)=some (.next,⟨h1 w.params,Array.mk [],eB,456,os⟩,cE,⟨66,0,67,100⟩):=by kernel_rfl
noncomputable def h2:Params->Heap:=hp 288 102 45 (vs Kb 538)
theorem g2(w:dn)(os:OsState):segRun treeTable cH w 11 (some (.ref 6)) 1 379 ⟨h1 w.params,Array.mk [],eB,456,os⟩ (piecesOf Oj ev cE ⟨66,0,67,100⟩ tf)=some (.next,⟨h2 w.params,Array.mk [],eB,554,os⟩,cE,⟨129,0,130,45⟩):=by kernel_rfl
noncomputable def h3:Params->Heap:=hp 327 123 53 (vs Iu 598)
theorem g3(w:dn)(os:OsState):segRun treeTable cH w 11 (some (.ref 6)) 1 219 ⟨h2 w.params,Array.mk [],eB,554,os⟩ (piecesOf Of ev cE ⟨129,0,130,45⟩ tf)=some (.next,⟨h3 w.params,Array.mk [],eB,614,os⟩,cE,⟨164,0,165,107⟩):=by kernel_rfl
noncomputable def h4:Params->Heap:=hp 380 126 54 (vs Iu 598)
theorem g4(w:dn)(os:OsState):segRun treeTable cH w 11 (some (.ref 6)) 1 398 ⟨h3 w.params,Array.mk [],eB,614,os⟩ (piecesOf Om ev cE ⟨164,0,165,107⟩ tf)=some (.next,⟨h4 w.params,Array.mk [],eB,684,os⟩,cE,⟨166,0,208,44⟩):=by kernel_rfl
noncomputable def h5:Params->Heap:=hp 464 162 66 (vs G5 684)
theorem g5(w:dn)(os:OsState):segRun treeTable cH w 11 (some (.ref 6)) 1 401 ⟨h4 w.params,Array.mk [],eB,684,os⟩ (piecesOf Oo ev cE ⟨166,0,208,44⟩ tf)=some (.next,⟨h5 w.params,Array.mk [],eB,813,os⟩,cE,⟨331,0,341,48⟩):=by kernel_rfl
noncomputable def h6:Params->Heap:=hp 511 183 73 (vs G5 684)
theorem g6(w:dn)(os:OsState):segRun treeTable cH w 11 (some (.ref 6)) 1 230 ⟨h5 w.params,Array.mk [],eB,813,os⟩ (piecesOf Og ev cE ⟨331,0,341,48⟩ tf)=some (.next,⟨h6 w.params,Array.mk [],eB,890,os⟩,cE,⟨412,0,436,15⟩):=by kernel_rfl
theorem fin(w:dn)(os:OsState):topRun treeTable cH w 11 (some (.ref 6)) 2 ⟨h6 w.params,Array.mk [],eB,890,os⟩ (restOf [] ev cE ⟨412,0,436,15⟩ tf)=some ⟨h6 w.params,Array.mk [],eB,890,os⟩:=by kernel_rfl
theorem run(w:dn)(os:OsState):topRun treeTable cH w 11 (some (.ref 6)) (12+(1+(2113+(396+(379+(219+(398+(401+(230+(2)))))))))) ⟨ju w.params,Array.mk [],eB,rg,os⟩ (topStub cH)=some ⟨h6 w.params,Array.mk [],eB,890,os⟩:=go_top (pre w os) (piece_block (Ow w os) (kd (g0 w os) (kd (g1 w os) (kd (g2 w os) (kd (g3 w os) (kd (g4 w os) (kd (g5 w os) (kd (g6 w os) (fin w os)))))))))
theorem Oq:∀w:dn,(fencedOpening treeTable cH w 8982).map (λs=>(s.heap,s.gens,s.drawn,s.toks))=some (ju w.params,Array.mk [],eB,rg):=boot_open (by kernel_rfl) rfl λs=>by kernel_rfl
theorem size:∀w:dn,((ju w.params).isNs fG&&(Array.mk []:Array GenState).size==0,(ju w.params).objs.size,(ju w.params).nsMap fG "__annotations__")=(true,11,some (.ref 6)):=λw=>by kernel_rfl
abbrev xt:cC->Bool:=λs=>xlAt vw [] s&&recOk (RowW.records (OpenRow.toRowW fM.row)) s
theorem Np:∀w:dn,(λos=>((staticsOk (importedModules cH.main.body) (ju w.params) (h6 w.params)&&namesBound cH (h6 w.params)&&gensDone ⟨h6 w.params,Array.mk [],eB,890,os⟩&&laidKept (ju w.params) (h6 w.params)),openSeen vw [] (importedModules cH.main.body) xt true ⟨h6 w.params,Array.mk [],eB,890,os⟩,hk.obs ⟨h6 w.params,Array.mk [],eB,890,os⟩))=λ_=>(true,openGood vw [],hk.val w):=λw=>by kernel_rfl
theorem Ot:LeftO cH vw [] xt hk.obs hk.val 8982:=LeftO.of_pieces Oq size run rfl Np
theorem GN{K:Frag}{h:Heap}{mg:Str->Option cz}{n:Str}{st:Stmt}(f c:cG)(g:cz)(X:K.In h)(G:h.Ns fG mg)
  (e:(nsIn K fG n,K.lookup f,codeIn K (.ref c) n,keepIn K (.ref f))=(some (some (.ref f)),some ⟨.type "function",none,.func (fnOf n n (Gi st) (Gc st) (F3 st) .none .none .none g none (.ref c) .none),#[]⟩,true,true)):Def K mg n st:=by
 have d:=Prod.mk.inj e
 have b:=Prod.mk.inj d.2
 have a:=Prod.mk.inj b.2
 exact⟨_,_,zW (st:=st) b.1 a.1 a.2,j9 X G d.1⟩
theorem MK{K:Frag}{C:cG}{m q:Str}{st:Stmt}(f c:cG)(h:cz)
  (e:((findIn K (.ref C) m,isFn K (.ref f)),K.lookup f,codeIn K (.ref c) q,keepIn K (.ref f))=((some (some (.ref f)),true),some ⟨.type "function",none,.func (fnOf m q (Gi st) (Gc st) (F3 st) .none .none .none h none (.ref c) .none),#[]⟩,true,true)):MDef K C m q st:=by
 have g:=Prod.mk.inj e
 have d:=Prod.mk.inj g.1
 have b:=Prod.mk.inj g.2
 have a:=Prod.mk.inj b.2
 exact⟨_,_,zW (st:=st) b.1 a.1 a.2,d.1,d.2,a.2⟩
theorem OB{K:Frag}{h:Heap}{mg:Str->Option cz}{C:cG}{x q:Str}{st:Stmt}(f c:cG)(l:cz)(X:K.In h)(G:h.Ns fG mg)
  (m:(makesIn K C,findIn K (.ref C) "__init__",isFn K (.ref f),keepIn K (.ref C),nsIn K fG x)=(true,some (some (.ref f)),true,true,some (some (.ref C))))
  (e:(K.lookup f,codeIn K (.ref c) q,keepIn K (.ref f))=(some ⟨.type "function",none,.func (fnOf "__init__" q (Gi st) (Gc st) (F3 st) .none .none .none l none (.ref c) .none),#[]⟩,true,true)):BDef K mg C x q st:=by
 have d:=Prod.mk.inj m
 have k:=Prod.mk.inj d.2
 have j:=Prod.mk.inj k.2
 have g:=Prod.mk.inj j.2
 have a:=Prod.mk.inj e
 have b:=Prod.mk.inj a.2
 exact⟨_,_,zW (st:=st) a.1 b.1 b.2,⟨d.1,k.1,j.1,g.1⟩,j9 X G g.2⟩
theorem all_mk{P:cY}{w:dn}{K:Frag}{h:Heap}{mg:Str->Option cz}{fa:cG}{x:Xs}{cB:cG}(f c:cG)(pm:cz)(X:K.In h)(G:h.Ns fG mg)(az:mg "law"=some (.ref fa))(M:∀base,Md P w K mg base x cB)
  (e:(nsIn K fG "law",K.lookup f,codeIn K (.ref c) "law",keepIn K (.ref f))=(some (some (.ref f)),some ⟨.type "function",none,.func (fnOf "law" "law" (Gi (F8 72)) (Gc (F8 72)) (F3 (F8 72)) .none .none .none pm none (.ref c) .none),#[]⟩,true,true)):
  ∃fd:FuncData,(∀(s:cC) (v:cz),BindsTo s fd ⟨[v],[]⟩ [("_law_script",v)])/\∀base:Heap,K.In base->base.Ns fG mg->FnOk P w K mg base Ge 13 fa fd ["_law_script"] (KG K):=by
 have e1:=Prod.mk.inj e
 have e2:=Prod.mk.inj e1.2
 have e3:=Prod.mk.inj e2.2
 have e4:=az.symm.trans (j9 X G e1.1)
 cases e4
 refine⟨fnOf "law" "law" (Gi (F8 72)) (Gc (F8 72)) (F3 (F8 72)) .none .none .none pm none (.ref c) .none,λs v=> .of_eq rfl,λbase _ _=>?_⟩
 have M:=M base
 have am:=Kd M
 have q:=HZ M
 have b:=Kh M am q
 have S:=Mu M b
 have ah:=LF M b
 have aj:=LI M b
 have Q:=K9 M
 have an:=LH M S
 have aq:=LK M Q
 have af:=J9 M
 have y:=Iv M aj aq
 have B:=IT M ah aj
 have N:=Jo M (an.imp λ_ _ _ _=>FD) af y B
 have ak:=Ka M (an.imp λ_ _ _ _=>FD)
 have ai:=Kw M ak
 have ay:=LO M N ai
 have W0:=M.ao.nothing (P:=P) (w:=w) (base:=base) (ps:=["left","begun"]) (λ_ _ _ _ _ _ us hl=>match us,hl with|[_,_],_=>rfl)
 have W1:=Gn (m:=0) M W0
 have W2:=Gn (m:=1) M W1
 have W3:=Gn (m:=2) M W2
 have W4:=Gn (m:=3) M W3
 have W5:=Gn (m:=4) M W4
 have W6:=Gn (m:=5) M W5
 have C:=Gn (m:=6) M W6
 have A:=IP M ah
 have au:=K4 M C aq A S
 have ax:=Lo M Q S
 have I:=Jr M
 have H:=Jl M I
 have V:=Jy M
 have ap:=Kx M
 have L:=Jg M V
 have r:=J8 M
 have aa:=J5 M r L ap
 have o:=Hz M r b
 have ag:=Kf M aa o
 have ar:=KS M
 have aw:=KR M H ar
 have g:=Io M aw
 have a:=Hl M
 have W:=J1 M a
 have k:=ID M
 have d:=Ik M k ay ag
 have E:=IQ M a d
 have R:=JQ M au d ax
 have j:=IA M
 have O:=Jp M
 have Y:=JU M
 have ab:=JT M
 have ac:=JW M
 have J:=Jm M j ab ac
 have z:=IE M
 have D:=IK M z
 have Y0:=M.av.nothing (P:=P) (w:=w) (base:=base) (ps:=["_law_found","_law_due_here"]) (λ_ _ _ _ _ _ us hl=>match us,hl with|[_,_],_=>rfl)
 have Y1:=GS (n:=0) M Y0
 have Y2:=GS (n:=1) M Y1
 have Y3:=GS (n:=2) M Y2
 have Z:=GS (n:=3) M Y3
 have l:=Ji M
 have t:=Ig M
 have u:=IB M t g l
 have F:=IL M
 have ae:=JF M Y
 have T:=JK M F ae D
 have al:=Kl M
 have U:=JG M W E R l
 have p:=HL M k Z
 exact M8 M (zW (st:=F8 72) e2.1 e3.1 e3.2) j J u g O T U al p
theorem walk{l:OpenLaw}{q:cY}{loose:List Str}{XP:(Str->Option cz)->Heap->Prop}{YP:dn->Heap->Prop}{d:DefRec}{K:Params->Frag}(j:l.most=some 63)(b:d.params.defaults=[])
  (m:∀(w:dn) (h:Heap),YP w h->(K w.params).In h)
  (F:∀(w:dn) (mg:Str->Option cz) (fa:cG) (h:Heap),(K w.params).In h->h.Ns fG mg->mg d.name=some (.ref fa)->
   ∃fd:FuncData,(∀(s:cC) (u:cz),BindsTo s fd ⟨[u],[]⟩ [("_law_script",u)])/\∀base:Heap,(K w.params).In base->base.Ns fG mg->FnOk l.prog w (K w.params) mg base Ge 13 fa fd ["_law_script"] (KG (K w.params))):
  WalkO q loose XP YP l.row.toRowW d [] (λf vs=>pV f vs):=
 L2.walk_of (n:=63) (k:=13) (x:="_law_script") (CX:=λ_=>Ge) (sp:=λw=>KG (K w.params)) j (by decide) b ⟨rfl,by decide,by decide⟩ m F (λ_ _ a g c _ e=>⟨a,g,rfl,e,c,λ_=>rfl⟩) λ_ _ _ _ _ z=>z
end Nk51
open PySem PySem.W PyProof.Rows L2 Nk51
set_option maxRecDepth 100000 in
set_option maxHeartbeats 0 in
theorem PySem.Challenge.cw_wishlots_k51_texts_and_refusals_holds : PySem.Challenge.rw_wishlots_k51_texts_and_refusals.Holds := by
 refine holds_law DY λc=>?_;refine holds_open (q:=vw) (loose:=[]) (Xt:=xt) (XP:=XL vw []) (Yf:=Hook.obs hk) (Ya:=Hook.val hk)
  (YP:=Hook.says hk) (N:=8982) ?hl (Hook.of _) (Hook.keeps _) (λs e=>xl_of s (m6.mp e).1)
  XL.keeps (by rfl) (by rfl) (by rfl) (λs e=>recFacts_of (m6.mp e).2) (by rfl) (by first|assumption|decide +kernel) (by decide +kernel) ⟨rfl,rfl,rfl,rfl,rfl,by decide +kernel⟩ ?hw ?hc
 case hl=>exact Ot
 case hw=>w_witness2
 refine Nk51.walk (l:=fM) rfl rfl (λw h Y=>kIn_of Y) ?F
 case F=>
  intro w f d h a G b;refine Nk51.all_mk (x:=⟨24,37,49,61,73,85,97,109,121,133⟩) (cB:=375) 510 509 (vs G5 684) a G b ?_ (by kernel_rfl);refine λ_=>⟨GN 144 143 (vs Jt 351) a G ?_,GN 151 150 (vs Jt 351) a G ?_,GN 158 157 (vs Jt 351) a G ?_,GN 165 164 (vs Jt 351) a G ?_,GN 172 171 (vs Jt 351) a G ?_,GN 179 178 (vs Jt 351) a G ?_,GN 186 185 (vs Jt 351) a G ?_,GN 193 192 (vs Jt 351) a G ?_,GN 200 199 (vs Jt 351) a G ?_,GN 205 204 (vs Ks 436) a G ?_,GN 210 209 (vs Ks 436) a G ?_,GN 215 214 (vs Ks 436) a G ?_,GN 220 219 (vs Ks 436) a G ?_,GN 225 224 (vs Ks 436) a G ?_,GN 230 229 (vs Ks 436) a G ?_,GN 235 234 (vs Ks 436) a G ?_,GN 242 241 (vs L4 480) a G ?_,GN 249 248 (vs L4 480) a G ?_,GN 254 253 (vs L4 480) a G ?_,GN 261 260 (vs L4 480) a G ?_,GN 268 267 (vs "wishlots.tables" 520) a G ?_,GN 275 274 (vs "wishlots.tables" 520) a G ?_,GN 280 279 (vs Kb 538) a G ?_,GN 287 286 (vs Kb 538) a G ?_,GN 292 291 (vs Kb 538) a G ?_,GN 299 298 (vs Kb 538) a G ?_,GN 306 305 (vs Kb 538) a G ?_,GN 311 310 (vs Kb 538) a G ?_,GN 316 315 (vs Kb 538) a G ?_,GN 321 320 (vs Iu 598) a G ?_,GN 326 325 (vs Iu 598) a G ?_,OB 340 339 (vs Iu 598) a G ?_ ?_,⟨?_,?_,?_,?_⟩,(show findIn _ _ _=some none by kernel_rfl),(show findIn _ _ _=some none by kernel_rfl),(show findIn _ _ _=some none by kernel_rfl),MK 347 346 (vs Iu 598) ?_,MK 352 351 (vs Iu 598) ?_,MK 357 356 (vs Iu 598) ?_,MK 362 361 (vs Iu 598) ?_,MK 367 366 (vs Iu 598) ?_,MK 372 371 (vs Iu 598) ?_,GN 386 385 (vs G5 684) a G ?_,GN 393 392 (vs G5 684) a G ?_,GN 400 399 (vs G5 684) a G ?_,GN 421 420 (vs G5 684) a G ?_,GN 428 427 (vs G5 684) a G ?_,GN 435 434 (vs G5 684) a G ?_,GN 407 406 (vs G5 684) a G ?_,GN 414 413 (vs G5 684) a G ?_,GN 442 441 (vs G5 684) a G ?_,GN 449 448 (vs G5 684) a G ?_,GN 456 455 (vs G5 684) a G ?_,GN 463 462 (vs G5 684) a G ?_,GN 470 469 (vs G5 684) a G ?_,GN 475 474 (vs G5 684) a G ?_,GN 482 481 (vs G5 684) a G ?_,GN 489 488 (vs G5 684) a G ?_,GN 496 495 (vs G5 684) a G ?_,GN 503 502 (vs G5 684) a G ?_,fI a G ?_,fI a G ?_,fI a G ?_,fI a G ?_,fI a G ?_,fI a G ?_,fI a G ?_,fI a G ?_,fI a G ?_,fI a G ?_,fI a G ?_,fI a G ?_,fI a G ?_,fI a G ?_,fI a G ?_,fI a G ?_,fI a G ?_,fI a G ?_,fI a G ?_,⟨136,j9 a G ?_,λ_=> .inr ⟨_,_,_,rfl,rfl,rfl,by show 2<=sizeLine;decide,(.cons ⟨_,rfl⟩ (.cons ⟨_,rfl⟩ .nil))⟩⟩,⟨137,j9 a G ?_,λ_=> .inr ⟨_,_,_,rfl,rfl,rfl,by show 2<=sizeLine;decide,(.cons ⟨_,rfl⟩ (.cons ⟨_,rfl⟩ .nil))⟩⟩,⟨522,j9 a G ?_⟩,⟨600,j9 a G ?_⟩,⟨j9 a G ?_,?_⟩,⟨j9 a G ?_,?_⟩,⟨j9 a G ?_,?_⟩,⟨j9 a G ?_,?_⟩,⟨j9 a G ?_,?_⟩,⟨j9 a G ?_,?_⟩,⟨j9 a G ?_,?_⟩,⟨j9 a G ?_,?_⟩,⟨j9 a G ?_,?_⟩,⟨j9 a G ?_,?_⟩,?_,AE ⟨?_,?_,?_,?_,?_,?_,?_,?_⟩ ?_ ?_ ?_,?_,AE ⟨?_,?_,?_,?_,?_,?_,?_,?_⟩ ?_ ?_ ?_,?_,AE ⟨?_,?_,?_,?_,?_,?_,?_,?_⟩ ?_ ?_ ?_,?_,AE ⟨?_,?_,?_,?_,?_,?_,?_,?_⟩ ?_ ?_ ?_,?_,AE ⟨?_,?_,?_,?_,?_,?_,?_,?_⟩ ?_ ?_ ?_,?_,AE ⟨?_,?_,?_,?_,?_,?_,?_,?_⟩ ?_ ?_ ?_⟩ <;> kernel_rfl
#print axioms PySem.Challenge.cw_wishlots_k51_texts_and_refusals_holds
