import PyProof.Rows.All
import Wide.All
import OpenK.AllK
import Wide.FinOn
import Lean
import PyProof.EqAt
import PyProof.EqKinds
import PyProof.TupleCall
import PySem.Challenge.RW_wishlots_k51_texts_and_refusals
open PySem renaming wpAny_bind->bM,wpAny_pure->bO,Value->bQ,Shared->bS,Addr->bV,wpAny_ite_false->b7,Program->cg,World->cC,starEach->cD,Around->cO,wpAny_holding->cR,Paired->cT,boot_len->cU,wpAny_call_entry->df,wpAny_setState_of->dg,wpAny_callSpecial?_slot->dA,wpAny_field->dN,wpAny_isInstance->dQ,codeAny_builtin->dS,wpAny_truthy_bool->dU,wpAny_setField_rec->dY,mem_of_lookup->dZ,wpAny_newObj_type->d5,wpAny_Call_Name_kw->d9,mainGlobals->eE,wpAny_mono->eK,wpAny_of_eq->eQ,wpAny_askSetting->eU,wpAny_seqItems->fh,wpAny_specialOf->fG,wpAny_typeNameOfWhole_itemiter->fI,wpAny_setField->fM,wpAny_execs_nil->fR,call_meets->fU,wpAny_attempt->f8,wpAny_call->gf,wpAny_passesOwn->gt,codeAny_mono->gN,wpAny_typeOf->gQ,NameKind->gV,wpAny_pyIter_list->g8,PyData->ij,codeAny_call_builtin->ik,wpAny_rule->io,wpAny_fieldsOf->ip,wpAny_ite_true->iq,wpAny_newTuple->ir,wpAny_execs_cons->iw,wpAny_newList->iI,wpAny_pyIter_slot->iZ,wpAny_isOneOf_itemiter->i3,isSubtype_tuple_tuple->ja,plainId_quiet->jf,wpAny_runValue->jH,entryFor_alias->jK,isSubtype_stop->jL,wpAny_tupleItemsOf->jM,slot_list_getitem->jZ,wpAny_letGo->j3,wpAny_dictEntries->j4,wpAny_getItem_list_slice->j8,wpAny_comprehension_free->j9,wpAny_handled->ki,noFill_tuple_add->kz,wpAny_Call_method0_late->kB,sizeOk_excFields->kI,wpAny_pyIter_zip->kJ,wpAny_forIn_list->kK,Within->kU,pushCells_keeps->lp,codeAny_of_tree->lz,wpAny_dictEpoch->lA,wpAny_isTrue_Compare1->lB,weight_type_call_type->lG,builtinLookup_eq_fast->lH,sizeLine_eq->lP,seqIndex_of->lS,wpAny_throw->lY,wpAny_updateSeq_pair->lZ,evalArgs_none->ma,wpAny_standAt->ml,seq_tuple_add->mm,evalPart_none->mn,wpAny_onRaise->mv,wpAny_pyIter_tuple->mE,typeIs_str->mG,wpAny_pyHash_tuple->mT,wpAny_eqBool_tuple->mU,wpAny_assign_Name->mZ,wpAny_Assign_Name->m3,concat_meets->m9,seqIndex_neg->na,list_append->nc,wpAny_loadPart_at->nq,wpAny_pyIter_enum->nA,wpAny_storeSet_of->nB,wpAny_Call_method->nI,wpAny_pyHash_str->nL,wpAny_eqBool_int->nM,wpAny_eqBool_str->nN,check_set_init_1->nZ,wpAny_Dict_empty->n8,wpAny_alloc->oh,call_tuple_list->om,typeLookup_type->ow,wpAny_Name->oG,wpAny_Expr_any->oH,wpAny_loadPart->oI,call->oM,isSubtype_type->oW,evalPart_some->pK,call_list_seq->pN,signature?_of->pU,strKind->pX,sub_set_self->qp,call_meetsIn->qr
open PySem.W renaming Frag->bN,boot_drawn->dE,mroIn->d6,mg_none_of->eH,findIn->eO,emptyDict->eY,kitOne->fb,fnOf->fC,instObj->fQ,kia_one->fV,hideAll_get->fX,excIn->f7,callWith_K->gO,kia_tup->gW,methodCall_KW->g7,looks_findIn->ia,keepIn->ib,boot_heap->iR,plainGet->jb,plainGet_of->js,looks_mroIn->jt,mg_of->jv,piece_app->jy,lookIn->jz,methodObj->jW,hasDictIn->jX,Looks->kb,cellsFrom_some->kW,hideAll->lj,takerIn->lm,codeIn->lR,kitCls->lU,of_hideAll->mz,kitx_tuple->mJ,isFn->m4,plainOver->m5,kitx_none->nh,kitx_bool->nj,kitx_list->nk,handedIn->nO,kitx_int->nS,kitx_str->nT,makesIn->ol,typeIn->oJ,kitAny->oQ,clsIn->pO,boot_toks->qc
open List renaming length_map->bP,getD_eq_getElem?_getD->bR,getElem?_eq_getElem->bT,mem_singleton->bY,getElem?_map->bZ,mem_cons_self->b0,mem_cons_of_mem->b3,getElem?_eq_some_iff->b8,map_append->cb,size_toArray->cc,length_take->cf,mem_cons->cj,getElem_mem->cm,range->cp,length_append->cr,take_add_one->cv,mem_of_getElem?->cz,take_length->cI,mem_append->cN,mem_map->cP,length_cons->cZ,mem_append_right->dc,all_eq_true->de,map_cons->dh,lookup_cons->dj,mem_range->dq,mem_filter->dw,getElem?_range->dy,take_of_length_le->dz,length_singleton->dB,length_filter_le->dC,forIn_cons->dD,mem_of_mem_take->dO,length_drop->dP,mem_iff_getElem->dW,take_zero->dX,getElem?_append_right->d3,pairwise_cons->eo,append_nil->er,nodup_cons->ez,length_range->eI,sum_cons->eR,cons_ne_nil->eV,map_congr_left->eX,replicate->fB,perm_ext_iff_of_nodup->fD,filterMap_cons->fE,range_succ->fF,getElem?_eq_none->fH,idxOf_lt_length_iff->fJ,forIn_nil->fL,mem_of_mem_drop->fN,nodup_append->fO,filter_congr->fP,length_set->fT,mem_filterMap->gd,filter_append->gm,length_replicate->gn,cons_lt_cons_iff->gp,getElem?_append_left->gq,mem_append_left->gu,lookup->gv,getElem?_take_of_lt->gy,any_cons->gz,not_mem_nil->gE,nodup_nil->gG,eq_nil_of_length_eq_zero->gK,take_append_of_le_length->gL,getElem_idxOf->gT,getElem?_set_ne->hV,map_map->iz,any_eq_true->iA,length_reverse->iE,length->iM,length_eq_zero_iff->iO,getElem?_set_self->iS,pairwise_map->iW,not_of_lt_findIdx->i5,eraseIdxIfInBounds_toArray->i7,getElem?_toArray->i9,mem_reverse->jc,length_dropLast->jg,dropLast_concat_getLast->jn,countP_eq_length_filter->jq,find?_cons->jr,getElem?_zip_eq_some->jR,pairwise_iff_getElem->jU,mem_or_eq_of_mem_set->jV,range'->j2,map_take->kd,map_drop->kf,length_erase_of_mem->kl,mem_of_mem_eraseIdx->kq,ext_getElem->kE,range'_succ->kH,length_eraseIdx_le->kQ,pairwise_lt_range->kZ,map_set->lb,of_mem_zip->ln,length_nil->lu,take_append_drop->lD,findSome?_append->lF,getElem?_zipWith->lJ,mem_iff_getElem?->lM,mem_erase_of_ne->l3,replicate_succ->mf,Pairwise->mq,count_eq_zero->mM,mem_replicate->mO,map_singleton->mX,append_assoc->nD,foldl_append->nE,getElem?_inj->nH,reverse_cons->nJ,perm_middle->nU,filter_cons->nW,cons_append->n5,nodup_range->n7,mem_flatMap->oa,nil_append->ou,mem_range'->oy,filterMap->oS,drop_zero->o0,all_cons->pM,findIdx?->pS,Perm->qa,zipWith->qf,all_map->qw,filter->qI
open PySem.Heap renaming get?_push_of_some->bU,get?_push_size->b4,lt_size->b6,get?_update_self->dR,get?_update_other->ea,SameBut->eS,size_push->fK,get?_update_ne->iC,push->kG,FlyingW->kX,SetOf->k9,size_update->nV,ExtBut->qJ
open PySem.Challenge renaming pw_wishlots_k51_texts_and_refusals->bW,rw_wishlots_k51_texts_and_refusals->eJ
open Nat renaming le_refl->bX,lt_of_lt_of_le->ci,le_of_lt->cx,ne_of_lt->cF,le_trans->cG,lt_irrefl->cJ,zero_le->cM,lt_succ_of_lt->cS,lt_succ_self->cV,le_succ->dJ,pow_le_pow_right->dM,lt_of_le_of_lt->ec,lt_succ_iff_lt_or_eq->fe,not_lt_zero->fW,le_add_right->gc,lt_of_succ_lt->gx,succ_le_succ->gC,ne_of_gt->gM,sub_self->gR,le_succ_of_le->g9,le_of_not_lt->kC,le_mul_of_pos_right->kD,add_assoc->mt,lt_of_le_of_ne->mV,le_of_eq->m6,lt_trichotomy->ny,zero_add->nF,log2_lt->oi,min_eq_left->oB,pow_succ->qi,sub_zero->qq,lt_trans->qt,mul_one->qH
open PySem.Value renaming ref->b5,type->cX,int->dn,bool->dH,str->gY,builtin->je,bytes->qB,float->qC
open PySem.Str renaming ofString->b9,empty->fq,length->jA,join->jQ
open PySem.F renaming plainAttrs_list->cu,slot_list_append->cK,type_list_append->cL,slot_dict_itemiterator_next->d7,called_set->ej,slot_tuple_iterator_next->gl,plainAttrs_str->gU,plain_extend_loop->iF,args_tuple_add_2->iG,slot_tuple_index->iK,entry_tuple_add->iN,slot_tuple_add->iU,slot_tuple_hash->i0,args_dict_itemiterator_next_1->i8,entry_dict_itemiterator_next->jd,slot_dict_itemiterator_iter->ji,args_tuple_iterator_next_1->jo,slot_tuple_eq->jp,entry_tuple_iterator_next->jx,excAttr_ValueError->jG,args_tuple_index_2->jN,args_str_split_2->jO,entry_tuple_index->jT,entry_str_split->j5,slot_list_remove->ko,slot_list_insert->kr,type_list_insert->kt,plainAttrs_dict->kM,slot_dict_items->kN,slot_str_split->kP,slot_list_count->kR,type_list_count->kS,slot_dict_items_iter->k8,type_str_split->lh,entry_proto_collect->lE,slot_dict_get->lK,args_list_append_2->lT,sub_list_frozenset->lX,slot_set_len->l4,entry_list_append->mc,entry_extend_loop->mi,entry_list_iadd->nt,entry_type_call->nC,entry_list_pop->nQ,typeCall_set_1->nX,entry_set_init->nY,slot_list_pop->on,plain_set_new->oq,slot_set_iter->ox,slot_zip_next->oz,sub_list_set->oV
open Bool renaming false_ne_true->cA,and_eq_true->cH,false_eq_true->fk,eq_iff_iff->fS,not_true->gA,false_and->iT,or_eq_true_iff->ju,and_false->jB,or_false->j7,and_eq_true_iff->l5,not_eq_true'->ng,eq_false_iff->nr,not_false->oZ,and_self->pP,false_or->pT,true_and->pY
open Int renaming emod_lt_of_pos->cQ,mul_ne_zero->cW,emod_nonneg->cY,zero_add->d2,le_of_lt->ef,gcd_pos_of_ne_zero_right->eA,le_refl->eF,mul_le_mul_of_nonneg_right->eT,toNat_natCast->eZ,mul_right_comm->fj,mul_comm->fZ,mul_lt_mul_of_pos_right->f4,add_zero->f5,mul_zero->f6,sign_eq_neg_one_of_neg->gg,eq_of_mul_eq_mul_right->gh,lt_of_mul_lt_mul_right->gj,add_mul->gw,ofNat->gF,mul_one->gJ,sign_eq_one_of_pos->gP,fdiv_eq_ediv_of_nonneg->ig,mul_pos->im,natAbs_natCast->iL,mul_add->iP,mul_nonneg->iX,mul_le_mul->iY,sub_mul->jh,one_mul->jj,zero_mul->jw,natAbs_mul->jD,ediv_eq_of_eq_mul_left->jE,lt_or_gt_of_ne->jF,natAbs_dvd_natAbs->lC,mul_fdiv_cancel->me,add_assoc->mr,sub_eq_add_neg->mS,gcd_comm->nl,mul_eq_zero->oo,natCast_pos->oD,mul_assoc->pR,le_trans->qm,sub_zero->qo,add_comm->qu,not_lt->rh,natAbs->ri,toNat->rA
open Classical renaming byContradiction->da
open PySem.PassesOwn renaming never->db,leaving->rn
open PySem.Obj renaming mapSeq->dr,putSet->mP,data_mapFields->mR,mapFields->pV,data->rD
open PySem.Builtin.SmallTypes renaming nextOf->dt,nextOrEnd->eB,ownedTupleIsFree->fi,ownedTupleHandOut->mh,stopIteration->nG,newRecord->oA,newClass->oF,iterAll->oX
open PyProof.Rows renaming callWith_type1->du,callWith_builtin1->gB,listUpdate_at->gZ,subscriptTail_builtinR->iV,isStrOf->jk,size_push'->kY,entry_list_sort->lx,boot_zip->lI,slot_list_sort->lV,args_list_sort->lW,plain_sorted->nu,entry_sorted->nv,args_sorted1->nw,slot_str_getitem->nP,kind_sorted->oj,boot_enumerate->oE,Subscript_->oK,list_sort_tree->oP,sortedAll_old->pQ,tupleItemsOf_->pW,isTrue_plain->qd,floordiv_int->qe,listItems_at->qj,sortedAll_at->ql,tail_any->qD,Call_->rk
open Array renaming length_toList->dG,getElem?_eq_getElem->d8,getElem?_toList->e9,getElem?_eq_none->f3,forIn_toList->gS,getElem?_eq_some_iff->jP,append_assoc->mC,toList->mY,ext'->oN
open False renaming elim->dI
open PySem.NameKind renaming free->dL,cell->fA
open PySem.Heap.SameBut renaming update->d0,refl->rm
open PySem.PyData renaming str->d4,eqv->eh,eqvAll->f9,canLay0->il,depth->iy,canLayAll0->j0,depthAll->ly
open PySem.SeqAt renaming shaped->eg,EqAt->rd
open PySem.Calls renaming spliced_cons->eP,callWith_builtin->fY,call_function_entry->gr,Name_function_global->h9,evalArgs_plain->ic,spliced_nil->jY,loadGlobal_global->ku
open PySem.SetTable renaming fresh->ff,insertAt->hO,grown->jI,insertAt_perm->k6,below->oR
open PySem.Around renaming under_plainId->fu,under_plain->mQ,under->m7
open PyProof.Rows.F renaming plain_set_update_loop->fw,entry_set_update_loop->gH
open PySem.Builtin.List renaming listExtendWith->fz,listLengthHint->hU,listTooLong->iH,listFitsIndex->jC,listSameRef->kj,listTouch->k7
open PySem.Txt renaming slice->gb,mul->i6,join->kO,find->qM
open PySem.Code renaming quiet_builtin->gi
open PySem.IsL renaming update->gD
open PySem.Heap.IsTupleIter renaming typeIs->gI
open PySem.Builtin.Dict_items renaming ownsTuple->gX,ownedTupleFields->iJ,pairFromOwner->i4,ownedTupleIsFree->mw,newIterator->n9,dictOf->pj
open PySem.Data renaming seq->ie,fields->lO
open List.Perm renaming refl->ii,eq_of_pairwise->kc,append_left->qz,length_eq->q8,nodup_iff->q9,mem_iff->rl
open Std.Legacy.Range renaming forIn_eq_forIn_range'->iu,size->lL
open PySem.W.Looks renaming ld->ix,here->rc
open PySem.Builtin.Tuple renaming tupleHashOf->iB,tupleItemsOf->oY
open PySem.Builtin.Str renaming strKind->iD,occurrences->iQ,partsBetween->km
open ForInStep renaming yield->jl
open PySem.Builtin.Frozenset renaming updateFrom->jm,isAnySet->jJ,sizeOf->kh,newClass->oU,slot0->qb
open PySem.Manifest renaming sig_set_iterator->jS
open List.Pairwise renaming imp->j1,imp_of_mem->pZ,filter->qO
open Option renaming isSome_iff_exists->j6,getD_none->kA,isSome_some->mI,bind_some->nR,map_some->oC
open PyProof renaming noPylong_of_log2->ka
open PySem.Shared renaming TypeIs->kg
open PySem.Builtin.Getset_descriptor renaming descrCheckInstance->kF,descrNameAndClass->kT,descrGetter->l8,descrGet->mL
open PySem.AutoSeq1 renaming list_insert_list_int_val_1->lr
open PySem.StrLaws renaming glued_eq_join->lN,join_split->mW
open PySem.Builtin.Int renaming intBits->md
open PySem.Paired renaming length->mj
open PySem.SeqAt.EqAt renaming int_str->mx,str_int->my,none_bool->qE,bool_none->qF,bool_bool->qG,none_int->qQ,none_str->qS,bool_int->qT,bool_str->qV,int_none->qX,int_bool->qY,str_none->qZ,str_bool->q4,int_int->re,str_str->rf,same->rB
open PySem.Heap.IsSliceOf renaming new->mF
open PySem.W.KF renaming slot_gs->mK,owner_class->qg,entry_class->qh,type_class->qx,entry_gs->q5,args_gs->rj
open Nat.Coprime renaming dvd_of_dvd_mul_left->nK
open Std.Legacy renaming Range->og
open PySem.Walks renaming list->oO,toS->rr
open List.Nodup renaming erase_eq_filter->o3
open PySem.EqNone renaming eq_none_none->o4,eq_none_bool->o5,eq_bool_none->o6,ne_none_none->o9,ne_none_bool->pb,ne_bool_none->pc,eq_none_int->pu,eq_none_str->pz,eq_int_none->pA,eq_str_none->pC,ne_none_int->pE,ne_none_str->pF,ne_int_none->pG,ne_str_none->pI
open PySem.EqMixed renaming eq_bool_str->o7,eq_str_bool->o8,ne_bool_str->ph,ne_str_bool->pi,eq_int_str->pB,eq_str_int->pD,ne_int_str->pH,ne_str_int->pJ
open PySem.W.OpenLaw renaming wellSaid->pq
open PySem.Builtin.Range renaming rangeSize->p7
open PyProof.Rows.IsTup renaming new->p9
open PySem.setAddHashedIn renaming eq_def->qy
open PySem.Builtin.Dict renaming showsAll->qA,noArgs->rb
open PySem.Fin renaming done->qK
open PySem.Flow renaming ret->qL
open PySem.W.WShape renaming has->rg
open PySem.DictEntry renaming refKey->ro
open PySem.W.WData renaming int->rq
open PySem.Heap.DictOf renaming new->rC
open PySem.pickOrder renaming go->rE
set_option Elab.async false
set_option maxRecDepth 100000 in
set_option maxHeartbeats 0 in
theorem CD:pq eJ=true:=by kernel_rfl
set_option Elab.async false
set_option linter.all false
set_option maxRecDepth 100000
namespace RG
end RG
namespace L2
open PySem PySem.Spec PyProof.Rows
abbrev G7:=Sum Int Str
def L4:G7->bQ->Bool
 | .inl k,v=>Value.isInt k v
 | .inr x,v=>Value.isStrOf x v
def N0(w:cC):G7->Int
 | .inl k=>hashInt k
 | .inr x=>hashStr w x
theorem sN:∀{k:G7} {v:bQ},L4 k v=true->(∃i t,k=Sum.inl i/\v=dn i t)\/(∃x t,k=Sum.inr x/\v=gY x t)
 | .inl i,v,h=>by
  obtain⟨t,e⟩:=Value.isInt_shape (k:=i) (v:=v) h
  exact .inl ⟨i,t,rfl,e⟩
 | .inr x,v,h=>by
  obtain⟨t,e⟩:=Value.isStrOf_shape (x:=x) (v:=v) h
  exact .inr ⟨x,t,rfl,e⟩
theorem EU(a b:Int):decide ((Sum.inl a:G7)=Sum.inl b)=(a==b):=by
 by_cases e:a=b
 ·subst e;simp
 ·have h:¬(Sum.inl a:G7)=Sum.inl b:=λq=>e (Sum.inl.inj q);rw[decide_eq_false h];exact(beq_eq_false_iff_ne.mpr e).symm
theorem ED(a b:Str):decide ((Sum.inr a:G7)=Sum.inr b)=decide (a=b):=by
 by_cases e:a=b
 ·subst e;simp
 ·have h:¬(Sum.inr a:G7)=Sum.inr b:=λq=>e (Sum.inr.inj q);rw[decide_eq_false h,decide_eq_false e]
theorem EN(a:Int)(b:Str):decide ((Sum.inl a:G7)=Sum.inr b)=false:=decide_eq_false (λq=>nomatch q)
theorem EG(a:Str)(b:Int):decide ((Sum.inr a:G7)=Sum.inl b)=false:=decide_eq_false (λq=>nomatch q)
def Iq(prog:cg)(w:cC):PySem.KeyKind prog w G7 where
 is:=L4
 hash:=N0 w
 inj:=λv a b ha hb=>by
  rcases sN ha with⟨i,t,rfl,rfl⟩|⟨x,t,rfl,rfl⟩
  ·rcases sN hb with⟨j,u,rfl,e⟩|⟨y,u,rfl,e⟩
   ·injection e with e1 _;rw[e1]
   ·exact nomatch e
  ·rcases sN hb with⟨j,u,rfl,e⟩|⟨y,u,rfl,e⟩
   ·exact nomatch e
   ·injection e with e1 _;rw[e1]
 byValue:=λk v h=>by
  rcases sN h with⟨i,t,rfl,rfl⟩|⟨x,t,rfl,rfl⟩ <;> rfl
 pyHash:=λhv h=>by
  rcases sN hv with⟨i,t,rfl,rfl⟩|⟨x,t,rfl,rfl⟩
  ·exact wpAny_pyHash_int h
  ·exact nL h
 eqBool:=λhu hv h=>by
  rcases sN hu with⟨i,t,rfl,rfl⟩|⟨x,t,rfl,rfl⟩
  ·rcases sN hv with⟨j,u,rfl,rfl⟩|⟨y,u,rfl,rfl⟩
   ·rw[EU]at h;exact nM h
   ·rw[EN]at h;exact mx i t y u _ _ _ _ h
  ·rcases sN hv with⟨j,u,rfl,rfl⟩|⟨y,u,rfl,rfl⟩
   ·rw[EG]at h;exact my x t j u _ _ _ _ h
   ·rw[ED]at h;exact nN h
 «strs»:=λk x t v h=>by
  rcases sN h with⟨i,u,rfl,e⟩|⟨y,u,rfl,e⟩
  ·exact nomatch e
  ·injection e with e1 _
   subst e1
   cases v <;> rfl
inductive V where
 | non|bl (b:Bool)|int (i:Int)|str (x:Str)|byt (b:Array UInt8)|flt (b:UInt64)|ref (a:bV)|ty (n:String)
 deriving DecidableEq
def RelV:V->bQ->Prop
 | .non,u=>u=bQ.none
 | .bl b,u=>u=dH b
 | .int i,u=>∃t,u=dn i t
 | .str x,u=>∃t,u=gY x t
 | .byt b,u=>∃t,u=qB b t
 | .flt b,u=>∃t,u=qC b t
 | .ref a,u=>u=b5 a
 | .ty n,u=>u=cX n
abbrev Vals:List V->List bQ->Prop:=cT RelV
theorem Vals.length{xs:List V}{us:List bQ}(r:Vals xs us):xs.length=us.length:=mj r
theorem Vals.get:∀{xs:List V} {us:List bQ} {i:Nat} {x:V},Vals xs us->xs[i]?=some x->∃u,us[i]?=some u/\RelV x u
 | _,_,_,_,.nil,e=>by simp at e
 | _,_,0,_,.cons r _,e=>by simp at e;subst e;exact⟨_,rfl,r⟩
 | _,_,i+1,x,.cons _ t,e=>by
  obtain⟨u,h1,h2⟩:=Vals.get (i:=i) (x:=x) t (by simpa using e)
  exact⟨u,by simpa using h1,h2⟩
theorem Vals.set{x:V}{u:bQ}(r:RelV x u):∀{xs:List V} {us:List bQ} (i:Nat),Vals xs us->Vals (xs.set i x) (us.set i u)
 | _,_,_,.nil=> .nil
 | _,_,0,.cons _ t=> .cons r t
 | _,_,i+1,.cons q t=> .cons q (Vals.set r i t)
theorem Vals.append:∀{xs ys:List V} {us ws:List bQ},Vals xs us->Vals ys ws->Vals (xs++ys) (us++ws)
 | _,_,_,_,.nil,s=>s
 | _,_,_,_,.cons r t,s=> .cons r (Vals.append t s)
theorem Vals.take:∀{xs:List V} {us:List bQ} (n:Nat),Vals xs us->Vals (xs.take n) (us.take n)
 | _,_,0,_=> .nil
 | _,_,_+1,.nil=> .nil
 | _,_,n+1,.cons r t=> .cons r (Vals.take n t)
theorem Vals.drop:∀{xs:List V} {us:List bQ} (n:Nat),Vals xs us->Vals (xs.drop n) (us.drop n)
 | _,_,0,r=>r
 | _,_,_+1,.nil=> .nil
 | _,_,n+1,.cons _ t=>Vals.drop n t
def RelO:Option V->Option bQ->Prop
 | some v,some u=>RelV v u
 | none,none=>True
 | _,_=>False
def KV{κ:Type}:List (κ×V)->List (κ×bQ)->Prop:=cT λ(p:κ×V) (q:κ×bQ)=>p.1=q.1/\RelV p.2 q.2
def kV:G7->V
 | .inl i=> .int i
 | .inr x=> .str x
inductive HO where
 | lst (xs:List V)
 | tup (xs:List V)
 | dK (kvs:List (G7×V))|dT (kvs:List (List G7×V))
 | set (S:Int->Bool) (n:Nat)
 | ins (C dx:bV) (fs:List (Str×V))
 | own (x:bV)
 | xd (fs:List (Str×V))
 | met (f x:bV)
 | rng (lo hi:Int)
 | frz (o:Obj) (u:HO)
 | tbl (ps:Array bQ)
 | ext (φ:Heap->Prop)
abbrev Hp:=bV->Option HO
def upd(H:Hp)(a:bV)(o:HO):Hp:=λb=>if b=a then some o else H b
theorem rF{H:Hp}{a:bV}{o:HO}:upd H a o a=some o:=by unfold upd;rw[if_pos rfl]
theorem rR{H:Hp}{a b:bV}{o:HO}(h:b≠a):upd H a o b=H b:=by unfold upd;rw[if_neg h]
theorem um{H:Hp}{a b:bV}{o u:HO}(h:H a=some o)(h':H b=some u)(d:o≠u):a≠b:=by
 intro e;subst e;rw[h]at h';exact d (Option.some.inj h')
theorem sf{H:Hp}{a b:bV}{o:HO}(h:H a=some o)(h':H b=none):a≠b:=by
 intro e;subst e;rw[h]at h';cases h'
section
variable(P:cg)(w:cC)
def ObjOk(H:Hp)(h:Heap)(a:bV):HO->Prop
 | .lst xs=>xs.length<=sizeLine/\∃(its:List bQ) (n:Nat),Vals xs its/\h.get? a=some {cls:= .type "list",data:= .seq its.toArray n}
 | .tup xs=>xs.length<=sizeLine/\∃its:List bQ,Vals xs its/\IsTup h a its.toArray
 | .dK kvs=>kvs.length<=sizeLine/\(a==sysModules)=false/\∃vs,KV kvs vs/\h.DictOf (Iq P w) a vs
 | .dT kvs=>kvs.length<=sizeLine/\(a==sysModules)=false/\∃xs:List (List G7×bV×bQ),
   cT (λ(p:List G7×V) (q:List G7×bV×bQ)=>p.1=q.1/\H q.2.1=some (.tup (p.1.map kV))/\RelV p.2 q.2.2) kvs xs/\
   ∃o es ep,h.get? a=some o/\o.ExactDict/\o.data = .dict es ep/\es.toList=xs.map (entryOfKey (tupleKind (Iq P w)))/\(xs.map (·.1)).Nodup
 | .set S n=>h.SetOf (intKind P w) a S n
 | .ins C dx fs=>H dx=some (.own a)/\fs.length<=1000/\dx≠a/\h.get? a=some (fQ C dx)/\
   ∃mA,h.Ns1 dx mA/\(∀f,RelO (fs.lookup f) (mA f))/\kU mA (fs.map (·.1))
 | .own _=>∃o,h.get? a=some o
 | .xd fs=>∃mA,h.Ns1 a mA/\∀f,RelO (fs.lookup f) (mA f)
 | .rng lo hi=>∃t u v,h.get? a=some {cls:= .type "range",data:= .fields #[.int lo t,.int hi u,.int 1 v]}
 | .frz o u=>h.get? a=some o/\ObjOk H h a u
 | .tbl ps=>h.get? a=some {cls:= .none,data:= .fields ps}
 | .met f x=>h.get? a=some (jW (.ref f) (.ref x))
 | .ext φ=>φ h/\(∃o,h.get? a=some o)/\∀h1 h2:Heap,φ h1->(∀o,h1.get? a=some o->h2.get? a=some o)->φ h2
def HOk(H:Hp)(h:Heap):Prop:=∀a o,H a=some o->ObjOk P w H h a o
end
section
variable{P:cg}{w:cC}{H H':Hp}{h h':Heap}{a:bV}{o:HO}
theorem ObjOk.lt(x:ObjOk P w H h a o):a<h.objs.size:=by
 cases o with
 | lst c=>obtain⟨_,_,_,_,e⟩:=x;exact b6 e
 | tup c=>obtain⟨_,_,_,p⟩:=x;exact p.lt
 | dK b=>obtain⟨_,_,_,_,o,_,_,e,_⟩:=x;exact b6 e
 | dT b=>obtain⟨_,_,_,_,o,_,_,e,_⟩:=x;exact b6 e
 | set S n=>obtain⟨o,_,_,_,e,_⟩:=x;exact b6 e
 | ins C g d=>obtain⟨_,_,_,e,_⟩:=x;exact b6 e
 | own y=>obtain⟨_,e⟩:=x;exact b6 e
 | xd d=>obtain⟨_,⟨_,_,_,e,_⟩,_⟩:=x;exact b6 e
 | rng l m=>obtain⟨_,_,_,e⟩:=x;exact b6 e
 | frz k u=>obtain⟨e,_⟩:=x;exact b6 e
 | tbl q=>exact b6 (show h.get? a=some _ from x)
 | met f y=>exact b6 (show h.get? a=some _ from x)
 | ext j=>obtain⟨_,⟨_,e⟩,_⟩:=x;exact b6 e
theorem Paired.mapP{α β:Type}{F G:α->β->Prop}:∀{l₁:List α} {l₂:List β},cT F l₁ l₂->(∀a b,F a b->G a b)->cT G l₁ l₂
 | _,_,.nil,_=> .nil
 | _,_,.cons r t,f=> .cons (f _ _ r) (Paired.mapP t f)
theorem ObjOk.stay(x:ObjOk P w H h a o)(k:∀b u,(b=a\/H b=some (.own a))->h.get? b=some u->h'.get? b=some u)
  (ho:∀b,H b=some (.own a)->H' b=some (.own a))(ht:∀b xs,H b=some (.tup xs)->H' b=some (.tup xs)):ObjOk P w H' h' a o:=by
 induction o with
 | lst xs=>obtain⟨z,m,n,r,e⟩:=x;exact⟨z,m,n,r,k _ _ (.inl rfl) e⟩
 | tup xs=>obtain⟨z,m,r,g,e,c⟩:=x;exact⟨z,m,r,g,k _ _ (.inl rfl) e,c⟩
 | dK B=>obtain⟨z,y,vs,r,g,j,l,e,c⟩:=x;exact⟨z,y,vs,r,g,j,l,k _ _ (.inl rfl) e,c⟩
 | dT B=>
  obtain⟨z,y,xs,r,g,j,l,e,c⟩:=x
  exact⟨z,y,xs,Paired.mapP r λp q z=>⟨z.1,ht _ _ z.2.1,z.2.2⟩,g,j,l,k _ _ (.inl rfl) e,c⟩
 | set S n=>obtain⟨g,j,l,t,e,c⟩:=x;exact⟨g,j,l,t,k _ _ (.inl rfl) e,c⟩
 | ins C J I=>
  obtain⟨d,z,G,e,s,⟨A,j,l,E,c⟩,r⟩:=x
  exact⟨ho _ d,z,G,k _ _ (.inl rfl) e,s,⟨A,j,l,k _ _ (.inr d) E,c⟩,r⟩
 | own y=>obtain⟨g,e⟩:=x;exact⟨g,k _ _ (.inl rfl) e⟩
 | xd I=>obtain⟨s,⟨A,j,l,e,c⟩,r⟩:=x;exact⟨s,⟨A,j,l,k _ _ (.inl rfl) e,c⟩,r⟩
 | rng L M=>obtain⟨t,u,v,e⟩:=x;exact⟨t,u,v,k _ _ (.inl rfl) e⟩
 | frz g u F=>obtain⟨e,q⟩:=x;exact⟨k _ _ (.inl rfl) e,F q⟩
 | tbl D=>
  have e:h.get? a=some {cls:= .none,data:= .fields D}:=x
  show h'.get? a=some {cls:= .none,data:= .fields D}
  exact k a _ (.inl rfl) e
 | met f y=>
  have e:h.get? a=some (jW (.ref f) (.ref y)):=x
  show h'.get? a=some (jW (.ref f) (.ref y))
  exact k a _ (.inl rfl) e
 | ext K=>obtain⟨p,⟨o,e⟩,st⟩:=x;exact⟨st _ _ p λo q=>k _ _ (.inl rfl) q,⟨o,k _ _ (.inl rfl) e⟩,st⟩
theorem HOk.lt(x:HOk P w H h)(e:H a=some o):a<h.objs.size:=(x a o e).lt
theorem HOk.fresh(x:HOk P w H h)(e:h.objs.size<=a):H a=none:=by
 cases q:H a with
 | none=>rfl
 | some u=>exact absurd (ci (x.lt q) e) (cJ _)
theorem HOk.kept(x:HOk P w H h)(k:∀b u,h.get? b=some u->h'.get? b=some u):HOk P w H h':=λa o e=>
 (x a o e).stay (λb u _ q=>k b u q) (λ_ q=>q) λ_ _ q=>q
theorem HOk.laid(x:HOk P w H h)(k:∀b u,h.get? b=some u->h'.get? b=some u)(hp:h.objs.size<=a)(new:ObjOk P w (upd H a o) h' a o):HOk P w (upd H a o) h':=λb u e=>by
 have d:=x.fresh hp;by_cases f:b=a
 ·subst f;rw[rF]at e;cases e;exact new
 ·rw[rR f]at e;exact(x b u e).stay (λc v _ q=>k c v q) (λc q=>by rw[rR (sf q d)];exact q) λc g q=>by rw[rR (sf q d)];exact q
end
def Rd(H:Hp)(a:bV)(u:HO):Prop:=H a=some u\/∃o,H a=some (.frz o u)
theorem Rd.ok{P:cg}{w:cC}{H:Hp}{h:Heap}{a:bV}{u:HO}(r:Rd H a u)(x:HOk P w H h):ObjOk P w H h a u:=by
 rcases r with r|⟨o,r⟩
 ·exact x a u r
 ·obtain⟨_,q⟩:=x a _ r;exact q
def NG:Option HO->Prop
 | some (.lst _)=>True
 | some (.dK _)=>True
 | some (.dT _)=>True
 | some (.set _ _)=>True
 | some (.ins _ _ _)=>True
 | some (.ext _)=>True
 | _=>False
section
variable{P:cg}{w:cC}{H:Hp}{h h':Heap}{x e:bV}{o':HO}
theorem HOk.write(ok:HOk P w H h)(mu:NG (H x))(he:e=x\/H e=some (.own x))(k:∀b u,b≠e->h.get? b=some u->h'.get? b=some u)(heo:∃u,h'.get? e=some u)
  (new:ObjOk P w (upd H x o') h' x o'):HOk P w (upd H x o') h':=λb u q=>by
 have d:∀c y,H c=some (.own y)->c≠x:=λc y r z=>by subst z;rw[r]at mu;exact mu
 have l:∀c j,H c=some (.tup j)->c≠x:=λc j r z=>by subst z;rw[r]at mu;exact mu
 by_cases g:b=x
 ·subst g;rw[rF]at q;cases q;exact new
 ·rw[rR g]at q
  by_cases a:b=e
  ·have m:H b=some (.own x):=by
    rcases he with z|z
    ·exact absurd (a.trans z) g
    ·rw[a];exact z
   rw[q]at m;cases m
   obtain⟨v,n⟩:=heo
   exact⟨v,by rw[a];exact n⟩
  ·refine(ok b u q).stay (λc v f r=>k c v ?_ r) (λc r=>by rw[rR (d c b r)];exact r) λc j r=>by rw[rR (l c j r)];exact r
   rcases f with rfl|f
   ·exact a
   ·rintro rfl
    rcases he with z|z
    ·exact d c b f z
    ·rw[f]at z;cases z;exact g rfl
end
structure Un(fs ex:List bV)(H H':Hp)(h h':Heap):Prop where
 keep:∀b o,h.get? b=some o->H b=none->b∉fs->b∉ex->h'.get? b=some o
 slot:∀b o,h.get? b=some o->H b=none->b∈fs->b∉ex->∃sl,h'.get? b=some {o with slots:=sl}
 free:∀b o,h.get? b=some o->H b=none->b∉ex->H' b=none
 there:∀b o,h.get? b=some o->b∉ex->∃o',h'.get? b=some o'
 tups:∀b xs,H b=some (.tup xs)->H' b=some (.tup xs)
 frzs:∀b o u,H b=some (.frz o u)->H' b=some (.frz o u)
 tbls:∀b ps,H b=some (.tbl ps)->∃more,H' b=some (.tbl (ps++more))
section
variable{fs fs' ex ex':List bV}{H H1 H2:Hp}{h h1 h2 h':Heap}{a x e:bV}{o:HO}
theorem Un.any(u:Un fs ex H H1 h h1){b:bV}{ob:Obj}(q:h.get? b=some ob)(n:H b=none)(hx:b∉ex):∃sl,h1.get? b=some {ob with slots:=sl}:=by
 by_cases a:b∈fs
 ·exact u.slot b ob q n a hx
 ·exact⟨ob.slots,u.keep b ob q n a hx⟩
theorem Un.kept(k:∀b u,h.get? b=some u->h'.get? b=some u):Un fs ex H H h h':=
 ⟨λb a q _ _ _=>k b a q,λb a q _ _ _=>⟨a.slots,k b a q⟩,λ_ _ _ n _=>n,λb a q _=>⟨a,k b a q⟩,λ_ _ q=>q,λ_ _ _ q=>q,λ_ c q=>⟨#[],by rw[q];simp⟩⟩
theorem Un.refl:Un fs ex H H h h:=Un.kept λ_ _ q=>q
theorem Un.laid(k:∀b u,h.get? b=some u->h'.get? b=some u)(hp:h.objs.size<=a)(hn:H a=none):Un fs ex H (upd H a o) h h' where
 keep:=λb u q _ _ _=>k b u q
 slot:=λb u q _ _ _=>⟨u.slots,k b u q⟩
 free:=λb u q n _=>by rw[rR (cF (ci (b6 q) hp))];exact n
 there:=λb u q _=>⟨u,k b u q⟩
 tups:=λb c q=>by rw[rR (sf q hn)];exact q
 frzs:=λb u c q=>by rw[rR (sf q hn)];exact q
 tbls:=λb d q=>⟨#[],by rw[rR (sf q hn),q];simp⟩
theorem Un.write(mu:NG (H x))(he:e=x\/H e=some (.own x))(k:∀b u,b≠e->h.get? b=some u->h'.get? b=some u)(heo:∃u,h'.get? e=some u):Un fs ex H (upd H x o) h h':=by
 have f:∀b,H b=none->b≠x:=λb n z=>by subst z;rw[n]at mu;exact mu
 have d:∀b,H b=none->b≠e:=λb n z=>by
  subst z;rcases he with r|r
  ·exact f b n r
  ·rw[n]at r;cases r
 have c:∀b u,H b=some u->¬NG (some u)->b≠x:=λb u q g z=>by subst z;rw[q]at mu;exact g mu
 refine⟨λb u q n _ _=>k b u (d b n) q,λb u q n _ _=>⟨u.slots,k b u (d b n) q⟩,λb u q n _=>by rw[rR (f b n)];exact n,λb u q _=>?_,
  λb j q=>by rw[rR (c b _ q λz=>z)];exact q,λb u j q=>by rw[rR (c b _ q λz=>z)];exact q,λb l q=>⟨#[],by rw[rR (c b _ q λz=>z),q];simp⟩⟩
 by_cases a:b=e
 ·subst a;exact heo
 ·exact⟨u,k b u a q⟩
end
def trk(h:Heap)(H:Hp):List bV:=(cp h.objs.size).filter λa=>(H a).isSome
def Jo(h:Heap)(H:Hp):Heap:=lj h (trk h H)
theorem BA(h:Heap)(H:Hp):(Jo h H).objs.size=h.objs.size:=PySem.W.hideAll_size _ _
theorem C6{h:Heap}{H:Hp}{b:bV}{o:Obj}(e:h.get? b=some o)(n:H b=none):(Jo h H).get? b=some o:=
 fX _ e λa=>by
  have q:(H b).isSome=true:=(dw.mp a).2
  rw[n]at q;simp at q
theorem DM{h:Heap}{H:Hp}{b:bV}{o:Obj}(e:(Jo h H).get? b=some o):h.get? b=some o/\H b=none:=by
 have a:h.get? b=some o:=mz (trk h H) e;refine⟨a,?_⟩
 cases q:H b with
 | none=>rfl
 | some x=>
  have c:b∈trk h H:=dw.mpr ⟨dq.mpr (b6 a),by simp[q]⟩;have z:(Jo h H).get? b=none:=PySem.W.hideAll_none (trk h H) c;rw[z]at e;cases e
def LY(g h:Heap)(L:bV):List (bV×Obj):=(cp h.objs.size).filterMap λa=>if a=L\/(g.get? a).isSome=true then none else(h.get? a).map λo=>(a,o)
def rest(g h:Heap)(L d:bV):List (bV×Obj):=(LY g h L).filter λp=>decide (p.1≠d)
structure Mod(K:bN)(mg:Str->Option bQ)(base:Heap):Prop where
 kin:K.In base
 glob:base.Ns eE mg
 blt:∃mb,base.Ns builtinsNs mb/\∀x:Str,x≠"__name__"->mb x=bootBuiltins x
 nolimit:base.NoLimit
structure Cx where
 prog:cg
 w:cC
 K:bN
 mg:Str->Option bQ
 base:Heap
 A:cO
 N:List Str
 s₀:bS
 H₀:Hp
 env:Env
 outer:List Env
 stack:List Env
 ex:List bV
 fn:Str->Bool
 calm:Bool
 pn:List (bV×Obj)
 xe:bQ->bS->Prop
def Gy(l:List Env):List bV:=l.filterMap (·.frame)
abbrev Cx.fs(X:Cx):List bV:=Gy X.outer
def NJ(sc:Scope)(x:Str):Prop:=sc.names.lookup x=some .local\/sc.names.lookup x=some .cell\/sc.names.lookup x=some .free
def MG(sc:Scope)(x:Str):Prop:=sc.names.lookup x=some .local\/sc.names.lookup x=some .cell
def NQ(env:Env)(h:Heap)(m:Str->Option bQ)(x:Str)(u:bQ):Prop:=
 (env.kindOf x=some .local/\m x=some u)\/((env.kindOf x=some .cell\/env.kindOf x=some .free)/\∃c,env.cells.lookup x=some c/\h.IsCell c (some u))
structure Cx.Ok(X:Cx):Prop where
 mod:Mod X.K X.mg X.base
 kind:X.env.scope.kind = .function
 glob:X.env.globals=eE
 blt:X.env.builtins=builtinsNs
 above:X.s₀.heap.objs.size<=X.env.locals
 inj:∀x y c,X.env.cells.lookup x=some c->X.env.cells.lookup y=some c->x=y
 has:∀x,(X.env.kindOf x=some .cell\/X.env.kindOf x=some .free)->∃c,X.env.cells.lookup x=some c
 cab:∀x c,X.fn x=true->X.env.cells.lookup x=some c->X.s₀.heap.objs.size<=c
 hd:X.calm=true->X.A.handled=none
 frames:X.A.frames=some X.stack
 stk:X.stack=X.outer\/(X.stack=X.env::X.outer/\X.env.frame=some X.env.locals)
 exf:∀b∈X.ex,b≠X.env.locals/\∀x c,X.env.cells.lookup x=some c->c≠b
 bs:∀b o,X.base.get? b=some o->X.s₀.heap.get? b=some o/\X.H₀ b=none
 bsz:X.base.objs.size<=X.s₀.heap.objs.size
 noex:∀b o,X.base.get? b=some o->b∉X.ex
 exfs:∀b∈X.ex,b∉X.fs
 funs:X.s₀.heap.FunFrames X.base X.outer
 frf:∀b∈X.fs,X.H₀ b=none
structure Inv(X:Cx)(pins:List (bV×Obj))(σ:List (Option V))(H:Hp)(s:bS):Prop where
 ok:X.Ok
 os:s.os=X.s₀.os
 bare:AllBare s.gens
 base:Un X.fs X.ex X.H₀ H X.s₀.heap s.heap
 loc:∃m,s.heap.Ns X.env.locals m/\∀(i:Nat) (x:Str) (v:V),X.N[i]?=some x->σ[i]?=some (some v)->NJ X.env.scope x->∃u,RelV v u/\NQ X.env s.heap m x u
 cell:∀x c,X.env.cells.lookup x=some c->∃v,s.heap.IsCell c v
 free:H X.env.locals=none
 freeC:∀x c,X.env.cells.lookup x=some c->H c=none
 pin:∀p∈X.pn++pins,s.heap.get? p.1=some p.2/\H p.1=none/\p.1≠X.env.locals/\p.1∉X.fs/\∀v,p.2.data≠ .cell v
 hok:HOk X.prog X.w H s.heap
 len:σ.length=X.N.length
section
variable{X:Cx}{pins:List (bV×Obj)}{σ:List (Option V)}{H H':Hp}{s:bS}{h':Heap}
theorem Cx.Ok.nofr(ok:X.Ok){b:bV}{o:Obj}(e:X.base.get? b=some o):b∉X.fs:=λa=>by
 have:=(ok.funs.mem a).1;rw[e]at this;cases this
theorem Inv.bs(I:Inv X pins σ H s):∀b o,X.base.get? b=some o->s.heap.get? b=some o/\H b=none:=λb o e=>
 ⟨I.base.keep b o (I.ok.bs b o e).1 (I.ok.bs b o e).2 (I.ok.nofr e) (I.ok.noex b o e),I.base.free b o (I.ok.bs b o e).1 (I.ok.bs b o e).2 (I.ok.noex b o e)⟩
theorem Inv.bk(I:Inv X pins σ H s):∀b o,X.base.get? b=some o->s.heap.get? b=some o:=λb o e=>(I.bs b o e).1
theorem Inv.mod(I:Inv X pins σ H s):Mod X.K X.mg X.base:=I.ok.mod
theorem Inv.kIn(I:Inv X pins σ H s):X.K.In s.heap:=I.ok.mod.kin.keeps I.bk
theorem Inv.fr(I:Inv X pins σ H s):∃m,Fr X.base X.env.locals s.heap m:=
 let⟨m,a,_⟩:=I.loc
 ⟨m,a,I.bk,cG I.ok.bsz I.ok.above⟩
theorem Inv.lt(I:Inv X pins σ H s):X.env.locals<s.heap.objs.size:=let⟨_,a,_⟩:=I.loc;a.lt
theorem Inv.sz(I:Inv X pins σ H s):X.s₀.heap.objs.size<=s.heap.objs.size:=cG I.ok.above (cx I.lt)
theorem Inv.nofs(I:Inv X pins σ H s){a:bV}(h:s.heap.objs.size<=a):a∉X.fs:=λb=>by
 obtain⟨_,o,c,_⟩:=I.ok.funs.mem b;exact absurd (ci (b6 c) (cG I.sz h)) (cJ _)
theorem Inv.cne(I:Inv X pins σ H s):∀x c,X.env.cells.lookup x=some c->c≠X.env.locals:=λx c e z=>by
 obtain⟨v,o,f,b⟩:=I.cell x c e;obtain⟨m,⟨h,j,g,a,d,_⟩,_⟩:=I.loc;rw[z,a]at f;cases f;rw[d]at b;cases b
theorem Inv.funs(I:Inv X pins σ H s):s.heap.FunFrames X.base X.outer:=by
 have all:∀(l:List Env),(∀b∈Gy l,b∈X.fs)->X.s₀.heap.FunFrames X.base l->s.heap.FunFrames X.base l:=by
  intro l
  induction l with
  | nil=>intro _ _;trivial
  | cons p r m=>
   intro f k;obtain⟨hk,⟨L,o,a,n,h,g⟩,j⟩:=k;have d:L∈X.fs:=f L (by unfold Gy;rw[fE,a];exact b0);obtain⟨q,e⟩:=I.base.slot L o h (I.ok.frf L d) d λz=>I.ok.exfs L z d;exact⟨hk,⟨L,_,a,n,e,g⟩,m (λb c=>f b (by unfold Gy;rw[fE,a];exact b3 _ c)) j⟩
 exact all X.outer (λ_ c=>c) I.ok.funs
theorem Inv.stack(I:Inv X pins σ H s):s.heap.FunFrames X.base X.stack:=by
 rcases I.ok.stk with e|⟨e,b⟩
 ·rw[e];exact I.funs
 ·rw[e];obtain⟨m,a,_⟩:=I.loc;refine .cons (by rw[I.ok.kind];decide) b a ?_ I.funs;exact Heap.get?_none_of_le (cG I.ok.bsz I.ok.above)
theorem Inv.stkSub(I:Inv X pins σ H s):∀b∈Gy X.stack,b∈X.env.locals::X.fs:=λb a=>by
 rcases I.ok.stk with e|⟨e,c⟩
 ·rw[e]at a;exact b3 _ a
 ·rw[e]at a;unfold Gy at a;rw[fE,c]at a;exact a
theorem Inv.stkFree(I:Inv X pins σ H s):∀b∈Gy X.stack,H b=none:=λb a=>by
 rcases cj.mp (I.stkSub b a)with e|a
 ·rw[e];exact I.free
 ·obtain⟨_,o,c,_⟩:=I.ok.funs.mem a;exact I.base.free b o c (I.ok.frf b a) λz=>I.ok.exfs b z a
theorem Inv.step{g':Array GenState}{t':Nat}{d':Drawn}{ch:List bV}(I:Inv X pins σ H s)
  (hch:∀b∈ch,(b∈X.ex\/X.s₀.heap.objs.size<=b)/\b≠X.env.locals/\(∀x c,X.env.cells.lookup x=some c->c≠b)/\∀p∈X.pn++pins,p.1≠b)
  (keep:∀b o,b≠X.env.locals->b∉X.fs->b∉ch->s.heap.get? b=some o->H b=none->h'.get? b=some o)
  (slot:∀b o,b≠X.env.locals->b∈X.fs->b∉ch->s.heap.get? b=some o->H b=none->∃sl,h'.get? b=some {o with slots:=sl})(free:∀b o,b∉ch->s.heap.get? b=some o->H b=none->H' b=none)
  (there:∀b o,b∉ch->s.heap.get? b=some o->∃o',h'.get? b=some o')
  (tups:∀b xs,H b=some (.tup xs)->H' b=some (.tup xs))(frzs:∀b o u,H b=some (.frz o u)->H' b=some (.frz o u))(tbls:∀b ps,H b=some (.tbl ps)->∃more,H' b=some (.tbl (ps++more)))
  (ns:∀m,s.heap.Ns X.env.locals m->h'.Ns X.env.locals m)(hok:HOk X.prog X.w H' h')(hg:AllBare g'):
  Inv X pins σ H' {s with heap:=h',gens:=g',drawn:=d',toks:=t'}:=by
 have B:∀b o,X.s₀.heap.get? b=some o->b≠X.env.locals:=λb o e=>cF (ci (b6 e) I.ok.above)
 have j:∀b o,X.s₀.heap.get? b=some o->b∉X.ex->b∉ch:=λb o e a h=>by
  rcases(hch b h).1 with z|z
  ·exact a z
  ·exact absurd (ci (b6 e) z) (cJ _)
 have t:∀x c,X.env.cells.lookup x=some c->∀v,s.heap.IsCell c v->h'.IsCell c v:=λx c e v ⟨o,y,C⟩=>by
  have g:c∉ch:=λz=>(hch c z).2.2.1 x c e rfl
  by_cases D:c∈X.fs
  ·obtain⟨sl,q⟩:=slot c o (I.cne x c e) D g y (I.freeC x c e)
   exact⟨_,q,C⟩
  ·exact⟨o,keep c o (I.cne x c e) D g y (I.freeC x c e),C⟩
 refine⟨I.ok,I.os,hg,⟨λb o e n h a=>?_,λb o e n h a=>?_,λb o e n a=>?_,λb o e a=>?_,λb xs e=>tups b xs (I.base.tups b xs e),λb o xs e=>frzs b o xs (I.base.frzs b o xs e),λb ps e=>?_⟩,?_,λx c e=>?_,?_,λx c e=>?_,λp hp=>?_,hok,I.len⟩
 ·exact keep b o (B b o e) h (j b o e a) (I.base.keep b o e n h a) (I.base.free b o e n a)
 ·obtain⟨sl,f⟩:=I.base.slot b o e n h a
  obtain⟨E,A⟩:=slot b _ (B b o e) h (j b o e a) f (I.base.free b o e n a)
  exact⟨E,A⟩
 ·obtain⟨o',f⟩:=I.base.there b o e a
  exact free b o' (j b o e a) f (I.base.free b o e n a)
 ·obtain⟨o',f⟩:=I.base.there b o e a
  exact there b o' (j b o e a) f
 ·obtain⟨L,f⟩:=I.base.tbls b ps e
  obtain⟨M,A⟩:=tbls b _ f
  exact⟨L++M,by rw[A,mC]⟩
 ·obtain⟨m,K,G⟩:=I.loc
  refine⟨m,ns m K,λi x v f A J=>?_⟩
  obtain⟨u,r,l⟩:=G i x v f A J
  refine⟨u,r,?_⟩
  rcases l with l|⟨k,c,e,z⟩
  ·exact .inl l
  ·exact .inr ⟨k,c,e,t x c e _ z⟩
 ·obtain⟨v,z⟩:=I.cell x c e
  exact⟨v,t x c e v z⟩
 ·obtain⟨m,⟨o,_,_,y,_⟩,_⟩:=I.loc
  exact free _ o (λz=>(hch _ z).2.1 rfl) y I.free
 ·obtain⟨v,o,y,C⟩:=I.cell x c e
  exact free c o (λz=>(hch c z).2.2.1 x c e rfl) y (I.freeC x c e)
 ·obtain⟨e,n,F,nf,d⟩:=I.pin p hp
  have g:p.1∉ch:=λz=>(hch p.1 z).2.2.2 p hp rfl
  exact⟨keep p.1 p.2 F nf g e n,free p.1 p.2 g e n,F,nf,d⟩
theorem Inv.un{t':Nat}(I:Inv X pins σ H s)(u:Un X.fs [] H H' s.heap h')(hok:HOk X.prog X.w H' h'):Inv X pins σ H' {s with heap:=h',toks:=t'}:=by
 obtain⟨m,⟨o,p,t,d,r⟩,_⟩:=id I.loc;obtain⟨v,k⟩:=u.any d I.free (by simp);exact I.step (g':=s.gens) (d':=s.drawn) (ch:=[]) (λ_ z=>nomatch z) (λb o _ c _ e n=>u.keep b o e n c (by simp)) (λb o _ c _ e n=>u.slot b o e n c (by simp)) (λb o _ e n=>u.free b o e n (by simp)) (λb o _ e=>u.there b o e (by simp)) u.tups u.frzs u.tbls (λl j=>by
  obtain⟨q,g,f,a,h⟩:=j;rw[d]at a;cases a;exact⟨_,g,f,k,h⟩) hok I.bare
theorem Inv.call{g':Array GenState}{t':Nat}{d':Drawn}{ch:List bV}(I:Inv X pins σ H s)(u:Un (Gy X.stack) ch H H' s.heap h')(hok:HOk X.prog X.w H' h')(hg:AllBare g')
  (hch:∀b∈ch,(b∈X.ex\/X.s₀.heap.objs.size<=b)/\b≠X.env.locals/\(∀x c,X.env.cells.lookup x=some c->c≠b)/\∀p∈X.pn++pins,p.1≠b):
  Inv X pins σ H' {s with heap:=h',gens:=g',drawn:=d',toks:=t'}:=by
 obtain⟨m,⟨o,v,A,g,r⟩,_⟩:=id I.loc
 obtain⟨B,f⟩:=u.any g I.free λz=>(hch _ z).2.1 rfl
 exact I.step (ch:=ch) hch (λb o f k a e n=>u.keep b o e n (λz=>(cj.mp (I.stkSub b z)).elim f k) a) (λb o _ _ a e n=>u.any e n a) (λb o a e n=>u.free b o e n a) (λb o a e=>u.there b o e a) u.tups u.frzs u.tbls (λt q=>by
  obtain⟨y,j,h,d,l⟩:=q
  rw[g]at d;cases d
  exact⟨_,j,h,f,l⟩) hok hg
theorem Inv.turned{t':Nat}{it:bV}(I:Inv X pins σ H s)(k:∀b o,b≠it->s.heap.get? b=some o->h'.get? b=some o)(hn:H it=none)(hL:it≠X.env.locals)
  (h1:it∈X.ex\/X.s₀.heap.objs.size<=it)(h2:∀x c,X.env.cells.lookup x=some c->c≠it)(h3:∀p∈X.pn++pins,p.1≠it):Inv X pins σ H {s with heap:=h',toks:=t'}:=by
 have d:∀b u,H b=some u->b≠it:=λb u e z=>by rw[z,hn]at e;cases e
 refine I.step (g':=s.gens) (d':=s.drawn) (ch:=[it]) (λb j=>?_) (λb o _ _ a e _=>k b o (λz=>a (by simp[z])) e) (λb o _ _ a e _=>⟨o.slots,k b o (λz=>a (by simp[z])) e⟩) (λ_ _ _ _ n=>n)
  (λb o a e=>⟨o,k b o (λz=>a (by simp[z])) e⟩) (λ_ _ e=>e) (λ_ _ _ e=>e) (λb t e=>⟨#[],by rw[e];simp⟩) (λm l=>?_) (λb u e=>?_) I.bare
 ·have e:b=it:=by simpa using j
  subst e
  exact⟨h1,hL,h2,h3⟩
 ·obtain⟨o,f,h,g,r⟩:=l
  exact⟨o,f,h,k _ o (Ne.symm hL) g,r⟩
 ·refine(I.hok b u e).stay (λc v a q=>k c v ?_ q) (λ_ q=>q) λ_ _ q=>q
  rcases a with z|z
  ·rw[z];exact d b u e
  ·exact d c _ z
theorem Inv.tok(I:Inv X pins σ H s)(t:Nat):Inv X pins σ H {s with toks:=t}:=I.un (h':=s.heap) (t':=t) Un.refl I.hok
theorem Inv.kept{t':Nat}(I:Inv X pins σ H s)(k:∀b u,s.heap.get? b=some u->h'.get? b=some u):Inv X pins σ H {s with heap:=h',toks:=t'}:=I.un (Un.kept k) (I.hok.kept k)
theorem Inv.laid{a:bV}{o:HO}{t':Nat}(I:Inv X pins σ H s)(k:∀b u,s.heap.get? b=some u->h'.get? b=some u)(hp:s.heap.objs.size<=a)(new:ObjOk X.prog X.w (upd H a o) h' a o):
  Inv X pins σ (upd H a o) {s with heap:=h',toks:=t'}:=I.un (Un.laid k hp (I.hok.fresh hp)) (I.hok.laid k hp new)
theorem Inv.write{x e:bV}{o:HO}{t':Nat}(I:Inv X pins σ H s)(mu:NG (H x))(he:e=x\/H e=some (.own x))(k:∀b u,b≠e->s.heap.get? b=some u->h'.get? b=some u)(heo:∃u,h'.get? e=some u)
  (new:ObjOk X.prog X.w (upd H x o) h' x o):Inv X pins σ (upd H x o) {s with heap:=h',toks:=t'}:=I.un (Un.write mu he k heo) (I.hok.write mu he k heo new)
theorem Inv.weak{σ':List (Option V)}(I:Inv X pins σ H s)(hl:σ'.length=σ.length)(w:∀(i:Nat) v,σ'[i]?=some (some v)->σ[i]?=some (some v)):Inv X pins σ' H s:=
 ⟨I.ok,I.os,I.bare,I.base,let⟨m,e,a⟩:=I.loc;⟨m,e,λi x v c b d=>a i x v c (w i v b) d⟩,I.cell,I.free,I.freeC,I.pin,I.hok,hl.trans I.len⟩
theorem Inv.pins_of{pins':List (bV×Obj)}(I:Inv X pins σ H s)(h:∀p∈pins',s.heap.get? p.1=some p.2/\H p.1=none/\p.1≠X.env.locals/\p.1∉X.fs/\∀v,p.2.data≠ .cell v):Inv X pins' σ H s:=
 ⟨I.ok,I.os,I.bare,I.base,I.loc,I.cell,I.free,I.freeC,λp hp=>(cN.mp hp).elim (λz=>I.pin p (gu _ z)) (h p),I.hok,I.len⟩
theorem xG{N:List Str}(hN:N.Nodup){i j:Nat}{x:Str}(a:N[i]?=some x)(b:N[j]?=some x):i=j:=by
 obtain⟨h1,c⟩:=b8.mp a;obtain⟨h2,d⟩:=b8.mp b;exact(List.getElem_inj hN).mp (c.trans d.symm)
theorem ym{M:Model}{A:cO}{E:bQ->bS->Prop}{i:Nat}{x:Str}{v:V}{u:bQ}{Q:Unit->bS->Prop}(I:Inv X pins σ H s)(hN:X.N.Nodup)(hi:X.N[i]?=some x)(hx:MG X.env.scope x)(r:RelV v u)
  (h:∀s',Inv X pins (σ.set i (some v)) H s'->(∃a,eS a s.heap s'.heap/\(a=X.env.locals\/X.env.cells.lookup x=some a))->Q () s')(hf:X.fn x=true\/X.env.scope.names.lookup x=some .local:=by first|exact .inl rfl|exact .inr rfl|assumption):wpAny M A (storeName X.env x u) Q E s:=by
 obtain⟨m,hn,hl⟩:=id I.loc
 have Y:(X.env.scope.kind == .class||(X.env.scope.kind == .module&&X.env.locals != X.env.globals))=false:=by rw[I.ok.kind];rfl
 have L:i<σ.length:=by rw[I.len];exact(b8.mp hi).1
 have J:=I.cne
 have t:∀{a:bV} {G:Heap},(∃o,s.heap.get? a=some o/\H a=none)->eS a s.heap G->HOk X.prog X.w H G:=λ {a G} ha f b ob e=>by
  obtain⟨_,_,F⟩:=ha
  refine(I.hok b ob e).stay (λc O l q=>(f.2 c ?_).trans q) (λ_ q=>q) λ_ _ q=>q
  rintro rfl
  rcases l with rfl|l
  ·rw[F]at e;cases e
  ·rw[F]at l;cases l
 rcases hx with hk|hk
 ·refine wpAny_storeName_local hk hn (λG ac f=>?_) Y
  obtain⟨oL,_,_,ab,_⟩:=id hn
  refine h _ ⟨I.ok,I.os,I.bare,⟨λb o e n D hx=>?_,λb o e n D hx=>?_,I.base.free,λb o e hx=>?_,I.base.tups,I.base.frzs,I.base.tbls⟩,⟨_,ac,λj y v' g B Z=>?_⟩,λy c e=>?_,I.free,I.freeC,λp hp=>?_,t ⟨oL,ab,I.free⟩ f,by simpa using I.len⟩ ⟨_,f,.inl rfl⟩
  ·exact(f.2 b (cF (ci (b6 e) I.ok.above))).trans (I.base.keep b o e n D hx)
  ·obtain⟨sl,g⟩:=I.base.slot b o e n D hx
   exact⟨sl,(f.2 b (cF (ci (b6 e) I.ok.above))).trans g⟩
  ·obtain⟨W,g⟩:=I.base.there b o e hx
   exact⟨W,(f.2 b (cF (ci (b6 e) I.ok.above))).trans g⟩
  ·by_cases C:j=i
   ·subst C
    rw[hi]at g;cases g
    rw[iS L]at B
    cases B
    exact⟨u,r,.inl ⟨hk,by simp⟩⟩
   ·rw[hV (Ne.symm C)]at B
    obtain⟨u',r',q⟩:=hl j y v' g B Z
    refine⟨u',r',?_⟩
    rcases q with⟨k,e⟩|⟨k,c,e,z⟩
    ·refine .inl ⟨k,?_⟩
     have:y≠x:=λe=>C (xG hN g (e▸hi))
     simp[this,e]
    ·exact .inr ⟨k,c,e,z.sameBut f (J y c e)⟩
  ·obtain⟨O,z⟩:=I.cell y c e
   exact⟨O,z.sameBut f (J y c e)⟩
  ·obtain⟨e,n,R,nf,d⟩:=I.pin p hp
   exact⟨(f.2 p.1 R).trans e,n,R,nf,d⟩
 ·have K:X.fn x=true:=by
   rcases hf with z|z
   ·exact z
   ·rw[z]at hk;cases hk
  obtain⟨c,l⟩:=I.ok.has x (.inl hk)
  obtain⟨O,z⟩:=I.cell x c l
  refine wpAny_storeName_cell I.ok.kind hk l z (λG S f=>?_)
  obtain⟨oc,T,aa⟩:=id z
  refine h {s with heap:=G} ⟨I.ok,I.os,I.bare,⟨λb o e n D hx=>?_,λb o e n D hx=>?_,I.base.free,λb o e hx=>?_,I.base.tups,I.base.frzs,I.base.tbls⟩,⟨m,hn.sameBut f (Ne.symm (J x c l)),λj y v' g B Z=>?_⟩,λy P e=>?_,I.free,I.freeC,λp hp=>?_,t ⟨oc,T,I.freeC x c l⟩ f,by simpa using I.len⟩ ⟨c,f,.inr l⟩
  ·exact(f.2 b (cF (ci (b6 e) (I.ok.cab x c K l)))).trans (I.base.keep b o e n D hx)
  ·obtain⟨sl,g⟩:=I.base.slot b o e n D hx
   exact⟨sl,(f.2 b (cF (ci (b6 e) (I.ok.cab x c K l)))).trans g⟩
  ·obtain⟨W,g⟩:=I.base.there b o e hx
   exact⟨W,(f.2 b (cF (ci (b6 e) (I.ok.cab x c K l)))).trans g⟩
  ·by_cases C:j=i
   ·subst C
    rw[hi]at g;cases g
    rw[iS L]at B
    cases B
    exact⟨u,r,.inr ⟨.inl hk,c,l,S⟩⟩
   ·rw[hV (Ne.symm C)]at B
    obtain⟨u',r',q⟩:=hl j y v' g B Z
    refine⟨u',r',?_⟩
    rcases q with q|⟨k,P,e,z'⟩
    ·exact .inl q
    ·refine .inr ⟨k,P,e,z'.sameBut f ?_⟩
     rintro rfl
     exact C (xG hN g (I.ok.inj _ _ _ e l▸hi))
  ·by_cases U:P=c
   ·subst U;exact⟨_,S⟩
   ·obtain⟨w2,z2⟩:=I.cell y P e
    exact⟨w2,z2.sameBut f U⟩
  ·obtain⟨e,n,R,nf,d⟩:=I.pin p hp
   refine⟨(f.2 p.1 ?_).trans e,n,R,nf,d⟩
   intro q
   rw[q,T]at e
   have q':oc=p.2:=Option.some.inj e
   exact d O (by rw[<-q'];exact aa)
theorem vN{M:Model}{A:cO}{E:bQ->bS->Prop}{i:Nat}{x:Str}{v:V}{u:bQ}{Q:Unit->bS->Prop}(I:Inv X pins σ H s)(hN:X.N.Nodup)(hi:X.N[i]?=some x)(hx:MG X.env.scope x)(r:RelV v u)
  (h:∀s',Inv X pins (σ.set i (some v)) H s'->Q () s')(hf:X.fn x=true\/X.env.scope.names.lookup x=some .local:=by first|exact .inl rfl|exact .inr rfl|assumption):wpAny M A (storeName X.env x u) Q E s:=
 ym I hN hi hx r (λs' a _=>h s' a) hf
theorem Inv.call'{s':bS}{ch:List bV}(I:Inv X pins σ H s)(ho:s'.os=s.os)(u:Un (Gy X.stack) ch H H' s.heap s'.heap)(hok:HOk X.prog X.w H' s'.heap)(hg:AllBare s'.gens)
  (hch:∀b∈ch,(b∈X.ex\/X.s₀.heap.objs.size<=b)/\b≠X.env.locals/\(∀x c,X.env.cells.lookup x=some c->c≠b)/\∀p∈X.pn++pins,p.1≠b):Inv X pins σ H' s':=by
 obtain⟨d,g',d',t',a⟩:=s'
 have e:a=s.os:=ho
 subst e
 exact I.call (g':=g') (t':=t') (d':=d') u hok hg hch
end
abbrev XK:=bQ->Option bV->Hp->Prop
abbrev St:=List (Option V)
abbrev VK:=V->Hp->Prop
abbrev TE:=St->Hp->VK->Prop
abbrev TT:=St->Hp->(Bool->Hp->Prop)->Prop
abbrev TA:=St->Hp->(List V->Hp->Prop)->Prop
structure Il where
 nx:St->Hp->Prop
 rt:VK
 bk:St->Hp->Prop:=λ_ _=>False
 ct:St->Hp->Prop:=λ_ _=>False
abbrev TS:=Il->St->Hp->Prop
def EP(X:Cx)(pins:List (bV×Obj))(σ:St)(Q:VK)(u:bQ)(s':bS):Prop:=∃v H',Inv X pins σ H' s'/\RelV v u/\Q v H'
def TP(X:Cx)(pins:List (bV×Obj))(σ:St)(Q:Bool->Hp->Prop)(b:Bool)(s':bS):Prop:=∃H',Inv X pins σ H' s'/\Q b H'
def AP(X:Cx)(pins:List (bV×Obj))(σ:St)(Q:List V->Hp->Prop)(us:List bQ)(s':bS):Prop:=∃vs H',Inv X pins σ H' s'/\Vals vs us/\Q vs H'
def SP(X:Cx)(pins:List (bV×Obj))(D:Il)(f:Flow)(s':bS):Prop:=
 match f with
 | .next=>∃σ' H',Inv X pins σ' H' s'/\D.nx σ' H'
 | .brk=>∃σ' H',Inv X pins σ' H' s'/\D.bk σ' H'
 | .cont=>∃σ' H',Inv X pins σ' H' s'/\D.ct σ' H'
 | .ret u=>∃v σ' H',Inv X pins σ' H' s'/\RelV v u/\D.rt v H'
def PE(X:Cx)(e:Expr)(t:TE):Prop:=
 ∀(pins:List (bV×Obj)) (s:bS) (σ:St) (H:Hp) (Q:VK),Inv X pins σ H s->t σ H Q->wpAny (model X.prog X.w) X.A (eval e X.env) (EP X pins σ Q) X.xe s
def PT(X:Cx)(e:Expr)(t:TT):Prop:=
 ∀(pins:List (bV×Obj)) (s:bS) (σ:St) (H:Hp) (Q:Bool->Hp->Prop),Inv X pins σ H s->t σ H Q->wpAny (model X.prog X.w) X.A (isTrue e X.env (eval e X.env)) (TP X pins σ Q) X.xe s
def PW(X:Cx)(e:Expr)(t:TT):Prop:=
 ∀(whole:Sem bQ) (pins:List (bV×Obj)) (s:bS) (σ:St) (H:Hp) (Q:Bool->Hp->Prop),Inv X pins σ H s->t σ H Q->wpAny (model X.prog X.w) X.A (isTrue e X.env whole) (TP X pins σ Q) X.xe s
theorem PW.pt{X:Cx}{e:Expr}{t:TT}(h:PW X e t):PT X e t:=h _
def PA(X:Cx)(es:List Expr)(t:TA):Prop:=
 ∀(pos:Pos) (pins:List (bV×Obj)) (s:bS) (σ:St) (H:Hp) (Q:List V->Hp->Prop),Inv X pins σ H s->t σ H Q->wpAny (model X.prog X.w) X.A (spliced (backTo pos (cD es X.env))) (AP X pins σ Q) X.xe s
def PS(X:Cx)(st:Stmt)(t:TS):Prop:=
 ∀(pins:List (bV×Obj)) (s:bS) (σ:St) (H:Hp) (D:Il),Inv X pins σ H s->t D σ H->wpAny (model X.prog X.w) X.A (exec st X.env) (SP X pins D) X.xe s
def PSs(X:Cx)(st:List Stmt)(t:TS):Prop:=
 ∀(pins:List (bV×Obj)) (s:bS) (σ:St) (H:Hp) (D:Il),Inv X pins σ H s->t D σ H->wpAny (model X.prog X.w) X.A (execs st X.env) (SP X pins D) X.xe s
theorem Fw{α:Type}{t:Sem α}{Q Q':α->bS->Prop}{M:Model}{A:cO}{E:bQ->bS->Prop}{s:bS}(h:wpAny M A t Q E s)(hQ:∀a s,Q a s->Q' a s):wpAny M A t Q' E s:=eK h hQ λ_ _ x=>x
section
variable{X:Cx}
theorem bin{a b:Expr}{ta tb:TE}(ha:PE X a ta)(hb:PE X b tb){pins:List (bV×Obj)}{s:bS}{σ:St}{H:Hp}{R:V->V->Hp->Prop}(I:Inv X pins σ H s)(h:ta σ H λx H1=>tb σ H1 λy H2=>R x y H2)
  {α:Type}{Q:α->bS->Prop}{f:bQ->bQ->Sem α}
  (hf:∀v u s2 x y H2,Inv X pins σ H2 s2->RelV x v->RelV y u->R x y H2->wpAny (model X.prog X.w) X.A (f v u) Q X.xe s2):
  wpAny (model X.prog X.w) X.A (eval a X.env) (λv s₁=>wpAny (model X.prog X.w) X.A (eval b X.env) (λu s₂=>wpAny (model X.prog X.w) X.A (f v u) Q X.xe s₂) X.xe s₁) X.xe s:=by
 refine Fw (ha pins s σ H _ I h) λv l ⟨x,H1,j,d,k⟩=>?_
 refine Fw (hb pins l σ H1 _ j k) λu s2 ⟨y,H2,e,c,g⟩=>?_
 exact hf v u s2 x y H2 e d c g
def Ni(i:Nat):TE:=λσ H Q=>∃v,σ[i]?=some (some v)/\Q v H
def tC(v:V):TE:=λ_ H Q=>Q v H
theorem EE{i:Nat}{x:Str}{pos:Pos}(hN:X.N[i]?=some x)(hv:NJ X.env.scope x)(hd:(x==("__debug__":Str))=false:=by decide)(hcd:(x==("__classdict__":Str))=false:=by decide):PE X (.Name x pos) (Ni i):=by
 intro b s k H Q I h;obtain⟨v,e,h⟩:=h;obtain⟨m,g,f⟩:=I.loc;obtain⟨u,r,l⟩:=f i x v hN e hv;have fin:EP X b k Q u s:=⟨v,H,I,r,h⟩;rcases l with⟨hk,j⟩|⟨hk,c,d,a⟩
 ·exact oG (wpAny_loadName_local I.ok.kind hk g j fin) hd
 ·rcases hk with hk|hk
  ·exact oG (wpAny_loadName_cell I.ok.kind hk d a fin) hd
  ·exact oG (wpAny_loadName_free I.ok.kind hk d a fin hcd) hd
theorem rJ{i j pos}:PE X (.Constant (.int i) j pos) (tC (.int i)):=λ_ _ _ H _ I h=>wpAny_Constant_int ⟨.int i,H,I.tok _,⟨_,rfl⟩,h⟩
theorem vj{b j pos}:PE X (.Constant (.bool b) j pos) (tC (.bl b)):=λ_ _ _ H _ I h=>Constant_bool ⟨.bl b,H,I,rfl,h⟩
theorem uE{j pos}:PE X (.Constant .none j pos) (tC .non):=λ_ _ _ H _ I h=>Constant_none ⟨.non,H,I,rfl,h⟩
theorem rY{x j pos}:PE X (.Constant (.str x) j pos) (tC (.str x)):=λ_ _ _ H _ I h=>Calls.Constant_str ⟨.str x,H,I.tok _,⟨_,rfl⟩,h⟩
def Gl(X:Cx)(x:Str):Prop:=X.env.kindOf x=some .globalImplicit
theorem uH{E:bQ->bS->Prop}{pins:List (bV×Obj)}{s:bS}{σ:St}{H:Hp}{x:Str}{u:bQ}{pos:Pos}{Q:bQ->bS->Prop}(I:Inv X pins σ H s)(hg:Gl X x)(hm:X.mg x=some u)(h:Q u s)
  (hd:(x==("__debug__":Str))=false:=by decide):wpAny (model X.prog X.w) X.A (eval (.Name x pos) X.env) Q E s:=
 h9 I.ok.kind hg (ku (by rw[I.ok.glob];exact I.mod.glob.keeps I.bk) hm h) hd
theorem t7{E:bQ->bS->Prop}{pins:List (bV×Obj)}{s:bS}{σ:St}{H:Hp}{x:Str}{u:bQ}{pos:Pos}{Q:bQ->bS->Prop}(I:Inv X pins σ H s)(hg:Gl X x)(hm:X.mg x=none)(hv:bootBuiltins x=some u)(h:Q u s)
  (hn:x≠"__name__":=by decide)(hd:(x==("__debug__":Str))=false:=by decide):wpAny (model X.prog X.w) X.A (eval (.Name x pos) X.env) Q E s:=by
 obtain⟨a,h1,h2⟩:=I.mod.blt
 exact h9 I.ok.kind hg (Calls.loadGlobal_builtin (by rw[I.ok.glob];exact I.mod.glob.keeps I.bk) hm (by rw[I.ok.blt];exact h1.keeps I.bk) ((h2 x hn).trans hv) h) hd
theorem D0{x:Str}{v:V}{u:bQ}{pos:Pos}(hg:Gl X x)(hm:X.mg x=some u)(r:RelV v u)(hd:(x==("__debug__":Str))=false:=by decide):PE X (.Name x pos) (tC v):=
 λ_ _ _ H _ I h=>uH I hg hm ⟨v,H,I,r,h⟩ hd
theorem DW{x:Str}{v:V}{u:bQ}{pos:Pos}(hg:Gl X x)(hm:X.mg x=none)(hv:bootBuiltins x=some u)(r:RelV v u)(hn:x≠"__name__":=by decide)(hd:(x==("__debug__":Str))=false:=by decide):PE X (.Name x pos) (tC v):=
 λ_ _ _ H _ I h=>t7 I hg hm hv ⟨v,H,I,r,h⟩ hn hd
variable{a b:Expr}{ta tb:TE}{pos:Pos}
def PC(X:Cx)(op:CmpOp)(a b:Expr)(t:TE):Prop:=
 ∀(pins:List (bV×Obj)) (s:bS) (σ:St) (H:Hp) (Q:VK),Inv X pins σ H s->t σ H Q->
  wpAny (model X.prog X.w) X.A (eval a X.env) (λv s₁=>wpAny (model X.prog X.w) X.A (eval b X.env) (λu s₂=>wpAny (model X.prog X.w) X.A (compareOp op v u) (EP X pins σ Q) X.xe s₂) X.xe s₁) X.xe s
def tB(t:TE):TT:=λσ H Q=>t σ H λx H1=>∃c,x = .bl c/\Q c H1
theorem pt_cmp{op:CmpOp}{t:TE}(h:PC X op a b t)(h1:behindInMarks op b=false:=by first|exact nobehind _ (by decide) (by decide)|rfl):PT X (.Compare a [op] [b] pos) (tB t):=by
 intro e s l H Q I m;refine lB (Fw (h e s l H _ I m) λv p h1=>Fw h1 λu n h2=>Fw h2 λc o ⟨x,k,f,g,j⟩=>?_) h1;obtain⟨d,rfl,q⟩:=j
 cases g;exact dU ⟨k,f,q⟩
theorem sD{e:Expr}{t:TE}(h:PE X e t)(he:∀whole,isTrue e X.env whole=(do let v<-whole;standAt e.pos;holding [v] (truthy v)):=by intro _;rfl):PT X e (tB t):=by
 intro a s f H Q I k;refine qd (Fw (h a s f H _ I k) λv l ⟨x,c,g,b,j⟩=>?_) (he _);obtain⟨d,rfl,q⟩:=j
 cases b;exact dU ⟨c,g,q⟩
variable{tA tB':TT}{rest:List Expr}
def N4(t u:TT):TT:=λσ H Q=>t σ H λc H1=>if c=true then u σ H1 Q else Q false H1
def OE(t u:TT):TT:=λσ H Q=>t σ H λc H1=>if c=true then Q true H1 else u σ H1 Q
def NZ(t:TT):TT:=λσ H Q=>t σ H λc H1=>Q (!c) H1
theorem uF(ha:PT X a tA):PW X (.BoolOp .And [a] pos) tA:=by
 intro f b s d H Q I h;refine isTrue_and (Fw (ha b s d H Q I h) λc g e=>?_)
 cases c with
 | true=>exact isTrue_and_nil e
 | false=>exact e
theorem wQ(ha:PT X a tA):PW X (.BoolOp .Or [a] pos) tA:=by
 intro f b s d H Q I h;refine isTrue_or (Fw (ha b s d H Q I h) λc g e=>?_)
 cases c with
 | false=>exact isTrue_or_nil e
 | true=>exact e
theorem uD(ha:PT X a tA)(hb:PW X (.BoolOp .And (b::rest) pos) tB'):PW X (.BoolOp .And (a::b::rest) pos) (N4 tA tB'):=by
 intro k d s f H Q I h;refine isTrue_and (Fw (ha d s f H _ I h) λc l ⟨e,j,g⟩=>?_)
 cases c with
 | true=>exact hb k d l f e Q j g
 | false=>exact⟨e,j,g⟩
theorem xV(ha:PT X a tA)(hb:PW X (.BoolOp .Or (b::rest) pos) tB'):PW X (.BoolOp .Or (a::b::rest) pos) (OE tA tB'):=by
 intro k d s f H Q I h;refine isTrue_or (Fw (ha d s f H _ I h) λc l ⟨e,j,g⟩=>?_)
 cases c with
 | true=>exact⟨e,j,g⟩
 | false=>exact hb k d l f e Q j g
theorem tU(ha:PT X a tA):PT X (.UnaryOp .Not a pos) (NZ tA):=by
 intro b s d H Q I h;exact isTrue_not (ha b s d H (λc e=>Q (!c) e) I h)
def Nw(ta tb:TE):TE:=λσ H Q=>ta σ H λx H1=>∃c,x = .bl c/\if c=true then tb σ H1 Q else Q (.bl false) H1
def M6(ta:TE):TE:=λσ H Q=>ta σ H λx H1=>∃c,x = .bl c/\Q (.bl (!c)) H1
theorem wg{op}{t:TE}(h:PE X a t):PE X (.BoolOp op [a] pos) t:=λb s c H Q I d=>BoolOp_one (h b s c H Q I d)
theorem uM(ha:PE X a ta)(hb:PE X (.BoolOp .And (b::rest) pos) tb):PE X (.BoolOp .And (a::b::rest) pos) (Nw ta tb):=by
 intro d s g H Q I h;refine BoolOp_and (Fw (ha d s g H _ I h) λv l ⟨x,f,j,k,e⟩=>?_);obtain⟨c,rfl,e⟩:=e
 cases k;refine dU ?_
 cases c with
 | true=>exact hb d l g f Q j e
 | false=>exact⟨.bl false,f,j,rfl,e⟩
theorem Do(ha:PE X a ta):PE X (.UnaryOp .Not a pos) (M6 ta):=by
 intro b s g H Q I h;refine UnaryOp_ (Fw (ha b s g H _ I h) λv k ⟨x,f,j,e,d⟩=>?_);obtain⟨c,rfl,d⟩:=d
 cases e;exact not_of (dU ⟨.bl (!c),f,j,rfl,d⟩)
end
def SqL(K:bN)(H:Hp)(a:bV)(xs:List V):Prop:=
 Rd H a (.lst xs)\/
  ∃(o:Obj) (its:Array bQ) (n:Nat),K.lookup a=some o/\o.cls = .type "list"/\o.dict=none/\o.data = .seq its n/\its.size<=sizeLine/\Vals xs its.toList
def SqT(K:bN)(H:Hp)(a:bV)(xs:List V):Prop:=
 Rd H a (.tup xs)\/
  ∃(o:Obj) (its:Array bQ) (n:Nat),K.lookup a=some o/\o.cls = .type "tuple"/\o.data = .seq its n/\its.size<=sizeLine/\Vals xs its.toList
def NY:bQ->Option V
 | .none=>some .non
 | .bool b=>some (.bl b)
 | .int i _=>some (.int i)
 | .str x _=>some (.str x)
 | .bytes b _=>some (.byt b)
 | .float b _=>some (.flt b)
 | .ref a=>some (.ref a)
 | .type n=>some (.ty n)
 | _=>none
theorem RelV.abs{x:V}{u:bQ}(r:RelV x u):NY u=some x:=by
 cases x with
 | non=>cases r;rfl
 | bl _=>cases r;rfl
 | int _=>obtain⟨t,rfl⟩:=r;rfl
 | str _=>obtain⟨t,rfl⟩:=r;rfl
 | byt _=>obtain⟨t,rfl⟩:=r;rfl
 | flt _=>obtain⟨t,rfl⟩:=r;rfl
 | ref _=>cases r;rfl
 | ty _=>cases r;rfl
theorem RelV.inj{x y:V}{u:bQ}(r:RelV x u)(q:RelV y u):x=y:=Option.some.inj (r.abs.symm.trans q.abs)
theorem Vals.inj:∀{xs ys:List V} {us:List bQ},Vals xs us->Vals ys us->xs=ys
 | _,_,_,.nil,.nil=>rfl
 | _,_,_,.cons r t,.cons r' t'=>by rw[r.inj r',Vals.inj t t']
section
variable{X:Cx}{pins:List (bV×Obj)}{σ:St}{H:Hp}{s:bS}{a:bV}{xs ys:List V}
theorem SqL.of{K:bN}(h:H a=some (.lst xs)):SqL K H a xs:= .inl (.inl h)
theorem SqT.of{K:bN}(h:H a=some (.tup xs)):SqT K H a xs:= .inl (.inl h)
theorem Inv.list(I:Inv X pins σ H s)(h:SqL X.K H a xs):∃its:List bQ,Vals xs its/\PlainL s.heap a its.toArray/\xs.length<=sizeLine:=by
 rcases h with h|⟨o,its,n,hk,b,c,d,f,r⟩
 ·obtain⟨z,its,n,r,e⟩:=h.ok I.hok;exact⟨its,r,⟨_,n,e,rfl,rfl,rfl⟩,z⟩
 ·refine⟨its.toList,r,⟨o,n,I.kIn a o hk,b,c,by simpa using d⟩,?_⟩;have e:=r.length;simp only[dG]at e;omega
theorem Inv.tuple(I:Inv X pins σ H s)(h:SqT X.K H a xs):∃its:List bQ,Vals xs its/\IsTup s.heap a its.toArray/\xs.length<=sizeLine:=by
 rcases h with h|⟨o,its,n,hk,b,c,d,r⟩
 ·obtain⟨z,its,r,p⟩:=h.ok I.hok;exact⟨its,r,p,z⟩
 ·refine⟨its.toList,r,⟨o,I.kIn a o hk,b,n,by simpa using c⟩,?_⟩;have e:=r.length;simp only[dG]at e;omega
theorem Inv.list_inj(I:Inv X pins σ H s)(h:SqL X.K H a xs)(h':SqL X.K H a ys):xs=ys:=by
 obtain⟨f,r,⟨o,n,e,_,_,d⟩,_⟩:=I.list h;obtain⟨b,j,⟨l,k,g,_,_,c⟩,_⟩:=I.list h';rw[e]at g;cases g;rw[d]at c;injection c with d1 _
 have:f=b:=by simpa using congrArg mY d1
 subst this;exact r.inj j
theorem Inv.tuple_inj(I:Inv X pins σ H s)(h:SqT X.K H a xs)(h':SqT X.K H a ys):xs=ys:=by
 obtain⟨f,r,⟨o,e,_,n,d⟩,_⟩:=I.tuple h;obtain⟨b,j,⟨l,g,_,k,c⟩,_⟩:=I.tuple h';rw[e]at g;cases g;rw[d]at c;injection c with d1 _
 have:f=b:=by simpa using congrArg mY d1
 subst this;exact r.inj j
end
abbrev Cx.wish(X:Cx)(E:bQ->bS->Prop):Cx:={X with xe:=E}
abbrev Cx.nox(X:Cx):Cx:=X.wish λ_ _=>False
theorem Cx.Ok.wish{X:Cx}(ok:X.Ok)(E:bQ->bS->Prop):(X.wish E).Ok:=
 ⟨ok.mod,ok.kind,ok.glob,ok.blt,ok.above,ok.inj,ok.has,ok.cab,ok.hd,ok.frames,ok.stk,ok.exf,ok.bs,ok.bsz,ok.noex,ok.exfs,ok.funs,ok.frf⟩
theorem Cx.Ok.unwish{X:Cx}{E:bQ->bS->Prop}(ok:(X.wish E).Ok):X.Ok:=
 ⟨ok.mod,ok.kind,ok.glob,ok.blt,ok.above,ok.inj,ok.has,ok.cab,ok.hd,ok.frames,ok.stk,ok.exf,ok.bs,ok.bsz,ok.noex,ok.exfs,ok.funs,ok.frf⟩
section
variable{X:Cx}{pins:List (bV×Obj)}{σ:St}{H:Hp}{s:bS}{E:bQ->bS->Prop}
theorem Inv.wish(I:Inv X pins σ H s)(E:bQ->bS->Prop):Inv (X.wish E) pins σ H s:=⟨I.ok.wish E,I.os,I.bare,I.base,I.loc,I.cell,I.free,I.freeC,I.pin,I.hok,I.len⟩
theorem Inv.unwish(I:Inv (X.wish E) pins σ H s):Inv X pins σ H s:=⟨I.ok.unwish,I.os,I.bare,I.base,I.loc,I.cell,I.free,I.freeC,I.pin,I.hok,I.len⟩
theorem SP.unwish{D:Il}{f:Flow}{s':bS}(h:SP (X.wish E) pins D f s'):SP X pins D f s':=by
 cases f with
 | next=>obtain⟨a,b,I,q⟩:=h;exact⟨a,b,I.unwish,q⟩
 | brk=>obtain⟨a,b,I,q⟩:=h;exact⟨a,b,I.unwish,q⟩
 | cont=>obtain⟨a,b,I,q⟩:=h;exact⟨a,b,I.unwish,q⟩
 | ret u=>obtain⟨v,a,b,I,r,q⟩:=h;exact⟨v,a,b,I.unwish,r,q⟩
theorem PSs.nox{st:List Stmt}{t:TS}(h:PSs X.nox st t):PSs X st t:=λa s b H D I c=>
 eK (h a s b H D (I.wish _) c) (λ_ _ q=>q.unwish) λ_ _ z=>dI z
end
section
variable{X:Cx}{st:Stmt}{rest:List Stmt}{t u:TS}{e:Expr}{te:TE}{pos:Pos}
def Nn:TS:=λD σ H=>D.nx σ H
def L0(t u:TS):TS:=λD σ H=>t {D with nx:=u D} σ H
theorem rO:PSs X [] Nn:=λ_ _ a H _ I h=>fR ⟨a,H,I,h⟩
theorem rG(h1:PS X st t)(h2:PSs X rest u):PSs X (st::rest) (L0 t u):=by
 intro a s e H D I h;refine iw (Fw (h1 a s e H {D with nx:=u D} I h) λf g q=>?_)
 cases f with
 | next=>
  obtain⟨b,d,c,q⟩:=q;exact h2 a g b d D c q
 | ret v=>exact q
 | brk=>exact q
 | cont=>exact q
theorem rK(h1:PS X st t):PSs X [st] t:=by
 intro a s b H D I h;refine iw (Fw (h1 a s b H D I h) λf c q=>?_)
 cases f with
 | next=>exact fR q
 | ret v=>exact q
 | brk=>exact q
 | cont=>exact q
theorem Inv.quiet{pins:List (bV×Obj)}{σ:St}{H:Hp}{s:bS}(I:Inv X pins σ H s):interactive X.env=false:=by simp[interactive,I.ok.kind]
def L1(te:TE):TS:=λD σ H=>te σ H λ_ H1=>D.nx σ H1
theorem sw(he:PE X e te)(hs:swapsWith e none pos.line X.env=pure false:=by rfl):PS X (.Expr e pos) (L1 te):=by
 intro a s b H D I h;exact oH (Fw (he a s b H _ I h) λv j ⟨x,c,d,g,f⟩=>⟨b,c,d,f⟩) I.quiet hs
def NP(te:TE):TS:=λD σ H=>te σ H D.rt
theorem rQ(he:PE X e te):PS X (.Return (some e) pos) (NP te):=by
 intro a s b H D I h;exact wpAny_Return_some (Fw (he a s b H _ I h) λv j ⟨x,d,f,c,g⟩=>⟨x,b,d,f,c,g⟩)
def MU(c:TT)(t u:TS):TS:=λD σ H=>c σ H λb H1=>if b=true then t D σ H1 else u D σ H1
theorem sk{c:Expr}{a b:List Stmt}{tc:TT}(hc:PT X c tc)(ha:PSs X a t)(hb:PSs X b u):PS X (.If c a b pos) (MU tc t u):=by
 intro e s f H D I h;refine wpAny_If (Fw (hc e s f H _ I h) λd l ⟨g,k,j⟩=>?_)
 cases d with
 | true=>exact ha e l f g D k j
 | false=>exact hb e l f g D k j
def Mt:TS:=λ_ _ _=>False
theorem A0{sts:List Stmt}:PSs X sts Mt:=λ_ _ _ _ _ _ h=>h.elim
end
abbrev TG:=V->St->Hp->(St->Hp->Prop)->Prop
abbrev Ly:=List V->St->Hp->(St->Hp->Prop)->Prop
def PG(X:Cx)(target:Expr)(t:TG):Prop:=
 ∀(pins:List (bV×Obj)) (s:bS) (σ:St) (H:Hp) (v:V) (u:bQ) (Q:St->Hp->Prop),Inv X pins σ H s->RelV v u->t v σ H Q->
  wpAny (model X.prog X.w) X.A (assign target X.env u) (λ_ s'=>∃σ' H',Inv X pins σ' H' s'/\Q σ' H') X.xe s
def M3(X:Cx)(ts:List Expr)(t:Ly):Prop:=
 ∀(pins:List (bV×Obj)) (s:bS) (σ:St) (H:Hp) (vs:List V) (us:List bQ) (Q:St->Hp->Prop),Inv X pins σ H s->Vals vs us->t vs σ H Q->
  wpAny (model X.prog X.w) X.A (assignInOrder ((assignEach ts X.env).map (·.2)) us) (λ_ s'=>∃σ' H',Inv X pins σ' H' s'/\Q σ' H') X.xe s
abbrev Mu:=V->V->V->Hp->(Hp->Prop)->Prop
def LG(X:Cx)(t:Mu):Prop:=
 ∀(pins:List (bV×Obj)) (s:bS) (σ:St) (H:Hp) (o i v:V) (ov iv u:bQ) (Q:Hp->Prop),Inv X pins σ H s->RelV o ov->RelV i iv->RelV v u->t o i v H Q->
  wpAny (model X.prog X.w) X.A (setItem ov iv u) (λ_ s'=>∃H',Inv X pins σ H' s'/\Q H') X.xe s
section
variable{X:Cx}{pos:Pos}
def Ia(i:Nat):TG:=λv σ H Q=>Q (σ.set i (some v)) H
theorem rV{i:Nat}{x:Str}(hN:X.N.Nodup)(hi:X.N[i]?=some x)(hx:MG X.env.scope x)(hf:X.fn x=true\/X.env.scope.names.lookup x=some .local:=by first|exact .inl rfl|exact .inr rfl|assumption):PG X (.Name x pos) (Ia i):=by
 intro b s d H v u Q I r h;exact mZ (vN I hN hi hx r (λc a=>⟨_,H,a,h⟩) hf)
def Nk:Ly:=λvs σ H Q=>vs=[]/\Q σ H
def L9(t:TG)(u:Ly):Ly:=λvs σ H Q=>∃v r,vs=v::r/\t v σ H λσ' H'=>u r σ' H' Q
theorem uh:M3 X [] Nk:=by
 intro b s a H vs c Q I r h;obtain⟨e,h⟩:=h;subst e
 cases r;exact assignInOrder_nil ⟨a,H,I,h⟩
theorem sG{e:Expr}{es:List Expr}{t:TG}{u:Ly}(h1:PG X e t)(h2:M3 X es u)
  (hs:(assignEach (e::es) X.env).map (·.2)=assign e X.env::(assignEach es X.env).map (·.2):=by rfl):M3 X (e::es) (L9 t u):=by
 intro a s k H vs m Q I r h
 obtain⟨v,n,c,h⟩:=h
 subst c
 cases r with
 | cons r f=>
  rw[hs]
  refine assignInOrder_cons (Fw (h1 a s k H _ _ _ I r h) λ_ l ⟨b,j,d,g⟩=>?_)
  exact h2 a l b j _ _ Q d f g
def ML(K:bN)(n:Nat)(t:Ly):TG:=λv σ H Q=>∃a xs,v = .ref a/\SqT K H a xs/\xs.length=n/\t xs σ H Q
theorem xO{es:List Expr}{k:Nat}{t:Ly}{n:Nat}(hc:X.calm=true)(h:M3 X es t)
  (hn:(assignEach es X.env).length=n:=by rfl)(hst:(assignEach es X.env).findIdx? (·.1)=none:=by rfl):PG X (.Tuple es k pos) (ML X.K n t):=by
 intro c s f H v u Q I r d
 obtain⟨a,x,j,p,q,d⟩:=d
 subst j
 cases r
 obtain⟨z,g,m,A⟩:=I.tuple p
 refine assign_Tuple_tuple (I.ok.hd hc) m (by simp[hn,<-q,g.length]) hst λw y=>?_
 have l:Inv X c f H {s with heap:=w}:=I.kept (t':=s.toks) λb o e=>y b o (cF (b6 e)) e
 exact h c _ f H x _ Q l (by simpa using g) d
def Oe(to ti:TE)(t:Mu):TG:=λv σ H Q=>to σ H λo H1=>ti σ H1 λi H2=>t o i v H2 λH3=>Q σ H3
theorem wz{o i:Expr}{to ti:TE}{t:Mu}(ho:PE X o to)(hi:PE X i ti)(hs:LG X t)
  (ha:∀v,assign (.Subscript o i pos) X.env v=(do
   let ov<-holding [v] (eval o X.env)
   let iv<-holding [v,ov] (eval i X.env)
   standAt pos
   holding [v,ov,iv] (setItem ov iv v)
   release [v,ov,iv] []):=by intro _;rfl):PG X (.Subscript o i pos) (Oe to ti t):=by
 intro a s b H v u Q I r h
 rw[ha]
 refine bM (cR (Fw (ho a s b H _ I h) λov w ⟨x,m,g,j,l⟩=>?_))
 refine bM (cR (Fw (hi a w b m _ g l) λiv f ⟨y,p,e,c,k⟩=>?_))
 refine bM (ml (bM (cR (Fw (hs a f b p x y v ov iv u _ e j c r k) λ_ z ⟨q,d,n⟩=>?_))))
 exact wpAny_release ⟨b,q,d,n⟩
def LB(te:TE)(g:TG):TS:=λD σ H=>te σ H λx H1=>g x σ H1 D.nx
theorem vv{tg e:Expr}{te:TE}{g:TG}(he:PE X e te)(hg:PG X tg g)(hs:swapsWithSole [tg] e pos.line X.env=pure false:=by rfl)(hw:swappedStores [tg] e X.env=pure none:=by rfl)
  (h1:(assignEach [tg] X.env).map (·.2)=[assign tg X.env]:=by rfl):PS X (.Assign [tg] e pos) (LB te g):=by
 intro a s b H D I h
 refine wpAny_Assign_stores (Fw (he a s b H _ I h) λv k ⟨x,d,f,c,j⟩=>?_) hs hw
 rw[h1]
 exact Fw (hg a k b d x v _ f c j) λ_ l q=>q
theorem rM{i:Nat}{x:Str}{e:Expr}{te:TE}{pos':Pos}(hN:X.N.Nodup)(hi:X.N[i]?=some x)(hx:MG X.env.scope x)(he:PE X e te)(hs:swapsWith e (some (.Name x pos')) pos.line X.env=pure false:=by rfl)(hf:X.fn x=true\/X.env.scope.names.lookup x=some .local:=by first|exact .inl rfl|exact .inr rfl|assumption):
  PS X (.Assign [.Name x pos'] e pos) (LB te (Ia i)):=by
 intro a s d H D I h
 refine m3 (Fw (he a s d H _ I h) λv l ⟨y,c,j,b,g⟩=>?_) hs
 exact vN j hN hi hx b (λk f=>⟨_,c,f,g⟩) hf
end
section
variable{X:Cx}{pos:Pos}
def Lj(c:TT)(tb:TS):TS:=λD σ H=>∃W:Nat->St->Hp->Prop,(∃m,W m σ H)/\∀m σ H,W m σ H->
 c σ H λb H1=>if b=true then ∃N:St->Hp->Prop,(∀σ' H',N σ' H'->∃m',m'<m/\W m' σ' H')/\tb {D with nx:=N,ct:=N,bk:=D.nx} σ H1 else D.nx σ H1
theorem ux{c:Expr}{body:List Stmt}{tc:TT}{tb:TS}(hp:PassesOwn (model X.prog X.w) X.A X.env X.xe)(hc:PT X c tc)(hb:PSs X body tb):PS X (.While c body [] pos) (Lj tc tb):=by
 intro d s J H D I h;obtain⟨W,⟨F,G⟩,q⟩:=h;refine wpAny_While (codeAny_whileLoop (λn z=>∃σ' H',Inv X d σ' H' z/\W n σ' H') ?_ F ⟨J,H,I,G⟩);rintro n K ⟨e,u,C,E⟩;refine gt hp (Fw (hc d K e u _ C (q n e u E)) λb B ⟨y,t,j⟩=>?_)
 cases b with
 | true=>
  obtain⟨N,x,j⟩:=j;rw[if_pos rfl];refine gt hp (Fw (hb d B e y _ t j) λf L k=>?_)
  cases f with
  | next=>
   obtain⟨a,g,m,p⟩:=k;obtain⟨o,r,l⟩:=x a g p;exact⟨o,r,a,g,m,l⟩
  | cont=>
   obtain⟨a,g,m,p⟩:=k;obtain⟨o,r,l⟩:=x a g p;exact⟨o,r,a,g,m,l⟩
  | brk=>exact k
  | ret v=>exact k
 | false=>
  rw[if_neg cA];exact fR ⟨e,y,t,j⟩
end
structure It where
 go:Nat->Hp->Prop
 yld:Nat->Hp->V->Hp->Prop
 stop:Nat->Hp->Prop
def HP(X:Cx)(pins:List (bV×Obj))(H:Hp)(b:bV):Prop:=
 H b=none/\b≠X.env.locals/\b∉X.fs/\(b∈X.ex\/X.s₀.heap.objs.size<=b)/\(∀x c,X.env.cells.lookup x=some c->c≠b)/\∀p∈X.pn++pins,p.1≠b
theorem Inv.fpOk{X:Cx}{pins:List (bV×Obj)}{σ:St}{H H':Hp}{s:bS}{b:bV}(I:Inv X pins σ H s)(hb:s.heap.objs.size<=b)(hn:H' b=none):HP X pins H' b:=by
 refine⟨hn,gM (ci I.lt hb),I.nofs hb,.inr (cG I.sz hb),λx c e z=>?_,λp hp z=>?_⟩
 ·obtain⟨v,q⟩:=I.cell x c e;exact absurd (ci q.lt (by rw[z];exact hb)) (cJ _)
 ·exact absurd (ci (b6 (I.pin p hp).1) (by rw[z];exact hb)) (cJ _)
structure JY(P:cg)(w:cC)(K:bN)(tg:Expr)(J:It)(fp:List bV)(it:bV)(tn:Nat->Heap->Prop):Prop where
 mem:it∈fp
 obj:∀i h,tn i h->∀b∈fp,∃o,h.get? b=some o/\∀v,o.data≠ .cell v
 keep:∀i h h',tn i h->(∀b∈fp,∀o,h.get? b=some o->h'.get? b=some o)->tn i h'
 item:∀(X:Cx),X.prog=P->X.w=w->X.K=K->X.calm=true->∀(i:Nat) (pins:List (bV×Obj)) (s:bS) (σ:St) (H:Hp) (E:bQ->bS->Prop),Inv X pins σ H s->(∀b∈fp,HP X pins H b)->tn i s.heap->J.go i H->
  wpAny (model P w) X.A (pyNext (.ref it)) (λr s1=>∃u,r=some u/\
   wpAny (model P w) X.A (letOwnedTupleGo tg (.ref it) u) (λ_ s2=>∃x H',Inv X pins σ H' s2/\RelV x u/\J.yld i H x H'/\tn (i+1) s2.heap/\∀b∈fp,H' b=none) E s1) E s
 done:∀(X:Cx),X.prog=P->X.w=w->X.K=K->X.calm=true->∀(i:Nat) (pins:List (bV×Obj)) (s:bS) (σ:St) (H:Hp) (E:bQ->bS->Prop),Inv X pins σ H s->(∀b∈fp,HP X pins H b)->tn i s.heap->J.stop i H->
  wpAny (model P w) X.A (pyNext (.ref it)) (λr s1=>r=none/\Inv X pins σ H s1) E s
 self:∀(A:cO) (i:Nat) (s:bS) (Q:bQ->bS->Prop) (E:bQ->bS->Prop),tn i s.heap->Q (.ref it) s->wpAny (model P w) A (pyIter (.ref it)) Q E s
abbrev TI:=St->Hp->(It->Hp->Prop)->Prop
def NU(X:Cx)(pins:List (bV×Obj))(σ:St)(tg:Expr)(R:It->Hp->Prop)(itv:bQ)(s2:bS):Prop:=
 ∃(it:bV) (fp:List bV) (tn:Nat->Heap->Prop) (J:It) (H':Hp),itv = .ref it/\Inv X pins σ H' s2/\JY X.prog X.w X.K tg J fp it tn/\tn 0 s2.heap/\(∀b∈fp,HP X pins H' b)/\R J H'
def PI(X:Cx)(tg iter:Expr)(wi:TI):Prop:=
 ∀(pins:List (bV×Obj)) (s:bS) (σ:St) (H:Hp) (R:It->Hp->Prop),Inv X pins σ H s->wi σ H R->
  wpAny (model X.prog X.w) X.A (eval iter X.env) (λv s1=>wpAny (model X.prog X.w) X.A (pyIter v) (NU X pins σ tg R) X.xe s1) X.xe s
theorem C3{M:Model}{A:cO}{E:bQ->bS->Prop}{s:bS}{tg:Expr}{it:bV}{u:bQ}{o:Obj}{n:String}{vs:Array bQ}{Q:Unit->bS->Prop}(ho:s.heap.get? it=some o)(hc:o.cls = .type n)(hd:o.data = .fields vs)
  (hn:["enumerate","zip","dict_itemiterator","dict_reverseitemiterator","odict_iterator","itertools.zip_longest","itertools.pairwise"].contains n=false)(hQ:Q () s):wpAny M A (letOwnedTupleGo tg (.ref it) u) Q E s:=by
 unfold letOwnedTupleGo
 cases tg <;> first
  | exact bO hQ
  | (cases u <;> first
    | exact bO hQ
    | (refine bM (wpAny_load ho ?_);rw[hc,hd];show wpAny M A (if(["enumerate","zip","dict_itemiterator","dict_reverseitemiterator","odict_iterator","itertools.zip_longest","itertools.pairwise"].contains n&&vs[0]?==some (rawInt _))=true then _ else _) Q E s;rw[if_neg (by intro h;rw[hn,iT]at h;cases h)];exact bO hQ))
def Mo(K:bN)(a:bV):It:=
 ⟨λi H=>∃xs x,SqL K H a xs/\xs[i]?=some x,λi H x H'=>H'=H/\∀xs,SqL K H a xs->xs[i]?=some x,λi H=>∃xs,SqL K H a xs/\xs.length<=i⟩
def Mr(K:bN)(a:bV):It:=
 ⟨λi H=>∃xs x,SqT K H a xs/\xs[i]?=some x,λi H x H'=>H'=H/\∀xs,SqT K H a xs->xs[i]?=some x,λi H=>∃xs,SqT K H a xs/\xs.length<=i⟩
def LZ(lo:Int)(n:Nat):It:=⟨λi _=>i<n,λi H x H'=>H'=H/\x = .int (lo+i),λi _=>n<=i⟩
theorem Bb{P:cg}{w:cC}{K:bN}{tg:Expr}(a it:bV):JY P w K tg (Mo K a) [it] it (λi h=>h.IsListIter it a i) where
 mem:=by simp
 obj:=λi h st b f=>by
  have e:b=it:=by simpa using f
  subst e
  obtain⟨o,e,c,d⟩:=st
  exact⟨o,e,λv z=>by rw[d]at z;cases z⟩
 keep:=λi h m st k=>st.at λo e=>k it (by simp) o e
 item:=by
  intro X q F r L i g s N H E I j st D
  subst q F r
  obtain⟨Y,x,l,G⟩:=D
  obtain⟨M,J,p,O⟩:=I.list l
  obtain⟨u,U,T⟩:=J.get G
  obtain⟨C,A,S,y,t,B⟩:=j it (by simp)
  refine wpAny_pyNext_list_item st p.isList (x:=u) (by simpa using U) λm n Z=>?_
  have R:Inv X g N H {s with heap:=m}:=I.turned (t':=s.toks) (λb o f e=>(Z.2 b f).trans e) C A y t B
  obtain⟨o,e,c,d⟩:=id n
  exact⟨u,rfl,C3 (s:={s with heap:=m}) e c d (by decide) ⟨x,H,R,T,⟨rfl,λys V=>by rw[I.list_inj V l];exact G⟩,n,λb f=>(j b f).1⟩⟩
 done:=by
  intro X q F r L i g s N H E I j st D
  subst q F r
  obtain⟨Y,l,G⟩:=D
  obtain⟨M,J,p,O⟩:=I.list l
  obtain⟨C,A,S,y,t,B⟩:=j it (by simp)
  have hl:=J.length
  exact wpAny_pyNext_list_end (I.ok.hd L) st p.isList (by simp;omega) λm Q=>⟨rfl,I.turned (t':=s.toks) (λb o f e=>Q b o f e) C A y t B⟩
 self:=λ_ _ _ _ _ st h=>wpAny_pyIter_listiter st h
theorem zL{P:cg}{w:cC}{K:bN}{tg:Expr}(a it:bV):JY P w K tg (Mr K a) [it] it (λi h=>h.IsTupleIter it a i) where
 mem:=by simp
 obj:=λi h st b f=>by
  have e:b=it:=by simpa using f
  subst e
  obtain⟨o,e,c,d⟩:=st
  exact⟨o,e,λv z=>by rw[d]at z;cases z⟩
 keep:=λi h n st k=>st.at λo e=>k it (by simp) o e
 item:=by
  intro X r G t M i j s N H E I l st F
  subst r G t
  obtain⟨Y,x,m,J⟩:=F
  obtain⟨g,L,p,O⟩:=I.tuple m
  obtain⟨u,U,T⟩:=L.get J
  obtain⟨D,B,S,A,y,C⟩:=l it (by simp)
  refine wpAny_pyNext_tuple_item st (show s.heap.IsTuple a g.toArray from p) (x:=u) (by simpa using U) λn q Z=>?_
  have R:Inv X j N H {s with heap:=n}:=I.turned (t':=s.toks) (λb o f e=>(Z.2 b f).trans e) D B A y C
  obtain⟨o,e,c,d⟩:=id q
  exact⟨u,rfl,C3 (s:={s with heap:=n}) e c d (by decide) ⟨x,H,R,T,⟨rfl,λys V=>by rw[I.tuple_inj V m];exact J⟩,q,λb f=>(l b f).1⟩⟩
 done:=by
  intro X r G t M i j s N H E I l st F
  subst r G t
  obtain⟨Y,m,J⟩:=F
  obtain⟨g,L,p,O⟩:=I.tuple m
  obtain⟨D,B,S,A,y,C⟩:=l it (by simp)
  have hl:=L.length
  exact wpAny_pyNext_tuple_end (I.ok.hd M) st (show s.heap.IsTuple a g.toArray from p) (by simp;omega) λn Q=>⟨rfl,I.turned (t':=s.toks) (λb o f e=>Q b o f e) D B A y C⟩
 self:=λ_ _ _ _ _ st h=>wpAny_pyIter_tupleiter st h
theorem zT{P:cg}{w:cC}{K:bN}{tg:Expr}(it:bV)(lo:Int)(n:Nat):JY P w K tg (LZ lo n) [it] it (λi h=>IsRangeIter h it (lo+(i:Nat)*1) ((n:Int)-(i:Nat)) 1) where
 mem:=by simp
 obj:=λi h st b a=>by
  have e:b=it:=by simpa using a
  subst e
  exact⟨_,st,λv z=>by
   have G:lO _=Data.cell v:=z
   cases G⟩
 keep:=λi h f st k=>k it (by simp) _ st
 item:=by
  intro X l A m j i c s B H E I d st y
  subst l A m
  obtain⟨x,r,F,q,p,u⟩:=d it (by simp)
  have W:=Walks.range (prog:=X.prog) (w:=X.w) (I.ok.hd j) it lo 1 n
  refine W.item i s _ _ y st λv f tk J g L=>?_
  obtain⟨t,rfl⟩:=J
  have D:Inv X c B H {s with heap:=f,toks:=tk}:=I.turned (λb o a e=>L b o (by simpa using a) e) x r q p u
  refine⟨_,rfl,C3 (s:={s with heap:=f,toks:=tk}) (n:="range_iterator") g rfl rfl (by decide) ⟨.int (lo+i),H,D,⟨t,?_⟩,⟨rfl,rfl⟩,g,λb a=>(d b a).1⟩⟩
  rw[gJ]
 done:=by
  intro X l A m j i c s B H E I d st y
  subst l A m
  obtain⟨x,r,F,q,p,u⟩:=d it (by simp)
  exact wpAny_pyNext_range_end (I.ok.hd j) st (by have:n<=i:=y;omega) λf C=>⟨rfl,I.turned (t':=s.toks) (λb o a e=>C b o a e) x r q p u⟩
 self:=λ_ _ _ _ _ st h=>wpAny_pyIter_rangeiter st h
section
variable{X:Cx}{tg:Expr}
def Ma(K:bN)(tl:TE):TI:=λσ H R=>tl σ H λx H1=>∃a,x = .ref a/\(∃xs,SqL K H1 a xs)/\R (Mo K a) H1
def NA(K:bN)(tl:TE):TI:=λσ H R=>tl σ H λx H1=>∃a,x = .ref a/\(∃xs,SqT K H1 a xs)/\R (Mr K a) H1
theorem tD{l:Expr}{tl:TE}(hl:PE X l tl):PI X tg l (Ma X.K tl):=by
 intro f s r H R I h;refine Fw (hl f s r H _ I h) λv c ⟨x,m,d,g,k⟩=>?_;obtain⟨a,e,⟨w,j⟩,q⟩:=k;subst e
 cases g;obtain⟨t,y,p,u⟩:=d.list j;refine g8 p.isList ?_;refine⟨c.heap.objs.size,[c.heap.objs.size],_,_,m,rfl,d.kept (t':=c.toks) λb o e=>bU _ e,Bb a _,⟨_,b4 _ rfl,rfl,rfl⟩,λb n=>?_,q⟩;have e:b=c.heap.objs.size:=by simpa using n
 subst e;exact d.fpOk (bX _) (d.hok.fresh (bX _))
theorem v6{l:Expr}{tl:TE}(hl:PE X l tl):PI X tg l (NA X.K tl):=by
 intro f s t H R I h;refine Fw (hl f s t H _ I h) λv c ⟨x,n,d,j,m⟩=>?_;obtain⟨a,e,⟨w,k⟩,q⟩:=m;subst e
 cases j;obtain⟨g,y,p,u⟩:=d.tuple k;refine mE (show c.heap.IsTuple a g.toArray from p) ?_;refine⟨c.heap.objs.size,[c.heap.objs.size],_,_,n,rfl,d.kept (t':=c.toks) λb o e=>bU _ e,zL a _,⟨_,b4 _ rfl,rfl,rfl⟩,λb r=>?_,q⟩;have e:b=c.heap.objs.size:=by simpa using r
 subst e;exact d.fpOk (bX _) (d.hok.fresh (bX _))
theorem zA{pins:List (bV×Obj)}{σ:St}{H:Hp}{s:bS}{R:It->Hp->Prop}{E:bQ->bS->Prop}{lo hi:Int}{t u v:Tok}{tk:Nat}(I:Inv X pins σ H s)(h1: -(2^62)<=lo)(h2:lo<2^62)(h3: -(2^62)<=hi)(h4:hi<2^62)
  (q:R (LZ lo (hi-lo).toNat) H):wpAny (model X.prog X.w) X.A (pyIter (.ref s.heap.objs.size)) (NU X pins σ tg R) E {s with heap:=s.heap.push {cls:= .type "range",data:= .fields #[.int lo t,.int hi u,.int 1 v]},toks:=tk}:=by
 refine wpAny_pyIter_range (IsRange.new ..) (small_one h1 h2 h3 h4) ?_
 have a:Inv X pins σ H {s with heap:=s.heap.push {cls:= .type "range",data:= .fields #[.int lo t,.int hi u,.int 1 v]},toks:=tk}:=I.kept λb o e=>bU _ e
 refine⟨(s.heap.push {cls:= .type "range",data:= .fields #[.int lo t,.int hi u,.int 1 v]}).objs.size,[(s.heap.push {cls:= .type "range",data:= .fields #[.int lo t,.int hi u,.int 1 v]}).objs.size],_,_,H,rfl,
  a.kept (t':=tk) λb o e=>bU _ e,zT _ lo (hi-lo).toNat,?_,λb f=>?_,q⟩
 ·have d:lo+((0:Nat):Int)*1=lo:=by simp
  have c:(((hi-lo).toNat:Nat):Int)-((0:Nat):Int)=p7 lo hi 1:=by rw[rangeSize_one];split <;> omega
  show IsRangeIter _ _ (lo+((0:Nat):Int)*1) ((((hi-lo).toNat:Nat):Int)-((0:Nat):Int)) 1
  rw[d,c]
  exact b4 _ rfl
 ·have e:b=(s.heap.push {cls:= .type "range",data:= .fields #[.int lo t,.int hi u,.int 1 v]}).objs.size:=by simpa using f
  subst e
  exact a.fpOk (bX _) (a.hok.fresh (bX _))
def Np(ta:TA):TI:=λσ H R=>ta σ H λvs H1=>∃j:Int,vs=[.int j]/\ -(2^62)<=j/\j<2^62/\R (LZ 0 j.toNat) H1
def Nj(ta:TA):TI:=λσ H R=>ta σ H λvs H1=>∃i j:Int,vs=[.int i,.int j]/\(-(2^62)<=i/\i<2^62/\ -(2^62)<=j/\j<2^62)/\R (LZ i (j-i).toNat) H1
theorem sH{a:Expr}{ta:TA}{p pos:Pos}(hg:Gl X "range")(hm:X.mg "range"=none)(ha:PA X [a] ta)(hs:cD [a] X.env=[(false,eval a X.env)]:=by rfl):PI X tg (.Call (.Name "range" p) [a] [] pos) (Np ta):=by
 intro b s l H R I h;refine rk (t7 I hg hm boot_range (du (Fw (ha pos b s l H _ I h) λm o ⟨vs,n,d,f,c⟩=>?_) hs rfl));obtain⟨j,e,c,g,q⟩:=c;subst e
 cases f with
 | cons r k=>
  cases k;obtain⟨t,rfl⟩:=r;exact call_range_1 (zA d (by omega) (by omega) c g (by simpa using q))
theorem Bd{a b:Expr}{ta:TA}{p pos:Pos}(hg:Gl X "range")(hm:X.mg "range"=none)(ha:PA X [a,b] ta)(hs:cD [a,b] X.env=[(false,eval a X.env),(false,eval b X.env)]:=by rfl)(hs2:cD [b] X.env=[(false,eval b X.env)]:=by rfl):
  PI X tg (.Call (.Name "range" p) [a,b] [] pos) (Nj ta):=by
 intro c s u H R I h
 refine rk (t7 I hg hm boot_range (du (Fw (ha pos c s u H _ I h) λv y ⟨vs,w,g,k,f⟩=>?_) (by rw[hs,hs2]) (by rw[hs2];rfl)))
 obtain⟨i,j,e,⟨f,m,n,l⟩,q⟩:=f
 subst e
 cases k with
 | cons r d=>
  cases d with
  | cons o d=>
   cases d
   obtain⟨t,rfl⟩:=r
   obtain⟨x,rfl⟩:=o
   exact call_range_2 (zA g f m n l q)
def NR(wi:TI)(g:TG)(tb:TS):TS:=λD σ H=>wi σ H λJ H1=>∃W:Nat->Nat->St->Hp->Prop,(∃m,W 0 m σ H1)/\∀i m σ H,W i m σ H->
 (J.stop i H/\D.nx σ H)\/(J.go i H/\∃N:St->Hp->Prop,(∀σ' H',N σ' H'->∃m',m'<m/\W (i+1) m' σ' H')/\∀x H',J.yld i H x H'->g x σ H' λσ2 H2=>tb {D with nx:=N,ct:=N,bk:=D.nx} σ2 H2)
def Ix(fp:List bV)(h:Heap):List (bV×Obj):=fp.filterMap λb=>(h.get? b).map λo=>(b,o)
theorem uz{fp:List bV}{h:Heap}{b:bV}{o:Obj}(hb:b∈fp)(e:h.get? b=some o):(b,o)∈Ix fp h:=gd.mpr ⟨b,hb,by rw[e];rfl⟩
theorem AG{fp:List bV}{h:Heap}{p:bV×Obj}(hp:p∈Ix fp h):p.1∈fp/\h.get? p.1=some p.2:=by
 obtain⟨b,c,e⟩:=gd.mp hp
 cases q:h.get? b with
 | none=>rw[q]at e;cases e
 | some o=>
  rw[q]at e;have a:(b,o)=p:=Option.some.inj e;subst a;exact⟨c,q⟩
theorem Inv.pinned{pins:List (bV×Obj)}{σ:St}{H:Hp}{s:bS}{fp:List bV}(I:Inv X pins σ H s)(hf:∀b∈fp,HP X pins H b)(ho:∀b∈fp,∃o,s.heap.get? b=some o/\∀v,o.data≠ .cell v):Inv X (pins++Ix fp s.heap) σ H s:=
 I.pins_of λp hp=>(cN.mp hp).elim (λz=>I.pin p (dc _ z)) λz=>by
  obtain⟨c,e⟩:=AG z
  obtain⟨g,h,f,_⟩:=hf p.1 c
  obtain⟨o,a,d⟩:=ho p.1 c
  rw[e]at a;cases a
  exact⟨e,g,h,f,d⟩
theorem Inv.unpinned{pins pl:List (bV×Obj)}{σ:St}{H:Hp}{s:bS}(I:Inv X (pins++pl) σ H s):Inv X pins σ H s:=I.pins_of λp hp=>I.pin p (dc _ (gu _ hp))
theorem tP{iter:Expr}{body:List Stmt}{wi:TI}{g:TG}{tb:TS}{pos:Pos}(hp:PassesOwn (model X.prog X.w) X.A X.env X.xe)(hc:X.calm=true)(hi:PI X tg iter wi)(hg:PG X tg g)(hb:PSs X body tb)
  (hs:∀x,foldedSetIterable iter X.env x=pure x:=by intro _;rfl):PS X (.For tg iter body [] pos) (NR wi g tb):=by
 intro c s σ H D I h
 refine wpAny_For (Fw (hi c s σ H _ I h) λv s1 h1=>Fw h1 λab s2 h2=>?_) hs
 obtain⟨it,B,V,J,H2,e,I2,T,S,Y,W,⟨m0,w0⟩,G⟩:=h2
 subst e
 have q:∀{H':Hp},(∀b∈B,H' b=none)->∀b∈B,HP X c H' b:=λhn b hb=>⟨hn b hb,(Y b hb).2⟩
 refine codeAny_forLoop_any (λn U=>∃i σ' H',Inv X c σ' H' U/\V i U.heap/\(∀b∈B,H' b=none)/\W i n σ' H') ?_ m0 ⟨0,σ,H2,I2,S,λb hb=>(Y b hb).1,w0⟩
 rintro n R ⟨i,p,C,O,F,E,w3⟩
 rcases G i n p C w3 with⟨stop,qn⟩|⟨go,N,hN,L⟩
 ·refine gt hp (Fw (T.done X rfl rfl rfl hc i c R p C X.xe O (q E) F stop) λr s4 ⟨K,I4⟩=>?_)
  subst K
  exact fR ⟨p,C,I4,qn⟩
 ·refine gt hp (Fw (T.item X rfl rfl rfl hc i c R p C X.xe O (q E) F go) λr s4 ⟨u,K,h4⟩=>?_)
  subst K
  refine gt hp (Fw h4 λ_ s5 ⟨x,Q,I5,r5,y5,y,P⟩=>?_)
  have Z:=I5.pinned (q P) (T.obj _ _ y)
  refine gt hp (Fw (hg _ s5 p Q x u _ Z r5 (L x Q y5)) λ_ s6 ⟨aa,H6,I6,q6⟩=>?_)
  refine gt hp (Fw (hb _ s6 aa H6 _ I6 q6) λf M l=>?_)
  have t:∀{a:St} {j:Hp},Inv X (c++Ix B s5.heap) a j M->N a j->∃m,m<n/\∃i σ' H',Inv X c σ' H' M/\V i M.heap/\(∀b∈B,H' b=none)/\W i m σ' H':=λ {a j} k z=>by
   obtain⟨m',hm,w7⟩:=hN a j z
   refine⟨m',hm,i+1,a,j,k.unpinned,T.keep _ _ _ y λb hb o e=>(k.pin (b,o) (dc _ (dc _ (uz hb e)))).1,λb hb=>?_,w7⟩
   obtain⟨o,e,d⟩:=T.obj _ _ y b hb
   exact(k.pin (b,o) (dc _ (dc _ (uz hb e)))).2.1
  cases f with
  | next=>obtain⟨a,j,k,z⟩:=l;exact t k z
  | cont=>obtain⟨a,j,k,z⟩:=l;exact t k z
  | brk=>obtain⟨a,j,k,l⟩:=l;exact⟨a,j,k.unpinned,l⟩
  | ret v=>obtain⟨x7,a,j,k,r7,l⟩:=l;exact⟨x7,a,j,k.unpinned,r7,l⟩
end
theorem vD{K:bN}{a:bV}{xs:List V}{g:TG}{tb:TS}{D:Il}{σ:St}{H:Hp}(Pv:Nat->St->Hp->Prop)(h0:Pv 0 σ H)(hl:∀i σ H,i<=xs.length->Pv i σ H->SqL K H a xs)
  (hs:∀i x σ H,xs[i]?=some x->Pv i σ H->g x σ H λσ2 H2=>tb {D with nx:=Pv (i+1),ct:=Pv (i+1),bk:=D.nx} σ2 H2)(hd:∀σ H,Pv xs.length σ H->D.nx σ H):
  ∃W:Nat->Nat->St->Hp->Prop,(∃m,W 0 m σ H)/\∀i m σ H,W i m σ H->
   ((Mo K a).stop i H/\D.nx σ H)\/((Mo K a).go i H/\∃N:St->Hp->Prop,(∀σ' H',N σ' H'->∃m',m'<m/\W (i+1) m' σ' H')/\∀x H',(Mo K a).yld i H x H'->g x σ H' λσ2 H2=>tb {D with nx:=N,ct:=N,bk:=D.nx} σ2 H2):=by
 refine⟨λi m σ H=>m=xs.length-i/\i<=xs.length/\Pv i σ H,⟨xs.length,by simp,cM _,h0⟩,?_⟩
 rintro i m σ H ⟨rfl,d,p⟩
 have q:=hl i σ H d p
 by_cases b:i<xs.length
 ·refine .inr ⟨⟨xs,xs[i],q,by simp[b]⟩,Pv (i+1),λσ' H' c=>⟨xs.length-(i+1),by omega,rfl,b,c⟩,λx H' y=>?_⟩
  obtain⟨e,y⟩:=y
  subst e
  exact hs i x σ _ (y xs q) p
 ·have e:i=xs.length:=by omega
  subst e
  exact .inl ⟨⟨xs,q,bX _⟩,hd σ H p⟩
theorem DY{K:bN}{a:bV}{xs:List V}{g:TG}{tb:TS}{D:Il}{σ:St}{H:Hp}(Pv:Nat->St->Hp->Prop)(h0:Pv 0 σ H)(hl:∀i σ H,i<=xs.length->Pv i σ H->SqT K H a xs)
  (hs:∀i x σ H,xs[i]?=some x->Pv i σ H->g x σ H λσ2 H2=>tb {D with nx:=Pv (i+1),ct:=Pv (i+1),bk:=D.nx} σ2 H2)(hd:∀σ H,Pv xs.length σ H->D.nx σ H):
  ∃W:Nat->Nat->St->Hp->Prop,(∃m,W 0 m σ H)/\∀i m σ H,W i m σ H->
   ((Mr K a).stop i H/\D.nx σ H)\/((Mr K a).go i H/\∃N:St->Hp->Prop,(∀σ' H',N σ' H'->∃m',m'<m/\W (i+1) m' σ' H')/\∀x H',(Mr K a).yld i H x H'->g x σ H' λσ2 H2=>tb {D with nx:=N,ct:=N,bk:=D.nx} σ2 H2):=by
 refine⟨λi m σ H=>m=xs.length-i/\i<=xs.length/\Pv i σ H,⟨xs.length,by simp,cM _,h0⟩,?_⟩
 rintro i m σ H ⟨rfl,d,p⟩
 have q:=hl i σ H d p
 by_cases b:i<xs.length
 ·refine .inr ⟨⟨xs,xs[i],q,by simp[b]⟩,Pv (i+1),λσ' H' c=>⟨xs.length-(i+1),by omega,rfl,b,c⟩,λx H' y=>?_⟩
  obtain⟨e,y⟩:=y
  subst e
  exact hs i x σ _ (y xs q) p
 ·have e:i=xs.length:=by omega
  subst e
  exact .inl ⟨⟨xs,q,bX _⟩,hd σ H p⟩
theorem sQ{lo:Int}{n:Nat}{g:TG}{tb:TS}{D:Il}{σ:St}{H:Hp}(Pv:Nat->St->Hp->Prop)(h0:Pv 0 σ H)
  (hs:∀i σ H,i<n->Pv i σ H->g (.int (lo+i)) σ H λσ2 H2=>tb {D with nx:=Pv (i+1),ct:=Pv (i+1),bk:=D.nx} σ2 H2)(hd:∀σ H,Pv n σ H->D.nx σ H):
  ∃W:Nat->Nat->St->Hp->Prop,(∃m,W 0 m σ H)/\∀i m σ H,W i m σ H->
   ((LZ lo n).stop i H/\D.nx σ H)\/((LZ lo n).go i H/\∃N:St->Hp->Prop,(∀σ' H',N σ' H'->∃m',m'<m/\W (i+1) m' σ' H')/\∀x H',(LZ lo n).yld i H x H'->g x σ H' λσ2 H2=>tb {D with nx:=N,ct:=N,bk:=D.nx} σ2 H2):=by
 refine⟨λi m σ H=>m=n-i/\i<=n/\Pv i σ H,⟨n,by simp,cM _,h0⟩,?_⟩
 rintro i m σ H ⟨rfl,c,p⟩
 by_cases a:i<n
 ·refine .inr ⟨a,Pv (i+1),λσ' H' b=>⟨n-(i+1),by omega,rfl,a,b⟩,λx H' y=>?_⟩
  obtain⟨e,y⟩:=y
  subst e y
  exact hs i σ _ a p
 ·have e:i=n:=by omega
  subst e
  exact .inl ⟨bX _,hd σ H p⟩
abbrev R2:=V->V->Hp->VK->Prop
def Gx(X:Cx)(f:bQ->bQ->Sem bQ)(r:R2):Prop:=
 ∀(pins:List (bV×Obj)) (s:bS) (σ:St) (H:Hp) (x y:V) (v u:bQ) (Q:VK),Inv X pins σ H s->RelV x v->RelV y u->r x y H Q->
  wpAny (model X.prog X.w) X.A (f v u) (EP X pins σ Q) X.xe s
def Og(X:Cx)(f:bQ->Sem bQ)(r:V->Hp->VK->Prop):Prop:=
 ∀(pins:List (bV×Obj)) (s:bS) (σ:St) (H:Hp) (x:V) (v:bQ) (Q:VK),Inv X pins σ H s->RelV x v->r x H Q->
  wpAny (model X.prog X.w) X.A (f v) (EP X pins σ Q) X.xe s
def FW(X:Cx)(f:bQ)(r:List V->Hp->VK->Prop):Prop:=
 ∀(pins:List (bV×Obj)) (s:bS) (σ:St) (H:Hp) (xs:List V) (us:List bQ) (Q:VK),Inv X pins σ H s->Vals xs us->r xs H Q->
  wpAny (model X.prog X.w) X.A (call f us) (EP X pins σ Q) X.xe s
def N8(X:Cx)(r:V->Hp->(Bool->Hp->Prop)->Prop):Prop:=
 ∀(pins:List (bV×Obj)) (s:bS) (σ:St) (H:Hp) (x:V) (v:bQ) (Q:Bool->Hp->Prop),Inv X pins σ H s->RelV x v->r x H Q->
  wpAny (model X.prog X.w) X.A (truthy v) (TP X pins σ Q) X.xe s
def Mm(r:R2)(ta tb:TE):TE:=λσ H Q=>ta σ H λx H1=>tb σ H1 λy H2=>r x y H2 Q
def Oj(r:V->Hp->VK->Prop)(ta:TE):TE:=λσ H Q=>ta σ H λx H1=>r x H1 Q
def rI(C:Int->Int->Prop)(g:Int->Int->V):R2:=λx y H Q=>∃i j,x = .int i/\y = .int j/\C i j/\Q (g i j) H
def MM(g:Int->Int->V):R2:=λx y H Q=>∃i j,x = .int i/\y = .int j/\Q (g i j) H
def rU(g:Int->V):V->Hp->VK->Prop:=λx H Q=>∃i,x = .int i/\Q (g i) H
section
variable{X:Cx}{a b c:Expr}{ta tb tc:TE}{pos:Pos}
theorem MI(ha:PE X a ta)(hb:PE X b tb){pins:List (bV×Obj)}{s:bS}{σ:St}{H:Hp}{R:V->V->Hp->Prop}(I:Inv X pins σ H s)
  (h:ta σ H λx H1=>tb σ H1 λy H2=>R x y H2){Q:bQ->bS->Prop}{f:bQ->bQ->Sem bQ}
  (hf:∀v u s2 x y H2,Inv X pins σ H2 s2->RelV x v->RelV y u->R x y H2->wpAny (model X.prog X.w) X.A (f v u) Q X.xe s2):
  wpAny (model X.prog X.w) X.A (eval a X.env) (λv s₁=>wpAny (model X.prog X.w) X.A (eval b X.env) (λu s₂=>wpAny (model X.prog X.w) X.A (f v u) Q X.xe s₂) X.xe s₁) X.xe s:=by
 refine Fw (ha pins s σ H _ I h) λv l ⟨x,H1,j,d,k⟩=>?_
 refine Fw (hb pins l σ H1 _ j k) λu s2 ⟨y,H2,e,c,g⟩=>?_
 exact hf v u s2 x y H2 e d c g
theorem rP{op:Operator}{r:R2}(ho:Gx X (binaryOp op) r)(ha:PE X a ta)(hb:PE X b tb):PE X (.BinOp a op b pos) (Mm r ta tb):=by
 intro c s f H Q I h;exact wpAny_BinOp (MI ha hb I h λv u j x y k g d e q=>ho c j f k x y v u Q g d e q)
theorem Bo{op:UnaryOp}{r:V->Hp->VK->Prop}(ho:Og X (unaryOp op) r)(ha:PE X a ta):PE X (.UnaryOp op a pos) (Oj r ta):=by
 intro b s c H Q I h;exact UnaryOp_ (Fw (ha b s c H _ I h) λv j ⟨x,e,f,d,g⟩=>ho b j c e x v Q f d g)
theorem NH{f:bQ->bQ->Sem bQ}{C:Int->Int->Prop}{g:Int->Int->Int}
  (rule:∀(i j:Int) (t u:Tok) (s:bS) (Q:bQ->bS->Prop) (E:bQ->bS->Prop),C i j->Q (.int (g i j) s.toks) {s with toks:=s.toks+1}->wpAny (model X.prog X.w) X.A (f (.int i t) (.int j u)) Q E s):
  Gx X f (rI C λi j=> .int (g i j)):=by
 intro b s k H x y v u Q I c d h
 obtain⟨i,j,rfl,rfl,a,q⟩:=h
 obtain⟨t,rfl⟩:=c
 obtain⟨e,rfl⟩:=d
 exact rule i j t e s _ _ a ⟨.int (g i j),H,I.tok _,⟨_,rfl⟩,q⟩
theorem Nl{f:bQ->bQ->Sem bQ}{g:Int->Int->Int}
  (rule:∀(i j:Int) (t u:Tok) (s:bS) (Q:bQ->bS->Prop) (E:bQ->bS->Prop),Q (.int (g i j) s.toks) {s with toks:=s.toks+1}->wpAny (model X.prog X.w) X.A (f (.int i t) (.int j u)) Q E s):
  Gx X f (MM λi j=> .int (g i j)):=by
 intro a s e H x y v u Q I b c h
 obtain⟨i,j,rfl,rfl,q⟩:=h
 obtain⟨t,rfl⟩:=b
 obtain⟨d,rfl⟩:=c
 exact rule i j t d s _ _ ⟨.int (g i j),H,I.tok _,⟨_,rfl⟩,q⟩
theorem MF{f:bQ->bQ->Sem bQ}{g:Int->Int->Bool}
  (rule:∀(i j:Int) (t u:Tok) (s:bS) (Q:bQ->bS->Prop) (E:bQ->bS->Prop),Q (.bool (g i j)) s->wpAny (model X.prog X.w) X.A (f (.int i t) (.int j u)) Q E s):
  Gx X f (MM λi j=> .bl (g i j)):=by
 intro a s e H x y v u Q I b c h
 obtain⟨i,j,rfl,rfl,q⟩:=h
 obtain⟨t,rfl⟩:=b
 obtain⟨d,rfl⟩:=c
 exact rule i j t d s _ _ ⟨.bl (g i j),H,I,rfl,q⟩
theorem sL:Gx X (binaryOp .Add) (MM λi j=> .int (i+j)):=Nl λ_ _ _ _ _ _ _ q=>add_int q
theorem wP:Gx X (binaryOp .Sub) (MM λi j=> .int (i-j)):=Nl λ_ _ _ _ _ _ _ q=>sub_int q
theorem sj:Gx X (binaryOp .Mod) (rI (λ_ j=>0<j) λi j=> .int (i%j)):=NH λi j _ _ _ _ _ a q=>by
 have h1:(0:Int)<j:=a;exact mod_int' (by omega) (by rw[Int.fmod_eq_emod_of_nonneg i (by omega)];exact q)
theorem OF{f:bQ->Sem bQ}{g:Int->Int}
  (rule:∀(i:Int) (t:Tok) (s:bS) (Q:bQ->bS->Prop) (E:bQ->bS->Prop),Q (.int (g i) s.toks) {s with toks:=s.toks+1}->wpAny (model X.prog X.w) X.A (f (.int i t)) Q E s):
  Og X f (rU λi=> .int (g i)):=by
 intro b s c H x v Q I a h
 obtain⟨i,rfl,q⟩:=h
 obtain⟨t,rfl⟩:=a
 exact rule i t s _ _ ⟨.int (g i),H,I.tok _,⟨_,rfl⟩,q⟩
theorem yk:Og X (unaryOp .USub) (rU λi=> .int (-i)):=OF λ_ _ _ _ _ q=>neg_int q
end
def NB:V->V->Bool
 | .non,.non=>true | .non,.int _=>true | .int _,.non=>true | .non,.bl _=>true | .bl _,.non=>true | .non,.str _=>true | .str _,.non=>true
 | .int _,.int _=>true | .bl _,.bl _=>true | .str _,.str _=>true | .byt _,.byt _=>true
 | .int _,.str _=>true | .str _,.int _=>true | .bl _,.str _=>true | .str _,.bl _=>true
 | _,_=>false
def OC:R2:=λx y H Q=>NB x y=true/\Q (.bl (decide (x=y))) H
def OG:R2:=λx y H Q=>NB x y=true/\Q (.bl (!decide (x=y))) H
theorem AW{i j:Int}:decide (V.int i=V.int j)=(i==j):=by
 rw[fS];simp
theorem Di{i j:Bool}:decide (V.bl i=V.bl j)=(i==j):=by
 rw[fS];simp
theorem BT{i j:Str}:decide (V.str i=V.str j)=(i==j):=by
 rw[fS];simp
theorem A4{i j:Array UInt8}:decide (V.byt i=V.byt j)=(i.toList==j.toList):=by
 rw[fS]
 cases i
 cases j;simp
section
variable{X:Cx}{a b c:Expr}{ta tb tc:TE}{pos:Pos}
theorem sv{pins:List (bV×Obj)}{σ:St}{H:Hp}{s:bS}{Q:VK}{k k':Bool}(I:Inv X pins σ H s)(q:Q (.bl k) H)(e:k=k'):EP X pins σ Q (.bool k') s:=by
 subst e;exact⟨.bl k,H,I,rfl,q⟩
theorem s9:Gx X (compareOp .Eq) OC:=by
 intro e s f H x y v u Q I d a h;obtain⟨c,q⟩:=h
 cases x with
 | non=>
  cases d
  cases y with
  | non=>cases a;exact o4 (sv I q (by simp))
  | bl j=>cases a;exact o5 (sv I q (by simp))
  | int j=>obtain⟨b,rfl⟩:=a;exact pu (sv I q (by simp))
  | str j=>obtain⟨b,rfl⟩:=a;exact pz (sv I q (by simp))
  | _=>exact absurd (show false=true from c) cA
 | bl i=>
  cases d
  cases y with
  | non=>cases a;exact o6 (sv I q (by simp))
  | bl j=>cases a;exact eq_bool (sv I q Di)
  | str j=>obtain⟨b,rfl⟩:=a;exact o7 (sv I q (by simp))
  | _=>exact absurd (show false=true from c) cA
 | int i=>
  obtain⟨t,rfl⟩:=d
  cases y with
  | non=>cases a;exact pA (sv I q (by simp))
  | int j=>obtain⟨b,rfl⟩:=a;exact eq_int (sv I q AW)
  | str j=>obtain⟨b,rfl⟩:=a;exact pB (sv I q (by simp))
  | _=>exact absurd (show false=true from c) cA
 | str i=>
  obtain⟨t,rfl⟩:=d
  cases y with
  | non=>cases a;exact pC (sv I q (by simp))
  | bl j=>cases a;exact o8 (sv I q (by simp))
  | int j=>obtain⟨b,rfl⟩:=a;exact pD (sv I q (by simp))
  | str j=>obtain⟨b,rfl⟩:=a;exact eq_str (sv I q BT)
  | _=>exact absurd (show false=true from c) cA
 | byt i=>
  obtain⟨t,rfl⟩:=d
  cases y with
  | byt j=>obtain⟨b,rfl⟩:=a;exact PySem.W.eq_bytes (sv I q A4)
  | _=>exact absurd (show false=true from c) cA
 | _=>cases y <;> exact absurd (show false=true from c) cA
theorem yw:Gx X (compareOp .NotEq) OG:=by
 intro e s f H x y v u Q I d a h;obtain⟨c,q⟩:=h
 cases x with
 | non=>
  cases d
  cases y with
  | non=>cases a;exact o9 (sv I q (by simp))
  | bl j=>cases a;exact pb (sv I q (by simp))
  | int j=>obtain⟨b,rfl⟩:=a;exact pE (sv I q (by simp))
  | str j=>obtain⟨b,rfl⟩:=a;exact pF (sv I q (by simp))
  | _=>exact absurd (show false=true from c) cA
 | bl i=>
  cases d
  cases y with
  | non=>cases a;exact pc (sv I q (by simp))
  | bl j=>cases a;exact ne_bool (sv I q (congrArg not Di))
  | str j=>obtain⟨b,rfl⟩:=a;exact ph (sv I q (by simp))
  | _=>exact absurd (show false=true from c) cA
 | int i=>
  obtain⟨t,rfl⟩:=d
  cases y with
  | non=>cases a;exact pG (sv I q (by simp))
  | int j=>obtain⟨b,rfl⟩:=a;exact ne_int (sv I q (congrArg not AW))
  | str j=>obtain⟨b,rfl⟩:=a;exact pH (sv I q (by simp))
  | _=>exact absurd (show false=true from c) cA
 | str i=>
  obtain⟨t,rfl⟩:=d
  cases y with
  | non=>cases a;exact pI (sv I q (by simp))
  | bl j=>cases a;exact pi (sv I q (by simp))
  | int j=>obtain⟨b,rfl⟩:=a;exact pJ (sv I q (by simp))
  | str j=>obtain⟨b,rfl⟩:=a;exact ne_str (sv I q (congrArg not BT))
  | _=>exact absurd (show false=true from c) cA
 | byt i=>
  obtain⟨t,rfl⟩:=d
  cases y with
  | byt j=>obtain⟨b,rfl⟩:=a;exact PySem.W.ne_bytes (sv I q (congrArg not A4))
  | _=>exact absurd (show false=true from c) cA
 | _=>cases y <;> exact absurd (show false=true from c) cA
theorem zM:Gx X (compareOp .Lt) (MM λi j=> .bl (decide (i<j))):=MF λ_ _ _ _ _ _ _ q=>lt_int q
theorem A5:Gx X (compareOp .LtE) (MM λi j=> .bl (decide (i<=j))):=MF λ_ _ _ _ _ _ _ q=>le_int q
theorem EK:Gx X (compareOp .Gt) (MM λi j=> .bl (decide (j<i))):=MF λ_ _ _ _ _ _ _ q=>gt_int q
theorem A2:Gx X (compareOp .Is) (λx y H Q=>y = .non/\Q (.bl (decide (x = .non))) H):=by
 intro c s d H x y v u Q I a b h;obtain⟨rfl,q⟩:=h
 cases b;refine is_none_gen (sv I q ?_)
 cases x <;> first
  | (cases a;rfl)
  | (obtain⟨t,rfl⟩:=a;rfl)
theorem Ca:Gx X (compareOp .IsNot) (λx y H Q=>y = .non/\Q (.bl (!decide (x = .non))) H):=by
 intro c s d H x y v u Q I a b h;obtain⟨rfl,q⟩:=h
 cases b;refine isnot_none_gen (sv I q ?_)
 cases x <;> first
  | (cases a;rfl)
  | (obtain⟨t,rfl⟩:=a;rfl)
theorem Fk(b:Expr){op:CmpOp}(h:op≠ .In:=by decide)(h2:op≠ .NotIn:=by decide):behindInMarks op b=false:=by
 have a:(op==CmpOp.In)=false:=by cases op <;> first|rfl|exact absurd rfl h
 have c:(op==CmpOp.NotIn)=false:=by cases op <;> first|rfl|exact absurd rfl h2
 cases b <;> simp[behindInMarks,a,c]
theorem ua{op:CmpOp}{r:R2}(ho:Gx X (compareOp op) r)(ha:PE X a ta)(hb:PE X b tb)(hm:behindInMarks op b=false):PE X (.Compare a [op] [b] pos) (Mm r ta tb):=by
 intro c s f H Q I h;exact wpAny_Compare1 (MI ha hb I h λv u j x y k g d e q=>ho c j f k x y v u Q g d e q) hm
def L5(t:TE):TT:=λσ H Q=>t σ H λx H'=>∃k,x = .bl k/\Q k H'
theorem rN{op:CmpOp}{r:R2}(ho:Gx X (compareOp op) r)(ha:PE X a ta)(hb:PE X b tb)(hm:behindInMarks op b=false):PT X (.Compare a [op] [b] pos) (L5 (Mm r ta tb)):=by
 intro d s f H Q I h;refine lB (Fw (ha d s f H _ I h) λv D ⟨x,w,o,p,t⟩=>Fw (hb d D f w _ o t) λu n ⟨y,B,l,g,q⟩=>
  Fw (ho d n f B x y v u _ l p g q) λc E ⟨z,C,j,m,k,e,A⟩=>?_) hm
 subst e
 cases m;exact dU ⟨C,j,A⟩
def Lf(r r':R2)(ta tb tc:TE):TE:=λσ H Q=>ta σ H λx H1=>tb σ H1 λy H2=>r x y H2 λz H3=>∃k,z = .bl k/\
 (if k=true then tc σ H3 λw' H4=>r' y w' H4 Q else Q (.bl false) H3)
theorem zm{op op':CmpOp}{r r':R2}(ho:Gx X (compareOp op) r)(ho':Gx X (compareOp op') r')(ha:PE X a ta)(hb:PE X b tb)(hc:PE X c tc)
  (hm:lastMarks [op,op'] [b,c]=false:=by with_unfolding_all rfl):PE X (.Compare a [op,op'] [b,c] pos) (Lf r r' ta tb tc):=by
 intro f s g H Q I h
 refine Compare_chain (Fw (ha f s g H _ I h) λv O ⟨x,F,w,A,D⟩=>chain_link (Fw (hb f O g F _ w D) λu t ⟨y,K,p,j,C⟩=>
  Fw (ho f t g K x y v u _ p A j C) λd N ⟨z,n,l,q,k,e,m⟩=>?_)) hm
 subst e
 cases q
 refine dU ?_
 cases k with
 | false=>exact ite_ff ⟨.bl false,n,l,rfl,m⟩
 | true=>exact ite_tt (chain_last (Fw (hc f N g n _ l m) λo E ⟨L,M,G,J,B⟩=>ho' f E g M y L u o Q G j J B))
theorem zr{op op':CmpOp}{r r':R2}(ho:Gx X (compareOp op) r)(ho':Gx X (compareOp op') r')(ha:PE X a ta)(hb:PE X b tb)(hc:PE X c tc)
  (hm:lastMarks [op,op'] [b,c]=false:=by with_unfolding_all rfl):PT X (.Compare a [op,op'] [b,c] pos) (L5 (Lf r r' ta tb tc)):=by
 intro f s g H Q I h
 refine isTrue_chain (Fw (ha f s g H _ I h) λv W ⟨x,L,A,B,G⟩=>test_link (Fw (hb f W g L _ A G) λu w ⟨y,P,q,j,D⟩=>
  Fw (ho f w g P x y v u _ q B j D) λd V ⟨z,n,l,t,k,e,m⟩=>?_)) hm
 subst e
 cases t
 refine dU ?_
 cases k with
 | false=>
  obtain⟨k',E,K⟩:=m
  cases E
  exact ite_ff ⟨n,l,K⟩
 | true=>
  refine ite_tt (test_last (Fw (hc f V g n _ l m) λo J ⟨R,S,N,O,C⟩=>Fw (ho' f J g S y R u o _ N j O C) λd' Z ⟨Y,U,F,T,k2,p,M⟩=>?_))
  subst p
  cases T
  exact dU ⟨U,F,M⟩
def Nq(K:bN)(x:V)(H:Hp)(k:Bool):Prop:=
 match x with
 | .non=>k=false
 | .bl b=>k=b
 | .int i=>k=(i != 0)
 | .str y=>y.length<=sizeLine/\k=((y.length:Int) != 0)
 | .byt y=>y.size<=sizeLine/\k=((y.size:Int) != 0)
 | .ref p=>(∃xs,SqL K H p xs/\k = !xs.isEmpty)\/(∃xs,SqT K H p xs/\k = !xs.isEmpty)\/∃kvs,H p=some (.dK kvs)/\k = !kvs.isEmpty
 | _=>False
theorem Ak{κ:Type}{kvs:List (κ×V)}{vs:List (κ×bQ)}(r:KV kvs vs):(!vs.isEmpty) = !kvs.isEmpty:=by
 cases r <;> rfl
theorem wU{xs:List V}{its:List bQ}(r:Vals xs its):(!its.toArray.isEmpty) = !xs.isEmpty:=by
 cases r <;> simp
theorem GB:(sizeLine:Nat)<2^63:=by rw[lP];decide
theorem EQ:N8 X (λx H Q=>∃k,Nq X.K x H k/\Q k H):=by
 intro z s D H x v Q I f h;obtain⟨k,e,q⟩:=h;have B:=GB;have C:sizeLine=16777216:=lP
 cases x with
 | non=>
  cases f;have a:k=false:=e;subst a;exact truthy_none ⟨H,I,q⟩
 | bl b=>
  cases f;have a:k=b:=e;subst a;exact dU ⟨H,I,q⟩
 | int i=>
  obtain⟨t,rfl⟩:=f;have a:k=(i != 0):=e;subst a;exact PySem.P.truthy_int ⟨H,I,q⟩
 | str y=>
  obtain⟨t,rfl⟩:=f;obtain⟨A,a⟩:y.length<=sizeLine/\k=((y.length:Int) != 0):=e;subst a;exact PySem.P.truthy_str (by omega) ⟨H,I.tok _,q⟩
 | byt y=>
  obtain⟨t,rfl⟩:=f;obtain⟨A,a⟩:y.size<=sizeLine/\k=((y.size:Int) != 0):=e;subst a;exact PySem.W.truthy_bytes (by omega) ⟨H,I.tok _,q⟩
 | ref p=>
  cases f;have a:(∃d,SqL X.K H p d/\k = !d.isEmpty)\/(∃d,SqT X.K H p d/\k = !d.isEmpty)\/∃c,H p=some (.dK c)/\k = !c.isEmpty:=e;rcases a with⟨d,g,a⟩|⟨d,g,a⟩|⟨c,g,a⟩
  ·subst a;obtain⟨o,r,l,n⟩:=I.list g;have j:=r.length;exact wpAny_truthy_list l.isList (by simp only[cc];omega) ⟨H,I.tok _,by rw[wU r];exact q⟩
  ·subst a;obtain⟨o,r,l,n⟩:=I.tuple g;have j:=r.length;exact truthy_tuple l (by simp only[cc];omega) ⟨H,I.tok _,by rw[wU r];exact q⟩
  ·subst a;obtain⟨n,u,vs,r,m⟩:c.length<=sizeLine/\(p==sysModules)=false/\∃vs,KV c vs/\s.heap.DictOf (Iq X.prog X.w) p vs:=I.hok p _ g;have j:c.length=vs.length:=mj r;exact wpAny_truthy_dict u m (by omega) ⟨H,I.tok _,by rw[Ak r];exact q⟩
 | _=>exact(show False from e).elim
theorem C0(ha:PE X a ta)(he:∀whole,isTrue a X.env whole=(do let v<-whole;standAt a.pos;holding [v] (truthy v))):
  PT X a (λσ H Q=>ta σ H λx H'=>∃k,Nq X.K x H' k/\Q k H'):=by
 intro b s σ H Q I h
 exact qd (Fw (ha b s σ H _ I h) λv g ⟨x,d,e,c,f⟩=>EQ b g σ d x v Q e c f) (he _)
theorem sR:Gx X (binaryOp .Add) (λx y H Q=>∃i j,x = .str i/\y = .str j/\i.length+j.length<=sizeLine/\Q (.str (i++j)) H):=by
 intro b s f H x y v u Q I c d h;obtain⟨i,j,rfl,rfl,a,q⟩:=h;obtain⟨t,rfl⟩:=c;obtain⟨e,rfl⟩:=d;exact add_str (λe tk=>⟨.str (i++j),H,I.tok _,⟨_,rfl⟩,q⟩) a
theorem F7{x:V}{us:List bQ}(r:Vals [x] us):∃u,us=[u]/\RelV x u:=by
 cases r with
 | cons b a=>cases a;exact⟨_,rfl,b⟩
theorem Kd{x y:V}{us:List bQ}(r:Vals [x,y] us):∃u w',us=[u,w']/\RelV x u/\RelV y w':=by
 cases r with
 | cons d a=>
  cases a with
  | cons c b=>cases b;exact⟨_,_,rfl,d,c⟩
theorem xv:FW X (.builtin "abs") (λxs H Q=>∃i,xs=[.int i]/\Q (.int (if i<0 then -i else i)) H):=by
 intro a s b H xs c Q I r h;obtain⟨i,rfl,q⟩:=h;obtain⟨u,rfl,t,rfl⟩:=F7 r;exact call_abs_int λu tk=>⟨.int (if i<0 then -i else i),H,I.tok _,⟨_,rfl⟩,q⟩
theorem BV:FW X (.type "int") (λxs H Q=>(∃i,xs=[.int i]/\Q (.int i) H)\/∃k,xs=[.bl k]/\Q (.int (if k then 1 else 0)) H):=by
 intro b s c H xs d Q I r h;rcases h with⟨i,rfl,q⟩|⟨k,rfl,q⟩
 ·obtain⟨u,rfl,t,rfl⟩:=F7 r;exact call_int_int ⟨.int i,H,I,⟨_,rfl⟩,q⟩
 ·obtain⟨u,rfl,a⟩:=F7 r
  cases a;exact call_int_bool ⟨.int (if k then 1 else 0),H,I.tok _,⟨_,rfl⟩,q⟩
end
structure ObjM(h:Heap)(x dx C:bV)(mA:Str->Option bQ):Prop where
 obj:h.get? x=some (fQ C dx)
 ns:h.Ns1 dx mA
 ne:dx≠x
theorem BX{h:Heap}{dx:bV}{mA:Str->Option bQ}(n:h.Ns1 dx mA):∃od,h.get? dx=some od/\∀name,jz name od=some (mA name):=by
 obtain⟨o,c,l,k,d,hk,_,g⟩:=n;refine⟨o,k,λname=>?_⟩;have e:=g name;unfold nsFind findBy at e;rw[<-Array.find?_toList]at e;unfold jz;rw[d];dsimp only;split
 ·rename_i y q
  rw[q]at e;exact congrArg some e
 ·rename_i q
  rw[q]at e;have a:c.toList.any (·.refKey)=false:=by
   rw[List.any_eq_false];intro y f;obtain⟨z,t,b⟩:=hk y (Array.mem_toList_iff.mp f);simp[ro,b]
  have j:¬c.toList.any (·.refKey)=true:=by rw[a];exact cA
  rw[if_neg j];exact congrArg some e
theorem ObjM.look{h:Heap}{x dx C:bV}{mA:Str->Option bQ}(I:ObjM h x dx C mA):∃od,PySem.W.InstAt h x (fQ C dx) C (some od)/\∀name,jz name od=some (mA name):=
 let⟨od,b,a⟩:=BX I.ns
 ⟨od,⟨I.obj,rfl,rfl,b⟩,a⟩
section
variable{prog:cg}{w:cC}{A:cO}{E:bQ->bS->Prop}{s:bS}{K:bN}{x dx C f:bV}{mA:Str->Option bQ}{name:Str}{v:bQ}
theorem Es{expr:Bool}{Q:bQ->bS->Prop}(X:K.In s.heap)(I:ObjM s.heap x dx C mA)(hg:jb K C name=true)(hh:jX K C=true)
  (ha:eO K (.ref C) name=some none)(hv:mA name=some v)(hv':nO v=true)(h:Q v {s with toks:=s.toks+1}):
  wpAny (model prog w) A (getAttr (.ref x) name expr) Q E s:=by
 obtain⟨b,J,a⟩:=I.look
 exact PySem.W.get_value X J (js hg).1 (PySem.W.findObj_own hh ha rfl (by rw[a,hv])) hv' h
theorem Cf{pl:Sem Bool}{Q:bQ×List bQ->bS->Prop}(X:K.In s.heap)(I:ObjM s.heap x dx C mA)(hg:jb K C name=true)
  (hf:eO K (.ref C) name=some (some (.ref f)))(ht:m4 K (.ref f)=true)(hv:mA name=none)(h:Q (.ref f,[.ref x]) s):
  wpAny (model prog w) A (getMethod (.ref x) name pl) Q E s:=by
 obtain⟨b,J,a⟩:=I.look
 exact PySem.W.method_fn X J (js hg).1 (js hg).2 hf (beq_iff_eq.mp ht) (by show(jz name b).map (·.isSome)=some false;rw[a,hv];rfl) h
theorem D4{ns:List Str}{Q:Unit->bS->Prop}(X:K.In s.heap)(I:ObjM s.heap x dx C mA)
  (hs:eO K (.ref C) "__setattr__"=some (some (.builtin "object.__setattr__")))(hp:m5 K C=true)(ht:lm K C name=some none)(hh:jX K C=true)
  (hw:kU mA ns)(hsz:ns.length<=sizeLine)
  (h:∀h',ObjM h' x dx C (λy=>if y=name then some v else mA y)->eS dx s.heap h'->Q () {s with heap:=h',toks:=s.toks+2}):
  wpAny (model prog w) A (setAttr (.ref x) name v) Q E s:=by
 obtain⟨t,J,o⟩:=I.look
 refine PySem.W.set_plain X J hs (PySem.W.osa_open (s:={s with toks:=s.toks+1}) (r:=none) X J hp ht λb=>?_)
 obtain⟨q,k,g⟩:=PySem.W.any_some hh
 have l:s.heap.get? x=some ⟨.ref C,some dx,.plain,#[]⟩:=I.obj
 refine bM (bO (bM (bM (oI l (bM (rc (s:={s with toks:=s.toks+1}) (PySem.W.looks_clsIn X k) ?_))))))
 rw[g]
 refine bO (a:=some dx) (bM (bO (bM ?_)))
 refine wpAny_nsSet1 (s:={s with toks:=s.toks+1}) I.ns λh' c d=>?_
 obtain⟨p,m,n,e,j,f⟩:=c.count (kU.cons name v hw)
 refine bM (wpAny_lookBehind e (by rw[j];exact pastItsLine_dict (cG f (by rw[cZ];omega))) ?_)
 exact bO (h _ ⟨(d.2 _ (Ne.symm I.ne)).trans I.obj,c,I.ne⟩ d)
theorem zz{R:Result->bS->Prop}{vs:List bQ}{kw:List (Str×bQ)}(X:K.In s.heap)(hm:ol K C=true)
  (hi:eO K (.ref C) "__init__"=some (some (.ref f)))(hf:oJ K (.ref f)=some (.type "function"))
  (h:codeAny (model prog w) (A.under (.builtin "type.__call__" ⟨.ref C::vs,kw⟩)) (.call (.ref f) ⟨.ref (s.heap.objs.size+1)::vs,kw⟩) (PySem.W.InitBack (s.heap.objs.size+1) R)
   {s with heap:=(s.heap.push eY).push (fQ C s.heap.objs.size)}):
  codeAny (model prog w) A (.call (.ref C) ⟨vs,kw⟩) R s:=by
 obtain⟨b,g,d,t,c⟩:=s
 exact PySem.W.make_core (PySem.W.makes_of X hm) (ia X hi) (λa=>PySem.W.bind_fn X a hf) (.inl rfl) h
end
def FZ(f:Str)(v:V):List (Str×V)->List (Str×V)
 | []=>[(f,v)]
 | (g,x)::r=>if g=f then(g,v)::r else(g,x)::FZ f v r
theorem v8(f g:Str)(v:V):∀fs:List (Str×V),(FZ f v fs).lookup g=if g=f then some v else fs.lookup g
 | []=>by
  show gv g [(f,v)]=_
  by_cases h:g=f
  ·have a:(g==f)=true:=beq_iff_eq.mpr h
   simp only[gv,a,if_pos h]
  ·have a:(g==f)=false:=beq_eq_false_iff_ne.mpr h
   simp only[gv,a,if_neg h]
 | (k,x)::r=>by
  have b:=v8 f g v r
  rw[show FZ f v ((k,x)::r)=(if k=f then(k,v)::r else(k,x)::FZ f v r)from rfl]
  by_cases hk:k=f
  ·rw[if_pos hk]
   by_cases h:g=k
   ·have a:(g==k)=true:=beq_iff_eq.mpr h
    simp only[gv,a,if_pos (h.trans hk)]
   ·have a:(g==k)=false:=beq_eq_false_iff_ne.mpr h
    simp only[gv,a,if_neg (λe:g=f=>h (e.trans hk.symm))]
  ·rw[if_neg hk]
   by_cases h:g=k
   ·have a:(g==k)=true:=beq_iff_eq.mpr h
    simp only[gv,a,if_neg (λe:g=f=>hk (h.symm.trans e))]
   ·have a:(g==k)=false:=beq_eq_false_iff_ne.mpr h
    simp only[gv,a]
    exact b
theorem wx(f:Str)(v:V):∀fs:List (Str×V),f∈(FZ f v fs).map (·.1)/\∀g,g∈fs.map (·.1)->g∈(FZ f v fs).map (·.1)
 | []=>⟨by simp[FZ],λg h=>by simp at h⟩
 | (k,x)::r=>by
  obtain⟨a,b⟩:=wx f v r
  rw[show FZ f v ((k,x)::r)=(if k=f then(k,v)::r else(k,x)::FZ f v r)from rfl]
  by_cases hk:k=f
  ·rw[if_pos hk]
   subst hk
   exact⟨by simp,λg h=>by simpa using h⟩
  ·rw[if_neg hk]
   refine⟨?_,λg h=>?_⟩
   ·rw[dh]
    exact b3 _ a
   ·rw[dh]at h ⊢
    rcases cj.mp h with e|e
    ·exact cj.mpr (.inl e)
    ·exact b3 _ (b g e)
theorem wB(f:Str)(v:V):∀fs:List (Str×V),(FZ f v fs).length<=fs.length+1
 | []=>by simp[FZ]
 | (k,x)::r=>by
  have a:=wB f v r
  rw[show FZ f v ((k,x)::r)=(if k=f then(k,v)::r else(k,x)::FZ f v r)from rfl]
  by_cases hk:k=f
  ·rw[if_pos hk,cZ,cZ];omega
  ·rw[if_neg hk,cZ,cZ];omega
theorem RelO.some_of{v:V}{o:Option bQ}(r:RelO (some v) o):∃u,o=some u/\RelV v u:=by
 cases o with
 | none=>exact(show False from r).elim
 | some u=>exact⟨u,rfl,r⟩
theorem RelO.none_of{o:Option bQ}(r:RelO none o):o=none:=by
 cases o with
 | none=>rfl
 | some u=>exact(show False from r).elim
theorem BF{v:V}{u:bQ}(r:RelV v u):nO u=true:=by
 cases v with
 | non=>cases(show u=bQ.none from r);rfl
 | bl b=>cases(show u=dH b from r);rfl
 | int i=>obtain⟨t,e⟩:=(show ∃t,u=dn i t from r);cases e;rfl
 | str x=>obtain⟨t,e⟩:=(show ∃t,u=gY x t from r);cases e;rfl
 | byt b=>obtain⟨t,e⟩:=(show ∃t,u=qB b t from r);cases e;rfl
 | flt b=>obtain⟨t,e⟩:=(show ∃t,u=qC b t from r);cases e;rfl
 | ref a=>cases(show u=b5 a from r);rfl
 | ty n=>cases(show u=cX n from r);rfl
section
variable{P:cg}{w:cC}{H H':Hp}{h h':Heap}{a C dx:bV}{fs fs':List (Str×V)}
theorem yN(hok:HOk P w H h)(e:H a=some (.ins C dx fs)):∃mA,ObjM h a dx C mA/\(∀f,RelO (fs.lookup f) (mA f))/\kU mA (fs.map (·.1))/\fs.length<=1000/\H dx=some (.own a):=by
 obtain⟨d,z,c,b,mA,n,r,q⟩:=(show ObjOk P w H h a (.ins C dx fs)from hok a _ e);exact⟨mA,⟨b,n,c⟩,r,q,z,d⟩
end
structure Cls(K:bN)(C:bV):Prop where
 pg:jb K C fq=true
 hd:jX K C=true
 po:m5 K C=true
 sa:eO K (.ref C) "__setattr__"=some (some (.builtin "object.__setattr__"))
theorem Cls.get{K:bN}{C:bV}(c:Cls K C)(f:Str):jb K C f=true:=c.pg
def NoAttr(K:bN)(C:bV)(f:Str):Prop:=eO K (.ref C) f=some none
theorem NoAttr.taker{K:bN}{C:bV}{f:Str}(n:NoAttr K C f):lm K C f=some none:=by
 unfold lm;rw[show eO K (.ref C) f=some none from n];rfl
structure K6(K:bN)(C:bV)(m:Str)(f:bV):Prop where
 at_:eO K (.ref C) m=some (some (.ref f))
 fn:m4 K (.ref f)=true
 kp:ib K (.ref f)=true
section
variable{X:Cx}{pins:List (bV×Obj)}{σ:St}{H:Hp}{s:bS}{a C dx:bV}{fs:List (Str×V)}{f:Str}{v:V}{A:cO}{E:bQ->bS->Prop}
theorem z8{b:Bool}{Q:bQ->bS->Prop}(I:Inv X pins σ H s)(e:H a=some (.ins C dx fs))(c:Cls X.K C)(n:NoAttr X.K C f)(l:fs.lookup f=some v)
  (h:∀u s',Inv X pins σ H s'->RelV v u->Q u s'):wpAny (model X.prog X.w) A (getAttr (.ref a) f b) Q E s:=by
 obtain⟨j,O,r,_,_,_⟩:=yN I.hok e
 obtain⟨u,g,d⟩:=RelO.some_of (v:=v) (o:=j f) (by rw[<-l];exact r f)
 exact Es I.kIn O (c.get f) c.hd n g (BF d) (h u _ (I.tok _) d)
theorem ut{m:Str}{g:bV}{pl:Sem Bool}{Q:bQ×List bQ->bS->Prop}(I:Inv X pins σ H s)(e:H a=some (.ins C dx fs))(c:Cls X.K C)(k:K6 X.K C m g)(l:fs.lookup m=none)
  (h:Q (.ref g,[.ref a]) s):wpAny (model X.prog X.w) A (getMethod (.ref a) m pl) Q E s:=by
 obtain⟨d,O,r,_,_,_⟩:=yN I.hok e
 have b:d m=none:=RelO.none_of (by rw[<-l];exact r m)
 exact Cf I.kIn O (c.get m) k.at_ k.fn b h
theorem Ab{y:V}{u:bQ}{Q:Unit->bS->Prop}(I:Inv X pins σ H s)(e:H a=some (.ins C dx fs))(c:Cls X.K C)(n:NoAttr X.K C f)(hl:fs.length<1000)(ry:RelV y u)
  (h:∀s',Inv X pins σ (upd H a (.ins C dx (FZ f y fs))) s'->Q () s'):wpAny (model X.prog X.w) A (setAttr (.ref a) f u) Q E s:=by
 obtain⟨j,O,r,l,_,k⟩:=yN I.hok e
 have m:(fs.map (·.1)).length<=sizeLine:=by rw[bP,lP];omega
 refine D4 I.kIn O c.sa c.po n.taker c.hd l m λv d D=>h _ ?_
 have p:∃o,v.get? dx=some o:=let⟨o,_,_,t,_⟩:=d.ns;⟨o,t⟩
 refine I.write (x:=a) (e:=dx) (by rw[e];exact True.intro) (.inr k) (λb q B z=>(D.2 b B).trans z) p ?_
 refine⟨by rw[rR O.ne];exact k,?_,O.ne,d.obj,_,d.ns,λg=>?_,λg F=>?_⟩
 ·have:=wB f y fs;omega
 ·show RelO ((FZ f y fs).lookup g) (if g=f then some u else j g)
  rw[v8]
  by_cases q:g=f
  ·rw[if_pos q,if_pos q];exact ry
  ·rw[if_neg q,if_neg q];exact r g
 ·by_cases q:g=f
  ·rw[q];exact(wx f y fs).1
  ·refine(wx f y fs).2 g (l g λz=>F ?_)
   show(if g=f then some u else j g)=none
   rw[if_neg q];exact z
theorem Inv.made(I:Inv X pins σ H s):Inv X pins σ (upd (upd H s.heap.objs.size (.own (s.heap.objs.size+1))) (s.heap.objs.size+1) (.ins C s.heap.objs.size []))
  {s with heap:=(s.heap.push eY).push (fQ C s.heap.objs.size)}:=by
 have c:(s.heap.push eY).get? s.heap.objs.size=some eY:=b4 s.heap rfl
 have f:((s.heap.push eY).push (fQ C s.heap.objs.size)).get? (s.heap.objs.size+1)=some (fQ C s.heap.objs.size):=by
  have:=b4 (s.heap.push eY) (o:=fQ C s.heap.objs.size) rfl
  rwa[fK]at this
 have g:(s.heap.push eY).Ns s.heap.objs.size (λ_=>none):=⟨eY,#[],_,c,rfl,(λe j=>absurd j (by simp)),λ_=>rfl⟩
 have h:=I.laid (a:=s.heap.objs.size) (o:= .own (s.heap.objs.size+1)) (h':=s.heap.push eY) (t':=s.toks) (λb u q=>bU _ q) (bX _) ⟨_,c⟩
 refine h.laid (a:=s.heap.objs.size+1) (o:= .ins C s.heap.objs.size []) (t':=s.toks) (λb u q=>bU _ q) (m6 (fK _ _)) ?_
 have d:s.heap.objs.size≠s.heap.objs.size+1:=cF (cV _)
 refine⟨by rw[rR d,rF],cM _,d,f,λ_=>none,(Heap.Ns1.of_empty g).at λo q=>bU _ q,λ_=>True.intro,λy k=>absurd rfl k⟩
theorem DT{prog:cg}{w:cC}{env:Env}{e:Expr}{f:Str}{pos:Pos}{s:bS}{Q:bQ->bS->Prop}(hb:attributeBase e f env (eval e env)=eval e env)
  (h:wpAny (model prog w) A (eval e env) (λo s₁=>wpAny (model prog w) A (getAttr o f true) Q E s₁) E s):wpAny (model prog w) A (eval (.Attribute e f pos) env) Q E s:=
 Attribute_any_ h (by rw[arm_eval_Attribute,hb])
end
def MV(K:bN)(ta:TE)(f:Str):TE:=λσ H Q=>ta σ H λx H1=>∃a C dx fs v,x = .ref a/\H1 a=some (.ins C dx fs)/\Cls K C/\NoAttr K C f/\fs.lookup f=some v/\Q v H1
def NW(K:bN)(ta tv:TE)(f:Str):TS:=λD σ H=>tv σ H λy H1=>ta σ H1 λx H2=>∃a C dx fs,x = .ref a/\H2 a=some (.ins C dx fs)/\Cls K C/\NoAttr K C f/\fs.length<1000/\
 D.nx σ (upd H2 a (.ins C dx (FZ f y fs)))
section
variable{X:Cx}{o e value:Expr}{f:Str}{pos pos' tpos:Pos}{ta tv:TE}
theorem u4(he:PE X e ta)(hb:attributeBase e f X.env (eval e X.env)=eval e X.env):PE X (.Attribute e f pos) (MV X.K ta f):=by
 intro b s r H Q I h;refine DT hb (Fw (he b s r H _ I h) λu A ⟨x,o,g,m,a,C,t,y,v,p,k,c,n,l,q⟩=>?_);subst p;obtain rfl:u=b5 a:=m;exact z8 g k c n l λz w d j=>⟨v,o,d,j,q⟩
theorem Bu(ha:PE X o ta)(hv:PE X value tv)(hs:swapsWith value (some (.Attribute o f pos')) pos.line X.env=pure false):PS X (.Assign [.Attribute o f pos'] value pos) (NW X.K ta tv f):=by
 intro b s d H D I h;refine plainObj_wpAny_Assign_Attribute (Fw (hv b s d H _ I h) λu z ⟨y,t,j,w,q⟩=>Fw (ha b z d t _ j q) λp B ⟨x,E,g,r,a,C,A,F,v,m,c,n,l,k⟩=>?_) hs;subst v;obtain rfl:p=b5 a:=r;exact Ab g m c n l w λG e=>⟨d,_,e,k⟩
theorem methcall_of{pl:Sem Bool}{m:Str}{apos:Pos}{args:List Expr}{pins:List (bV×Obj)}{s:bS}{σ:St}{H:Hp}{Q:bQ->bS->Prop}{te:TE}(he:PE X e te)(I:Inv X pins σ H s)
  (h:te σ H λx H1=>∃a C dx fs g,x = .ref a/\H1 a=some (.ins C dx fs)/\Cls X.K C/\K6 X.K C m g/\fs.lookup m=none/\
   ∀s1,Inv X pins σ H1 s1->wpAny (model X.prog X.w) X.A (callWith pos (.ref g) [.ref a] (backTo pos (cD args X.env)) (backToKw pos (keywordEach [] X.env))) Q X.xe s1)
  (ht:eval (.Call (.Attribute e m apos) args [] pos) X.env=(do
   let ov<-eval e X.env
   standAt apos.atName
   let(f,first)<-holding [ov] (getMethod ov m pl)
   callWith pos f first (backTo pos (cD args X.env)) (backToKw pos (keywordEach [] X.env)))):
  wpAny (model X.prog X.w) X.A (eval (.Call (.Attribute e m apos) args [] pos) X.env) Q X.xe s:=by
 refine g7 (pl:=pl) (Fw (he pins s σ H _ I h) λu s1 ⟨x,H1,b,d,a,C,dx,fs,g,n,j,c,k,l,q⟩=>?_) ht
 subst n
 obtain rfl:u=b5 a:=d
 exact ut b j c k l (q s1 b)
end
structure Room(k:Nat)(A:cO):Prop where
 hd:A.handled=none
 dp:A.depth+3*k+5<recursionLimit
 un:A.units+16*k+200<cLine
theorem Room.mono{j k:Nat}{A:cO}(r:Room k A)(h:j<=k):Room j A:=⟨r.hd,by have:=r.dp;omega,by have:=r.un;omega⟩
theorem Room.deeper{k:Nat}{A:cO}(r:Room (k+1) A)(env:Env):Room k (A.deeper env):=
 ⟨r.hd,by have:=r.dp;show A.depth+1+3*k+5<_;omega,by have:=r.un;show A.units+3+16*k+200<_;omega⟩
theorem zW{A:cO}{C:bV}{us:List bQ}{kw:List (Str×bQ)}:(A.under (.builtin "type.__call__" ⟨.ref C::us,kw⟩)).depth=A.depth+1:=by
 first|rfl|simp[m7,Code.weight,Code.isCreation,Code.isGuard,Code.isCaller,Code.frames,Code.isFrame,guardIds]
theorem zV{A:cO}{C:bV}{us:List bQ}{kw:List (Str×bQ)}:(A.under (.builtin "type.__call__" ⟨.ref C::us,kw⟩)).units=A.units+1:=by
 first|rfl|simp[m7,Code.cUnits,Code.frames,Code.isFrame]
theorem Room.make{k:Nat}{A:cO}(r:Room (k+1) A)(C:bV)(us:List bQ)(kw:List (Str×bQ)):Room k (A.under (.builtin "type.__call__" ⟨.ref C::us,kw⟩)):=
 ⟨r.hd,by have:=r.dp;rw[zW];omega,by have:=r.un;rw[zV];omega⟩
theorem Room.depth{k:Nat}{A:cO}(r:Room k A):A.depth<recursionLimit:=by have:=r.dp;omega
theorem Room.units{k:Nat}{A:cO}(r:Room k A):A.units+64<cLine:=by have:=r.un;omega
def MH:TA:=λ_ H Q=>Q [] H
def M8(ta:TE)(tr:TA):TA:=λσ H Q=>ta σ H λx H1=>tr σ H1 λxs H2=>Q (x::xs) H2
section
variable{X:Cx}{e:Expr}{es:List Expr}{te:TE}{t:TA}{pos:Pos}
theorem rH:PA X [] MH:=λ_ _ _ _ H Q I h=>jY ⟨[],H,I,.nil,h⟩
theorem lg(ha:PE X e te)(hr:PA X es t)(hs:cD (e::es) X.env=(false,eval e X.env)::cD es X.env:=by rfl):PA X (e::es) (M8 te t):=by
 intro b a s c H Q I h;rw[hs];show wpAny _ _ (spliced ((false,eval e X.env)::backTo b (cD es X.env))) _ _ s;refine eP (Fw (ha a s c H _ I h) λu p ⟨x,m,g,j,l⟩=>?_);exact Fw (hr b a p c m _ g l) λr q ⟨o,n,f,d,k⟩=>⟨x::o,n,f,.cons j d,k⟩
def N9(t:TA):TE:=λσ H Q=>t σ H λxs H1=>xs.length<=sizeLine/\∀p,H1 p=none->Q (.ref p) (upd H1 p (.tup xs))
def Mq(t:TA):TE:=λσ H Q=>t σ H λxs H1=>xs.length<=sizeLine/\∀p,H1 p=none->Q (.ref p) (upd H1 p (.lst xs))
theorem sx{x1}(h:PA X es t):PE X (.Tuple es x1 pos) (N9 t):=by
 intro c s m H Q I k;refine wpAny_Tuple_spliced (Fw (h pos c s m H _ I k) λg a ⟨l,f,d,r,z,q⟩=>⟨by rw[<-r.length];exact z,?_⟩);have j:f a.heap.objs.size=none:=d.hok.fresh (bX _);refine⟨.ref a.heap.objs.size,upd f a.heap.objs.size (.tup l),d.laid (t':=a.toks) (λb u e=>bU _ e) (bX _) ?_,rfl,q _ j⟩;exact⟨z,g,r,⟨_,b4 _ rfl,rfl,_,rfl⟩⟩
theorem sC(h:PA X es t):PE X (.List es pos) (Mq t):=by
 intro c s m H Q I k;refine wpAny_List_spliced (Fw (h pos c s m H _ I k) λg a ⟨l,f,d,r,z,q⟩=>⟨by rw[<-r.length];exact z,?_⟩);have j:f a.heap.objs.size=none:=d.hok.fresh (bX _);refine⟨.ref a.heap.objs.size,upd f a.heap.objs.size (.lst l),d.laid (t':=a.toks) (λb u e=>bU _ e) (bX _) ?_,rfl,q _ j⟩;exact⟨z,g,0,r,b4 _ rfl⟩
end
abbrev Sp:=List V->Hp->VK->XK->Prop
abbrev Jp:=List Env->Hp->bS->XK->bQ->bS->Prop
structure Env0(P:cg)(w:cC)(K:bN)(mg:Str->Option bQ)(base:Heap)(A:cO)(outer:List Env)(s:bS)(H:Hp):Prop where
 frames:A.frames=some outer
 mod:Mod K mg base
 bs:∀b o,base.get? b=some o->s.heap.get? b=some o/\H b=none
 bsz:base.objs.size<=s.heap.objs.size
 funs:s.heap.FunFrames base outer
 frf:∀b∈Gy outer,H b=none
 hok:HOk P w H s.heap
 bare:AllBare s.gens
def CE(outer:List Env)(P:cg)(w:cC)(H:Hp)(s:bS)(Q:VK)(u:bQ)(s':bS):Prop:=
 ∃v H',s'.os=s.os/\AllBare s'.gens/\Un (Gy outer) [] H H' s.heap s'.heap/\HOk P w H' s'.heap/\RelV v u/\Q v H'
def CR(CX:Jp)(outer:List Env)(P:cg)(w:cC)(H:Hp)(s:bS)(Q:VK)(E:XK)(r:Result)(s':bS):Prop:=
 match r with
 | .ok (.ret u)=>CE outer P w H s Q u s'
 | .ok _=>False
 | .error e=>CX outer H s E e s'
structure FnOk(P:cg)(w:cC)(K:bN)(mg:Str->Option bQ)(base:Heap)(CX:Jp)(k:Nat)(f:bV)(fd:FuncData)(ps:List Str)(sp:Sp):Prop where
 len:∀vs H Q E,sp vs H Q E->vs.length=ps.length
 run:∀(A:cO) (outer:List Env) (s:bS) (H:Hp) (args:Args) (us:List bQ) (vs:List V) (Q:VK) (E:XK),Room k A->Env0 P w K mg base A outer s H->BindsTo s fd args (ps.zip us)->Vals vs us->sp vs H Q E->
  codeAny (model P w) A (.call (.ref f) args) (CR CX outer P w H s Q E) s
theorem FnOk.imp{P:cg}{w:cC}{K:bN}{mg:Str->Option bQ}{base:Heap}{CX:Jp}{k:Nat}{f:bV}{fd:FuncData}{ps:List Str}{sp sp':Sp}(F:FnOk P w K mg base CX k f fd ps sp)
  (h:∀vs H Q E,sp' vs H Q E->sp vs H Q E):FnOk P w K mg base CX k f fd ps sp':=
 ⟨λvs H Q E q=>F.len vs H Q E (h _ _ _ _ q),λA a s H b e vs Q E c l g d j=>F.run A a s H b e vs Q E c l g d (h _ _ _ _ j)⟩
theorem Env0.make{P:cg}{w:cC}{K:bN}{mg:Str->Option bQ}{base:Heap}{A:cO}{outer:List Env}{s:bS}{H:Hp}(e:Env0 P w K mg base A outer s H)(C:bV)(us:List bQ)(kw:List (Str×bQ)):
  Env0 P w K mg base (A.under (.builtin "type.__call__" ⟨.ref C::us,kw⟩)) outer s H:=⟨by first|exact e.frames|(simpa [m7,Code.envs,Code.isFrame,pushEnvs]using e.frames),e.mod,e.bs,e.bsz,e.funs,e.frf,e.hok,e.bare⟩
section
variable{X:Cx}{pins:List (bV×Obj)}{σ:St}{H:Hp}{s s':bS}
theorem Inv.env0(I:Inv X pins σ H s):Env0 X.prog X.w X.K X.mg X.base X.A X.stack s H:=
 ⟨I.ok.frames,I.ok.mod,I.bs,cG I.ok.bsz I.sz,I.stack,I.stkFree,I.hok,I.bare⟩
theorem Inv.after{Q:VK}{u:bQ}(I:Inv X pins σ H s)(h:CE X.stack X.prog X.w H s Q u s'):EP X pins σ Q u s':=by
 obtain⟨v,f,l,a,k,e,r,q⟩:=h;obtain⟨j,g,d,t,c⟩:=s';obtain rfl:c=s.os:=l;exact⟨v,f,I.call (h':=j) (g':=g) (d':=d) (t':=t) (ch:=[]) k e a (λb z=>absurd z (by simp)),r,q⟩
end
def Mf(sp:Sp)(dvs:List V)(E:XK)(t:TA):TE:=λσ H Q=>t σ H λvs H1=>sp (vs++dvs) H1 Q E
def JI(C:bV)(m:Str)(sp:Sp)(dvs:List V)(E:XK)(ta:TE)(t:TA):TE:=λσ H Q=>ta σ H λx H1=>∃a dx fs,x = .ref a/\H1 a=some (.ins C dx fs)/\fs.lookup m=none/\
 t σ H1 λvs H2=>sp (x::(vs++dvs)) H2 Q E
def KG(C:bV)(sp:Sp)(dvs:List V)(E:XK)(t:TA):TE:=λσ H Q=>t σ H λvs H1=>∀x dx,H1 x=none->H1 dx=none->dx≠x->
 sp (.ref x::(vs++dvs)) (upd (upd H1 dx (.own x)) x (.ins C dx [])) (λv H2=>v = .non/\Q (.ref x) H2) E
def Binds(K:bN)(fd:FuncData)(ps:List Str)(ds:List bQ):Prop:=
 ∀(s:bS) (us:List bQ),K.In s.heap->(us++ds).length=ps.length->BindsTo s fd ⟨us,[]⟩ (ps.zip (us++ds))
theorem Binds.all{K:bN}{fd:FuncData}{ps:List Str}(h:∀us:List bQ,us.length=ps.length->bindArgs fd ⟨us,[]⟩=pure (ps.zip us)):Binds K fd ps []:=λs us _ a=>by
 rw[er]at a ⊢;exact .of_eq (h us a)
def FS(CX:Jp)(X:Cx)(E:XK):Prop:=∀(pins:List (bV×Obj)) (σ:St) (H:Hp) (s:bS) (e:bQ) (s':bS),Inv X pins σ H s->CX X.stack H s E e s'->X.xe e s'
section
variable{X:Cx}{CX:Jp}{k:Nat}{f C:bV}{fd:FuncData}{ps:List Str}{sp:Sp}{dvs:List V}{ds:List bQ}{E:XK}{x m:Str}{p pos apos:Pos}{e o:Expr}{es:List Expr}{ta:TE}{t:TA}
theorem B5{pins:List (bV×Obj)}{σ:St}{H:Hp}{s:bS}{Q:VK}{us:List bQ}{vs:List V}(F:FnOk X.prog X.w X.K X.mg X.base CX k f fd ps sp)(hr:Room k X.A)(hb:Binds X.K fd ps ds)(hd:Vals dvs ds)(hx:FS CX X E)
  (I:Inv X pins σ H s)(r:Vals vs us)(h:sp (vs++dvs) H Q E):wpAny (model X.prog X.w) X.A (call (.ref f) us) (EP X pins σ Q) X.xe s:=by
 have b:Vals (vs++dvs) (us++ds):=r.append hd
 have c:(us++ds).length=ps.length:=by rw[<-b.length];exact F.len _ _ _ _ h
 refine gf (gN (F.run X.A X.stack s H ⟨us,[]⟩ (us++ds) (vs++dvs) Q E hr I.env0 (hb s us I.kIn c) b h) λr d a=>?_)
 cases r with
 | error e=>exact hx pins σ H s e d I a
 | ok g=>
  cases g with
  | ret u=>exact I.after a
  | next=>exact dI a
  | brk=>exact dI a
  | cont=>exact dI a
theorem DX(F:FnOk X.prog X.w X.K X.mg X.base CX k f fd ps sp)(hr:Room k X.A)(hg:Gl X x)(hm:X.mg x=some (.ref f))(hk:ib X.K (.ref f)=true)(hb:Binds X.K fd ps ds)(hd:Vals dvs ds)(hx:FS CX X E)
  (ha:PA X (e::es) t)(hdb:(x==("__debug__":Str))=false:=by decide)(he:cD (e::es) X.env=(false,eval e X.env)::cD es X.env:=by rfl)(hpl:(backTo pos (cD es X.env)).any (·.1)=false:=by rfl):
  PE X (.Call (.Name x p) (e::es) [] pos) (Mf sp dvs E t):=by
 intro a s c H Q I h
 refine d9 (uH I hg hm ?_ hdb)
 refine gO (h₀:=X.base) I.ok.mod.kin hk (Fw (ha pos a s c H _ I h) λg j ⟨vs,d,b,r,q⟩=>⟨b.kIn,?_⟩) he hpl
 exact B5 F hr hb hd hx b r q
theorem D3{pl:Sem Bool}(he:PE X o ta)(c:Cls X.K C)(hm:K6 X.K C m f)(F:FnOk X.prog X.w X.K X.mg X.base CX k f fd ps sp)(hr:Room k X.A)(hb:Binds X.K fd ps ds)(hd:Vals dvs ds)(hx:FS CX X E)(ha:PA X (e::es) t)
  (hst:cD (e::es) X.env=(false,eval e X.env)::cD es X.env:=by rfl)(hpl:(backTo pos (cD es X.env)).any (·.1)=false:=by rfl)
  (ht:eval (.Call (.Attribute o m apos) (e::es) [] pos) X.env=(do
   let ov<-eval o X.env
   standAt apos.atName
   let(f,first)<-holding [ov] (getMethod ov m pl)
   callWith pos f first (backTo pos (cD (e::es) X.env)) (backToKw pos (keywordEach [] X.env))):=by rfl):
  PE X (.Call (.Attribute o m apos) (e::es) [] pos) (JI C m sp dvs E ta t):=by
 intro b s j H Q I h
 refine g7 (pl:=pl) (Fw (he b s j H _ I h) λu B ⟨x,y,g,v,a,D,L,z,p,l,q⟩=>?_) ht
 subst z
 obtain rfl:u=b5 a:=v
 refine ut g p c hm l ?_
 refine gO (first:=[.ref a]) (h₀:=X.base) I.ok.mod.kin hm.kp (Fw (ha pos b B j y _ g q) λus G ⟨vs,J,d,r,n⟩=>⟨d.kIn,?_⟩) hst hpl
 exact B5 (us:= .ref a::us) (vs:= .ref a::vs) F hr hb hd hx d (.cons rfl r) n
theorem CP{pl:Sem Bool}(he:PE X o ta)(c:Cls X.K C)(hm:K6 X.K C m f)(F:FnOk X.prog X.w X.K X.mg X.base CX k f fd ps sp)(hr:Room k X.A)(hb:Binds X.K fd ps ds)(hd:Vals dvs ds)(hx:FS CX X E)
  (ht:eval (.Call (.Attribute o m apos) [] [] pos) X.env=(do
   let ov<-eval o X.env
   standAt apos.atName
   let(f,first)<-holding [ov] (getMethod ov m pl)
   callWith pos f first (backTo pos (cD [] X.env)) (backToKw pos (keywordEach [] X.env))):=by rfl):
  PE X (.Call (.Attribute o m apos) [] [] pos) (JI C m sp dvs E ta MH):=by
 intro b s n H Q I h
 refine g7 (pl:=pl) (Fw (he b s n H _ I h) λu v ⟨x,r,d,g,a,p,t,j,e,l,q⟩=>?_) ht
 subst j
 obtain rfl:u=b5 a:=g
 refine ut d e c hm l ?_
 exact PySem.W.callWith_K0 (first:=[.ref a]) d.kIn hm.kp (B5 (us:=[.ref a]) (vs:=[.ref a]) F hr hb hd hx d (.cons rfl .nil) q)
structure Mk(K:bN)(C f:bV):Prop where
 makes:ol K C=true
 init:eO K (.ref C) "__init__"=some (some (.ref f))
 fn:m4 K (.ref f)=true
 kp:ib K (.ref C)=true
theorem CA{pins:List (bV×Obj)}{σ:St}{H:Hp}{s:bS}{Q:VK}{us:List bQ}{vs:List V}(M:Mk X.K C f)(F:FnOk X.prog X.w X.K X.mg X.base CX k f fd ps sp)(hr:Room (k+1) X.A)(hb:Binds X.K fd ps ds)(hd:Vals dvs ds)
  (hx:FS CX X E)(I:Inv X pins σ H s)(r:Vals vs us)
  (h:∀x dx,H x=none->H dx=none->dx≠x->sp (.ref x::(vs++dvs)) (upd (upd H dx (.own x)) x (.ins C dx [])) (λv H2=>v = .non/\Q (.ref x) H2) E):
  wpAny (model X.prog X.w) X.A (call (.ref C) us) (EP X pins σ Q) X.xe s:=by
 have d:=h (s.heap.objs.size+1) s.heap.objs.size (I.hok.fresh (dJ _)) (I.hok.fresh (bX _)) (cF (cV _))
 have b:=Inv.made (C:=C) I
 have c:Vals (V.ref (s.heap.objs.size+1)::(vs++dvs)) (b5 (s.heap.objs.size+1)::(us++ds)):= .cons rfl (r.append hd)
 have j:(b5 (s.heap.objs.size+1)::us++ds).length=ps.length:=by
  have e:=c.length
  rw[F.len _ _ _ _ d]at e
  exact e.symm
 refine gf (zz (f:=f) I.kIn M.makes M.init (beq_iff_eq.mp M.fn) (gN (F.run _ X.stack _ _ ⟨b5 (s.heap.objs.size+1)::us,[]⟩ (b5 (s.heap.objs.size+1)::(us++ds)) _ _ E (hr.make C us [])
  (b.env0.make C us []) (hb _ (b5 (s.heap.objs.size+1)::us) b.kIn j) c d) λr g a=>?_))
 cases r with
 | error e=>exact hx pins σ _ _ e g b a
 | ok l=>
  cases l with
  | ret u=>
   obtain⟨v,m,n,p,ev,o⟩:=b.after a
   subst ev
   exact⟨p,⟨V.ref (s.heap.objs.size+1),m,n,rfl,o⟩⟩
  | next=>exact dI a
  | brk=>exact dI a
  | cont=>exact dI a
theorem DG(M:Mk X.K C f)(F:FnOk X.prog X.w X.K X.mg X.base CX k f fd ps sp)(hr:Room (k+1) X.A)(hg:Gl X x)(hm:X.mg x=some (.ref C))(hb:Binds X.K fd ps ds)(hd:Vals dvs ds)(hx:FS CX X E)
  (ha:PA X (e::es) t)(hdb:(x==("__debug__":Str))=false:=by decide)(he:cD (e::es) X.env=(false,eval e X.env)::cD es X.env:=by rfl)(hpl:(backTo pos (cD es X.env)).any (·.1)=false:=by rfl):
  PE X (.Call (.Name x p) (e::es) [] pos) (KG C sp dvs E t):=by
 intro a s c H Q I h
 refine d9 (uH I hg hm ?_ hdb)
 refine gO (h₀:=X.base) I.ok.mod.kin M.kp (Fw (ha pos a s c H _ I h) λg j ⟨vs,d,b,r,q⟩=>⟨b.kIn,?_⟩) he hpl
 exact CA M F hr hb hd hx b r q
end
structure Fj(N P:List Str)(sc:Scope):Prop where
 kind:sc.kind = .function
 co:sc.isCoroutine=false
 gen:sc.isGenerator=false
 nd:N.Nodup
 pre:N.take P.length=P
 par:∀x∈P,sc.names.lookup x=some .local\/sc.names.lookup x=some .cell
 nofree:∀y∈sc.names,y.2≠ .free
theorem yn{kindOf:Str->Option gV}{x:Str}:∀{binds:List (Str×bQ)} {m:Str->Option bQ},(∀v,(x,v)∉binds)->bindL kindOf binds m x=m x
 | [],_,_=>rfl
 | (n,v)::r,m,h=>by
  unfold bindL
  rw[yn λw a=>h w (b3 _ a)]
  split
  ·have:x≠n:=by rintro rfl;exact h v b0
   simp[this]
  ·rfl
theorem yv{kindOf:Str->Option gV}{x:Str}:∀{binds:List (Str×bQ)} {m:Str->Option bQ},(∀v,(x,v)∉binds)->bindC kindOf binds m x=m x
 | [],_,_=>rfl
 | (n,v)::r,m,h=>by
  unfold bindC
  rw[yv λw a=>h w (b3 _ a)]
  split
  ·rfl
  ·have:x≠n:=by rintro rfl;exact h v b0
   simp[this]
theorem yB{kindOf:Str->Option gV}{x:Str}{v:bQ}:∀{P:List Str} {vs:List bQ} {i:Nat} {m:Str->Option bQ},P.Nodup->P[i]?=some x->vs[i]?=some v->kindOf x=some .local->
  bindL kindOf (P.zip vs) m x=some v
 | [],_,_,_,_,h,_,_=>by simp at h
 | _::_,[],_,_,_,_,h,_=>by simp at h
 | p::P,w::vs,0,m,nd,h1,h2,hk=>by
  simp at h1 h2;subst h1;subst h2
  show bindL kindOf ((p,w)::P.zip vs) m p=_
  unfold bindL
  rw[yn λv a=>(ez.mp nd).1 (ln a).1,if_pos hk]
  simp
 | p::P,w::vs,i+1,m,nd,h1,h2,hk=>by
  show bindL kindOf ((p,w)::P.zip vs) m x=_
  unfold bindL
  exact yB (i:=i) (ez.mp nd).2 (by simpa using h1) (by simpa using h2) hk
theorem xT{kindOf:Str->Option gV}{x:Str}{v:bQ}:∀{P:List Str} {vs:List bQ} {i:Nat} {m:Str->Option bQ},P.Nodup->P[i]?=some x->vs[i]?=some v->kindOf x≠some .local->
  bindC kindOf (P.zip vs) m x=some v
 | [],_,_,_,_,h,_,_=>by simp at h
 | _::_,[],_,_,_,_,h,_=>by simp at h
 | p::P,w::vs,0,m,nd,h1,h2,hk=>by
  simp at h1 h2;subst h1;subst h2
  show bindC kindOf ((p,w)::P.zip vs) m p=_
  unfold bindC
  rw[yv λv a=>(ez.mp nd).1 (ln a).1,if_neg hk]
  simp
 | p::P,w::vs,i+1,m,nd,h1,h2,hk=>by
  show bindC kindOf ((p,w)::P.zip vs) m x=_
  unfold bindC
  exact xT (i:=i) (ez.mp nd).2 (by simpa using h1) (by simpa using h2) hk
def start(N:List Str)(vs:List V):St:=vs.map some++fB (N.length-vs.length) none
def Jh(CX:Jp)(P:cg)(w:cC)(K:bN)(mg:Str->Option bQ)(base:Heap)(N:List Str)(qual:Str)(scope:Scope)(f:bV)(cd:bQ)(A:cO)(outer:List Env)(s:bS)(H:Hp)(E:XK):Cx where
 prog:=P
 w:=w
 K:=K
 mg:=mg
 base:=base
 A:=A.deeper (envOfC qual scope s.heap.objs.size f cd)
 N:=N
 s₀:=s
 H₀:=H
 env:=envOfC qual scope s.heap.objs.size f cd
 outer:=outer
 stack:=envOfC qual scope s.heap.objs.size f cd::outer
 ex:=[]
 calm:=true
 fn:=λ_=>true
 pn:=[]
 xe:=λe s'=>wpAny (model P w) (A.deeper (envOfC qual scope s.heap.objs.size f cd)) (leaving (envOfC qual scope s.heap.objs.size f cd) e) (λ_ s''=>CX outer H s E e s'') (λe' s''=>CX outer H s E e' s'') s'
theorem zu{sc:Scope}{n:Nat}{x:Str}(h:sc.names.lookup x=some .cell):∃c,(cellsFrom n sc.names []).lookup x=some c:=by
 have q:=kW sc.names n [] (.inl h);exact j6.mp q
theorem AI{CX:Jp}{P:cg}{w:cC}{K:bN}{mg:Str->Option bQ}{base:Heap}{N ps:List Str}{qual:Str}{scope:Scope}{f:bV}{cd:bQ}{A:cO}{outer:List Env}{s s1:bS}{H:Hp}{E:XK}{us:List bQ}{vs:List V}
  (S:Fj N ps scope)(hd:A.handled=none)(e0:Env0 P w K mg base A outer s H)(hl:vs.length=ps.length)(r:Vals vs us)
  (x:InCallC s s.heap.objs.size (bindL (envOfC qual scope s.heap.objs.size f cd).kindOf (ps.zip us) λ_=>none) (cellsFrom (s.heap.objs.size+1) scope.names []) (bindC (envOfC qual scope s.heap.objs.size f cd).kindOf (ps.zip us) λ_=>none) s1):
  Inv (Jh CX P w K mg base N qual scope f cd A outer s H E) [] (start N vs) H s1:=by
 have B:ps.length<=N.length:=by have:=congrArg iM S.pre;rw[cf]at this;omega
 obtain⟨h1,tk,rfl,hk⟩:=x.done
 have g:∀b:bV,b∉(Jh CX P w K mg base N qual scope f cd A outer s H E).ex:=λb z=>absurd (show b∈([]:List bV)from z) (by simp)
 refine⟨⟨e0.mod,S.kind,rfl,rfl,bX _,λy z c h1 h2=>?_,λy d=>?_,λy c _ h=>?_,λ_=>hd,Around.frames_deeper e0.frames,.inr ⟨rfl,rfl⟩,λb z=>absurd z (g b),e0.bs,e0.bsz,λb _ _=>g b,λb z=>absurd z (g b),e0.funs,e0.frf⟩,
  rfl,e0.bare,Un.kept hk,⟨_,x.toInCall.ns,λi y v h1 h2 h3=>?_⟩,λy c h=>⟨_,x.cell y c h⟩,e0.hok.fresh (bX _),λy c h=>?_,λp hp=>absurd (show p∈([]:List (bV×Obj))from hp) (by simp),e0.hok.kept hk,?_⟩
 ·exact name_of_addr x.apart (dZ h1) (dZ h2)
 ·have d:scope.names.lookup y=some .cell\/scope.names.lookup y=some .free:=d
  rcases d with d|d
  ·exact zu d
  ·exact absurd rfl (S.nofree _ (dZ d))
 ·exact cx (x.above y c (dZ h))
 ·have j:i<vs.length:=by
   unfold start at h2
   by_cases j:i<vs.length
   ·exact j
   ·rw[d3 (by simpa using j)]at h2
    rw[List.getElem?_replicate]at h2
    split at h2 <;> cases h2
  have o:vs[i]?=some v:=by
   unfold start at h2
   rw[gq (by simpa using j),bZ]at h2
   cases e:vs[i]? with
   | none=>rw[e]at h2;cases h2
   | some a=>rw[e]at h2;cases h2;rfl
  obtain⟨u,m,t⟩:=r.get o
  have hp:ps[i]?=some y:=by
   rw[<-S.pre,gy (by omega)];exact h1
  have l:ps.Nodup:=by rw[<-S.pre];exact S.nd.sublist (List.take_sublist _ _)
  refine⟨u,t,?_⟩
  rcases S.par y (cz hp)with k|k
  ·exact .inl ⟨k,yB l hp m k⟩
  ·obtain⟨c,e⟩:=zu (n:=s.heap.objs.size+1) k
   refine .inr ⟨.inl k,c,e,?_⟩
   have q:=x.cell y c e
   rw[xT l hp m (by show scope.names.lookup y≠_;rw[k];decide)]at q
   exact q
 ·exact e0.hok.fresh (cx (x.above y c (dZ h)))
 ·unfold start
  show _=N.length
  rw[cr,bP,gn]
  omega
theorem CJ{CX:Jp}{P:cg}{w:cC}{K:bN}{mg:Str->Option bQ}{base:Heap}{k:Nat}{f:bV}{name qual:Str}{params:Arguments}{body:List Stmt}{scope:Scope}{dV kV doc pm cdv ct oc:bQ}{an od:Option bV}
  {osl:Array (Option bQ)}{N ps:List Str}{sp:Sp}(lk:K.lookup f=some ⟨oc,od,.func (fC name qual params body scope dV kV doc pm an cdv ct),osl⟩)(hcd:lR K cdv qual=true)(S:Fj N ps scope)
  (len:∀vs H Q E,sp vs H Q E->vs.length=ps.length)
  (hbody:∀(A:cO) (outer:List Env) (s:bS) (H:Hp) (vs:List V) (Q:VK) (E:XK),Room k (A.deeper (envOfC qual scope s.heap.objs.size f cdv))->sp vs H Q E->
   ∃t,PSs (Jh CX P w K mg base N qual scope f cdv A outer s H E) body t/\t {nx:=λ_ H'=>Q .non H',rt:=Q} (start N vs) H):
  FnOk P w K mg base CX (k+1) f (fC name qual params body scope dV kV doc pm an cdv ct) ps sp:=by
 refine⟨len,λA outer s H G C vs Q E m d T r h=>?_⟩
 have O:=len _ _ _ _ h
 have p:K.In s.heap:=d.mod.kin.keeps λb o e=>(d.bs b o e).1
 have z:s.heap.NoLimit:=d.mod.nolimit.keeps λb o e=>(d.bs b o e).1
 have g:∀y∈ps.zip C,scope.names.lookup y.1=some .local\/(scope.names.lookup y.1=some .cell/\((cellsFrom (s.heap.objs.size+1) scope.names []).lookup y.1).isSome=true):=λ⟨n,v⟩ M=>by
  rcases S.par n (ln M).1 with q|q
  ·exact .inl q
  ·exact .inr ⟨q,kW _ _ _ (.inl q)⟩
 refine codeAny_call_function m.depth (p _ _ lk) rfl S.co S.gen rfl (PySem.W.codeRec_of p hcd) (T _ _ _ _ ?_)
 refine wpAny_newFunctionEnv_cells S.kind g λU L B x=>?_
 subst L
 refine⟨z.keeps x.toInCall.keep,codeAny_func ?_⟩
 obtain⟨t,D,F⟩:=hbody A outer s H vs Q E (m.deeper _) h
 have I:Inv (Jh CX P w K mg base N qual scope f cdv A outer s H E) [] (start N vs) H B:=AI S m.hd d O r x
 refine eK (D [] B (start N vs) H _ I F) (λR j c=>?_) λe j c=>c
 have fin:∀{a:St} {H':Hp} {v:V} {u:bQ},Inv (Jh CX P w K mg base N qual scope f cdv A outer s H E) [] a H' j->RelV v u->Q v H'->CE outer P w H s Q u j:=
  λ {a H' v u} J l q=>⟨v,H',J.os,J.bare,J.base,J.hok,l,q⟩
 cases R with
 | ret u=>
  obtain⟨v,a,H',J,l,q⟩:=c
  exact fin J l q
 | next=>
  obtain⟨a,H',J,q⟩:=c
  exact fin (v:=V.non) (u:=bQ.none) J rfl q
 | brk=>
  obtain⟨_,_,_,q⟩:=c
  exact dI q
 | cont=>
  obtain⟨_,_,_,q⟩:=c
  exact dI q
section
variable{X:Cx}{x:Str}{p pos:Pos}{e:Expr}{es:List Expr}{t:TA}{id T:String}{r:List V->Hp->VK->Prop}
def Om(r:List V->Hp->VK->Prop)(t:TA):TE:=λσ H Q=>t σ H λvs H1=>r vs H1 Q
theorem rL(hc:FW X (.builtin id) r)(hg:Gl X x)(hm:X.mg x=none)(hv:bootBuiltins x=some (.builtin id))(ha:PA X (e::es) t)(hn:x≠"__name__":=by decide)(hdb:(x==("__debug__":Str))=false:=by decide)
  (he:cD (e::es) X.env=(false,eval e X.env)::cD es X.env:=by rfl)(hpl:(backTo pos (cD es X.env)).any (·.1)=false:=by rfl):PE X (.Call (.Name x p) (e::es) [] pos) (Om r t):=by
 intro a s b H Q I h
 refine d9 (t7 I hg hm hv ?_ hn hdb)
 exact gB (Fw (ha pos a s b H _ I h) λf k ⟨vs,c,j,d,g⟩=>hc a k b c vs f Q j d g) he hpl
theorem sA(hc:FW X (.type T) r)(hg:Gl X x)(hm:X.mg x=none)(hv:bootBuiltins x=some (.type T))(ha:PA X (e::es) t)(hn:x≠"__name__":=by decide)(hdb:(x==("__debug__":Str))=false:=by decide)
  (he:cD (e::es) X.env=(false,eval e X.env)::cD es X.env:=by rfl)(hpl:(backTo pos (cD es X.env)).any (·.1)=false:=by rfl):PE X (.Call (.Name x p) (e::es) [] pos) (Om r t):=by
 intro a s b H Q I h
 refine d9 (t7 I hg hm hv ?_ hn hdb)
 exact du (Fw (ha pos a s b H _ I h) λf k ⟨vs,c,j,d,g⟩=>hc a k b c vs f Q j d g) he hpl
end
end L2
namespace HT
open PySem PyProof.Rows
section
variable{prog:cg}{w:cC}{A:cO}{E:bQ->bS->Prop}{s:bS}
theorem cat_tup{t b:bV}{vs ws:List bQ}{Q:bQ->bS->Prop}(ht:IsTup s.heap t vs.toArray)(hb:IsTup s.heap b ws.toArray)(hv:vs≠[])
  (h1:ws=[]->Q (.ref t) s)(h2:ws≠[]->Q (.ref s.heap.objs.size) {s with heap:=s.heap.push {cls:= .type "tuple",data:= .seq (vs++ws).toArray}})
  (hsz:vs.length+ws.length<=sizeLine):wpAny (model prog w) A (binaryOp .Add (.ref t) (.ref b)) Q E s:=by
 obtain⟨⟨cls,p,data,k⟩,d,l,n,m⟩:=id ht
 obtain⟨⟨r,f,q,h⟩,a,g,o,j⟩:=id hb
 simp only at l m g j
 subst l m g j
 have e:vs.toArray++ws.toArray=(vs++ws).toArray:=by simp
 by_cases c:ws=[]
 ·exact m9 ⟨_,d,rfl⟩ ⟨_,a,rfl⟩ kz mm iU iN (iG _ _)
   (tuple_addW1 t b vs.toArray ws.toArray n o p f k h (by simpa using hv) (by simp[c])) ⟨d,a,h1 c⟩
 ·refine m9 ⟨_,d,rfl⟩ ⟨_,a,rfl⟩ kz mm iU iN (iG _ _)
   (tuple_addW2 t b vs.toArray ws.toArray n o p f k h (by simpa using hv) (by simpa using c) (by rw[cc,cc];exact hsz)) ⟨d,a,?_⟩
  rw[e]
  exact h2 c
def sIx(n d:Nat):Option Int->Nat
 | none=>d
 | some v=>if v<0 then(v+(n:Int)).toNat else min v.toNat n
theorem sIx_none(n d:Nat):sIx n d none=d:=rfl
theorem sIx_nat(n d k:Nat):sIx n d (some (k:Int))=min k n:=by
 show(if(k:Int)<0 then((k:Int)+(n:Int)).toNat else min (k:Int).toNat n)=min k n;rw[if_neg (by omega),eZ]
end
end HT
namespace L2
open PySem PySem.Spec PyProof.Rows
abbrev TO:=St->Hp->(Option Int->Hp->Prop)->Prop
def PO(X:Cx)(e:Option Expr)(t:TO):Prop:=
 ∀(pins:List (bV×Obj)) (s:bS) (σ:St) (H:Hp) (Q:Option Int->Hp->Prop),Inv X pins σ H s->t σ H Q->
  wpAny (model X.prog X.w) X.A (evalPart e X.env) (λu s'=>∃o H',Inv X pins σ H' s'/\IsPart u o/\Q o H') X.xe s
def LL:TO:=λ_ H Q=>Q none H
def Nz(t:TE):TO:=λσ H Q=>t σ H λx H1=>∃i,x = .int i/\Q (some i) H1
section
variable{X:Cx}{e:Expr}{te:TE}{lo hi:Option Expr}{tl th:TO}{pos p2:Pos}
theorem tN:PO X none LL:=by
 intro a s b H Q I h;rw[mn];exact bO ⟨none,H,I,.none,h⟩
theorem sY(h:PE X e te):PO X (some e) (Nz te):=by
 intro a s d H Q I j;rw[pK];refine Fw (h a s d H _ I j) λu k ⟨x,c,f,b,g⟩=>?_;obtain⟨i,rfl,q⟩:=g;obtain⟨t,rfl⟩:=b;exact⟨some i,c,f,.int i t,q⟩
def Oa(X:Cx)(r:V->Option Int->Option Int->Hp->VK->Prop):Prop:=
 ∀(pins:List (bV×Obj)) (s:bS) (σ:St) (H:Hp) (x:V) (v vl vu:bQ) (lo hi:Option Int) (sl:bV) (Q:VK),Inv X pins σ H s->RelV x v->s.heap.IsSliceOf sl vl vu .none->IsPart vl lo->IsPart vu hi->r x lo hi H Q->
  ∃T id,typeLookup (.type T) "__getitem__"=pure (some (.builtin id))/\s.TypeIs v T/\wpAny (model X.prog X.w) X.A (getItem v (.ref sl)) (EP X pins σ Q) X.xe s
def Ox(r:V->Option Int->Option Int->Hp->VK->Prop)(te:TE)(tl th:TO):TE:=λσ H Q=>te σ H λx H1=>tl σ H1 λl H2=>th σ H2 λu H3=>r x l u H3 Q
theorem sT{r:V->Option Int->Option Int->Hp->VK->Prop}(hr:Oa X r)(he:PE X e te)(hl:PO X lo tl)(hu:PO X hi th):PE X (.Subscript e (.Slice lo hi none p2) pos) (Ox r te tl th):=by
 intro a s d H Q I h;refine oK (Fw (he a s d H _ I h) λv L ⟨x,C,p,y,B⟩=>?_);refine wpAny_Slice (Fw (hl a L d C _ p B) λf o ⟨l,G,m,J,z⟩=>Fw (hu a o d G _ m z) λg c ⟨u,j,k,n,E⟩=>?_);rw[mn];refine bO ?_;have D:Inv X a d j {c with heap:=c.heap.push {cls:= .type "slice",data:= .fields #[f,g,.none]}}:=k.kept (t':=c.toks) λb M q=>bU _ q;obtain⟨T,id,F,t,K⟩:=hr a {c with heap:=c.heap.push {cls:= .type "slice",data:= .fields #[f,g,.none]}} d j x v f g l u c.heap.objs.size Q D y (mF ..) J n E;show wpAny (model X.prog X.w) X.A (subscriptTail e (.Slice lo hi none p2) v (.ref c.heap.objs.size)) (EP X a d Q) X.xe {c with heap:=c.heap.push {cls:= .type "slice",data:= .fields #[f,g,.none]}};exact qD (ops:=[.ref c.heap.objs.size,v]) t F K (by with_unfolding_all rfl)
def Gz(xs:List V)(lo hi:Option Int):List V:=(xs.drop (HT.sIx xs.length 0 lo)).take (HT.sIx xs.length xs.length hi-HT.sIx xs.length 0 lo)
theorem wA(xs:List V)(lo hi:Option Int):(Gz xs lo hi).length<=xs.length:=by
 unfold Gz;rw[cf,dP];omega
def M0(K:bN):R2:=λx y H Q=>∃a b xs ys,x = .ref a/\y = .ref b/\SqT K H a xs/\SqT K H b ys/\xs≠[]/\xs.length+ys.length<=sizeLine/\
 (ys=[]->Q (.ref a) H)/\(ys≠[]->∀p,H p=none->Q (.ref p) (upd H p (.tup (xs++ys))))
theorem Vals.nil_iff{xs:List V}{us:List bQ}(r:Vals xs us):us=[]↔xs=[]:=by
 cases r with
 | nil=>simp
 | cons _ _=>simp
theorem D6:Gx X (binaryOp .Add) (M0 X.K):=by
 intro g s F H x y v u Q I l A h;obtain⟨a,b,r,B,rfl,rfl,t,p,C,e,k,j⟩:=h
 cases l
 cases A;obtain⟨D,d,f,_⟩:=I.tuple t;obtain⟨m,c,n,_⟩:=I.tuple p;refine HT.cat_tup f n (λz=>C (d.nil_iff.mp z)) (λz=>⟨.ref a,H,I,rfl,k (c.nil_iff.mp z)⟩) (λz=>?_) (by rw[<-d.length,<-c.length];exact e);refine⟨.ref s.heap.objs.size,_,I.laid (t':=s.toks) (o:= .tup (r++B)) (λb E q=>bU _ q) (bX _) ?_,rfl,j (λw=>z (c.nil_iff.mpr w)) _ (I.hok.fresh (bX _))⟩;exact⟨by rw[cr];exact e,_,d.append c,p9 _ _⟩
end
def K5(n:Nat)(i:Int):Option Nat:=if 0<=i then(if i<n then some i.toNat else none)else if -(n:Int)<=i then some (i+n).toNat else none
def HQ{α:Type}(xs:List α)(i:Int):Option α:=(K5 xs.length i).bind λj=>xs[j]?
theorem Cb{n:Nat}{i:Int}{j:Nat}(h:K5 n i=some j):seqIndex? i n=some j/\j<n/\ -(n:Int)<=i/\i<n:=by
 unfold K5 at h;by_cases h0:0<=i
 ·rw[if_pos h0]at h;by_cases h1:i<n
  ·rw[if_pos h1]at h;have e:i.toNat=j:=Option.some.inj h;exact⟨by rw[lS h0 h1,e],by omega,by omega,h1⟩
  ·rw[if_neg h1]at h;cases h
 ·rw[if_neg h0]at h;by_cases h1: -(n:Int)<=i
  ·rw[if_pos h1]at h;have e:(i+n).toNat=j:=Option.some.inj h;exact⟨by rw[na (by omega) h1,e],by omega,h1,by omega⟩
  ·rw[if_neg h1]at h;cases h
theorem yK{α:Type}{xs:List α}{i:Int}{v:α}(h:HQ xs i=some v):∃j,seqIndex? i xs.length=some j/\xs[j]?=some v/\j<xs.length/\ -(xs.length:Int)<=i/\i<xs.length:=by
 unfold HQ at h
 cases e:K5 xs.length i with
 | none=>rw[e]at h;cases h
 | some j=>
  rw[e]at h;obtain⟨h1,h2,h3,h4⟩:=Cb e;exact⟨j,h1,h,h2,h3,h4⟩
theorem sO{α:Type}{xs:List α}{j:Nat}{v:α}(h:xs[j]?=some v):HQ xs (j:Int)=some v:=by
 have a:j<xs.length:=(b8.mp h).1;have e:K5 xs.length (j:Int)=some j:=by
  unfold K5;rw[if_pos (by omega),if_pos (by omega)];simp
 unfold HQ;rw[e];exact h
def Jm(b:Expr):Prop:=∀o i,subscripted b false o i=operate [o,i] (getItem o i)
def IxR(X:Cx)(r:R2):Prop:=
 ∀(value slice:Expr) (pins:List (bV×Obj)) (s:bS) (σ:St) (H:Hp) (x y:V) (v u:bQ) (Q:VK),Inv X pins σ H s->RelV x v->RelV y u->r x y H Q->
  subscripted slice false v u=operate [v,u] (getItem v u)->wpAny (model X.prog X.w) X.A (subscriptTail value slice v u) (EP X pins σ Q) X.xe s
def MS(X:Cx)(id:String)(r:V->List V->Hp->VK->Prop):Prop:=
 ∀(pins:List (bV×Obj)) (s:bS) (σ:St) (H:Hp) (x:V) (xs:List V) (v:bQ) (us:List bQ) (Q:VK),Inv X pins σ H s->RelV x v->Vals xs us->r x xs H Q->
  wpAny (model X.prog X.w) X.A (call (.builtin id) (v::us)) (EP X pins σ Q) X.xe s
section
variable{X:Cx}{a b:Expr}{ta tb:TE}{pos:Pos}
theorem IxR.or{r r':R2}(h:IxR X r)(h':IxR X r'):IxR X (λx y H Q=>r x y H Q\/r' x y H Q):=by
 intro b a c s f H x y v u Q I d e q g;rcases q with q|q
 ·exact h b a c s f H x y v u Q I d e q g
 ·exact h' b a c s f H x y v u Q I d e q g
theorem rS{r:R2}(hr:IxR X r)(ha:PE X a ta)(hb:PE X b tb)(hs:Jm b):PE X (.Subscript a b pos) (Mm r ta tb):=by
 intro c s f H Q I h;exact oK (MI ha hb I h λv u j x y k g d e q=>hr a b c j f k x y v u Q g d e q (hs _ _))
def ME(K:bN):R2:=λx y H Q=>∃p xs i v,x = .ref p/\y = .int i/\SqL K H p xs/\HQ xs i=some v/\Q v H
def MJ(K:bN):R2:=λx y H Q=>∃p xs i v,x = .ref p/\y = .int i/\SqT K H p xs/\HQ xs i=some v/\Q v H
def MW:R2:=λx y H Q=>∃z i c,x = .str z/\y = .int i/\z.length<=sizeLine/\HQ z.cps.toList i=some c/\Q (.str ⟨#[c]⟩) H
theorem rZ:IxR X (ME X.K):=by
 intro m l a s k H x y v u Q I C D h g;obtain⟨p,G,i,z,rfl,rfl,o,A,q⟩:=h
 cases C;obtain⟨t,rfl⟩:=D;obtain⟨d,r,c,E⟩:=I.list o;obtain⟨j,h1,h2,h3,h4,h5⟩:=yK A;obtain⟨w,e,f⟩:=r.get h2;have B:=r.length;have F:=GB;have fin:EP X a k Q w s:=⟨z,H,I,f,q⟩;by_cases h0:0<=i
 ·have b:i.toNat=j:=by
   rw[lS h0 h5]at h1;exact Option.some.inj h1
  exact item_listR c.isList h0 (by omega) (by rw[b];simpa using e) fin g
 ·have b:(i+(d.toArray.size:Int)).toNat=j:=by
   rw[na (by omega) h4]at h1;rw[cc,<-B];exact Option.some.inj h1
  exact iV (x:=w) c.isList.typeIs jZ.lookup
   (wpAny_getItem_list_neg (Q:=λr n=>r=w/\EP X a k Q r n) c.isList (by omega) (by rw[cc] <;> omega) (by omega) (by rw[b];simpa using e) ⟨rfl,fin⟩) g
theorem sd:IxR X (MJ X.K):=by
 intro f e a s c H x y v u Q I o B h A;obtain⟨p,F,i,z,rfl,rfl,l,m,q⟩:=h
 cases o;obtain⟨t,rfl⟩:=B;obtain⟨C,r,d,D⟩:=I.tuple l;obtain⟨j,h1,h2,h3,h4,h5⟩:=yK m;obtain⟨w,k,b⟩:=r.get h2;have n:=r.length;have E:=GB;have fin:EP X a c Q w s:=⟨z,H,I,b,q⟩;exact iV (x:=w) d.typeIs slot_tuple_getitem.lookup
  (getItem_tuple (j:=j) (Q:=λr g=>r=w/\EP X a c Q r g) d (by omega) (by omega) (by rw[cc,<-n];exact h1) (by simpa using k) ⟨rfl,fin⟩) A
theorem yo:IxR X MW:=by
 intro b a f s r H x y v u Q I l n h m;obtain⟨z,i,c,rfl,rfl,o,g,q⟩:=h;obtain⟨t,rfl⟩:=l;obtain⟨w,rfl⟩:=n;obtain⟨j,h1,h2,h3,h4,h5⟩:=yK g;have k:z.cps.toList.length=z.length:=by simp[jA]
 rw[k]at h1 h4 h5;have p:=GB;exact qD (mG s z t) nP.lookup (getItem_str (c:=c) (by
  have e:decide (i < -(2^63:Int))=false:=decide_eq_false (by omega);have d:decide (i>=2^63)=false:=decide_eq_false (by omega);rw[e,d,j7]) (by rw[h1];simpa using h2) ⟨.str ⟨#[c]⟩,H,I.tok _,⟨_,rfl⟩,q⟩) m
def OB(K:bN):R2:=λx y H Q=>ME K x y H Q\/MJ K x y H Q\/MW x y H Q
theorem Dx:IxR X (OB X.K):=rZ.or (sd.or yo)
theorem zO(its:List bQ)(n j:Nat)(u:bQ):dr (·.setIfInBounds j u) {cls:= .type "list",data:= .seq its.toArray n}={cls:= .type "list",data:= .seq (its.set j u).toArray n}:=by
 simp[dr]
theorem Inv.lst{pins:List (bV×Obj)}{σ:St}{H:Hp}{s:bS}{p:bV}{xs:List V}(I:Inv X pins σ H s)(h:H p=some (.lst xs)):
  ∃(its:List bQ) (n:Nat),Vals xs its/\s.heap.get? p=some {cls:= .type "list",data:= .seq its.toArray n}/\xs.length<=sizeLine:=by
 obtain⟨z,its,n,r,e⟩:=I.hok p _ h
 exact⟨its,n,r,e,z⟩
theorem Inv.lstUpd{pins:List (bV×Obj)}{σ:St}{H:Hp}{s:bS}{p:bV}{xs ys:List V}{its its':List bQ}{n n':Nat}{f:Obj->Obj}(I:Inv X pins σ H s)(h:H p=some (.lst xs))
  (ho:s.heap.get? p=some {cls:= .type "list",data:= .seq its.toArray n})(hf:f {cls:= .type "list",data:= .seq its.toArray n}={cls:= .type "list",data:= .seq its'.toArray n'})(r:Vals ys its')(hz:ys.length<=sizeLine)(t:Nat):
  Inv X pins σ (upd H p (.lst ys)) {s with heap:=s.heap.update p f,toks:=t}:=by
 have e:(s.heap.update p f).get? p=some {cls:= .type "list",data:= .seq its'.toArray n'}:=by
  rw[dR f ho (by rw[hf] <;> rfl),hf]
 refine I.write (x:=p) (e:=p) (by rw[h];trivial) (.inl rfl) (λb u a q=>(ea _ _ (Ne.symm a)).trans q) ⟨_,e⟩ ?_
 exact⟨hz,its',n',r,e⟩
def Nb:V->V->V->Hp->(Hp->Prop)->Prop:=λo i v H Q=>∃p xs k j,o = .ref p/\i = .int k/\H p=some (.lst xs)/\K5 xs.length k=some j/\Q (upd H p (.lst (xs.set j v)))
theorem vE:LG X Nb:=by
 intro b s w H o i v A z u Q I x l y h;obtain⟨p,m,k,j,rfl,rfl,hp,g,q⟩:=h
 cases x;obtain⟨t,rfl⟩:=l;obtain⟨a,n,r,c,f⟩:=I.lst hp;obtain⟨h1,h2,h3,h4⟩:=Cb g;have d:=r.length;have B:=GB;have e:Inv X b w (upd H p (.lst (m.set j v))) {s with heap:=s.heap.update p (dr (·.setIfInBounds j u))}:=
  I.lstUpd hp c (zO a n j u) (r.set y j) (by rw[fT];exact f) s.toks
 by_cases h0:0<=k
 ·have hk:k.toNat=j:=by
   rw[lS h0 h4]at h1;exact Option.some.inj h1
  exact PySem.W.ki_setAt c h0 (by omega) (by rw[cc,<-d];exact h4) (by rw[hk];exact⟨_,e,q⟩)
 ·have hk:(k+(a.toArray.size:Int)).toNat=j:=by
   rw[na (by omega) h3]at h1;rw[cc,<-d];exact Option.some.inj h1
  exact PySem.W.ki_setBack c (by omega) (by rw[cc,<-d];exact h3) (by omega) (by rw[hk];exact⟨_,e,q⟩)
theorem xN(lo hi:Option Int)(n:Nat):(sliceBounds lo hi none n).1=((HT.sIx n 0 lo:Nat):Int)/\(sliceBounds lo hi none n).2.1=((HT.sIx n n hi:Nat):Int)/\(sliceBounds lo hi none n).2.2=1:=by
 refine⟨?_,?_,rfl⟩
 ·cases lo with
  | none=>simp[sliceBounds,HT.sIx]
  | some i=>
   simp only[sliceBounds,HT.sIx,kA,show(1:Int)>0 by decide,if_true];by_cases h:i<0
   ·simp only[h,if_true] <;> omega
   ·simp only[h,if_false] <;> omega
 ·cases hi with
  | none=>simp[sliceBounds,HT.sIx]
  | some i=>
   simp only[sliceBounds,HT.sIx,kA,show(1:Int)>0 by decide,if_true];by_cases h:i<0
   ·simp only[h,if_true] <;> omega
   ·simp only[h,if_false] <;> omega
theorem xg(its:List bQ)(lo hi:Option Int):slicePick its.toArray lo hi none=((its.drop (HT.sIx its.length 0 lo)).take (HT.sIx its.length its.length hi-HT.sIx its.length 0 lo)).toArray:=by
 obtain⟨h1,h2,h3⟩:=xN lo hi its.toArray.size;unfold slicePick;rw[h1,h2,h3];simp only[sliceRange_one,pick_run,cc] <;> rfl
def N5(K:bN):V->Option Int->Option Int->Hp->VK->Prop:=λx lo hi H Q=>∃a xs,x = .ref a/\SqL K H a xs/\∀p,H p=none->Q (.ref p) (upd H p (.lst (Gz xs lo hi)))
theorem vi:Oa X (N5 X.K):=by
 intro l s A H x v w y d e B Q I m n p k h;obtain⟨a,c,rfl,t,q⟩:=h
 cases m;obtain⟨u,r,g,j⟩:=I.list t;have f:=r.length;refine⟨"list",_,jZ.lookup,g.isList.typeIs,?_⟩;refine j8 g.isList n p k .none (by simp) ?_ (by rw[cc] <;> omega);rw[xg,<-f];refine⟨.ref s.heap.objs.size,_,I.laid (t':=s.toks) (o:= .lst (Gz c d e)) (λb z q=>bU _ q) (bX _) ?_,rfl,q _ (I.hok.fresh (bX _))⟩;exact⟨cG (wA c d e) j,_,0,(r.drop (HT.sIx c.length 0 d)).take (HT.sIx c.length c.length e-HT.sIx c.length 0 d),b4 _ rfl⟩
def GS:V->Bool
 | .non=>true
 | .bl _=>true
 | .int _=>true
 | .str _=>true
 | _=>false
def K4:V->V->Bool
 | .non,.non=>true
 | .bl a,.bl b=>a==b
 | .bl a,.int b=>(if a then 1 else 0)==b
 | .int a,.bl b=>a==(if b then 1 else 0)
 | .int a,.int b=>a==b
 | .str a,.str b=>a==b
 | _,_=>false
theorem Ex{A:cO}{s:bS}{y x:V}{u v:bQ}(ry:RelV y u)(rx:RelV x v)(fy:GS y=true)(fx:GS x=true):rd A s u v (K4 y x):=by
 cases y with
 | non=>
  cases ry
  cases x with
  | non=>cases rx;exact rB _
  | bl b=>cases rx;exact qE b
  | int b=>obtain⟨t,rfl⟩:=rx;exact qQ b t
  | str b=>obtain⟨t,rfl⟩:=rx;exact qS b t
  | _=>exact absurd (show false=true from fx) cA
 | bl a=>
  cases ry
  cases x with
  | non=>cases rx;exact qF a
  | bl b=>cases rx;exact qG a b
  | int b=>obtain⟨t,rfl⟩:=rx;exact qT a b t
  | str b=>obtain⟨t,rfl⟩:=rx;exact qV a b t
  | _=>exact absurd (show false=true from fx) cA
 | int a=>
  obtain⟨c,rfl⟩:=ry
  cases x with
  | non=>cases rx;exact qX a c
  | bl b=>cases rx;exact qY a c b
  | int b=>obtain⟨t,rfl⟩:=rx;exact re a c b t
  | str b=>obtain⟨t,rfl⟩:=rx;exact mx a c b t
  | _=>exact absurd (show false=true from fx) cA
 | str a=>
  obtain⟨c,rfl⟩:=ry
  cases x with
  | non=>cases rx;exact qZ a c
  | bl b=>cases rx;exact q4 a c b
  | int b=>obtain⟨t,rfl⟩:=rx;exact my a c b t
  | str b=>obtain⟨t,rfl⟩:=rx;exact rf a c b t
  | _=>exact absurd (show false=true from fx) cA
 | _=>exact absurd (show false=true from fy) cA
def Kt(x:V)(u:bQ):Bool:=match u with
 | .none=>K4 .non x
 | .bool b=>K4 (.bl b) x
 | .int i _=>K4 (.int i) x
 | .str z _=>K4 (.str z) x
 | _=>false
theorem Dh{x y:V}{u:bQ}(r:RelV y u)(f:GS y=true):Kt x u=K4 y x:=by
 cases y with
 | non=>cases r;rfl
 | bl b=>cases r;rfl
 | int i=>obtain⟨t,rfl⟩:=r;rfl
 | str z=>obtain⟨t,rfl⟩:=r;rfl
 | _=>exact absurd (show false=true from f) cA
theorem we{x:V}:∀{xs:List V} {us:List bQ},Vals xs us->xs.all GS=true->us.any (Kt x)=xs.any λy=>K4 y x
 | _,_,.nil,_=>rfl
 | y::xs,u::us,.cons r t,f=>by
  rw[pM,cH]at f
  rw[gz,gz,Dh r f.1,we t f.2]
theorem uP{A:cO}{s:bS}{x:V}{v:bQ}(rx:RelV x v)(fx:GS x=true):∀{xs:List V} {us:List bQ},Vals xs us->xs.all GS=true->∀u∈us,rd A s u v (Kt x u)
 | _,_,.nil,_=>λu a=>by cases a
 | y::xs,u::us,.cons r t,f=>λb a=>by
  rw[pM,cH]at f
  rcases cj.mp a with rfl|a
  ·rw[Dh r f.1];exact Ex r rx f.1 fx
  ·exact uP rx fx t f.2 b a
def Jv(x:V)(xs:List V):Bool:=xs.any λy=>K4 y x
def NO(K:bN)(neg:Bool):R2:=λx y H Q=>∃p xs,y = .ref p/\(SqL K H p xs\/SqT K H p xs)/\GS x=true/\xs.all GS=true/\Q (.bl (if neg then !Jv x xs else Jv x xs)) H
theorem yf:Gx X (compareOp .In) (NO X.K false):=by
 intro k s n H x y v u Q I f l h;obtain⟨p,m,rfl,b,g,c,q⟩:=h
 cases l;rcases b with b|b
 ·obtain⟨a,r,d,j⟩:=I.list b;refine SeqAt.in_listAt (Kt x) d.isList (λw e=>uP f g r c w (by simpa using e)) ⟨.bl _,H,I,rfl,?_⟩;rw[show a.toArray.any (Kt x)=a.any (Kt x)by simp,we r c];exact q
 ·obtain⟨a,r,d,j⟩:=I.tuple b;refine SeqAt.in_tupleAt (Kt x) d (λw e=>uP f g r c w (by simpa using e)) ⟨.bl _,H,I,rfl,?_⟩;rw[show a.toArray.any (Kt x)=a.any (Kt x)by simp,we r c];exact q
theorem tK:Gx X (compareOp .NotIn) (NO X.K true):=by
 intro k s n H x y v u Q I f l h;obtain⟨p,m,rfl,b,g,c,q⟩:=h
 cases l;rcases b with b|b
 ·obtain⟨a,r,d,j⟩:=I.list b;refine SeqAt.notIn_listAt (Kt x) d.isList (λw e=>uP f g r c w (by simpa using e)) ⟨.bl _,H,I,rfl,?_⟩;rw[show a.toArray.any (Kt x)=a.any (Kt x)by simp,we r c];exact q
 ·obtain⟨a,r,d,j⟩:=I.tuple b;refine SeqAt.notIn_tupleAt (Kt x) d (λw e=>uP f g r c w (by simpa using e)) ⟨.bl _,H,I,rfl,?_⟩;rw[show a.toArray.any (Kt x)=a.any (Kt x)by simp,we r c];exact q
theorem rW:FW X (.builtin "len") (λxs H Q=>∃p ys,xs=[.ref p]/\(SqL X.K H p ys\/SqT X.K H p ys)/\Q (.int ys.length) H):=by
 intro g s m H xs k Q I r h;obtain⟨p,ys,rfl,b,q⟩:=h;obtain⟨u,rfl,j⟩:=F7 r
 cases j;have l:=GB;rcases b with b|b
 ·obtain⟨e,c,d,f⟩:=I.list b;have a:=c.length;exact Calls.call_len_list d.isList (by simp only[cc] <;> omega) ⟨.int ys.length,H,I.tok _,⟨s.toks+1,by rw[cc,a]⟩,q⟩
 ·obtain⟨e,c,d,f⟩:=I.tuple b;have a:=c.length;exact len_tuple d (by simp only[cc] <;> omega) ⟨.int ys.length,H,I.tok _,⟨s.toks+1,by rw[cc,a]⟩,q⟩
theorem ul:FW X (.builtin "len") (λxs H Q=>∃z,xs=[.str z]/\z.length<=sizeLine/\Q (.int z.length) H):=by
 intro a s c H xs e Q I r h;obtain⟨z,rfl,b,q⟩:=h;obtain⟨u,rfl,t,rfl⟩:=F7 r;have d:=GB;exact len_str (by omega) ⟨.int z.length,H,I.tok _,⟨_,rfl⟩,q⟩
theorem sV:FW X (.type "list") (λxs H Q=>∃p ys,xs=[.ref p]/\(SqL X.K H p ys\/SqT X.K H p ys)/\∀l,H l=none->Q (.ref l) (upd H l (.lst ys))):=by
 intro v s B H xs C Q I r h;obtain⟨p,ys,rfl,k,q⟩:=h;obtain⟨u,rfl,A⟩:=F7 r
 cases A;have fin:∀(a:List bQ),Vals ys a->ys.length<=sizeLine->∀(c:Heap) (d:Nat),(∀b o',s.heap.get? b=some o'->c.get? b=some o')->
   c.get? s.heap.objs.size=some {cls:= .type "list",dict:=none,data:= .seq a.toArray d,slots:= #[]}->EP X v B Q (.ref s.heap.objs.size) {s with heap:=c}:=λa f g c d j e=>
  ⟨.ref s.heap.objs.size,_,I.laid (t':=s.toks) j (bX _) (show ObjOk X.prog X.w _ c _ (.lst ys)from⟨g,a,d,f,e⟩),rfl,q _ (I.hok.fresh (bX _))⟩
 rcases k with k|k
 ·obtain⟨a,f,y,g⟩:=I.list k;have z:=f.length;obtain⟨o,x,m,n,t⟩:=y.isList;exact pN p (.inl rfl) x m t (λc d j e=>fin a f g c d j e) (by simp only[cc] <;> omega)
 ·obtain⟨a,f,y,g⟩:=I.tuple k;have z:=f.length;obtain⟨o,x,m,n,t⟩:=y;exact pN p (.inr rfl) x m t (λc d j e=>fin a f g c d j e) (by simp only[cc] <;> omega)
theorem tG:FW X (.type "tuple") (λxs H Q=>∃p ys,xs=[.ref p]/\((SqL X.K H p ys/\∀l,H l=none->Q (.ref l) (upd H l (.tup ys)))\/(SqT X.K H p ys/\Q (.ref p) H))):=by
 intro c s n H xs z Q I r h;obtain⟨p,ys,rfl,h⟩:=h;obtain⟨u,rfl,x⟩:=F7 r
 cases x;rcases h with⟨f,q⟩|⟨f,q⟩
 ·obtain⟨a,g,j,k⟩:=I.list f;have y:=g.length;refine om j.isList (λd v=>?_) (by simp only[cc] <;> omega);have m:Inv X c n H {s with heap:=d}:=I.kept (t':=s.toks) v;have t:Inv X c n (upd H d.objs.size (.tup ys)) {s with heap:=d.push {cls:= .type "tuple",data:= .seq a.toArray}}:=
   m.laid (t':=s.toks) (λb o e=>bU _ e) (bX _) (show ObjOk X.prog X.w _ _ _ (.tup ys)from⟨k,a,g,p9 _ _⟩)
  exact⟨.ref d.objs.size,_,t,rfl,q _ (m.hok.fresh (bX _))⟩
 ·obtain⟨a,g,j,k⟩:=I.tuple f;exact call_tuple_same j ⟨.ref p,H,I,rfl,q⟩
def N7(K:bN)(T:String)(x:V)(H:Hp):Prop:=match x with
 | .str _=>T="str"
 | .int _=>T="int"
 | .ref p=>(T="list"/\∃xs,SqL K H p xs)\/(T="tuple"/\∃o,K.lookup p=some o/\o.cls = .type "tuple"/\o.dict=none)\/
   (T="dict"/\((∃kvs,H p=some (.dK kvs))\/∃kvs,H p=some (.dT kvs)))\/(T="set"/\∃S n,H p=some (.set S n))
 | _=>False
theorem Dk{pins:List (bV×Obj)}{σ:St}{H:Hp}{s:bS}{T:String}{x:V}{v:bQ}(I:Inv X pins σ H s)(r:RelV x v)(ty:N7 X.K T x H):
  s.TypeIs v T/\∀a,v = .ref a->∃ob,s.heap.get? a=some ob/\ob.dict=none:=by
 cases x with
 | str z=>
  obtain⟨t,rfl⟩:=r
  cases(show T="str"from ty)
  exact⟨mG s z t,λ_ e=>nomatch e⟩
 | int i=>
  obtain⟨t,rfl⟩:=r
  cases(show T="int"from ty)
  exact⟨typeIs_int s i t,λ_ e=>nomatch e⟩
 | ref p=>
  cases r
  rcases ty with⟨rfl,m,k⟩|⟨rfl,o,hk,j,f⟩|⟨rfl,hk⟩|⟨rfl,S,n,hk⟩
  ·obtain⟨l,_,h,_⟩:=I.list k
   refine⟨h.isList.typeIs,λa e=>?_⟩
   cases e
   obtain⟨o,n,e,c,f,_⟩:=h
   exact⟨o,e,f⟩
  ·refine⟨⟨o,I.kIn p o hk,j⟩,λa e=>?_⟩
   cases e
   exact⟨o,I.kIn _ o hk,f⟩
  ·have z:∃o,s.heap.get? p=some o/\o.ExactDict:=by
    rcases hk with⟨g,hk⟩|⟨g,hk⟩
    ·obtain⟨_,_,_,_,o,_,_,e,b,_⟩:=I.hok p _ hk
     exact⟨o,e,b⟩
    ·obtain⟨_,_,_,_,o,_,_,e,b,_⟩:=I.hok p _ hk
     exact⟨o,e,b⟩
   obtain⟨o,e,b⟩:=z
   refine⟨⟨o,e,b.1⟩,λa d=>?_⟩
   cases d
   exact⟨o,e,b.2.1⟩
  ·obtain⟨o,_,_,_,e,b,_⟩:=I.hok p _ hk
   refine⟨⟨o,e,b.1⟩,λa d=>?_⟩
   cases d
   exact⟨o,e,b.2.1⟩
 | _=>exact dI ty
def Od(K:bN)(T:String)(r:V->List V->Hp->VK->Prop)(to:TE):TE:=λσ H Q=>to σ H λx H1=>N7 K T x H1/\r x [] H1 Q
def On(K:bN)(T:String)(r:V->List V->Hp->VK->Prop)(to:TE)(t:TA):TE:=λσ H Q=>to σ H λx H1=>N7 K T x H1/\t σ H1 λxs H2=>r x xs H2 Q
variable{o e:Expr}{es:List Expr}{to:TE}{t:TA}{name:Str}{apos cpos:Pos}{T id:String}{r:V->List V->Hp->VK->Prop}
theorem EY(pa:PlainAttrs T)(slot:Slot T name id)(hty:typeOf (.builtin id)=pure (.type "method_descriptor"))(hm:MS X id r)(ho:PE X o to)
  (hbase:attributeBase o name X.env (eval o X.env)=eval o X.env:=by rfl)(hline:(apos.endLine==cpos.line)=true:=by rfl):PE X (.Call (.Attribute o name apos) [] [] cpos) (Od X.K T r to):=by
 intro a s c H Q I h
 refine kB hbase hline (Fw (ho a s c H _ I h) λv j ⟨x,e,d,b,f,g⟩=>?_)
 obtain⟨h1,h2⟩:=Dk d b f
 exact⟨T,id,pa,slot,hty,h1,h2,fY rfl (ma (hm a j c e x [] v [] Q d b .nil g))⟩
theorem tO(pa:PlainAttrs T)(slot:Slot T name id)(hty:typeOf (.builtin id)=pure (.type "method_descriptor"))(hm:MS X id r)(ho:PE X o to)(ha:PA X (e::es) t)
  (hbase:attributeBase o name X.env (eval o X.env)=eval o X.env:=by rfl)
  (hfew:((backTo cpos (cD (e::es) X.env)).all (λx=>!x.1)&&(backToKw cpos (keywordEach [] X.env)).all (λx=>x.1.isSome)
   && decide ((e::es).length+([]:List Keyword).length+(if([]:List Keyword).isEmpty then 0 else 1)<30))=true:=by rfl)
  (hline:(apos.endLine==cpos.line)=true:=by rfl)(hs:cD (e::es) X.env=(false,eval e X.env)::cD es X.env:=by rfl)(hplain:(backTo cpos (cD es X.env)).any (·.1)=false:=by rfl):
  PE X (.Call (.Attribute o name apos) (e::es) [] cpos) (On X.K T r to t):=by
 intro a s b H Q I h
 refine wpAny_Call_method_late hbase hfew hline rfl (Fw (ho a s b H _ I h) λv u ⟨x,p,c,d,m,n⟩=>?_)
 obtain⟨h1,h2⟩:=Dk c d m
 refine⟨T,id,pa,slot,hty,h1,h2,?_⟩
 have hA:=ha cpos a u b p _ c n
 rw[hs]at hA ⊢
 refine fY (by show(false||(backTo cpos (cD es X.env)).any (·.1))=false;rw[hplain] <;> rfl) (ic ?_)
 exact Fw hA λk j ⟨vs,q,g,f,l⟩=>hm a j b q x vs v k Q g d f l
end
def LK(X:Cx)(id:String)(r:V->List V->Hp->VK->Prop):Prop:=
 ∀(pins:List (bV×Obj)) (s:bS) (σ:St) (H:Hp) (x:V) (xs:List V) (v:bQ) (us:List bQ) (Q:VK),Inv X pins σ H s->RelV x v->Vals xs us->r x xs H Q->
  wpAny (model X.prog X.w) X.A (call (.builtin id) (v::us)) (EP X pins σ Q) X.xe s
theorem Vals.one:∀{x:V} {us:List bQ},Vals [x] us->∃u,us=[u]/\RelV x u
 | _,_,.cons r .nil=>⟨_,rfl,r⟩
theorem Vals.two:∀{x y:V} {us:List bQ},Vals [x,y] us->∃u v,us=[u,v]/\RelV x u/\RelV y v
 | _,_,_,.cons r (.cons q .nil)=>⟨_,_,rfl,r,q⟩
theorem Vals.zero:∀{us:List bQ},Vals [] us->us=[]
 | _,.nil=>rfl
theorem Vals.dropLast{xs:List V}{us:List bQ}(h:Vals xs us):Vals xs.dropLast us.dropLast:=by
 induction h with
 | nil=>exact .nil
 | cons r t a=>
  cases t with
  | nil=>exact .nil
  | cons q b=>exact .cons r a
theorem Vals.eraseIdx:∀{xs:List V} {us:List bQ} (i:Nat),Vals xs us->Vals (xs.eraseIdx i) (us.eraseIdx i)
 | _,_,_,.nil=> .nil
 | _,_,0,.cons _ t=>t
 | _,_,i+1,.cons r t=> .cons r (Vals.eraseIdx i t)
theorem zJ{α:Type}(l:List α):l.eraseIdx (l.length-1)=l.dropLast:=by
 induction l with
 | nil=>rfl
 | cons a r c=>
  cases r with
  | nil=>rfl
  | cons b r=>
   have e:(a::b::r).length-1=((b::r).length-1)+1:=by
    have h1:(a::b::r).length=r.length+2:=rfl;have h2:(b::r).length=r.length+1:=rfl;omega
   rw[e,List.eraseIdx_cons_succ,c]
   all_goals rfl
theorem ye{α:Type}:∀(l:List α) (i:Nat),(l.eraseIdx i).length<=l.length
 | [],_=>bX _
 | _::_,0=>dJ _
 | _::r,i+1=>gC (ye r i)
section
variable{X:Cx}{pins:List (bV×Obj)}{σ:St}{H:Hp}{s:bS}{l b:bV}{xs ys zs:List V}
theorem Inv.lset{its its':List bQ}{n:Nat}{f:Array bQ->Array bQ}{t':Nat}(I:Inv X pins σ H s)(hH:H l=some (.lst xs))
  (e:s.heap.get? l=some {cls:= .type "list",data:= .seq its.toArray n})(hf:f its.toArray=its'.toArray)(hv:Vals ys its')(hz:ys.length<=sizeLine):
  Inv X pins σ (upd H l (.lst ys)) {s with heap:=s.heap.update l (dr f),toks:=t'}:=by
 have q:=gD e f
 rw[hf]at q
 refine I.write (x:=l) (e:=l) (by rw[hH];exact trivial) (.inl rfl) (λc u b a=>(ea s.heap (dr f) (Ne.symm b)).trans a) ⟨_,q⟩ ?_
 exact⟨hz,its',_,hv,q⟩
theorem Inv.lnew{its:List bQ}{t':Nat}(I:Inv X pins σ H s)(hv:Vals ys its)(hz:ys.length<=sizeLine):
  Inv X pins σ (upd H s.heap.objs.size (.lst ys)) {s with heap:=s.heap.push {cls:= .type "list",data:= .seq its.toArray},toks:=t'}:=
 I.laid (λ_ _ q=>bU _ q) (bX _) ⟨hz,its,0,hv,b4 _ rfl⟩
theorem Inv.fresh(I:Inv X pins σ H s):H s.heap.objs.size=none:=I.hok.fresh (bX _)
theorem Inv.lstM(I:Inv X pins σ H s)(hH:H l=some (.lst xs)):xs.length<=sizeLine/\∃(its:List bQ) (n:Nat),Vals xs its/\xs.length=its.length/\s.heap.get? l=some {cls:= .type "list",data:= .seq its.toArray n}:=by
 obtain⟨z,its,n,r,e⟩:=I.hok l _ hH;exact⟨z,its,n,r,r.length,e⟩
theorem Ln{n:Nat}(h:n<=sizeLine):iH n=false:=by
 unfold iH;exact decide_eq_false (by omega)
end
section
variable{X:Cx}
def LH:V->List V->Hp->VK->Prop:=λx vs H Q=>∃l xs y,x = .ref l/\vs=[y]/\H l=some (.lst xs)/\xs.length<sizeLine/\Q .non (upd H l (.lst (xs++[y])))
theorem su:LK X "list.append" LH:=by
 intro c s p H x vs v k Q I f g h;obtain⟨l,o,y,rfl,rfl,b,j,q⟩:=h
 cases f;obtain⟨u,rfl,d⟩:=g.one;obtain⟨z,a,n,r,m,e⟩:=I.lstM b;refine fU cK ⟨_,e,rfl⟩ mc (lT _ _) (nc l a.toArray n u (by rw[cc];omega)) ⟨e,?_⟩;refine⟨.non,_,I.lset (its':=a++[u]) b e (by simp) (r.append (.cons d .nil)) ?_,rfl,q⟩;rw[cr,dB];omega
def LI:V->List V->Hp->VK->Prop:=λx vs H Q=>∃l b xs zs,x = .ref l/\vs=[.ref b]/\H l=some (.lst xs)/\H b=some (.lst zs)/\xs.length+zs.length<=sizeLine/\Q .non (upd H l (.lst (xs++zs)))
theorem mt_extend:LK X "list.extend" LI:=by
 intro p s K H x vs v C Q I w y h;obtain⟨l,b,G,J,rfl,rfl,g,m,B,q⟩:=h
 cases w;obtain⟨u,rfl,t⟩:=y.one
 cases t;obtain⟨z,c,n,r,E,e⟩:=I.lstM g;obtain⟨D,a,o,j,A,k⟩:=I.lstM m;have f:c.toArray.size+a.toArray.size<=sizeLine:=by rw[cc,cc];omega
 have d:¬(!c.toArray.isEmpty&&iH (c.toArray.size+a.toArray.size))=true:=by
  rw[Ln f,jB];exact cA
 refine fU F.slot_list_extend ⟨_,e,rfl⟩ F.entry_list_extend (F.args_list_extend_2 _ _)
  (AutoSeq1.list_extend_list_list_0 l c.toArray n b a.toArray o d (by rw[cc];omega) (by omega)) ⟨e,k,?_⟩
 refine⟨.non,_,I.lset (its':=c++a) g e (by simp) (r.append j) ?_,rfl,q⟩;rw[cr];omega
def N6:V->List V->Hp->VK->Prop:=λx vs H Q=>∃l xs y,x = .ref l/\vs=[]/\H l=some (.lst xs)/\xs[xs.length-1]?=some y/\Q y (upd H l (.lst xs.dropLast))
theorem mt_pop:LK X "list.pop" N6:=by
 intro f s A H x vs v t Q I o p h;obtain⟨l,w,y,rfl,rfl,d,k,q⟩:=h
 cases o;have c:=p.zero;subst c;obtain⟨z,a,n,r,m,e⟩:=I.lstM d;obtain⟨u,j,g⟩:=r.get k;have b:a.toArray[a.toArray.size-1]?=some u:=by
  show a.toArray[a.length-1]?=some u;rw[<-e9,<-m];exact j
 refine fU on ⟨_,e,rfl⟩ nQ (F.args_list_pop_1 _) (MeetsSeq.list_pop_last l a.toArray n u b (by rw[cc];omega)) ⟨e,?_⟩;refine⟨y,_,I.lset (its':=a.dropLast) d e ?_ r.dropLast ?_,g,q⟩
 ·show a.toArray.eraseIdxIfInBounds (a.toArray.size-1)=a.dropLast.toArray;rw[cc,i7,zJ]
 ·rw[jg];omega
def Ml:V->List V->Hp->VK->Prop:=λx vs H Q=>∃l xs i k y,x = .ref l/\vs=[.int i]/\H l=some (.lst xs)/\ -(2^63)<=i/\i<2^63/\seqIndex? i xs.length=some k/\xs[k]?=some y/\Q y (upd H l (.lst (xs.eraseIdx k)))
theorem Cv:LK X "list.pop" Ml:=by
 intro d s C H x vs v B Q I m A h;obtain⟨l,o,i,k,y,rfl,rfl,c,h1,h2,hk,g,q⟩:=h
 cases m;obtain⟨u,rfl,f⟩:=A.one;obtain⟨t,rfl⟩:=f;obtain⟨z,a,n,r,j,e⟩:=I.lstM c;obtain⟨w,p,b⟩:=r.get g;refine fU on ⟨_,e,rfl⟩ nQ (F.args_list_pop_2 _ _)
  (MeetsSeq.list_pop_at l a.toArray n i t k w (fitsIndex_both h1 h2) (by rw[cc,<-j];exact hk) (by rw[<-e9];exact p) (by rw[cc];omega)) ⟨e,?_⟩
 refine⟨y,_,I.lset (its':=a.eraseIdx k) c e ?_ (r.eraseIdx k) ?_,b,q⟩
 ·show a.toArray.eraseIdxIfInBounds k=(a.eraseIdx k).toArray;rw[i7]
 ·have:=ye o k;omega
def My:V->List V->Hp->VK->Prop:=λx vs H Q=>∃l xs,x = .ref l/\vs=[]/\H l=some (.lst xs)/\Q .non (upd H l (.lst []))
theorem CQ:LK X "list.clear" My:=by
 intro d s o H x vs v j Q I f g h;obtain⟨l,m,rfl,rfl,c,q⟩:=h
 cases f;have b:=g.zero;subst b;obtain⟨z,a,n,r,k,e⟩:=I.lstM c;refine fU F.slot_list_clear ⟨_,e,rfl⟩ F.entry_list_clear (F.args_list_clear_1 _) (AutoSeq1.list_clear_list_0 l a.toArray n (by rw[cc];omega)) ⟨e,?_⟩;exact⟨.non,_,I.lset (its':=[]) (ys:=[]) c e rfl .nil (cM _),rfl,q⟩
def NT:R2:=λx y H Q=>∃l b xs zs,x = .ref l/\y = .ref b/\H l=some (.lst xs)/\H b=some (.lst zs)/\xs.length+zs.length<=sizeLine/\∀p,H p=none->Q (.ref p) (upd H p (.lst (xs++zs)))
theorem xY:Gx X (binaryOp .Add) NT:=by
 intro j s F H x y v u Q I m p h;obtain⟨l,b,D,E,rfl,rfl,o,g,w,q⟩:=h
 cases m
 cases p;obtain⟨z,c,n,r,C,e⟩:=I.lstM o;obtain⟨B,a,A,d,t,f⟩:=I.lstM g;refine PySem.P.add_list e f ?_ (by rw[cc,cc];omega);have k:c.toArray++a.toArray=(c++a).toArray:=by simp
 rw[k];exact⟨.ref _,_,I.lnew (t':=s.toks) (r.append d) (by rw[cr];omega),rfl,q _ I.fresh⟩
end
end L2
namespace Att
open PySem PySem.W PySem.Calls PyProof.Rows
theorem wn{P:Params}{h:Heap}:∀(ns:List Int) (vs:List bQ),WellAll P h vs (ns.map rq)->IntsAre vs ns:=by
 intro ns
 induction ns with
 | nil=>
  intro vs w;rw[List.map_nil]at w
  cases w;exact .nil
 | cons n ns c=>
  intro vs w;rw[dh]at w
  cases w with
  | cons a b=>
   cases a;exact .cons _ _ (c _ b)
theorem BW{l:OpenLaw}{n:Nat}(hn:l.most=some n){P:Params}{h:Heap}{args:List WData}{vals:List bQ}
  (hpre:l.row.toRowW.claim.pre args=true)(hwl:WellAll P h vals args):
  ∃a vs ns,vals=[b5 a]/\args=[WData.list (ns.map rq)]/\h.get? a=some {cls:= .type "list",data:= .seq vs.toArray}/\IntsAre vs ns/\ns.length<=n:=by
 have e:WShape.hasAll [] args [.list .int]=true:=(pre_splitW hpre).1
 have c:l.pre.holds [] {args:=args}=true:=(pre_splitW hpre).2
 obtain⟨d,r,rfl,h1,h2⟩:=hasAllW_cons e
 obtain rfl:=hasAllW_nil h2
 obtain⟨m,rfl,h3⟩:=hasW_list h1
 obtain⟨ns,rfl⟩:=items_int h3
 have b:ns.length<=n:=by
  unfold OpenLaw.pre at c
  have h4:(WTm.not (.lt (.lit (.int (n:Int))) (.len (.arg 0)))).holds [] {args:=[.list (ns.map .int)]}=true:=by
   have h4:=(holds_andW c).1
   rw[hn]at h4
   exact h4
  have h5:=condW_of h4 (w_not (w_lt w_lit (w_len_list (w_arg rfl))))
  rw[bP]at h5
  refine kC λq=>?_
  have k:(n:Int)<((ns.length:Nat):Int):=by omega
  first
   | (rw[decide_eq_true k]at h5;exact absurd h5 (by decide))
   | (simp at h5;omega)
 cases hwl with
 | cons j f=>
  cases f
  cases j with
  | list g hall=>exact⟨_,_,ns,rfl,rfl,g,wn ns _ hall,b⟩
theorem AO(l:OpenLaw)(args:List WData):l.row.toRowW.claim.post args (.bool true) args=true:=
 postW_of (r:=l.row.toRowW) (X:=(true==true))
  (show rg [] (.bool true) .bool=true by first|rfl|decide|simp[rg,WShape.arms,WShape.armsAll])
  (show(WTm.eq .res (.lit (.bool true))).value [] {args:=args,res:=some (.bool true),after:=args}=some (.bool (true==true))from w_eq_bool (w_res rfl) w_lit) rfl
theorem attach_call{l:OpenLaw}{n:Nat}{q:cg}{loose:List Str}{XP:(Str->Option bQ)->Heap->Prop}{YP:cC->Heap->Prop}{d:DefRec}
  (hn:l.most=some n)(hdf:d.params.defaults=[])
  (call:∀(w:cC) (s₀ s₁:bS) (mg mb:Str->Option bQ) (fa:bV) (o:Obj) (pm cd doc:bQ) (a:bV) (vs:List bQ) (ns:List Int),
   Ground q loose [] XP w s₀ mg mb s₁.heap->YP w s₁.heap->
   s₁.heap.get? fa=some o->o.data = .func (docDef d.name d.params d.body d.scope pm cd doc)->s₁.heap.CodeRec cd d.name->mg d.name=some (.ref fa)->
   s₁.heap.get? a=some {cls:= .type "list",data:= .seq vs.toArray}->IntsAre vs ns->ns.length<=n->s₁.gens = #[]->
   codeAny (model l.prog w) callerA (.call (.ref fa) ⟨[.ref a],[]⟩) (λr s'=>r = .ok (.ret (.bool true))/\OldK s₁.heap s'.heap/\s'.os=s₁.os/\AllBare s'.gens) s₁):
  WalkO q loose XP YP l.row.toRowW d [] (λf vs=>oM f vs):=by
 intro w s₀ s₁ mg mb G Y fa o pm cd doc s kV t p h k m A v z as c x B j C
 obtain rfl:s = .none:=Dflts.none k hdf
 obtain rfl:kV = .none:=Dflts.noKw k
 obtain⟨a,vs,ns,rfl,rfl,e,b,g⟩:=BW hn c j
 refine enter_call (gN (call w s₀ s₁ mg mb fa o pm cd doc a vs ns G Y t (fd_plain p) h m e b g A) λr s' u=>?_)
 obtain⟨rfl,h2,h3,h4⟩:=u
 exact⟨.inl ⟨.bool true,.bool true,[],rfl,λ_=>rfl,.bool true,AO l _,λ_=>⟨mq.nil,λ_ y=>(nomatch y)⟩⟩,h2,h3,h4⟩
end Att
namespace L2
open PySem PySem.Spec PyProof.Rows
theorem uU:∀{vs:List bQ} {ns:List Int},IntsAre vs ns->Vals (ns.map V.int) vs
 | _,_,.nil=> .nil
 | _,_,.cons n t h=> .cons ⟨t,rfl⟩ (uU h)
def Mz(H:Hp):Prop:=∀b,H b=none\/∃o xs,H b=some (.frz o (.lst xs))
theorem CH{P:cg}{w:cC}{K:bN}{mg mb:Str->Option bQ}{CX:Jp}{k:Nat}{fa a:bV}{fd:FuncData}{x:Str}{sp:Sp}{s₁:bS}{vs:List bQ}{ns:List Int}
  (KX:K.In s₁.heap)(hns:s₁.heap.Ns eE mg)(hb:s₁.heap.Ns builtinsNs mb)(hbb:∀x:Str,x≠"__name__"->mb x=bootBuiltins x)(hlim:s₁.heap.NoLimit)(hg:s₁.gens = #[])
  (ha:s₁.heap.get? a=some {cls:= .type "list",data:= .seq vs.toArray})(hi:IntsAre vs ns)(hl:ns.length<=sizeLine)(hr:Room k callerA)
  (F:∀base:Heap,K.In base->base.Ns eE mg->FnOk P w K mg base CX k fa fd [x] sp)(hbind:∀(s:bS) (u:bQ),BindsTo s fd ⟨[u],[]⟩ [(x,u)])
  (hsp:∀H:Hp,Mz H->SqL K H a (ns.map V.int)->sp [.ref a] H (λv _=>v = .bl true) λ_ _ _=>False)
  (hCX:∀H e s',CX [] H s₁ (λ_ _ _=>False) e s'->False):
  codeAny (model P w) callerA (.call (.ref fa) ⟨[.ref a],[]⟩) (λr s'=>r = .ok (.ret (.bool true))/\OldK s₁.heap s'.heap/\s'.os=s₁.os/\AllBare s'.gens) s₁:=by
 have L:=uU hi
 have B:=hi.length
 have l:∀H:Hp,Mz H->SqL K H a (ns.map V.int)->HOk P w H s₁.heap->(∀b,H b≠none->b=a)->(H a≠none->K.lookup a=none)->
   codeAny (model P w) callerA (.call (.ref fa) ⟨[.ref a],[]⟩) (λr s'=>r = .ok (.ret (.bool true))/\OldK s₁.heap s'.heap/\s'.os=s₁.os/\AllBare s'.gens) s₁:=by
  intro H J N t hA Q
  have c:∀{b:bV} {o:Obj},s₁.heap.get? b=some o->H b=none->(Jo s₁.heap H).get? b=some o:=λe n=>C6 e n
  have G:∀{b:bV} {o:Obj} {g:Array DictEntry} {j:Nat},s₁.heap.get? b=some o->o.data = .dict g j->H b=none:=λ {b o g j} e d=>by
   cases q:H b with
   | none=>rfl
   | some u=>
    have C:b=a:=hA b (by rw[q];simp)
    subst C
    rw[ha]at e;cases e
    have d':ie vs.toArray _=Data.dict g j:=d
    cases d'
  have f:∀{b:bV} {m:Str->Option bQ},s₁.heap.Ns b m->(Jo s₁.heap H).Ns b m:=λ {b m} ⟨o,g,j,e,d,r⟩=>⟨o,g,j,c e (G e d),d,r⟩
  have y:K.In (Jo s₁.heap H):=λb o e=>c (KX b o e) (by
   cases q:H b with
   | none=>rfl
   | some u=>
    have C:b=a:=hA b (by rw[q];simp)
    subst C
    rw[Q (by rw[q];simp)]at e;cases e)
  have X:Mod K mg (Jo s₁.heap H):=⟨y,f hns,⟨mb,f hb,hbb⟩,let⟨U,h1,h2⟩:=hlim;⟨U,f h1,h2⟩⟩
  have O:Env0 P w K mg (Jo s₁.heap H) callerA [] s₁ H:=⟨rfl,X,λb o e=>DM e,m6 (BA _ _),trivial,λb hb=>absurd (show b∈([]:List bV)from hb) (by simp),t,.of_eq hg⟩
  refine gN ((F _ y (f hns)).run callerA [] s₁ H ⟨[.ref a],[]⟩ [.ref a] [.ref a] _ _ hr O (hbind s₁ (.ref a)) (.cons rfl .nil) (hsp H J N)) λr s' h=>?_
  cases r with
  | error e=>exact(hCX H e s' h).elim
  | ok T=>
   cases T with
   | next=>exact dI h
   | brk=>exact dI h
   | cont=>exact dI h
   | ret u=>
    obtain⟨v,H',os,D,I,A,Z,q⟩:=h
    have S:v = .bl true:=q
    subst S
    obtain rfl:u=dH true:=Z
    refine⟨rfl,OldK.of_keep λb o e=>?_,os,D⟩
    cases q:H b with
    | none=>exact I.keep b o e q (by intro z;exact absurd (show b∈([]:List bV)from z) (by simp)) (by simp)
    | some u=>
     rcases J b with z|⟨Y,xs,z⟩
     ·rw[q]at z;cases z
     ·have R:=I.frzs b Y _ z
      obtain⟨E,_⟩:=t b _ z
      obtain⟨M,_⟩:=A b _ R
      rw[e]at E;cases E
      exact M
 cases hk:K.lookup a with
 | some o=>
  have e:=KX a o hk
  rw[ha]at e
  cases e
  refine l (λ_=>none) (λ_=> .inl rfl) (.inr ⟨_,vs.toArray,_,hk,rfl,rfl,rfl,by rw[cc,B];exact hl,by simpa using L⟩) (λb u z=>by have p:(none:Option HO)=some u:=z;cases p) (λb z=>absurd rfl z) λz=>absurd rfl z
 | none=>
  refine l (λb=>if b=a then some (.frz {cls:= .type "list",data:= .seq vs.toArray} (.lst (ns.map V.int)))else none) (λb=>?_) (.inl (.inr ⟨{cls:= .type "list",data:= .seq vs.toArray},if_pos rfl⟩)) (λb u z=>?_) (λb z=>?_) λ_=>hk
  ·by_cases hb:b=a
   ·exact .inr ⟨_,_,if_pos hb⟩
   ·exact .inl (if_neg hb)
  ·by_cases hb:b=a
   ·have p:=(if_pos hb).symm.trans z
    cases p
    subst hb
    exact⟨ha,by rw[bP];exact hl,vs,_,L,ha⟩
   ·have p:=(if_neg hb).symm.trans z
    cases p
  ·by_cases hb:b=a
   ·exact hb
   ·exact absurd (if_neg hb) z
theorem walk_of{l:PySem.W.OpenLaw}{n k:Nat}{q:cg}{loose:List Str}{XP:(Str->Option bQ)->Heap->Prop}{YP:cC->Heap->Prop}{d:DefRec}{K:Params->bN}{CX:cC->Jp}{sp:cC->Sp}{x:Str}
  (hn:l.most=some n)(hn2:n<=sizeLine)(hdf:d.params.defaults=[])(hr:Room k callerA)
  (hY:∀(w:cC) (h:Heap),YP w h->(K w.params).In h)
  (F:∀(w:cC) (mg:Str->Option bQ) (fa:bV) (h:Heap),(K w.params).In h->h.Ns eE mg->mg d.name=some (.ref fa)->
   ∃fd:FuncData,(∀(s:bS) (u:bQ),BindsTo s fd ⟨[u],[]⟩ [(x,u)])/\
    ∀base:Heap,(K w.params).In base->base.Ns eE mg->FnOk l.prog w (K w.params) mg base (CX w) k fa fd [x] (sp w))
  (hsp:∀(w:cC) (H:Hp) (a:bV) (ns:List Int),ns.length<=n->Mz H->SqL (K w.params) H a (ns.map V.int)->sp w [.ref a] H (λv _=>v = .bl true) λ_ _ _=>False)
  (hCX:∀(w:cC) (H:Hp) (s:bS) (e:bQ) (s':bS),CX w [] H s (λ_ _ _=>False) e s'->False):
  PySem.W.WalkO q loose XP YP l.row.toRowW d [] (λf vs=>oM f vs):=by
 refine Att.attach_call hn hdf λw D m mg M fa o L O I a vs ns G Y N J E t p j c C=>?_
 have r:=hY w _ Y
 obtain⟨fd,z,A⟩:=F w mg fa _ r G.T.g t
 exact CH r G.T.g G.T.b G.T.builtins G.T.nolimit C p j (cG c hn2) hr A z (λH B y=>hsp w H a ns c B y) λH e s'=>hCX w H m e s'
def Fx(s:Stmt):Arguments:=match s with
 | .FunctionDef _ a _ _ _ _ _ _ _ _=>a
 | _=>{posonlyargs:=[],args:=[],vararg:=none,kwonlyargs:=[],kw_defaults:=[],kwarg:=none,defaults:=[]}
def Fq(s:Stmt):List Stmt:=match s with
 | .FunctionDef _ _ b _ _ _ _ _ _ _=>b
 | _=>[]
def Fg(s:Stmt):Scope:=match s with
 | .FunctionDef _ _ _ _ _ _ sc _ _ _=>sc
 | _=>{kind:= .function,names:=[],isGenerator:=false,isCoroutine:=false}
abbrev Ft:Jp:=λ_ _ _ _ _ _=>False
abbrev E0:XK:=λ_ _ _=>False
theorem Fn{X:Cx}:FS Ft X E0:=λ_ _ _ _ _ _ _ h=>h.elim
structure Fun(K:bN)(x qual:Str)(st:Stmt)(f:bV)(fd:FuncData):Prop where
 ex:∃(oc:bQ) (od:Option bV) (kV doc pm:bQ) (an:Option bV) (cdv ct:bQ) (osl:Array (Option bQ)),
  fd=fC x qual (Fx st) (Fq st) (Fg st) .none kV doc pm an cdv ct/\K.lookup f=some ⟨oc,od,.func fd,osl⟩/\lR K cdv qual=true
 kp:ib K (.ref f)=true
section
variable{P:cg}{w:cC}{K:bN}{mg:Str->Option bQ}{base:Heap}
theorem Fun.ok{x qual:Str}{st:Stmt}{f:bV}{fd:FuncData}{N ps:List Str}{k:Nat}{sp:Sp}(F:Fun K x qual st f fd)(S:Fj N ps (Fg st))(len:∀vs H Q E,sp vs H Q E->vs.length=ps.length)
  (hbody:∀(cdv:bQ) (A:cO) (outer:List Env) (s:bS) (H:Hp) (vs:List V) (Q:VK) (E:XK),Room k (A.deeper (envOfC qual (Fg st) s.heap.objs.size f cdv))->sp vs H Q E->
   ∃t,PSs (Jh Ft P w K mg base N qual (Fg st) f cdv A outer s H E).nox (Fq st) t/\t {nx:=λ_ H'=>Q .non H',rt:=Q} (start N vs) H):FnOk P w K mg base Ft (k+1) f fd ps sp:=by
 obtain⟨m,n,kV,d,g,j,cdv,l,e,rfl,lk,b⟩:=F.ex
 refine CJ lk b S len λA outer s H vs Q E c a=>?_
 obtain⟨t,h,q⟩:=hbody cdv A outer s H vs Q E c a
 exact⟨t,h.nox,q⟩
theorem Fun.binds{x qual:Str}{st:Stmt}{f:bV}{fd:FuncData}{ps:List Str}(F:Fun K x qual st f fd)
  (h:∀(kV doc pm:bQ) (an:Option bV) (cdv ct:bQ) (us:List bQ),us.length=ps.length->bindArgs (fC x qual (Fx st) (Fq st) (Fg st) .none kV doc pm an cdv ct) ⟨us,[]⟩=pure (ps.zip us)):Binds K fd ps []:=by
 obtain⟨d,c,kV,doc,pm,an,cdv,ct,b,rfl,lk,a⟩:=F.ex
 exact .all (h kV doc pm an cdv ct)
theorem y4{x qual:Str}{st:Stmt}{f:bV}{oc:bQ}{od an:Option bV}{osl:Array (Option bQ)}{kV doc pm cdv ct:bQ}(l:K.lookup f=some ⟨oc,od,.func (fC x qual (Fx st) (Fq st) (Fg st) .none kV doc pm an cdv ct),osl⟩)
  (c:lR K cdv qual=true)(k:ib K (.ref f)=true):Fun K x qual st f (fC x qual (Fx st) (Fq st) (Fg st) .none kV doc pm an cdv ct):=⟨⟨oc,od,kV,doc,pm,an,cdv,ct,osl,rfl,l,c⟩,k⟩
end
theorem Fh{n:Nat}(h:n<=1000):n<sizeLine:=ec h (by decide)
section
variable{X:Cx}
theorem pv(i:Nat){x:Str}{pos:Pos}(hN:X.N[i]?=some x:=by rfl)(hv:NJ X.env.scope x:=by first|exact Or.inl rfl|exact Or.inr (Or.inl rfl)|exact Or.inr (Or.inr rfl))(hd:(x==("__debug__":Str))=false:=by decide)
  (hcd:(x==("__classdict__":Str))=false:=by decide):PE X (.Name x pos) (Ni i):=EE hN hv hd hcd
end
theorem Fv{A B:Prop}(h:B):if false=true then A else B:=by
 rw[if_neg cA];exact h
theorem FH{A B:Prop}(h:A):if true=true then A else B:=by
 rw[if_pos rfl];exact h
theorem Lb{c A B:Prop}[Decidable c](h1:c->A)(h2:¬c->B):if c then A else B:=by
 by_cases h:c
 ·rw[if_pos h];exact h1 h
 ·rw[if_neg h];exact h2 h
theorem Hx{c A B:Prop}[Decidable c](hc:c)(h:B):if(!decide c)=true then A else B:=by
 rw[decide_eq_true hc];exact Fv h
def Same(H H':Hp):Prop:=∀b o,H b=some o->H' b=some o
theorem Same.refl(H:Hp):Same H H:=λ_ _ h=>h
theorem Same.trans{H H1 H2:Hp}(a:Same H H1)(b:Same H1 H2):Same H H2:=λc o h=>b c o (a c o h)
theorem Same.free{H H':Hp}(e:Same H H'){l:bV}(h:H' l=Option.none):H l=Option.none:=by
 cases q:H l with
 | none=>rfl
 | some o=>
  rw[e l o q]at h
  cases h
theorem Same.seq{K:bN}{H H':Hp}{a:bV}{xs:List V}(e:Same H H')(h:SqL K H a xs):SqL K H' a xs:=by
 rcases h with(h|⟨o,h⟩)|h
 ·exact .inl (.inl (e _ _ h))
 ·exact .inl (.inr ⟨o,e _ _ h⟩)
 ·exact .inr h
def Hb(scope:Scope)(env:Env):List (Str×bV):=
 (scope.names.filterMap λx=>if x.2==dL then(env.cells.lookup x.1).map λc=>(x.1,c)else none).reverse
theorem yI{env:Env}(f:Str×gV->List (Str×bV)->Sem (ForInStep (List (Str×bV))))
  (hf:∀n k r,f (n,k) r=(if(k==dL)=true then(do let c<-cellOf env n;pure (.yield ((n,c)::r)))else pure (.yield r))):
  ∀(ns:List (Str×gV)) (cs:List (Str×bV)),(∀x∈ns,x.2 = .free->∃c,env.cells.lookup x.1=some c)->
   forIn ns cs f=pure ((ns.filterMap λx=>if x.2==dL then(env.cells.lookup x.1).map λc=>(x.1,c)else none).reverse++cs)
 | [],cs,_=>by rw[fL];rfl
 | (n,k)::r,cs,h=>by
  rw[dD,hf]
  have d:∀x∈r,x.2 = .free->∃c,env.cells.lookup x.1=some c:=λx g=>h x (b3 _ g)
  by_cases hk:k = .free
  ·subst hk
   obtain⟨c,a⟩:=h (n,.free) b0 rfl
   have e:cellOf env n=pure c:=by unfold cellOf;rw[a]
   rw[if_pos (by rfl),e,pure_bind,pure_bind]
   show forIn r ((n,c)::cs) f=_
   rw[yI f hf r _ d,fE]
   simp[a]
  ·have b:(k==dL)=false:=by simpa using hk
   rw[if_neg (by rw[b];decide),pure_bind]
   show forIn r cs f=_
   rw[yI f hf r _ d,fE]
   simp[b]
theorem Bm{scope:Scope}{env:Env}(h:∀x∈scope.names,x.2 = .free->∃c,env.cells.lookup x.1=some c):closureFor scope env=pure (Hb scope env):=by
 simp only[closureFor];rw[yI (env:=env) _ (λn k r=>by cases hk:k==dL <;> simp[hk]) scope.names [] h];rw[er];rfl
theorem uC{env:Env}{x:Str}:∀{l:List (Str×bV)} {c:bV},(∀p∈l,env.cells.lookup p.1=some p.2)->l.lookup x=some c->env.cells.lookup x=some c
 | [],_,_,e=>by simp at e
 | (n,d)::r,c,h,e=>by
  rw[dj]at e
  cases a:x==n with
  | true=>
   rw[a]at e
   have b:d=c:=Option.some.inj e
   have f:x=n:=by simpa using a
   subst f b
   exact h _ b0
  | false=>
   rw[a]at e
   exact uC (λp hp=>h p (b3 _ hp)) e
theorem zC{scope:Scope}{env:Env}{p:Str×bV}(h:p∈Hb scope env):env.cells.lookup p.1=some p.2:=by
 unfold Hb at h;rw[jc,gd]at h;obtain⟨x,_,e⟩:=h;split at e
 ·cases q:env.cells.lookup x.1 with
  | none=>rw[q]at e;cases e
  | some c=>
   rw[q]at e;have a:(x.1,c)=p:=Option.some.inj e;subst a;exact q
 ·cases e
theorem xo{scope:Scope}{env:Env}{x:Str}{c:bV}(h:(x,c)∈Hb scope env):(x,dL)∈scope.names:=by
 unfold Hb at h;rw[jc,gd]at h;obtain⟨⟨y,k⟩,b,e⟩:=h;split at e
 ·rename_i hk
  have a:k = .free:=by simpa using hk
  cases q:env.cells.lookup y with
  | none=>simp[q]at e
  | some d=>
   simp[q]at e;rw[<-e.1,<-a];exact b
 ·cases e
theorem tm{scope:Scope}{env:Env}{x:Str}{c:bV}(e:(Hb scope env).lookup x=some c):env.cells.lookup x=some c:=
 uC (λ_ hp=>zC hp) e
theorem t8{x:Str}:∀{l:List (Str×bV)},(∃c,(x,c)∈l)->∃c,l.lookup x=some c
 | [],⟨_,h⟩=>by cases h
 | (n,d)::r,⟨c,h⟩=>by
  rw[dj]
  cases a:x==n with
  | true=>exact⟨d,rfl⟩
  | false=>
   rcases cj.mp h with q|q
   ·injection q with q1 _
    rw[q1]at a
    simp at a
   ·exact t8 ⟨c,q⟩
theorem y8{scope:Scope}{env:Env}{x:Str}{c:bV}(hm:(x,dL)∈scope.names)(e:env.cells.lookup x=some c):(Hb scope env).lookup x=some c:=by
 have a:(x,c)∈Hb scope env:=by
  unfold Hb;rw[jc,gd];exact⟨(x,.free),hm,by simp[e]⟩
 obtain⟨d,b⟩:=t8 ⟨c,a⟩;have:=tm b;rw[e]at this
 cases this;exact b
def Gb(caps:List (Option Nat))(σ:St):St:=caps.map λo=>o.bind λi=>(σ[i]?).bind id
structure CompOk(scope sc:Scope)(NX N:List Str)(caps:List (Option Nat)):Prop where
 kind:scope.kind = .function
 nd:N.Nodup
 own:∀y∈scope.names,y.2 = .cell->scope.names.lookup y.1=some .cell
 loc:∀y∈scope.names,y.2 = .local->scope.names.lookup y.1=some .local
 free:∀y∈scope.names,y.2 = .free->scope.names.lookup y.1=some .free/\(sc.names.lookup y.1=some .cell\/sc.names.lookup y.1=some .free)
 len:caps.length=N.length
 cap:∀p∈(caps.zip N),∀i,p.1=some i->NX[i]?=some p.2/\scope.names.lookup p.2=some .free
def KO(scope sc:Scope)(NX N:List Str)(caps:List (Option Nat)):Bool:=
 (scope.kind == .function)&&decide N.Nodup&&scope.names.all (λy=>y.2 != .cell||scope.names.lookup y.1==some .cell)&&scope.names.all (λy=>y.2 != .local||scope.names.lookup y.1==some .local) &&
 scope.names.all (λy=>y.2 != .free||(scope.names.lookup y.1==some .free&&(sc.names.lookup y.1==some .cell||sc.names.lookup y.1==some .free)))&&(caps.length==N.length) &&
 (caps.zip N).all (λp=>match p.1 with|none=>true|some i=>NX[i]?==some p.2&&scope.names.lookup p.2==some .free)
theorem CompOk.of{scope sc:Scope}{NX N:List Str}{caps:List (Option Nat)}(h:KO scope sc NX N caps=true):CompOk scope sc NX N caps:=by
 unfold KO at h;simp only[cH]at h;obtain⟨⟨⟨⟨⟨⟨h1,h2⟩,h3⟩,h4⟩,h5⟩,h6⟩,e⟩:=h;refine⟨by simpa using h1,of_decide_eq_true h2,λy a c=>?_,λy a b=>?_,λy a f=>?_,by simpa using h6,λp hp i d=>?_⟩
 ·have:=de.mp h3 y a;rw[c]at this;simpa using this
 ·have:=de.mp h4 y a;rw[b]at this;simpa using this
 ·have:=de.mp h5 y a;rw[f]at this;simpa using this
 ·have:=de.mp e p hp;rw[d]at this;simpa using this
def Mv(scope:Scope)(C:bV)(env:Env):List (Str×bV):=cellsFrom (C+1) scope.names (Hb scope env)
theorem uu:∀(names:List (Str×gV)) (n:Nat) (acc:List (Str×bV)) {x:Str} {c:bV},(cellsFrom n names acc).lookup x=some c->(n<=c/\(x,fA)∈names)\/acc.lookup x=some c
 | [],_,_,_,_,h=> .inr h
 | (y,k)::r,n,acc,x,c,h=>by
  unfold cellsFrom at h
  split at h
  ·rename_i hk
   have b:k = .cell:=by simpa using hk
   rcases uu r (n+1) _ h with⟨h1,h2⟩|h2
   ·exact .inl ⟨by omega,b3 _ h2⟩
   ·rw[dj]at h2
    cases a:x==y with
    | true=>
     rw[a]at h2
     have e:n=c:=Option.some.inj h2
     have d:x=y:=by simpa using a
     exact .inl ⟨by omega,by rw[d,b];exact b0⟩
    | false=>rw[a]at h2;exact .inr h2
  ·rcases uu r n acc h with⟨h1,h2⟩|h2
   ·exact .inl ⟨h1,b3 _ h2⟩
   ·exact .inr h2
theorem vk:∀(names:List (Str×gV)) (n:Nat) (acc:List (Str×bV)) {x:Str},(x,fA)∉names->(cellsFrom n names acc).lookup x=acc.lookup x
 | [],_,_,_,_=>rfl
 | (y,k)::r,n,acc,x,h=>by
  unfold cellsFrom
  have b:(x,fA)∉r:=λz=>h (b3 _ z)
  split
  ·rename_i hk
   have c:k = .cell:=by simpa using hk
   rw[vk r _ _ b,dj]
   have a:(x==y)=false:=by
    cases a:x==y with
    | false=>rfl
    | true=>
     have d:x=y:=by simpa using a
     exact absurd (by rw[d,c];exact b0) h
   rw[a]
  ·exact vk r n acc b
theorem uQ:∀(names:List (Str×gV)) (n:Nat) (acc:List (Str×bV)) {x:Str},((x,fA)∈names\/∃c,acc.lookup x=some c)->∃c,(cellsFrom n names acc).lookup x=some c
 | [],_,_,_,h=>by
  rcases h with h|h
  ·cases h
  ·exact h
 | (y,k)::r,n,acc,x,h=>by
  unfold cellsFrom
  split
  ·rename_i hk
   refine uQ r _ _ ?_
   by_cases a:x=y
   ·subst a;exact .inr ⟨n,by simp[dj]⟩
   ·rcases h with h|⟨c,h⟩
    ·rcases cj.mp h with z|z
     ·injection z with z1 _;exact absurd z1 a
     ·exact .inl z
    ·exact .inr ⟨c,by rw[dj,show(x==y)=false by simpa using a];exact h⟩
  ·rename_i hk
   refine uQ r _ _ ?_
   rcases h with h|h
   ·rcases cj.mp h with z|z
    ·injection z with _ z2
     rw[<-z2]at hk
     exact absurd rfl hk
    ·exact .inl z
   ·exact .inr h
theorem vZ:∀(names:List (Str×gV)) (n:Nat) (acc:List (Str×bV)),(∀x y c,acc.lookup x=some c->acc.lookup y=some c->x=y)->(∀x c,acc.lookup x=some c->c<n)->
  ∀x y c,(cellsFrom n names acc).lookup x=some c->(cellsFrom n names acc).lookup y=some c->x=y
 | [],_,_,hi,_=>hi
 | (w,k)::r,n,acc,hi,hb=>by
  unfold cellsFrom
  split
  ·refine vZ r (n+1) _ (λx y c h1 h2=>?_) (λx c h=>?_)
   ·rw[dj]at h1 h2
    cases a:x==w <;> cases b:y==w <;> rw[a]at h1 <;> rw[b]at h2
    ·exact hi x y c h1 h2
    ·cases h2;exact absurd (hb x _ h1) (cJ _)
    ·cases h1;exact absurd (hb y _ h2) (cJ _)
    ·have d:x=w:=by simpa using a
     have e:y=w:=by simpa using b
     rw[d,e]
   ·rw[dj]at h
    cases a:x==w <;> rw[a]at h
    ·exact cS (hb x c h)
    ·cases h;exact cV _
  ·exact vZ r n acc hi hb
theorem wk:∀(names:List (Str×gV)) (h:Heap) (acc:List (Str×bV)) {x:Str} {c:bV},(x,c)∈cellsFrom h.objs.size names acc->(x,c)∈acc\/(h.objs.size<=c/\(pushCells h names).IsCell c none)
 | [],_,_,_,_,hm=> .inl hm
 | (y,k)::r,h,acc,x,c,hm=>by
  unfold cellsFrom at hm
  unfold pushCells
  split at hm
  ·rename_i hk
   rw[if_pos hk]
   have b:(x,c)∈cellsFrom (h.push {cls:= .type "cell",data:= .cell none}).objs.size r ((y,h.objs.size)::acc):=by rw[fK];exact hm
   rcases wk r _ _ b with z|⟨d,a⟩
   ·rcases cj.mp z with z|z
    ·injection z with _ a
     subst a
     refine .inr ⟨bX _,_,lp r _ _ _ (b4 _ rfl),rfl⟩
    ·exact .inl z
   ·rw[fK]at d
    exact .inr ⟨by omega,a⟩
  ·rename_i hk
   rw[if_neg hk]
   exact wk r h acc hm
theorem yJ{M:Model}{A:cO}{E:bQ->bS->Prop}{s:bS}{scope:Scope}{globals:bV}{cl:List (Str×bV)}{qual:Str}{env:Env}{Q:Env->bS->Prop}(hcl:∀x c,(x,c)∈cl->c<s.heap.objs.size)
  (h:∀h':Heap,h'.Ns s.heap.objs.size (λ_=>none)->(∀b o,s.heap.get? b=some o->h'.get? b=some o)->(∀x c,(cellsFrom (s.heap.objs.size+1) scope.names cl).lookup x=some c->s.heap.objs.size+1<=c->h'.IsCell c none)->
   Q {scope:=scope,locals:=s.heap.objs.size,globals:=globals,cells:=cellsFrom (s.heap.objs.size+1) scope.names cl,qual:=qual,func:=none,code:=env.code,frame:=env.frame,builtins:=env.builtins} {s with heap:=h'}):
  wpAny M A (newFunctionEnv scope globals cl [] qual none .none (some env)) Q E s:=by
 simp only[newFunctionEnv,mI,if_true]
 refine bM (oh ?_)
 refine bM (wpAny_layCells _ (λk a cells=>by cases f:a==fA <;> simp[f]) _ _ _ _ ?_)
 rw[show({s with heap:=s.heap.push {cls:= .type "dict",data:= .dict #[]}}:bS).heap.objs.size=s.heap.objs.size+1 from fK ..]
 refine bM ?_
 rw[fL]
 refine bO (bO (h _ ?_ (λb o e=>lp _ _ _ _ (bU _ e)) λx c e g=>?_))
 ·refine⟨_,#[],0,lp _ _ _ _ (b4 _ rfl),rfl,?_,λx=>rfl⟩
  first|exact λe l=>by simp at l|simp
 ·have j:=dZ e
  have d:(x,c)∈cellsFrom (s.heap.push {cls:= .type "dict",data:= .dict #[]}).objs.size scope.names cl:=by rw[fK];exact j
  rcases wk _ _ _ d with z|z
  ·exact absurd (ci (hcl x c z) (Nat.le_of_succ_le g)) (cJ _)
  ·exact z.2
def FA(X:Cx)(scope:Scope)(N:List Str)(C:bV)(s₀:bS)(H₀:Hp)(ex:List bV):Cx where
 prog:=X.prog
 w:=X.w
 K:=X.K
 mg:=X.mg
 base:=X.base
 A:=X.A
 N:=N
 s₀:=s₀
 H₀:=H₀
 env:=compEnvC scope (Mv scope C X.env) C X.env
 outer:=X.stack
 stack:=X.stack
 ex:=ex
 fn:=λx=>scope.names.lookup x==some .cell
 calm:=X.calm
 pn:=[]
 xe:=λ_ _=>False
theorem vy{scope:Scope}{env:Env}{x:Str}{k:gV}(hk:k = .cell\/k = .free)(h:(relabel scope env).names.lookup x=some k):(x,dL)∈scope.names\/(x,fA)∈scope.names:=by
 have c:(x,k)∈(relabel scope env).names:=dZ h;unfold relabel at c;rw[cP]at c;obtain⟨⟨n,d⟩,b,e⟩:=c;dsimp only at e;by_cases a:(d==dL&&env.scope.kind == .function&&env.kindOf n==some .cell)=true
 ·rw[if_pos a]at e;injection e with e1 e2
  have:d = .free:=by
   rw[cH,cH]at a;simpa using a.1.1
  subst this e1;exact .inl b
 ·rw[if_neg a]at e;injection e with e1 e2
  subst e1 e2;rcases hk with hk|hk
  ·subst hk;exact .inr b
  ·subst hk;exact .inl b
theorem tX{env:Env}:∀{names:List (Str×gV)} {x:Str},names.lookup x=some .free->
  (names.map λ(n,k)=>if(k==dL&&env.scope.kind == .function&&env.kindOf n==some .cell)then(n,fA)else(n,k)).lookup x=some .cell\/
  (names.map λ(n,k)=>if(k==dL&&env.scope.kind == .function&&env.kindOf n==some .cell)then(n,fA)else(n,k)).lookup x=some .free
 | [],_,h=>by simp at h
 | (n,k)::r,x,h=>by
  have c:=@tX env r x
  rw[dh]
  dsimp only
  cases a:x==n with
  | true=>
   simp only[dj,a]at h
   cases h
   by_cases b:(dL==dL&&env.scope.kind == .function&&env.kindOf n==some .cell)=true
   ·rw[if_pos b];left;simp[dj,a]
   ·rw[if_neg b];right;simp[dj,a]
  | false=>
   simp only[dj,a]at h
   by_cases b:(k==dL&&env.scope.kind == .function&&env.kindOf n==some .cell)=true
   ·rw[if_pos b];simp only[dj,a];exact c h
   ·rw[if_neg b];simp only[dj,a];exact c h
section
variable{X:Cx}{pins:List (bV×Obj)}{σ:St}{H:Hp}{s:bS}{scope:Scope}{N:List Str}{caps:List (Option Nat)}{fp:List bV}
theorem zX{h1:Heap}{tk:Nat}(I:Inv X pins σ H s)(O:CompOk scope X.env.scope X.N N caps)(f2:∀b∈fp,HP X pins H b)(hob:∀b∈fp,b<s.heap.objs.size)
  (hns:h1.Ns (s.heap.objs.size+1) (λ_=>none))(hD:h1.get? s.heap.objs.size=some {cls:= .type "list",data:= .seq #[]})(old:∀b o,s.heap.get? b=some o->h1.get? b=some o)
  (hnew:∀x c,(Mv scope (s.heap.objs.size+1) X.env).lookup x=some c->s.heap.objs.size+1+1<=c->h1.IsCell c none):
  Inv (FA X scope N (s.heap.objs.size+1) s H fp) [(s.heap.objs.size,{cls:= .type "list",data:= .seq #[]})] (Gb caps σ) H {s with heap:=h1,toks:=tk}:=by
 have S:∀b∈Gy X.stack,b<s.heap.objs.size:=λb f=>by
  obtain⟨_,o,A,_⟩:=I.stack.mem f
  exact b6 A
 have h:∀x c,X.env.cells.lookup x=some c->c<s.heap.objs.size:=λx c e=>by
  obtain⟨v,o,A,_⟩:=I.cell x c e
  exact b6 A
 have E:∀x c,(Mv scope (s.heap.objs.size+1) X.env).lookup x=some c->(s.heap.objs.size+1+1<=c/\(x,fA)∈scope.names)\/X.env.cells.lookup x=some c:=λx c e=>by
  rcases uu _ _ _ e with z|z
  ·exact .inl z
  ·exact .inr (tm z)
 have B:∀x,(x,dL)∈scope.names->∃c,X.env.cells.lookup x=some c:=λx d=>by
  rcases(O.free _ d rfl).2 with q|q
  ·exact I.ok.has x (.inl q)
  ·exact I.ok.has x (.inr q)
 have n:∀x,(x,dL)∈scope.names->(x,fA)∉scope.names:=λx d F=>by
  have h1:=(O.free _ d rfl).1
  have h2:=O.own _ F rfl
  dsimp only at h1 h2
  rw[h1]at h2
  cases h2
 refine⟨⟨I.ok.mod,O.kind,I.ok.glob,I.ok.blt,dJ _,λx y c h1 h2=>?_,λx C=>?_,λx c D e=>?_,I.ok.hd,I.ok.frames,.inl rfl,λb f=>⟨cF (cS (hob b f)),λx c e=>?_⟩,I.bs,?_,λb o e f=>?_,λb f Q=>?_,I.stack,I.stkFree⟩,
  rfl,I.bare,Un.kept old,⟨_,hns,λi x v U t e3=>?_⟩,λx c e=>?_,I.hok.fresh (dJ _),λx c e=>?_,λp hp=>?_,I.hok.kept old,?_⟩
 ·exact vZ scope.names _ (Hb scope X.env) (λx y c a b=>I.ok.inj x y c (tm a) (tm b)) (λx c a=>cS (cS (h x c (tm a)))) x y c h1 h2
 ·have d:(x,dL)∈scope.names\/(x,fA)∈scope.names:=by
   rcases C with C|C
   ·exact vy (.inl rfl) C
   ·exact vy (.inr rfl) C
  rcases d with d|d
  ·obtain⟨c,F⟩:=B x d
   exact uQ _ _ _ (.inr ⟨c,y8 d F⟩)
  ·exact uQ _ _ _ (.inl d)
 ·have R:scope.names.lookup x=some .cell:=by simpa [FA]using D
  rcases E x c e with z|z
  ·exact cx (ci (cS (cV _)) z.1)
  ·exfalso
   have d:=dZ R
   rcases uu _ _ _ e with w|w
   ·exact absurd (ci (h x c z) (cG (g9 (dJ _)) w.1)) (cJ _)
   ·have J:=xo (dZ w)
    exact n x J d
 ·rcases E x c e with z|z
  ·exact λw=>absurd (ci (hob b f) (cG (g9 (dJ _)) (w▸z.1))) (cJ _)
  ·exact(f2 b f).2.2.2.2.1 x c z
 ·exact cG I.ok.bsz I.sz
 ·rcases(f2 b f).2.2.2.1 with z|z
  ·exact I.ok.noex b o e z
  ·exact absurd (ci (b6 (I.ok.bs b o e).1) z) (cJ _)
 ·rcases cj.mp (I.stkSub b Q)with z|z
  ·exact(f2 b f).2.1 z
  ·exact(f2 b f).2.2.1 z
 · -- a captured name
  have hi:i<caps.length:=by
   have:=(b8.mp t).1
   unfold Gb at this
   rwa[bP]at this
  have L:∃j,caps[i]?=some (some j)/\σ[j]?=some (some v):=by
   unfold Gb at t
   rw[bZ]at t
   cases q:caps[i]? with
   | none=>rw[q]at t;cases t
   | some o=>
    rw[q]at t
    have g:(o.bind λi=>(σ[i]?).bind id)=some v:=Option.some.inj t
    cases o with
    | none=>cases g
    | some j=>
     refine⟨j,rfl,?_⟩
     cases P:σ[j]? with
     | none=>rw[nR,P]at g;cases g
     | some o2=>
      rw[nR,P]at g
      cases o2 with
      | none=>cases g
      | some v2=>cases g;rfl
  obtain⟨j,V,Z⟩:=L
  have Y:N[i]?=some x:=U
  have T:(some j,x)∈caps.zip N:=by
   have:(caps.zip N)[i]?=some (some j,x):=by
    rw[jR]
    exact⟨V,Y⟩
   exact cz this
  obtain⟨hX,D⟩:=O.cap _ T j rfl
  have d:(x,dL)∈scope.names:=dZ D
  have K:NJ X.env.scope x:=by
   rcases(O.free _ d rfl).2 with q|q
   ·exact .inr (.inl q)
   ·exact .inr (.inr q)
  obtain⟨m,hn,W⟩:=I.loc
  obtain⟨u,r,l⟩:=W j x v hX Z K
  refine⟨u,r,?_⟩
  rcases l with⟨k,_⟩|⟨_,c,e,⟨o,A,G⟩⟩
  ·exfalso
   rcases(O.free _ d rfl).2 with q|q
   ·have:X.env.scope.names.lookup x=some .local:=k
    rw[q]at this;cases this
   ·have:X.env.scope.names.lookup x=some .local:=k
    rw[q]at this;cases this
  ·have M:(FA X scope N (s.heap.objs.size+1) s H fp).env.kindOf x=some .cell\/(FA X scope N (s.heap.objs.size+1) s H fp).env.kindOf x=some .free:=tX D
   exact .inr ⟨M,c,(vk _ _ _ (n x d)).trans (y8 d e),⟨o,old c o A,G⟩⟩
 ·rcases E x c e with z|z
  ·exact⟨none,hnew x c e z.1⟩
  ·obtain⟨v,o,A,G⟩:=I.cell x c z
   exact⟨v,o,old c o A,G⟩
 ·rcases E x c e with z|z
  ·exact I.hok.fresh (cG (g9 (dJ _)) z.1)
  ·exact I.freeC x c z
 ·have e:p=(s.heap.objs.size,{cls:= .type "list",data:= .seq #[]}):=by simpa [FA]using hp
  subst e
  refine⟨hD,I.hok.fresh (bX _),cF (cV _),λf=>absurd (S _ f) (cJ _),λv z=>by cases z⟩
 ·show(Gb caps σ).length=N.length
  unfold Gb
  rw[bP]
  exact O.len
end
def Na(X:Cx)(ifs:List Expr)(t:TT):Prop:=
 ∀(pins:List (bV×Obj)) (s:bS) (σ:St) (H:Hp) (Q:Bool->Hp->Prop),Inv X pins σ H s->t σ H Q->
  wpAny (model X.prog X.w) X.A (forIn ifs true λc r=>if r=true then do let ok<-isTrue c X.env (eval c X.env);pure (jl ok)else pure (jl r)) (TP X pins σ Q) X.xe s
def Hs:TT:=λ_ H Q=>Q true H
theorem sS{X:Cx}:Na X [] Hs:=λ_ _ _ H _ I h=>wpAny_tests_nil ⟨H,I,h⟩
theorem uK{X:Cx}{c:Expr}{t:TT}(h:PT X c t):Na X [c] t:=λa s b H Q I d=>wpAny_tests_one (h a s b H Q I d)
section
variable{prog:cg}{w:cC}{A:cO}{R:Result->bS->Prop}{s:bS}
theorem B0{elt target iter:Expr}{ifs:List Expr}{scope:Scope}{pos:Pos}{it acc:bQ}{env:Env}(I:Nat->bS->Prop)
  (turn:∀n s,I n s->wpAny (model prog w) A (pyNext it) (λr s₁=>match r with
   | none=>R (.ok .next) s₁
   | some v=>wpAny (model prog w) A (letOwnedTupleGo target it v) (λ_ s₀=>wpAny (model prog w) A (assign target env v) (λ_ s₂=>
     wpAny (model prog w) A (forIn ifs true λc r=>if r=true then do let ok<-isTrue c env (eval c env);pure (jl ok)else pure (jl r)) (λok s₃=>
      if ok=true then wpAny (model prog w) A (eval elt env) (λx s₄=>
       wpAny (model prog w) A (call (.builtin "list.append") [acc,x]) (λ_ s₅=>∃m,m<n/\I m s₅) (λ_ _=>False) s₄) (λ_ _=>False) s₃
      else ∃m,m<n/\I m s₃) (λ_ _=>False) s₂) (λ_ _=>False) s₀) (λ_ _=>False) s₁) (λ_ _=>False) s)
  (n:Nat)(h:I n s):codeAny (model prog w) A (.compLoop (.ListComp elt [⟨target,iter,ifs,0⟩] scope pos) 0 it acc env) R s:=by
 refine codeAny_loop rfl I (λn s j=>?_) n h
 show wpAny _ A ((compTurn (.ListComp elt [⟨target,iter,ifs,0⟩] scope pos) 0 it acc env).onRaise (λx=>do noteFrame x env;theTreesLotGoes x)) _ _ s
 refine wpAny_noted (wpAny_noRaise ?_)
 rw[compTurn_list]
 refine bM (ml (bM (Fw (turn n s j) λr s₁ a=>?_)))
 cases r with
 | none=>exact bO a
 | some v=>
  refine bM (Fw a λ_ s₀ e=>?_)
  refine bM (Fw e λ_ s₂ d=>bM (Fw d λok s₃ b=>?_))
  cases ok with
  | false=>exact bO ⟨rfl,b⟩
  | true=>exact bM (bM (Fw b λx s₄ g=>bM (Fw g λ_ s₅ f=>bO (bO ⟨rfl,f⟩))))
end
def Keep(caps:List (Option Nat))(σ σ':St):Prop:=∀(j:Nat) (v:V),(Gb caps σ)[j]?=some (some v)->σ'[j]?=some (some v)
def GK(caps:List (Option Nat))(g:TG):Prop:=∀σ σ1 x H (Q:St->Hp->Prop),Keep caps σ σ1->g x σ1 H Q->g x σ1 H λσ2 H2=>Keep caps σ σ2/\Q σ2 H2
def NI(caps:List (Option Nat))(g:Ly):Prop:=∀σ σ1 xs H (Q:St->Hp->Prop),Keep caps σ σ1->g xs σ1 H Q->g xs σ1 H λσ2 H2=>Keep caps σ σ2/\Q σ2 H2
theorem Keep.set{caps:List (Option Nat)}{σ σ':St}{i:Nat}{x:Option V}(k:Keep caps σ σ')(h:caps[i]?=some none):Keep caps σ (σ'.set i x):=λj v e=>by
 by_cases a:i=j
 ·subst a;unfold Gb at e;rw[bZ,h]at e
  cases e
 ·rw[hV a];exact k j v e
theorem sq{caps:List (Option Nat)}{i:Nat}(h:caps[i]?=some none):GK caps (Ia i):=λ_ _ _ _ _ k q=>⟨k.set h,q⟩
theorem xA{caps:List (Option Nat)}:NI caps Nk:=λ_ _ _ _ _ k q=>⟨q.1,k,q.2⟩
theorem tQ{caps:List (Option Nat)}{t:TG}{u:Ly}(mono:∀x σ H (Q Q':St->Hp->Prop),(∀σ H,Q σ H->Q' σ H)->t x σ H Q->t x σ H Q')(h1:GK caps t)(h2:NI caps u):NI caps (L9 t u):=λσ b g H Q k q=>by
 obtain⟨v,r,e,q⟩:=q;refine⟨v,r,e,?_⟩;exact mono _ _ _ _ _ (λa f ⟨c,d⟩=>h2 σ a r f Q c d) (h1 σ b v H _ k q)
theorem sW{i:Nat}:∀x σ H (Q Q':St->Hp->Prop),(∀σ H,Q σ H->Q' σ H)->Ia i x σ H Q->Ia i x σ H Q':=λ_ _ _ _ _ h q=>h _ _ q
theorem zF{K:bN}{caps:List (Option Nat)}{n:Nat}{t:Ly}(h:NI caps t):GK caps (ML K n t):=λf b x H Q k q=>by
 obtain⟨a,c,e,g,d,q⟩:=q;exact⟨a,c,e,g,d,h f b c H Q k q⟩
def KD(its:List bQ)(n:Nat):Obj:={cls:= .type "list",data:= .seq its.toArray n}
def FT(caps:List (Option Nat))(g:TG)(tt:TT)(te:TE)(σ:St)(QQ:List V->Hp->Prop)(J:It)(H1:Hp):Prop:=
 ∃W:Nat->Nat->List V->Hp->Prop,(∃m,W 0 m [] H1)/\∀i m ys H,W i m ys H->
  (J.stop i H/\QQ ys H)\/(J.go i H/\∃N:List V->Hp->Prop,(∀ys' H',N ys' H'->∃m',m'<m/\W (i+1) m' ys' H')/\
   ∀x H',J.yld i H x H'->g x (Gb caps σ) H' λσ2 H2=>tt σ2 H2 λb H3=>if b=true then te σ2 H3 λy H4=>ys.length<sizeLine/\N (ys++[y]) H4 else N ys H3)
def Nu(caps:List (Option Nat))(wi:TI)(g:TG)(tt:TT)(te:TE):TE:=λσ H Q=>
 wi σ H (FT caps g tt te σ λys H'=>∀D,H' D=none->Q (.ref D) (upd H' D (.lst ys)))
section
variable{X:Cx}{pins:List (bV×Obj)}{σ:St}{scope:Scope}{N:List Str}{caps:List (Option Nat)}{fp:List bV}
theorem Ck{H H':Hp}{s s':bS}{σ':St}{its:List bQ}{n:Nat}{ys:List V}(I:Inv X pins σ H s)(f2:∀b∈fp,HP X pins H b)
  (J:Inv (FA X scope N (s.heap.objs.size+1) s H fp) [(s.heap.objs.size,KD its n)] σ' H' s')(hv:Vals ys its)(hz:ys.length<=sizeLine):
  Inv X pins σ (upd H' s.heap.objs.size (.lst ys)) s'/\H' s.heap.objs.size=none/\H' (s.heap.objs.size+1)=none:=by
 have f:=J.pin (s.heap.objs.size,KD its n) (dc _ (bY.mpr rfl))
 obtain⟨l,c,t,_,_⟩:=f
 have d:H s.heap.objs.size=none:=I.hok.fresh (bX _)
 have g:∀b o,s.heap.get? b=some o->b≠s.heap.objs.size:=λb o e=>cF (b6 e)
 refine⟨I.call' (ch:=fp) J.os ⟨J.base.keep,J.base.slot,λb o e k r=>?_,J.base.there,λb h e=>?_,λb o u e=>?_,λb p e=>?_⟩ (λa o e=>?_) J.bare (λb m=>?_),c,J.free⟩
 ·rw[rR (g b o e)];exact J.base.free b o e k r
 ·rw[rR (sf e d)];exact J.base.tups b h e
 ·rw[rR (sf e d)];exact J.base.frzs b o u e
 ·rw[rR (sf e d)];exact J.base.tbls b p e
 ·by_cases j:a=s.heap.objs.size
  ·subst j
   rw[rF]at e
   cases e
   exact⟨hz,its,n,hv,l⟩
  ·rw[rR j]at e
   exact(J.hok a o e).stay (λb u _ q=>q) (λb q=>by rw[rR (sf q c)];exact q) λb h q=>by rw[rR (sf q c)];exact q
 ·obtain⟨_,h1,_,h3,h4,h5⟩:=f2 b m
  exact⟨h3,h1,h4,h5⟩
theorem wZ{elt tg iter:Expr}{ifs:List Expr}{pos:Pos}{g:TG}{tt:TT}{te:TE}{QQ:List V->Hp->Prop}{R:bQ->bV->Result->bS->Prop}{itv:bQ}{s2:bS}(hc:X.calm=true)(O:CompOk scope X.env.scope X.N N caps)(gk:GK caps g)
  (hg:∀C s H fp,PG (FA X scope N C s H fp) tg g)(ht:∀C s H fp,Na (FA X scope N C s H fp) ifs tt)(he:∀C s H fp,PE (FA X scope N C s H fp) elt te)
  (h2:NU X pins σ tg (FT caps g tt te σ QQ) itv s2)
  (fin:∀(D C:bV) (s':bS) (H':Hp) (ys:List V) (m:Str->Option bQ),Inv X pins σ (upd H' D (.lst ys)) s'->s'.heap.Ns C m->H' D=none->H' C=none->C≠D->X.s₀.heap.objs.size<=C->C≠X.env.locals->(∀x c,X.env.cells.lookup x=some c->c≠C)->(∀p∈X.pn++pins,p.1≠C)->
   QQ ys H'->R (.ref D) C (.ok .next) s'):
  wpAny (model X.prog X.w) X.A (newList []) (λacc s₃=>wpAny (model X.prog X.w) X.A (newFunctionEnv scope X.env.globals (Hb scope X.env) [] X.env.qual none .none (some X.env)) (λcenv s₄=>
   codeAny (model X.prog X.w) X.A (.compStart (.ListComp elt [⟨tg,iter,ifs,0⟩] scope pos) 0 itv acc {cenv with scope:=relabel scope X.env}) (R acc cenv.locals) s₄) X.xe s₃) X.xe s2:=by
 obtain⟨it,fp,tn,J,I,e,L,T,ai,f2,W,⟨m0,w0⟩,ap⟩:=h2
 subst e
 have E:∀x c,X.env.cells.lookup x=some c->c<s2.heap.objs.size:=λx c e=>by
  obtain⟨v,o,ho,_⟩:=L.cell x c e
  exact b6 ho
 refine d5 (yJ (λx c Q=>by rw[fK];exact cS (E x c (zC Q))) (λB j l h=>?_))
 dsimp only at j l h ⊢
 have K:∀b∈fp,b<s2.heap.objs.size:=λb a=>by
  obtain⟨o,ho,_⟩:=T.obj _ _ ai b a
  exact b6 ho
 generalize hH2:s2.heap.push {cls:= .type "list",dict:=none,data:= .seq ([]:List bQ).toArray}=G2 at j l h ⊢
 have hC:G2.objs.size=s2.heap.objs.size+1:=by rw[<-hH2,fK]
 rw[hC]at j h ⊢
 have an:∀b o,s2.heap.get? b=some o->B.get? b=some o:=λb o e=>l b o (hH2▸bU _ e)
 have hD:B.get? s2.heap.objs.size=some {cls:= .type "list",data:= .seq #[]}:=l _ _ (hH2▸b4 _ rfl)
 have I0:=zX (scope:=scope) (N:=N) (caps:=caps) (fp:=fp) (tk:=s2.toks) L O f2 K j hD an h
 have ak:tn 0 B:=T.keep _ _ _ ai λb _ o e=>an b o e
 have f0:∀{pins':List (bV×Obj)} {H':Hp},(∀p∈pins',p.1=s2.heap.objs.size)->(∀b∈fp,H' b=none)->∀b∈fp,HP (FA X scope N (s2.heap.objs.size+1) s2 I fp) pins' H' b:=λ {pins' H'} hp hn b a=>by
  obtain⟨_,k1,k2,k3,k4,k5⟩:=f2 b a
  refine⟨hn b a,cF (cS (K b a)),λQ=>?_,.inl a,λx c e=>by
   rcases uu _ _ _ e with z|z
   ·exact λw=>absurd (ci (K b a) (cG (g9 (dJ _)) (w▸z.1))) (cJ _)
   ·exact k4 x c (tm z),λp Q=>?_⟩
  ·rcases cj.mp (L.stkSub b Q)with z|z
   ·exact k1 z
   ·exact k2 z
  ·have q:=hp p (by simpa [FA]using Q)
   rw[q]
   exact gM (K b a)
 have ad:codeAny (model X.prog X.w) X.A (.compLoop (.ListComp elt [⟨tg,iter,ifs,0⟩] scope pos) 0 (.ref it) (.ref s2.heap.objs.size) (FA X scope N (s2.heap.objs.size+1) s2 I fp).env)
   (R (.ref s2.heap.objs.size) (s2.heap.objs.size+1)) {s2 with heap:=B}:=by
  refine B0 (λn s'=>∃i ys f k H',Inv (FA X scope N (s2.heap.objs.size+1) s2 I fp) [(s2.heap.objs.size,KD f k)] (Gb caps σ) H' s'/\Vals ys f/\ys.length<=sizeLine/\tn i s'.heap/\(∀b∈fp,H' b=none)/\W i n ys H')
   ?_ m0 ⟨0,[],[],0,I,I0,.nil,cM _,ak,λb a=>(f2 b a).1,w0⟩
  rintro n s3 ⟨i,ys,f,k,H3,I3,v3,z3,ao,al,w3⟩
  have af:∀p∈[(s2.heap.objs.size,KD f k)],p.1=s2.heap.objs.size:=λp hp=>by rw[bY.mp hp]
  rcases ap i n ys H3 w3 with⟨stop,qn⟩|⟨go,M,hM,aq⟩
  ·refine Fw (T.done (FA X scope N (s2.heap.objs.size+1) s2 I fp) rfl rfl rfl hc i _ s3 _ H3 _ I3 (f0 af al) ao stop) λr s4 ⟨hr,I4⟩=>?_
   subst hr
   obtain⟨E1,E2,E3⟩:=Ck L f2 I4 v3 z3
   obtain⟨m,Q,_⟩:=I4.loc
   refine fin _ _ s4 H3 ys m E1 Q E2 E3 (gM (cV _)) (g9 L.sz) (gM (cS L.lt)) (λx c e=>?_) (λp hp=>?_) qn
   ·obtain⟨v,o,ho,_⟩:=L.cell x c e
    exact cF (cS (b6 ho))
   ·exact cF (cS (b6 (L.pin p hp).1))
  ·refine Fw (T.item (FA X scope N (s2.heap.objs.size+1) s2 I fp) rfl rfl rfl hc i _ s3 _ H3 _ I3 (f0 af al) ao go) λr s4 ⟨u,hr,h4⟩=>?_
   subst hr
   refine Fw h4 λ_ s5 ⟨x,H5,I5,r5,y5,Z,av⟩=>?_
   have aw:=I5.pinned (f0 af av) (T.obj _ _ Z)
   refine Fw (hg _ _ _ _ _ s5 _ H5 x u _ aw r5 (gk σ _ x H5 _ (λ_ _ e=>e) (aq x H5 y5))) λ_ s6 ⟨S,H6,I6,kp,q6⟩=>?_
   refine Fw (ht _ _ _ _ _ s6 S H6 _ I6 q6) λok s7 ⟨H7,I7,q7⟩=>?_
   have ae:∀{aj:St} {P:Hp} {t:bS} {aa:List V},Inv (FA X scope N (s2.heap.objs.size+1) s2 I fp) ([(s2.heap.objs.size,KD f k)]++Ix fp s5.heap) aj P t->M aa P->
     tn (i+1) t.heap/\(∀b∈fp,P b=none)/\∃U,U<n/\W (i+1) U aa P:=λ {aj P t aa} Y m8=>by
    refine⟨T.keep _ _ _ Z λb a o e=>(Y.pin (b,o) (dc _ (dc _ (uz a e)))).1,λb a=>?_,hM _ _ m8⟩
    obtain⟨o,e,d⟩:=T.obj _ _ Z b a
    exact(Y.pin (b,o) (dc _ (dc _ (uz a e)))).2.1
   have ag:(Gb caps σ).length=S.length:=by rw[I6.len];exact I3.len
   cases ok with
   | false=>
    have ac:M ys H7:=q7
    obtain⟨b1,b2,U,ab,w'⟩:=ae I7 ac
    exact⟨U,ab,i+1,ys,f,k,H7,(I7.weak ag kp).unpinned,v3,z3,b1,b2,w'⟩
   | true=>
    have ac:te S H7 λy H4=>ys.length<sizeLine/\M (ys++[y]) H4:=q7
    refine Fw (he _ _ _ _ _ s7 S H7 _ I7 ac) λG t ⟨y,P,Y,r8,az,m8⟩=>?_
    obtain⟨b1,b2,U,ab,w'⟩:=ae Y m8
    have ar:=Y.pin (s2.heap.objs.size,KD f k) (dc _ (gu _ (bY.mpr rfl)))
    obtain⟨e8,am,ah,au,_⟩:=ar
    have ay:=v3.length
    refine fU cK ⟨_,e8,rfl⟩ mc (lT _ _) (nc s2.heap.objs.size f.toArray k G (by rw[cc];omega)) ⟨e8,?_⟩
    have q:=gD e8 (·.push G)
    rw[show f.toArray.push G=(f++[G]).toArray by simp]at q
    obtain⟨k',q⟩:∃k',(t.heap.update s2.heap.objs.size (dr (·.push G))).get? s2.heap.objs.size=some (KD (f++[G]) k'):=⟨_,q⟩
    have I9:Inv (FA X scope N (s2.heap.objs.size+1) s2 I fp) [] (Gb caps σ) P t:=(Y.weak ag kp).pins_of (pins':=[]) λp hp=>nomatch hp
    have ax:=I9.turned (h':=t.heap.update s2.heap.objs.size (dr (·.push G))) (t':=t.toks) (it:=s2.heap.objs.size) (λb o a e=>(ea t.heap _ (Ne.symm a)).trans e) am ah (.inr (bX _))
     (λx c e z=>by
      rcases uu _ _ _ e with w|w
      ·exact absurd (ci (cS (cV _)) (z▸w.1)) (cJ _)
      ·exact absurd (E x c (tm w)) (by rw[z];exact cJ _)) (λp hp=>nomatch hp)
    refine⟨U,ab,i+1,ys++[y],f++[G],k',P,ax.pins_of λp hp=>?_,v3.append (.cons r8 .nil),by rw[cr,dB];omega,T.keep _ _ _ b1 λb a o e=>?_,b2,w'⟩
    ·rw[bY.mp hp]
     exact⟨q,am,ah,au,λv z=>by cases z⟩
    ·exact(ea t.heap _ (gM (K b a))).trans e
 exact codeAny_compStart_list ad (T.self _ _ _ _ _ ak ad)
theorem sU{elt tg iter:Expr}{ifs:List Expr}{pos:Pos}{wi:TI}{g:TG}{tt:TT}{te:TE}(hc:X.calm=true)(O:CompOk scope X.env.scope X.N N caps)(gk:GK caps g)(hi:PI X tg iter wi)
  (hg:∀C s H fp,PG (FA X scope N C s H fp) tg g)(ht:∀C s H fp,Na (FA X scope N C s H fp) ifs tt)(he:∀C s H fp,PE (FA X scope N C s H fp) elt te)
  (hs:∀x,foldedSetIterable iter X.env x=pure x:=by intro _;rfl):PE X (.ListComp elt [⟨tg,iter,ifs,0⟩] scope pos) (Nu caps wi g tt te):=by
 intro a s r H Q I h
 rw[eval_ListComp]
 have l:closureFor scope X.env=pure (Hb scope X.env):=Bm λx K y=>by
  rcases(O.free x K y).2 with q|q
  ·exact I.ok.has x.1 (.inl q)
  ·exact I.ok.has x.1 (.inr q)
 refine j9 (use:=none) rfl hs l O.kind O.loc (Fw (hi a s r H _ I h) λv T h1=>Fw h1 λL M h2=>?_)
 refine wZ (R:=λn C=>compPost (model X.prog X.w) X.A X.xe none (EP X a r Q) n C) hc O gk hg ht he h2 ?_
 intro D C t P S m J G B u c f p j k z
 refine⟨m,G,λh' d=>?_⟩
 have E:=J.turned (h':=h') (t':=t.toks) (it:=C) (λb o F e=>d.extBut b o F e) (by rw[rR c];exact u) p (.inr f) j k
 exact⟨.ref D,_,E,rfl,z D B⟩
def Lv(i:Nat)(caps:List (Option Nat))(wi:TI)(g:TG)(tt:TT)(te:TE):TS:=λD σ H=>
 wi σ H (FT caps g tt te σ λys H'=>∀d,H' d=none->D.nx (σ.set i (some (.ref d))) (upd H' d (.lst ys)))
theorem tw{i:Nat}{y:Str}{py spos:Pos}{elt tg iter:Expr}{ifs:List Expr}{pos:Pos}{wi:TI}{g:TG}{tt:TT}{te:TE}(hN:X.N.Nodup)(hy:X.N[i]?=some y)(hl:X.env.scope.names.lookup y=some .local)
  (hsw:swapsWith (.ListComp elt [⟨tg,iter,ifs,0⟩] scope pos) (some (.Name y py)) spos.line X.env=pure true)
  (hc:X.calm=true)(O:CompOk scope X.env.scope X.N N caps)(gk:GK caps g)(hi:PI X tg iter wi)
  (hg:∀C s H fp,PG (FA X scope N C s H fp) tg g)(ht:∀C s H fp,Na (FA X scope N C s H fp) ifs tt)(he:∀C s H fp,PE (FA X scope N C s H fp) elt te)
  (hs:∀x,foldedSetIterable iter X.env x=pure x:=by intro _;rfl):PS X (.Assign [.Name y py] (.ListComp elt [⟨tg,iter,ifs,0⟩] scope pos) spos) (Lv i caps wi g tt te):=by
 intro c s W H D I h
 rw[exec_Assign_Name_used _ _ _ _ hsw]
 refine bM (ml (bM ?_))
 show wpAny _ X.A (do let _<-comprehension (.ListComp elt [⟨tg,iter,ifs,0⟩] scope pos) scope X.env _ (newList []) false (eval iter X.env) (some (assign (.Name y py) X.env))) _ _ s
 have B:closureFor scope X.env=pure (Hb scope X.env):=Bm λx Z K=>by
  rcases(O.free x Z K).2 with q|q
  ·exact I.ok.has x.1 (.inl q)
  ·exact I.ok.has x.1 (.inr q)
 refine bM (Fw (j9 (use:=some (assign (.Name y py) X.env)) (Q:=λ_ f=>SP X c D .next f) rfl hs B O.kind O.loc
  (Fw (hi c s W H _ I h) λv s1 h1=>Fw h1 λaa s2 h2=>?_)) λ_ f P=>bO (bO P))
 refine wZ (R:=λF C=>compPost (model X.prog X.w) X.A X.xe (some (assign (.Name y py) X.env)) (λ_ f=>SP X c D .next f) F C) hc O gk hg ht he h2 ?_
 intro d C f H' ys m Y U L J n t k j u M
 show wpAny _ X.A (assign (.Name y py) X.env (.ref d)) _ _ _
 refine mZ (ym (v:= .ref d) Y hN hy (.inl hl) rfl (λG r ⟨a,l,V⟩=>?_) (.inr hl))
 have E:C≠a:=by
  rcases V with z|z
  ·rw[z];exact k
  ·exact λq=>j y a z q.symm
 refine⟨m,U.sameBut l E,λh' p=>?_⟩
 have S:=r.turned (h':=h') (t':=G.toks) (it:=C) (λb o T e=>p.extBut b o T e) (by rw[rR n];exact J) k (.inr t) j u
 exact⟨_,_,S,M d L⟩
end
structure Dn(P:cg)(w:cC)(K:bN)(mg:Str->Option bQ)(base:Heap)(CX:Jp)(k:Nat)(x:Str)(ps:List Str)(sp:Sp):Prop where
 ex:∃f fd,FnOk P w K mg base CX k f fd ps sp/\mg x=some (.ref f)/\ib K (.ref f)=true/\Binds K fd ps []
theorem sh{X:Cx}{CX:Jp}{k j:Nat}{x:Str}{ps:List Str}{sp:Sp}{E:XK}{p pos:Pos}{e:Expr}{es:List Expr}{t:TA}(D:Dn X.prog X.w X.K X.mg X.base CX k x ps sp)(hr:Room j X.A)(hk:k<=j)(hg:Gl X x)(hx:FS CX X E)
  (ha:PA X (e::es) t)(hdb:(x==("__debug__":Str))=false:=by decide)(he:cD (e::es) X.env=(false,eval e X.env)::cD es X.env:=by rfl)(hpl:(backTo pos (cD es X.env)).any (·.1)=false:=by rfl):
  PE X (.Call (.Name x p) (e::es) [] pos) (Mf sp [] E t):=by
 obtain⟨f,c,F,m,a,b⟩:=D.ex
 exact DX F (hr.mono hk) hg m a b .nil hx ha hdb he hpl
def Def(K:bN)(mg:Str->Option bQ)(x:Str)(st:Stmt):Prop:=∃f fd,Fun K x x st f fd/\mg x=some (.ref f)
section
variable{P:cg}{w:cC}{K:bN}{mg:Str->Option bQ}{base:Heap}
theorem Def.ok{x:Str}{st:Stmt}{N ps:List Str}{k:Nat}{sp:Sp}(F:Def K mg x st)(S:Fj N ps (Fg st))(len:∀vs H Q E,sp vs H Q E->vs.length=ps.length)
  (hb:∀(kV doc pm:bQ) (an:Option bV) (cdv ct:bQ) (us:List bQ),us.length=ps.length->bindArgs (fC x x (Fx st) (Fq st) (Fg st) .none kV doc pm an cdv ct) ⟨us,[]⟩=pure (ps.zip us))
  (hbody:∀(f:bV) (cdv:bQ) (A:cO) (outer:List Env) (s:bS) (H:Hp) (vs:List V) (Q:VK) (E:XK),Room k (A.deeper (envOfC x (Fg st) s.heap.objs.size f cdv))->sp vs H Q E->
   ∃t,PSs (Jh Ft P w K mg base N x (Fg st) f cdv A outer s H E).nox (Fq st) t/\t {nx:=λ_ H'=>Q .non H',rt:=Q} (start N vs) H):Dn P w K mg base Ft (k+1) x ps sp:=by
 obtain⟨f,a,F,m⟩:=F
 exact⟨f,a,F.ok S len (hbody f),m,F.kp,F.binds hb⟩
theorem Def.nothing{x:Str}{st:Stmt}{ps:List Str}(F:Def K mg x st)
  (hb:∀(kV doc pm:bQ) (an:Option bV) (cdv ct:bQ) (us:List bQ),us.length=ps.length->bindArgs (fC x x (Fx st) (Fq st) (Fg st) .none kV doc pm an cdv ct) ⟨us,[]⟩=pure (ps.zip us)):
  Dn P w K mg base Ft 0 x ps (λ_ _ _ _=>False):=by
 obtain⟨f,a,F,m⟩:=F
 exact⟨f,a,⟨λ_ _ _ _ h=>h.elim,λ_ _ _ _ _ _ _ _ _ _ _ _ _ h=>h.elim⟩,m,F.kp,F.binds hb⟩
theorem Dn.imp{CX:Jp}{k:Nat}{x:Str}{ps:List Str}{sp sp':Sp}(D:Dn P w K mg base CX k x ps sp)(h:∀vs H Q E,sp' vs H Q E->sp vs H Q E):Dn P w K mg base CX k x ps sp':=by
 obtain⟨f,a,F,r⟩:=D.ex;exact⟨f,a,F.imp h,r⟩
end
def LT(K:bN)(mg:Str->Option bQ)(x:Str)(xs:List V):Prop:=∃a,mg x=some (.ref a)/\∀H,SqT K H a xs
def Mb(K:bN)(xs:List V):TE:=λ_ H Q=>∀a,(∀H,SqT K H a xs)->Q (.ref a) H
theorem uo{X:Cx}{x:Str}{xs:List V}{pos:Pos}(h:LT X.K X.mg x xs)(hg:Gl X x:=by rfl)(hd:(x==("__debug__":Str))=false:=by decide):PE X (.Name x pos) (Mb X.K xs):=λ_ _ _ H _ I q=>by
 obtain⟨a,m,r⟩:=h;exact uH I hg m ⟨.ref a,H,I,rfl,q a r⟩ hd
theorem B9{X:Cx}{x:Str}{i:Int}{pos:Pos}(h:∃t,X.mg x=some (.int i t))(hg:Gl X x:=by rfl)(hd:(x==("__debug__":Str))=false:=by decide):PE X (.Name x pos) (tC (.int i)):=λ_ _ _ H _ I q=>by
 obtain⟨t,m⟩:=h;exact uH I hg m ⟨.int i,H,I,⟨t,rfl⟩,q⟩ hd
theorem Fp{c A B:Prop}[Decidable c](hc:¬c)(h:B):if decide c=true then A else B:=by rw[if_neg (by simpa using hc)];exact h
theorem FD{c A B:Prop}[Decidable c](hc:c)(h:A):if decide c=true then A else B:=by rw[if_pos (by simpa using hc)];exact h
theorem FE{c A B:Prop}[Decidable c](h1:c->A)(h2:¬c->B):if decide c=true then A else B:=by
 by_cases h:c
 ·exact FD h (h1 h)
 ·exact Fp h (h2 h)
theorem II{c A B:Prop}[Decidable c](h1:¬c->A)(h2:c->B):if(!decide c)=true then A else B:=by
 by_cases h:c
 ·rw[if_neg (by simpa using h)];exact h2 h
 ·rw[if_pos (by simpa using h)];exact h1 h
theorem Ol{i j:Int}(h:i≠j):V.int i≠V.int j:=λz=>h (V.int.inj z)
theorem Kz{i j:Int}(h:V.int i=V.int j):i=j:=V.int.inj h
theorem uw{k:Int}{m:Nat}(h:k.natAbs<2^m):md k<=m:=by
 unfold md;split
 ·exact cM _
 ·rcases Nat.eq_zero_or_pos k.natAbs with h0|hp
  ·rename_i hz
   exact absurd (by simpa using h0) (by simpa using hz)
  ·have:k.natAbs.log2<m:=(oi (gM hp)).mpr h;omega
theorem M7{i j:Int}{m n:Nat}(hi:i.natAbs<2^m)(hj:j.natAbs<2^n)(h:m+n<=134217728):IntMulOk i j:=IntMulOk.of_le (uw hi) (uw hj) h
section
variable{X:Cx}
theorem sM:Gx X (binaryOp .Mult) (rI IntMulOk λi j=> .int (i*j)):=NH λ_ _ _ _ _ _ _ c h=>mul_int h c
theorem BB:Gx X (binaryOp .FloorDiv) (rI (λ_ j=>j≠0/\j.natAbs<2^9000) λi j=> .int (i.fdiv j)):=NH λi j _ _ _ _ _ c h=>
 qe c.1 h (Or.inl (ka ((oi (by have:=c.1;omega)).mpr c.2)))
theorem sX:Gx X (binaryOp .FloorDiv) (rI (λ_ j=>0<j/\j.natAbs<2^9000) λi j=> .int (i/j)):=NH λi j _ _ _ _ _ c h=>
 qe (by have:=c.1;omega) (by rw[ig _ (by have:=c.1;omega)];exact h) (Or.inl (ka ((oi (by have:=c.1;omega)).mpr c.2)))
theorem c9{n:Int}(h0:0<n)(h:n.natAbs<2^64):0<n/\n.natAbs<2^9000:=⟨h0,ci h (dM (by decide) (by decide))⟩
theorem LC{i j:Int}(h:i.natAbs<2^64):IntMulOk i j:=IntMulOk.of_left (uw h)
theorem LQ{i j:Int}(h:j.natAbs<2^64):IntMulOk i j:=IntMulOk.of_right (uw h)
theorem t6{x:Str}{T:String}{pos:Pos}(hg:Gl X x)(hm:X.mg x=none)(hv:bootBuiltins x=some (.type T))(hn:x≠"__name__":=by decide)(hd:(x==("__debug__":Str))=false:=by decide):PE X (.Name x pos) (tC (.ty T)):=DW hg hm hv rfl hn hd
def LV:V->List V->Hp->VK->Prop:=λx vs H Q=>∃l xs i y,x = .ref l/\vs=[.int i,y]/\H l=some (.lst xs)/\0<=i/\i<=(xs.length:Int)/\xs.length<sizeLine/\Q .non (upd H l (.lst (xs.take i.toNat++y::xs.drop i.toNat)))
theorem yc:LK X "list.insert" LV:=by
 intro g s B H x vs v p Q I j m h;obtain⟨l,A,i,y,rfl,rfl,d,h0,h1,o,q⟩:=h
 cases j;obtain⟨u,b,rfl,⟨tk,rfl⟩,k⟩:=m.two;obtain⟨z,a,n,r,t,e⟩:=I.lstM d;have w:=GB;have c:¬(!jC i)=true:=by
  unfold jC;simp only[ng,Bool.not_eq_false];simp only[cH,decide_eq_true_eq];omega
 refine fU F.slot_list_insert ⟨_,e,rfl⟩ F.entry_list_insert (F.args_list_insert_3 _ _ _) (lr l a.toArray n i tk b c (by rw[cc];omega)) ⟨e,?_⟩;refine⟨.non,_,I.lset (its':=a.take i.toNat++b::a.drop i.toNat) d e ?_ (Vals.append (r.take _) (.cons k (r.drop _))) ?_,rfl,q⟩
 ·have f:(if i<0 then(i+(a.toArray.size:Int)).toNat else min i.toNat a.toArray.size)=i.toNat:=by
   rw[if_neg (by omega),cc];omega
  show(a.toArray.extract 0 _).push b++a.toArray.extract _=_;rw[f];apply oN;simp[Array.toList_extract,List.extract];exact dz (by rw[dP];omega)
 ·rw[cr,cZ,cf,dP];omega
def tyOf(K:bN)(H:Hp)(x:V)(t:String):Prop:=match x with
 | .non=>t="NoneType"
 | .bl _=>t="bool"
 | .int _=>t="int"
 | .str _=>t="str"
 | .ref a=>(t="list"/\∃xs,SqL K H a xs)\/(t="tuple"/\∃xs,SqT K H a xs)
 | _=>False
def Ik(t T:String):Bool:=t==T||(t=="bool"&&T=="int")
def Lz:List String:=["NoneType","bool","int","str","list","tuple"]
def Ll:List String:=["bool","int","str","list","tuple"]
theorem B2{pins:List (bV×Obj)}{σ:St}{H:Hp}{s:bS}{A:cO}{E:bQ->bS->Prop}{Q:bQ->bS->Prop}{c:bQ}{b:Bool}{x:V}{u:bQ}{t:String}(I:Inv X pins σ H s)(rx:RelV x u)(ty:tyOf X.K H x t)
  (e:fb X.K (.type t) c=some b)(h:∀tk,Q (.bool b) {s with toks:=tk}):wpAny (model X.prog X.w) A (call (.builtin "isinstance") [u,c]) Q E s:=by
 cases x with
 | non=>cases(show u=bQ.none from rx);cases(show t="NoneType"from ty);exact fV nh I.kIn True.intro e (λz=>nomatch z) h
 | bl y=>cases(show u=dH y from rx);cases(show t="bool"from ty);exact fV nj I.kIn True.intro e (λz=>nomatch z) h
 | int i=>obtain⟨tk,q⟩:=(show ∃t,u=dn i t from rx);cases q;cases(show t="int"from ty);exact fV nS I.kIn True.intro e (λz=>nomatch z) h
 | str y=>obtain⟨tk,q⟩:=(show ∃t,u=gY y t from rx);cases q;cases(show t="str"from ty);exact fV nT I.kIn True.intro e (λz=>nomatch z) h
 | ref a=>
  cases(show u=b5 a from rx)
  rcases ty with⟨rfl,g,d⟩|⟨rfl,g,d⟩
  ·obtain⟨f,_,⟨o,n,h1,h2,_⟩,_⟩:=I.list d
   exact fV nk I.kIn ⟨o,h1,h2⟩ e (λz=>nomatch z) h
  ·obtain⟨f,_,⟨o,h1,h2,_⟩,_⟩:=I.tuple d
   exact fV mJ I.kIn ⟨o,h1,h2⟩ e (λz=>nomatch z) h
 | byt _=>exact ty.elim
 | flt _=>exact ty.elim
 | ty _=>exact ty.elim
theorem wl{K:bN}{H:Hp}{x:V}{t:String}(h:tyOf K H x t):t∈Lz:=by
 cases x with
 | non=>cases(show t="NoneType"from h);decide
 | bl _=>cases(show t="bool"from h);decide
 | int _=>cases(show t="int"from h);decide
 | str _=>cases(show t="str"from h);decide
 | ref a=>rcases h with⟨rfl,_⟩|⟨rfl,_⟩ <;> decide
 | byt _=>exact h.elim
 | flt _=>exact h.elim
 | ty _=>exact h.elim
theorem AH{K:bN}{t T:String}(ht:t∈Lz)(hT:T∈Ll):fb K (.type t) (.type T)=some (Ik t T):=by
 simp only[Lz,Ll,cj,gE,or_false]at ht hT;rcases ht with rfl|rfl|rfl|rfl|rfl|rfl <;> rcases hT with rfl|rfl|rfl|rfl|rfl <;> (unfold fb lU PySem.W.subIn;kernel_rfl)
theorem sE:FW X (.builtin "isinstance") (λxs H Q=>∃x T t,xs=[x,.ty T]/\T∈Ll/\tyOf X.K H x t/\Q (.bl (Ik t T)) H):=by
 intro b s g H xs f Q I r h;obtain⟨x,T,t,rfl,e,ty,q⟩:=h;obtain⟨u,a,rfl,d,c⟩:=Kd r
 cases(show a=cX T from c);exact B2 I d ty (AH (wl ty) e) λtk=>⟨.bl _,H,I.tok tk,rfl,q⟩
end
theorem Same.tup{K:bN}{H H':Hp}{a:bV}{xs:List V}(e:Same H H')(h:SqT K H a xs):SqT K H' a xs:=by
 rcases h with(h|⟨o,h⟩)|h
 ·exact .inl (.inl (e _ _ h))
 ·exact .inl (.inr ⟨o,e _ _ h⟩)
 ·exact .inr h
theorem mH{H:Hp}{p:bV}(h:H p=none)(o:HO):Same H (upd H p o):=λb u q=>by rw[rR (sf q h)];exact q
theorem Same.over{H H':Hp}{p:bV}(e:Same H H')(h:H p=none)(o:HO):Same H (upd H' p o):=λb u q=>by
 rw[rR (sf q h)];exact e b u q
def IsF(K:bN)(H:Hp)(v:V)(p:Int×Int):Prop:=∃a,v = .ref a/\SqT K H a [.int p.1,.int p.2]
theorem IsF.mono{K:bN}{H H':Hp}{v:V}{p:Int×Int}(e:Same H H')(h:IsF K H v p):IsF K H' v p:=by
 obtain⟨a,rfl,q⟩:=h;exact⟨a,rfl,e.tup q⟩
theorem u7{K:bN}{H:Hp}{a p:bV}{xs ys zs:List V}(h:SqT K H a xs)(hp:H p=some (.lst ys)):SqT K (upd H p (.lst zs)) a xs:=by
 rcases h with(h|⟨o,h⟩)|h
 ·exact .inl (.inl (by rw[rR (um h hp (by intro z;cases z))];exact h))
 ·exact .inl (.inr ⟨o,by rw[rR (um h hp (by intro z;cases z))];exact h⟩)
 ·exact .inr h
theorem IsF.over{K:bN}{H:Hp}{v:V}{p:bV}{ys zs:List V}{q:Int×Int}(h:IsF K H v q)(hp:H p=some (.lst ys)):IsF K (upd H p (.lst zs)) v q:=by
 obtain⟨a,rfl,h⟩:=h;exact⟨a,rfl,u7 h hp⟩
theorem Paired.get{α β:Type}{F:α->β->Prop}:∀{xs:List α} {ys:List β} {i:Nat} {y:β},cT F xs ys->ys[i]?=some y->∃x,xs[i]?=some x/\F x y
 | _,_,_,_,.nil,e=>by simp at e
 | _,_,0,_,.cons r _,e=>by simp at e;subst e;exact⟨_,rfl,r⟩
 | _,_,i+1,y,.cons _ t,e=>by
  obtain⟨x,h1,h2⟩:=Paired.get (i:=i) t (by simpa using e)
  exact⟨x,by simpa using h1,h2⟩
theorem Paired.get'{α β:Type}{F:α->β->Prop}:∀{xs:List α} {ys:List β} {i:Nat} {x:α},cT F xs ys->xs[i]?=some x->∃y,ys[i]?=some y/\F x y
 | _,_,_,_,.nil,e=>by simp at e
 | _,_,0,_,.cons r _,e=>by simp at e;subst e;exact⟨_,rfl,r⟩
 | _,_,i+1,y,.cons _ t,e=>by
  obtain⟨x,h1,h2⟩:=Paired.get' (i:=i) t (by simpa using e)
  exact⟨x,by simpa using h1,h2⟩
theorem Paired.app{α β:Type}{F:α->β->Prop}:∀{xs xs':List α} {ys ys':List β},cT F xs ys->cT F xs' ys'->cT F (xs++xs') (ys++ys')
 | _,_,_,_,.nil,t=>t
 | _,_,_,_,.cons r s,t=> .cons r (Paired.app s t)
theorem tL{α:Type}{xs:List α}{i:Int}{v:α}(h0:0<=i)(h:xs[i.toNat]?=some v):HQ xs i=some v:=by
 have e:i=((i.toNat:Nat):Int):=by omega
 rw[e];exact sO h
theorem tV{ns:List Int}{i:Nat}(h:i<ns.length):(ns.map V.int)[i]?=some (.int (ns.getD i 0)):=by
 simp[h]
theorem xJ{c:TT}{tb:TS}{D:Il}{σ:St}{H:Hp}(Pv:Nat->St->Hp->Prop)(h0:∃m,Pv m σ H)
  (hs:∀m σ H,Pv m σ H->c σ H λb H1=>if b=true then tb {D with nx:=λσ' H'=>∃m',m'<m/\Pv m' σ' H',ct:=λσ' H'=>∃m',m'<m/\Pv m' σ' H',bk:=D.nx} σ H1 else D.nx σ H1)
  (mono:∀σ H Q Q',(∀b H1,Q b H1->Q' b H1)->c σ H Q->c σ H Q'):Lj c tb D σ H:=by
 refine⟨Pv,h0,λm σ H p=>?_⟩
 refine mono σ H _ _ (λb H1 q=>?_) (hs m σ H p)
 cases b with
 | true=>exact⟨_,λσ' H' z=>z,q⟩
 | false=>exact q
end L2
namespace FQ
structure NK(p:Int×Int):Prop where
 pos:0<p.2
 cop:Int.gcd p.1 p.2=1
def red(t b:Int):Int×Int:=(t*b.sign/(Int.gcd t b:Int),b*b.sign/(Int.gcd t b:Int))
theorem gcd_turn{a b:Int}:Int.gcd b (a%b)=Int.gcd a b:=by
 have h:=Int.gcd_add_mul_left_right b (a%b) (a/b);rw[Int.emod_add_mul_ediv]at h;rw[<-h,nl]
theorem wT{k m n:Int}(h:Int.gcd k m=1)(d:k ∣ m*n):k ∣ n:=by
 have h1:k.natAbs ∣ m.natAbs*n.natAbs:=by
  have:=lC.mpr d;rwa[jD]at this
 exact lC.mp (nK h h1)
theorem vL{t b:Int}(hb:b≠0):∃u v:Int,t*b.sign=u*(Int.gcd t b:Int)/\b*b.sign=v*(Int.gcd t b:Int)/\red t b=(u,v)/\0<v/\Int.gcd u v=1:=by
 have k:0<Int.gcd t b:=eA _ hb;have d:(0:Int)<(Int.gcd t b:Int):=by omega
 have f:(Int.gcd t b:Int) ∣ t:=Int.gcd_dvd_left ..;have j:(Int.gcd t b:Int) ∣ b:=Int.gcd_dvd_right ..;obtain⟨u,c⟩:=f;obtain⟨v,a⟩:=j;refine⟨u*b.sign,v*b.sign,?_,?_,?_,?_,?_⟩
 ·rw[fj,fZ u,<-c]
 ·rw[fj,fZ v,<-a]
 ·unfold red
  congr 1
  ·apply jE (by omega);rw[fj,fZ u,<-c]
  ·apply jE (by omega);rw[fj,fZ v,<-a]
 ·have h1:0<b*b.sign:=by rw[Int.mul_sign_self];omega
  have h2:b*b.sign=(v*b.sign)*(Int.gcd t b:Int):=by rw[fj,fZ v,<-a]
  rw[h2]at h1;rcases Int.lt_or_le 0 (v*b.sign)with h|h
  ·exact h
  ·exact absurd h1 (rh.mpr (Int.mul_nonpos_of_nonpos_of_nonneg h (ef d)))
 ·have l:b.sign=1\/b.sign = -1:=by
   rcases jF hb with h|h
   ·exact .inr (gg h)
   ·exact .inl (gP h)
  have g:Int.gcd u v=1:=by
   have e:=Int.gcd_mul_left (Int.gcd t b:Int) u v;rw[<-c,<-a,iL]at e;have:Int.gcd t b*1=Int.gcd t b*Int.gcd u v:=by rw[qH];exact e
   exact(Nat.eq_of_mul_eq_mul_left k this).symm
  rcases l with h|h <;> rw[h] <;> simp[g]
theorem red_low{t b:Int}(hb:b≠0):NK (red t b):=by
 obtain⟨u,v,_,_,e,h1,h2⟩:=vL (t:=t) hb;rw[e];exact⟨h1,h2⟩
theorem red_worth{t b:Int}(hb:b≠0):(red t b).1*b=t*(red t b).2:=by
 obtain⟨u,v,h1,h2,e,_,_⟩:=vL (t:=t) hb;rw[e];have c:(Int.gcd t b:Int)≠0:=by have:=eA t hb;omega
 have d:b.sign≠0:=by simpa using hb
 have a:(u*b)*((Int.gcd t b:Int)*b.sign)=(t*v)*((Int.gcd t b:Int)*b.sign):=by
  calc (u*b)*((Int.gcd t b:Int)*b.sign)=(u*(Int.gcd t b:Int))*(b*b.sign):=by ac_rfl
   _=(t*b.sign)*(v*(Int.gcd t b:Int)):=by rw[<-h1,<-h2]
   _=(t*v)*((Int.gcd t b:Int)*b.sign):=by ac_rfl
 exact gh (cW c d) a
theorem wN{p q:Int×Int}(hp:NK p)(hq:NK q)(h:p.1*q.2=q.1*p.2):p=q:=by
 obtain⟨a,b⟩:=p;obtain⟨c,d⟩:=q;obtain⟨m,g⟩:=hp;obtain⟨l,f⟩:=hq;dsimp only at *;have j:b ∣ d:=by
  have:b ∣ a*d:=⟨c,by rw[h,fZ]⟩;exact wT (by rw[nl];exact g) this
 have k:d ∣ b:=by
  have:d ∣ c*b:=⟨a,by rw[<-h,fZ]⟩;exact wT (by rw[nl];exact f) this
 have e:b=d:=Int.dvd_antisymm (by omega) (by omega) j k;subst e;have:a=c:=gh (by omega) h;rw[this]
theorem red_eq{t b t' b':Int}(hb:b≠0)(hb':b'≠0)(h:t*b'=t'*b):red t b=red t' b':=by
 refine wN (red_low hb) (red_low hb') ?_;have c:=red_worth (t:=t) hb;have d:=red_worth (t:=t') hb';have a:((red t b).1*(red t' b').2)*(b*b')=((red t' b').1*(red t b).2)*(b*b'):=by
  calc ((red t b).1*(red t' b').2)*(b*b')=((red t b).1*b)*((red t' b').2*b'):=by ac_rfl
   _=(t*(red t b).2)*((red t' b').2*b'):=by rw[c]
   _=(t*b')*((red t b).2*(red t' b').2):=by ac_rfl
   _=(t'*b)*((red t b).2*(red t' b').2):=by rw[h]
   _=(t'*(red t' b').2)*((red t b).2*b):=by ac_rfl
   _=((red t' b').1*b')*((red t b).2*b):=by rw[d]
   _=((red t' b').1*(red t b).2)*(b*b'):=by ac_rfl
 exact gh (cW hb hb') a
theorem red_eq_iff{t b:Int}(hb:b≠0){p:Int×Int}(hp:NK p)(h:p.1*b=t*p.2):red t b=p:=by
 refine wN (red_low hb) hp ?_;have c:=red_worth (t:=t) hb;have a:((red t b).1*p.2)*b=(p.1*(red t b).2)*b:=by
  calc ((red t b).1*p.2)*b=((red t b).1*b)*p.2:=by ac_rfl
   _=(t*p.2)*(red t b).2:=by rw[c];ac_rfl
   _=(p.1*(red t b).2)*b:=by rw[<-h];ac_rfl
 exact gh hb a
theorem red_small{t b:Int}(hb:b≠0):(red t b).1.natAbs<=t.natAbs/\(red t b).2.natAbs<=b.natAbs:=by
 obtain⟨u,v,h1,h2,e,_,_⟩:=vL (t:=t) hb;rw[e];have c:1<=Int.gcd t b:=eA _ hb;have f:b.sign.natAbs=1:=by
  rcases jF hb with h|h
  ·rw[gg h];rfl
  ·rw[gP h];rfl
 have d:=congrArg ri h1;have a:=congrArg ri h2;rw[jD,jD,f,qH,iL]at d a;constructor
 ·show u.natAbs<=_;rw[d];exact kD _ c
 ·show v.natAbs<=_;rw[a];exact kD _ c
theorem fdiv_red{t b:Int}(hb:b≠0):((t.fdiv ((Int.gcd t b:Int)*b.sign),b.fdiv ((Int.gcd t b:Int)*b.sign)):Int×Int)=red t b:=by
 obtain⟨u,v,h1,h2,e,_,_⟩:=vL (t:=t) hb;rw[e];have j:(Int.gcd t b:Int)≠0:=by have:=eA t hb;omega
 have k:b.sign≠0:=by simpa using hb
 have c:b.sign*b.sign=1:=by
  rcases jF hb with h|h
  ·rw[gg h];rfl
  ·rw[gP h];rfl
 have g:t=u*((Int.gcd t b:Int)*b.sign):=by
  calc t=t*(b.sign*b.sign):=by rw[c,gJ]
   _=(t*b.sign)*b.sign:=by ac_rfl
   _=u*((Int.gcd t b:Int)*b.sign):=by rw[h1];ac_rfl
 have f:b=v*((Int.gcd t b:Int)*b.sign):=by
  calc b=b*(b.sign*b.sign):=by rw[c,gJ]
   _=(b*b.sign)*b.sign:=by ac_rfl
   _=v*((Int.gcd t b:Int)*b.sign):=by rw[h2];ac_rfl
 generalize hd:(Int.gcd t b:Int)*b.sign=d at g f ⊢;have a:d≠0:=by rw[<-hd];exact cW j k
 rw[g,f,me _ a,me _ a]
end FQ
namespace LM
def cellAt(ns:List Int)(k:Int):Int:=if k<ns.length then ns.getD k.toNat 0 else 0
def oddGo(n:Int):Nat->List Int×Int
 | 0=>([],n)
 | k+1=>((oddGo n k).1++[(oddGo n k).2%5040],(oddGo n k).2/5040)
def evenX(n k:Int):Int:=(n*n+48271*n+k+1)%2147483647
def evenGo(n:Int):Nat->List Int×Int
 | 0=>([],n)
 | k+1=>((evenGo n k).1++[evenX (evenGo n k).2 k],evenX (evenGo n k).2 k)
def mixed(c:Int)(m:Nat):List Int:=if c%2=1 then(oddGo (c/2) m).1 else(evenGo ((c/2%2147483647*16807+11)%2147483647) m).1
theorem oddGo_len(n:Int):∀m,(oddGo n m).1.length=m
 | 0=>rfl
 | m+1=>by simp[oddGo,oddGo_len n m]
theorem evenGo_len(n:Int):∀m,(evenGo n m).1.length=m
 | 0=>rfl
 | m+1=>by simp[evenGo,evenGo_len n m]
theorem mixed_len(c:Int)(m:Nat):(mixed c m).length=m:=by
 unfold mixed;split <;> simp[oddGo_len,evenGo_len]
theorem CC(n k:Int):0<=evenX n k/\evenX n k<2147483647:=⟨cY _ (by decide),cQ _ (by decide)⟩
theorem evenGo_num(n:Int)(h0:0<=n)(h1:n<2147483647):∀m,0<=(evenGo n m).2/\(evenGo n m).2<2147483647
 | 0=>⟨h0,h1⟩
 | m+1=>CC _ _
def ins(xs:List Int)(i:Nat)(x:Int):List Int:=xs.take i++x::xs.drop i
theorem C9(xs:List Int)(i:Nat)(x:Int):(ins xs i x).Perm (x::xs):=by
 unfold ins;refine nU.trans ?_;rw[lD]
def permGo(num:Int):Nat->List Int×Int
 | 0=>([],num)
 | k+1=>(ins (permGo num k).1 ((permGo num k).2%(k+1)).toNat k,(permGo num k).2/(k+1))
def perm(num:Int)(n:Nat):List Int:=(permGo num n).1
theorem perm_succ_perm:∀(num:Int) (n:Nat),(perm num n).Perm ((cp n).map gF)
 | _,0=>ii _
 | num,n+1=>by
  unfold perm
  rw[fF,cb]
  refine(C9 _ _ _).trans ?_
  refine qa.trans ?_ List.perm_append_comm
  exact(perm_succ_perm num n).cons _
theorem perm_len(num:Int)(n:Nat):(perm num n).length=n:=by
 have:=(perm_succ_perm num n).length_eq;simpa using this
theorem wH(row:List Int):(cp row.length).map (λi=>row.getD i 0)=row:=by
 apply kE
 ·simp
 ·intro i h1 h2;simp at h1;simp[h1]
def addOne(r:List Int)(t:Int)(w:Int):List Int:=r.set t.toNat (r.getD t.toNat 0+w)
theorem Ai(r:List Int)(t w:Int):(addOne r t w).length=r.length:=by simp[addOne]
def addDeal(M:List (List Int))(o:List Int)(w:Int):List (List Int):=qf (λr t=>addOne r t w) M o
end LM
namespace L2
open PySem PySem.Spec PyProof.Rows
def KT:Sp:=λvs H Q _=>∃i:Int,vs=[.int i]/\Q (.bl true) H
def L3:Sp:=λvs H Q _=>∃i j:Int,vs=[.int i,.int j]/\Q (.int (Int.gcd i j:Int)) H
def Lq(p:Int×Int):HO:= .tup [.int p.1,.int p.2]
def Sz(n:Nat)(p:Int×Int):Prop:=p.1.natAbs<2^n/\p.2.natAbs<2^n/\p.2≠0
def GZ(x y:Int×Int):Int×Int:=FQ.red (x.1*y.2+y.1*x.2) (x.2*y.2)
def Kg(x y:Int×Int):Int×Int:=FQ.red (x.1*y.2-y.1*x.2) (x.2*y.2)
def KA(x y:Int×Int):Int×Int:=FQ.red (x.1*y.1) (x.2*y.2)
def IU(f:(Int×Int)->(Int×Int)->(Int×Int))(K:bN):Sp:=λvs H Q _=>∃a b x y,vs=[.ref a,.ref b]/\SqT K H a [.int x.1,.int x.2]/\SqT K H b [.int y.1,.int y.2]/\Sz 4000 x/\Sz 4000 y/\
 ∀p H',Same H H'->H' p=some (Lq (f x y))->Q (.ref p) H'
def Kr(K:bN):Sp:=λvs H Q _=>∃a ns k,vs=[.ref a,.int k]/\SqL K H a (ns.map V.int)/\0<=k/\Q (.int (LM.cellAt ns k)) H
def KE:Sp:=λvs H Q _=>∃(c:Int) (m:Nat),vs=[.int c,.int m]/\m<=63/\∀p H',Same H H'->H p=none->H' p=some (.lst ((LM.mixed c m).map V.int))->Q (.ref p) H'
def Lk:Sp:=λvs H Q _=>∃(num:Int) (n:Nat),vs=[.int num,.int n]/\n<=63/\∀p H',Same H H'->H p=none->H' p=some (.lst ((LM.perm num n).map V.int))->Q (.ref p) H'
def Jb:Sp:=λvs H Q _=>∃i j:Int,vs=[.int i,.int j]/\0<=j/\Q (.int (Int.gcd i j:Int)) H
def JA:Sp:=λvs H Q _=>∃t b:Int,vs=[.int t,.int b]/\0<b/\b.natAbs<2^9000/\∀p H',Same H H'->H' p=some (Lq (FQ.red t b))->Q (.ref p) H'
theorem EV{t b:Int}(hb:b≠0):Int.gcd t b<=b.natAbs:=Nat.le_of_dvd (by omega) (Int.gcd_dvd_natAbs_right ..)
theorem vz{t b:Int}(hb:b≠0)(hz:b.natAbs<2^9000):
  (b<0->(-(Int.gcd t b:Int)≠0/\(-(Int.gcd t b:Int)).natAbs<2^9000)/\t.fdiv (-(Int.gcd t b:Int))=(FQ.red t b).1/\b.fdiv (-(Int.gcd t b:Int))=(FQ.red t b).2)/\
  (¬b<0->((Int.gcd t b:Int)≠0/\(Int.gcd t b:Int).natAbs<2^9000)/\t.fdiv (Int.gcd t b:Int)=(FQ.red t b).1/\b.fdiv (Int.gcd t b:Int)=(FQ.red t b).2):=by
 have d:0<Int.gcd t b:=eA _ hb
 have a:=EV (t:=t) hb
 have e:=FQ.fdiv_red (t:=t) hb
 constructor
 ·intro c
  rw[gg c,Int.mul_neg_one]at e
  exact⟨⟨by omega,by rw[Int.natAbs_neg,iL];exact ec a hz⟩,congrArg Prod.fst e,congrArg Prod.snd e⟩
 ·intro c
  rw[gP (by omega),gJ]at e
  exact⟨⟨by omega,by rw[iL];exact ec a hz⟩,congrArg Prod.fst e,congrArg Prod.snd e⟩
theorem zS{a b m n:Nat}(h1:a<2^m)(h2:b<2^n):a*b<2^(m+n):=by
 rw[Nat.pow_add];exact Nat.mul_lt_mul'' h1 h2
theorem vI{a b:Int}{m n:Nat}(h1:a.natAbs<2^m)(h2:b.natAbs<2^n):(a*b).natAbs<2^(m+n):=by
 rw[jD];exact zS h1 h2
theorem v7{a:Int}{m n:Nat}(h:a.natAbs<2^m)(hmn:m<=n):a.natAbs<2^n:=ci h (dM (by decide) hmn)
theorem IN{a b:Int}(h1:a.natAbs<2^4000)(h2:b.natAbs<2^4000):IntMulOk a b:=M7 h1 h2 (by decide)
theorem Mi{a b:Int}(h1:a.natAbs<2^4000)(h2:b.natAbs<2^4000):(a*b).natAbs<2^9000:=v7 (vI h1 h2) (by decide)
mutual
inductive Rep(K:bN)(H:Hp):V->ij->Prop
 | non:Rep K H .non .none
 | bl (b:Bool):Rep K H (.bl b) (.bool b)
 | int (i:Int):Rep K H (.int i) (.int i)
 | str (x:Str):Rep K H (.str x) (.str x)
 | lst {a:bV} {xs:List V} {ds:List ij}:SqL K H a xs->Reps K H xs ds->xs.length<=1000->Rep K H (.ref a) (.list ds)
 | tup {a:bV} {xs:List V} {ds:List ij}:SqT K H a xs->Reps K H xs ds->xs.length<=1000->Rep K H (.ref a) (.tuple ds)
inductive Reps(K:bN)(H:Hp):List V->List ij->Prop
 | nil:Reps K H [] []
 | cons {x:V} {d:ij} {xs:List V} {ds:List ij}:Rep K H x d->Reps K H xs ds->Reps K H (x::xs) (d::ds)
end
section
variable{X:Cx}{pins:List (bV×Obj)}{σ:St}{H:Hp}{s:bS}
mutual
theorem Rep.reads(I:Inv X pins σ H s){x:V}{d:ij}{u:bQ}(r:Rep X.K H x d)(q:RelV x u):∃as,Reads s.heap u d as:=by
 cases r with
 | non=>cases(show u=bQ.none from q);exact⟨_,.none⟩
 | bl b=>cases(show u=dH b from q);exact⟨_,.bool b⟩
 | int i=>obtain⟨t,e⟩:=(show ∃t,u=dn i t from q);cases e;exact⟨_,.int i t⟩
 | str x=>obtain⟨t,e⟩:=(show ∃t,u=gY x t from q);cases e;exact⟨_,.str x t⟩
 | @lst a xs ds hq hs hl=>
  cases(show u=b5 a from q);obtain⟨g,f,⟨o,n,h1,h2,_,h3⟩,_⟩:=I.list hq;obtain⟨as,c⟩:=Reps.reads I hs f;exact⟨_,.list h1 h2 h3 (by simpa using c)⟩
 | @tup a xs ds hq hs hl=>
  cases(show u=b5 a from q);obtain⟨g,f,⟨o,h1,h2,n,h3⟩,_⟩:=I.tuple hq;obtain⟨as,c⟩:=Reps.reads I hs f;exact⟨_,.tuple h1 h2 h3 (by simpa using c)⟩
theorem Reps.reads(I:Inv X pins σ H s){xs:List V}{ds:List ij}{us:List bQ}(r:Reps X.K H xs ds)(q:Vals xs us):∃as,ReadsAll s.heap us ds as:=by
 cases r with
 | nil=>cases q;exact⟨_,.nil⟩
 | cons r a=>
  cases q with
  | cons q b=>
   obtain⟨as,h1⟩:=Rep.reads I r q;obtain⟨c,h2⟩:=Reps.reads I a b;exact⟨_,.cons h1 h2⟩
end
def MZ(K:bN):R2:=λx y H Q=>∃d e,Rep K H x d/\Rep K H y e/\eg d=true/\eg e=true/\Q (.bl (eh d e)) H
def Nx(K:bN):R2:=λx y H Q=>∃d e,Rep K H x d/\Rep K H y e/\eg d=true/\eg e=true/\Q (.bl (!eh d e)) H
theorem u9{k:Nat}(hr:Room k X.A):Gx X (compareOp .Eq) (MZ X.K):=by
 intro b s n H x y v u Q I g j h;obtain⟨d,e,f,a,l,c,q⟩:=h;obtain⟨as,h1⟩:=f.reads I g;obtain⟨m,h2⟩:=a.reads I j;exact eq_dataH h1 h2 l c hr.units ⟨.bl _,H,I,rfl,q⟩
theorem v4{k:Nat}(hr:Room k X.A):Gx X (compareOp .NotEq) (Nx X.K):=by
 intro b s n H x y v u Q I g j h;obtain⟨d,e,f,a,l,c,q⟩:=h;obtain⟨as,h1⟩:=f.reads I g;obtain⟨m,h2⟩:=a.reads I j;exact ne_dataH h1 h2 l c hr.units ⟨.bl _,H,I,rfl,q⟩
end
theorem Reps.length{K:bN}{H:Hp}:∀{xs:List V} {ds:List ij},Reps K H xs ds->xs.length=ds.length
 | _,_,.nil=>rfl
 | _,_,.cons _ r=>by simp[Reps.length r]
theorem Reps.get{K:bN}{H:Hp}:∀{xs:List V} {ds:List ij} {i:Nat} {d:ij},Reps K H xs ds->ds[i]?=some d->∃x,xs[i]?=some x/\Rep K H x d
 | _,_,_,_,.nil,e=>by simp at e
 | _,_,0,_,.cons r _,e=>by simp at e;subst e;exact⟨_,rfl,r⟩
 | _,_,i+1,d,.cons _ t,e=>by
  obtain⟨x,h1,h2⟩:=Reps.get (i:=i) t (by simpa using e)
  exact⟨x,by simpa using h1,h2⟩
def dF(p:Int×Int):ij:= .tuple [.int p.1,.int p.2]
theorem IsF.rep{K:bN}{H:Hp}{v:V}{p:Int×Int}(h:IsF K H v p):Rep K H v (dF p):=by
 obtain⟨a,rfl,q⟩:=h;exact .tup q (.cons (.int _) (.cons (.int _) .nil)) (by simp)
theorem Paired.len{α β:Type}{F:α->β->Prop}{xs:List α}{ys:List β}(h:cT F xs ys):xs.length=ys.length:=mj h
theorem wV{lo:Int}{n:Nat}{caps:List (Option Nat)}{g:TG}{tt:TT}{te:TE}{σ:St}{QQ:List V->Hp->Prop}{H:Hp}(Pv:Nat->List V->Hp->Prop)(h0:Pv 0 [] H)
  (hs:∀i ys H,i<n->Pv i ys H->g (.int (lo+i)) (Gb caps σ) H λσ2 H2=>tt σ2 H2 λb H3=>if b=true then te σ2 H3 λy H4=>ys.length<sizeLine/\Pv (i+1) (ys++[y]) H4 else Pv (i+1) ys H3)
  (hd:∀ys H,Pv n ys H->QQ ys H):FT caps g tt te σ QQ (LZ lo n) H:=by
 refine⟨λi m ys H=>m=n-i/\i<=n/\Pv i ys H,⟨n,by simp,cM _,h0⟩,?_⟩
 rintro i m ys H ⟨rfl,h,p⟩
 by_cases a:i<n
 ·refine .inr ⟨a,Pv (i+1),λf c d=>⟨n-(i+1),by omega,rfl,a,d⟩,λx c y=>?_⟩
  obtain⟨e,y⟩:=y
  subst e y
  exact hs i ys _ a p
 ·have e:i=n:=by omega
  subst e
  exact .inl ⟨bX _,hd ys H p⟩
theorem wh{K:bN}{a:bV}{xs:List V}{caps:List (Option Nat)}{g:TG}{tt:TT}{te:TE}{σ:St}{QQ:List V->Hp->Prop}{H:Hp}(Pv:Nat->List V->Hp->Prop)(h0:Pv 0 [] H)
  (hl:∀i ys H,i<=xs.length->Pv i ys H->SqL K H a xs)
  (hs:∀i x ys H,xs[i]?=some x->Pv i ys H->g x (Gb caps σ) H λσ2 H2=>tt σ2 H2 λb H3=>if b=true then te σ2 H3 λy H4=>ys.length<sizeLine/\Pv (i+1) (ys++[y]) H4 else Pv (i+1) ys H3)
  (hd:∀ys H,Pv xs.length ys H->QQ ys H):FT caps g tt te σ QQ (Mo K a) H:=by
 refine⟨λi m ys H=>m=xs.length-i/\i<=xs.length/\Pv i ys H,⟨xs.length,by simp,cM _,h0⟩,?_⟩
 rintro i m ys H ⟨rfl,h,p⟩
 have q:=hl i ys H h p
 by_cases c:i<xs.length
 ·refine .inr ⟨⟨xs,xs[i],q,by simp[c]⟩,Pv (i+1),λj d f=>⟨xs.length-(i+1),by omega,rfl,c,f⟩,λx d y=>?_⟩
  obtain⟨e,y⟩:=y
  subst e
  exact hs i x ys _ (y xs q) p
 ·have e:i=xs.length:=by omega
  subst e
  exact .inl ⟨⟨xs,q,bX _⟩,hd ys H p⟩
theorem vc{K:bN}{a:bV}{xs:List V}{caps:List (Option Nat)}{g:TG}{tt:TT}{te:TE}{σ:St}{QQ:List V->Hp->Prop}{H:Hp}(Pv:Nat->List V->Hp->Prop)(h0:Pv 0 [] H)
  (hl:∀i ys H,i<=xs.length->Pv i ys H->SqT K H a xs)
  (hs:∀i x ys H,xs[i]?=some x->Pv i ys H->g x (Gb caps σ) H λσ2 H2=>tt σ2 H2 λb H3=>if b=true then te σ2 H3 λy H4=>ys.length<sizeLine/\Pv (i+1) (ys++[y]) H4 else Pv (i+1) ys H3)
  (hd:∀ys H,Pv xs.length ys H->QQ ys H):FT caps g tt te σ QQ (Mr K a) H:=by
 refine⟨λi m ys H=>m=xs.length-i/\i<=xs.length/\Pv i ys H,⟨xs.length,by simp,cM _,h0⟩,?_⟩
 rintro i m ys H ⟨rfl,h,p⟩
 have q:=hl i ys H h p
 by_cases c:i<xs.length
 ·refine .inr ⟨⟨xs,xs[i],q,by simp[c]⟩,Pv (i+1),λj d f=>⟨xs.length-(i+1),by omega,rfl,c,f⟩,λx d y=>?_⟩
  obtain⟨e,y⟩:=y
  subst e
  exact hs i x ys _ (y xs q) p
 ·have e:i=xs.length:=by omega
  subst e
  exact .inl ⟨⟨xs,q,bX _⟩,hd ys H p⟩
theorem tZ{σ:St}{H:Hp}{A:Hp->Prop}{B:Hp->Prop}:(Hs σ H λb H3=>if b=true then A H3 else B H3)=A H:=by
 unfold Hs;exact if_pos rfl
theorem ue{lo:Int}{n:Nat}{caps:List (Option Nat)}{g:TG}{te:TE}{σ:St}{QQ:List V->Hp->Prop}{H:Hp}(Pv:Nat->List V->Hp->Prop)(h0:Pv 0 [] H)
  (hs:∀i ys H,i<n->Pv i ys H->g (.int (lo+i)) (Gb caps σ) H λσ2 H2=>te σ2 H2 λy H4=>ys.length<sizeLine/\Pv (i+1) (ys++[y]) H4)
  (hd:∀ys H,Pv n ys H->QQ ys H):FT caps g Hs te σ QQ (LZ lo n) H:=
 wV Pv h0 (λi ys H a p=>by simp only[tZ];exact hs i ys H a p) hd
theorem tz{K:bN}{a:bV}{xs:List V}{caps:List (Option Nat)}{g:TG}{te:TE}{σ:St}{QQ:List V->Hp->Prop}{H:Hp}(Pv:Nat->List V->Hp->Prop)(h0:Pv 0 [] H)
  (hl:∀i ys H,i<=xs.length->Pv i ys H->SqL K H a xs)
  (hs:∀i x ys H,xs[i]?=some x->Pv i ys H->g x (Gb caps σ) H λσ2 H2=>te σ2 H2 λy H4=>ys.length<sizeLine/\Pv (i+1) (ys++[y]) H4)
  (hd:∀ys H,Pv xs.length ys H->QQ ys H):FT caps g Hs te σ QQ (Mo K a) H:=
 wh Pv h0 hl (λi x ys H b p=>by simp only[tZ];exact hs i x ys H b p) hd
theorem x5{K:bN}{a:bV}{xs:List V}{caps:List (Option Nat)}{g:TG}{te:TE}{σ:St}{QQ:List V->Hp->Prop}{H:Hp}(Pv:Nat->List V->Hp->Prop)(h0:Pv 0 [] H)
  (hl:∀i ys H,i<=xs.length->Pv i ys H->SqT K H a xs)
  (hs:∀i x ys H,xs[i]?=some x->Pv i ys H->g x (Gb caps σ) H λσ2 H2=>te σ2 H2 λy H4=>ys.length<sizeLine/\Pv (i+1) (ys++[y]) H4)
  (hd:∀ys H,Pv xs.length ys H->QQ ys H):FT caps g Hs te σ QQ (Mr K a) H:=
 vc Pv h0 hl (λi x ys H b p=>by simp only[tZ];exact hs i x ys H b p) hd
theorem xI{a b T:Int}(hT:T≠0):GZ (FQ.red a T) (FQ.red b T)=FQ.red (a+b) T:=by
 have h1:=FQ.red_worth (t:=a) hT;have h2:=FQ.red_worth (t:=b) hT;have d:=(FQ.red_low (t:=a) hT).pos;have c:=(FQ.red_low (t:=b) hT).pos;unfold GZ;refine FQ.red_eq (cW (by omega) (by omega)) hT ?_;generalize FQ.red a T=p at *;generalize FQ.red b T=q at *
 calc (p.1*q.2+q.1*p.2)*T=(p.1*T)*q.2+(q.1*T)*p.2:=by rw[gw];ac_rfl
  _=(a*p.2)*q.2+(b*q.2)*p.2:=by rw[h1,h2]
  _=(a+b)*(p.2*q.2):=by rw[gw];ac_rfl
theorem vJ{T:Int}(hT:T≠0):FQ.red 0 T=(0,1):=FQ.red_eq_iff hT ⟨by decide,by decide⟩ (by simp)
theorem yW{T:Int}(hT:T≠0):FQ.red T T=(1,1):=FQ.red_eq_iff hT ⟨by decide,by decide⟩ (by simp)
theorem v9{a T:Int}(hT:T≠0)(h1:a.natAbs<2^100)(h2:T.natAbs<2^100):Sz 4000 (FQ.red a T):=by
 have s:=FQ.red_small (t:=a) hT;have p:=(FQ.red_low (t:=a) hT).pos;refine⟨ec s.1 (ci h1 (dM (by decide) (by decide))),ec s.2 (ci h2 (dM (by decide) (by decide))),by omega⟩
def KI(K:bN):Sp:=λvs H Q _=>∃(a:bV) (ns:List Int),vs=[.ref a]/\SqL K H a (ns.map V.int)/\ns.length<=63/\∀H',Q (.bl true) H'
def GQ:Nat->ij->Bool
 | _,.none=>true
 | _,.bool _=>true
 | _,.int _=>true
 | _,.str x=>eg (.str x)
 | n+1,.tuple ds=>ds.all (GQ n)
 | n+1,.list ds=>ds.all (GQ n)
 | _,_=>false
def Kj(K:bN)(n:Nat):Sp:=λvs H Q _=>∃v u d,vs=[v,u]/\Rep K H v d/\Rep K H u d/\GQ n d=true/\Q (.bl true) H
def Lw(sp:Nat->Sp):Nat->Sp
 | 0=>λ_ _ _ _=>False
 | n+1=>sp n
structure Flies(P:cg)(w:cC)(outer:List Env)(H:Hp)(s:bS)(a C:bV)(B:Heap)(a0:bQ)(H':Hp)(s':bS):Prop where
 os:s'.os=s.os
 bare:AllBare s'.gens
 un:Un (Gy outer) [] H H' s.heap s'.heap
 hok:HOk P w H' B
 keep:∀b o,s.heap.get? b=some o->H b=none->b∉Gy outer->B.get? b=some o
 has:∀b o,s.heap.get? b=some o->b∉Gy outer->∃o',B.get? b=some o'
 fly:kX B outer a (.ref C) a0 s'.heap
def GO(P:cg)(w:cC):Jp:=λouter H s E e s'=>∃a C B a0 H',e = .ref a/\Flies P w outer H s a C B a0 H' s'/\E (.ref C) none H'
theorem ObjOk.is{P:cg}{w:cC}{H:Hp}{h:Heap}{a:bV}{o:HO}(x:ObjOk P w H h a o):∃u,h.get? a=some u:=by
 cases o with
 | lst d=>obtain⟨_,_,_,_,e⟩:=x;exact⟨_,e⟩
 | tup d=>obtain⟨_,_,_,o,e,_⟩:=x;exact⟨_,e⟩
 | dK b=>obtain⟨_,_,_,_,o,_,_,e,_⟩:=x;exact⟨_,e⟩
 | dT b=>obtain⟨_,_,_,_,o,_,_,e,_⟩:=x;exact⟨_,e⟩
 | set S n=>obtain⟨o,_,_,_,e,_⟩:=x;exact⟨_,e⟩
 | ins C g c=>obtain⟨_,_,_,e,_⟩:=x;exact⟨_,e⟩
 | own y=>obtain⟨_,e⟩:=x;exact⟨_,e⟩
 | xd c=>obtain⟨_,⟨_,_,_,e,_⟩,_⟩:=x;exact⟨_,e⟩
 | rng m j=>obtain⟨_,_,_,e⟩:=x;exact⟨_,e⟩
 | frz l u=>obtain⟨e,_⟩:=x;exact⟨_,e⟩
 | tbl p=>exact⟨_,(show h.get? a=some _ from x)⟩
 | met f y=>exact⟨_,(show h.get? a=some _ from x)⟩
 | ext k=>obtain⟨_,⟨_,e⟩,_⟩:=x;exact⟨_,e⟩
theorem Flies.free{P:cg}{w:cC}{outer:List Env}{H H':Hp}{s s':bS}{a C:bV}{B:Heap}{a0:bQ}(f:Flies P w outer H s a C B a0 H' s'):H' a=none:=by
 cases q:H' a with
 | none=>rfl
 | some o=>
  obtain⟨x,b⟩:=(f.hok a o q).is;rw[f.fly.2.1]at b;cases b
theorem CY{P:cg}{w:cC}{H:Hp}{h:Heap}{l:List bV}(x:HOk P w H h)(n:∀b∈l,H b=none):HOk P w H (lj h l):=λa o e=>
 (x a o e).stay (λb u c q=>fX _ q λz=>by
  rcases c with rfl|c
  ·rw[n _ z]at e;cases e
  ·rw[n _ z]at c;cases c) (λ_ q=>q) λ_ _ q=>q
section
variable{P:cg}{w:cC}{K:bN}{mg:Str->Option bQ}{base:Heap}{N:List Str}{qual:Str}{scope:Scope}{f:bV}{cd:bQ}{A:cO}{outer:List Env}{s₀:bS}{H₀:Hp}{E:XK}
abbrev Ke(P:cg)(w:cC)(K:bN)(mg:Str->Option bQ)(base:Heap)(N:List Str)(qual:Str)(scope:Scope)(f:bV)(cd:bQ)(A:cO)(outer:List Env)(s₀:bS)(H₀:Hp)(E:XK):Cx:=Jh (GO P w) P w K mg base N qual scope f cd A outer s₀ H₀ E
theorem xj{env:Env}{l:List Env}{L:bV}(h:env.frame=some L):Gy (env::l)=L::Gy l:=by unfold Gy;rw[fE,h]
theorem yO{pins:List (bV×Obj)}{σ:St}{H:Hp}{s:bS}{h':Heap}{e C:bV}{vs:List bQ}(I:Inv (Ke P w K mg base N qual scope f cd A outer s₀ H₀ E) pins σ H s)(hx:Heap.MadeExcOf s.heap h' e (.ref C) vs)(hE:E (.ref C) none H):
  (Ke P w K mg base N qual scope f cd A outer s₀ H₀ E).xe (.ref e) {s with heap:=h'}:=by
 have y:(envOfC qual scope s₀.heap.objs.size f cd).frame=some s₀.heap.objs.size:=rfl
 have Q:(Ke P w K mg base N qual scope f cd A outer s₀ H₀ E).stack=envOfC qual scope s₀.heap.objs.size f cd::outer:=rfl
 have B:∀j∈(envOfC qual scope s₀.heap.objs.size f cd::outer),∀b,j.frame=some b->b∈Gy (envOfC qual scope s₀.heap.objs.size f cd::outer):=λj L b a=>gd.mpr ⟨j,L,a⟩
 have J:s.heap.FunFrames base (envOfC qual scope s₀.heap.objs.size f cd::outer):=I.stack
 have F:∀b∈Gy (envOfC qual scope s₀.heap.objs.size f cd::outer),H b=none:=I.stkFree
 have c:∀b o,s₀.heap.get? b=some o->b∉Gy outer->b∉Gy (envOfC qual scope s₀.heap.objs.size f cd::outer):=λb o q nb=>by
  rw[xj y]
  intro z
  rcases cj.mp z with z|z
  ·exact absurd (b6 q) (by rw[z];exact cJ _)
  ·exact nb z
 have U:Un (Gy outer) [] H₀ H s₀.heap s.heap:=I.base
 show wpAny _ _ (leaving _ _) _ _ _
 refine wpAny_leaves_madeW (base:=lj s.heap (Gy (envOfC qual scope s₀.heap.objs.size f cd::outer))) (h:=s.heap) I.ok.frames y (λb o q=>mz _ q) (PySem.W.funFrames_hide J B) hx λO t v _ _ D=>?_
 have l:=v.1
 refine⟨e,C,_,_,H,rfl,⟨I.os,I.bare,⟨λb o q n nb _=>?_,λb o q n a _=>?_,λb o q n x=>U.free b o q n x,λb o q _=>?_,U.tups,U.frzs,U.tbls⟩,CY I.hok F,λb o q n nb=>?_,λb o q nb=>?_,v⟩,hE⟩
 ·exact l _ _ (fX _ (U.keep b o q n nb (by simp)) (c b o q nb))
 ·obtain⟨M,k⟩:=U.slot b o q n a (by simp)
  obtain⟨_,p,d,g⟩:=I.funs.mem a
  have G:p={o with slots:=M}:=Option.some.inj (d.symm.trans k)
  obtain⟨r,m⟩:=D b p (hx.keeps _ _ d) g
  rw[G]at m
  exact⟨r,m⟩
 ·obtain⟨u,k⟩:=U.there b o q (by simp)
  by_cases a:b∈Gy outer
  ·obtain⟨_,p,d,g⟩:=I.funs.mem a
   obtain⟨r,m⟩:=D b p (hx.keeps _ _ d) g
   exact⟨_,m⟩
  ·exact⟨u,l _ _ (fX _ k (c b o q a))⟩
 ·exact fX _ (U.keep b o q n nb (by simp)) (c b o q nb)
 ·obtain⟨u,k⟩:=U.there b o q (by simp)
  exact⟨u,fX _ k (c b o q nb)⟩
theorem J9{E':XK}(hE:∀c d H',E' c d H'->E c d H'):FS (GO P w) (Ke P w K mg base N qual scope f cd A outer s₀ H₀ E) E':=by
 intro W σ H s e G I V;obtain⟨a,C,B,X,H',rfl,F,q⟩:=V;have D:(envOfC qual scope s₀.heap.objs.size f cd).frame=some s₀.heap.objs.size:=rfl;have r:∀b o,s₀.heap.get? b=some o->b∉Gy outer->b∉Gy (envOfC qual scope s₀.heap.objs.size f cd::outer):=λb o q nb=>by
  rw[xj D];intro z;rcases cj.mp z with z|z
  ·exact absurd (b6 q) (by rw[z];exact cJ _)
  ·exact nb z
 have v:∀b∈Gy outer,b∈Gy (envOfC qual scope s₀.heap.objs.size f cd::outer):=λb g=>by rw[xj D];exact b3 _ g
 have U:Un (Gy outer) [] H₀ H s₀.heap s.heap:=I.base;have p:Un (Gy (envOfC qual scope s₀.heap.objs.size f cd::outer)) [] H H' s.heap G.heap:=F.un;have Y:G.heap.FunFrames B (envOfC qual scope s₀.heap.objs.size f cd::outer):=F.fly.2.2.1;show wpAny _ _ (leaving _ _) _ _ _;refine wpAny_leaves_onW I.ok.frames D F.fly λO L x4=>?_;have m:=L.1;have M:∀b o,s₀.heap.get? b=some o->H₀ b=none->b∉Gy outer->B.get? b=some o:=λb o q n nb=>F.keep b o (U.keep b o q n nb (by simp)) (U.free b o q n (by simp)) (r b o q nb);have R:∀b o,s₀.heap.get? b=some o->b∉Gy outer->∃j,B.get? b=some j:=λb o q nb=>by
  obtain⟨j,h⟩:=U.there b o q (by simp);exact F.has b j h (r b o q nb)
 have k:∀b o,s₀.heap.get? b=some o->H₀ b=none->b∈Gy outer->∃k,O.get? b=some {o with slots:=k}:=λb o q n g=>by
  obtain⟨k,h⟩:=U.slot b o q n g (by simp);obtain⟨aa,Z⟩:=p.slot b _ h (U.free b o q n (by simp)) (v b g) (by simp);obtain⟨_,o2,t,J⟩:=Y.mem (v b g);have y:=Option.some.inj (t.symm.trans Z);obtain⟨x,Q⟩:=x4 b o2 t J;rw[y]at Q;exact⟨x,Q⟩
 refine⟨a,C,B,X,H',rfl,⟨F.os.trans I.os,F.bare,⟨λb o q n nb _=>m _ _ (M b o q n nb),λb o q n g _=>k b o q n g,λb o q n l=>?_,λb o q _=>?_,λb S q=>p.tups b S (U.tups b S q),λb o u q=>p.frzs b o u (U.frzs b o u q),λb ps q=>?_⟩,F.hok,M,R,L⟩,hE _ _ _ q⟩
 ·obtain⟨j,h⟩:=U.there b o q l;exact p.free b j h (U.free b o q n l) l
 ·by_cases g:b∈Gy outer
  ·obtain⟨k,h⟩:=k b o q (I.ok.frf b g) g;exact⟨_,h⟩
  ·obtain⟨j,h⟩:=R b o q g;exact⟨j,m _ _ h⟩
 ·obtain⟨m1,T⟩:=U.tbls b ps q;obtain⟨m2,y⟩:=p.tbls b _ T;exact⟨m1++m2,by rw[y,mC]⟩
end
def MN:List bQ:=[.type "ValueError",.type "Exception",.type "BaseException",.type "object"]
structure HK(K:bN)(mg:Str->Option bQ)(x:Str)(C:bV):Prop where
 bound:mg x=some (.ref C)
 exc:f7 K C MN "ValueError.__new__"=true
theorem xn{K:bN}{h:Heap}{C:bV}{bmB:List bQ}{nid:String}(X:K.In h)(q:f7 K C bmB nid=true):
  ∃bm N nm qn bs hdct sn sub ab col dd k0 k1 k2 k3 k5 mN,h.get? C=some (excClassObj nm qn C N bs bm hdct sn sub ab col dd k0 k1 k2 k3 k5 nid)/\h.Ns N mN/\mN "__init__"=none/\OwnTail h bmB bm:=by
 unfold f7 at q
 split at q
 ·rename_i dd cd sl hlk
  split at q
  ·rename_i C' bm u0 u1 u2 u3 n u5 hmro hsl
   simp only[cH,beq_iff_eq,ng]at q
   obtain⟨⟨⟨⟨⟨rfl,rfl⟩,c⟩,d⟩,a⟩,b⟩:=q
   obtain⟨nm,bs,g,f,qn,e,sn,sub,ab,col,j⟩:=cd
   dsimp only at hmro c a b
   subst hmro c
   obtain⟨l⟩:=sl
   simp only at hsl
   subst hsl
   exact⟨bm,f,nm,qn,bs,e,sn,sub,ab,col,dd,u0,u1,u2,u3,u5,_,X _ _ hlk,.of_isNs (PySem.W.isNs_of_in X a),PySem.W.nsMap_none_of_in X a b,PySem.W.tail_of_in X d⟩
  ·cases q
 ·cases q
section
variable{P:cg}{w:cC}{K:bN}{mg:Str->Option bQ}{base:Heap}{N:List Str}{qual:Str}{scope:Scope}{f:bV}{cd:bQ}{A:cO}{outer:List Env}{s₀:bS}{H₀:Hp}{E:XK}
def Mw(C:bV)(E:XK)(t:TA):TS:=λ_ σ H=>t σ H λvs H1=>vs.length<=sizeLine/\E (.ref C) none H1
theorem uf{x:Str}{C:bV}{e₀:Expr}{es:List Expr}{np cpos pos:Pos}{t:TA}(hC:HK K mg x C)(hg:Gl (Ke P w K mg base N qual scope f cd A outer s₀ H₀ E) x)
  (ha:PA (Ke P w K mg base N qual scope f cd A outer s₀ H₀ E).nox (e₀::es) t)
  (hd:(x==("__debug__":Str))=false:=by decide)(he:cD (e₀::es) (Ke P w K mg base N qual scope f cd A outer s₀ H₀ E).env=(false,eval e₀ (Ke P w K mg base N qual scope f cd A outer s₀ H₀ E).env)::cD es (Ke P w K mg base N qual scope f cd A outer s₀ H₀ E).env:=by rfl)
  (hpl:(backTo cpos (cD es (Ke P w K mg base N qual scope f cd A outer s₀ H₀ E).env)).any (·.1)=false:=by rfl):
  PS (Ke P w K mg base N qual scope f cd A outer s₀ H₀ E) (.Raise (some (.Call (.Name x np) (e₀::es) [] cpos)) none pos) (Mw C E t):=by
 intro b s p H D I h
 obtain⟨bm,l,nm,m,bs,hdct,sn,sub,ab,col,dd,k0,k1,k2,k3,k5,mN,g,n,c,T⟩:=xn I.ok.mod.kin hC.exc
 refine wpAny_Raise_call_subT (C:=C) (nm:=nm) (q:=m) (N:=l) (bs:=bs) (bm:=bm) (hdct:=hdct) (sn:=sn) (sub:=sub) (ab:=ab) (col:=col) (dd:=dd) (k0:=k0) (k1:=k1) (k2:=k2) (k3:=k3) (k5:=k5) (mN:=mN) (bmB:=MN) (newId:="ValueError.__new__")
  PySem.F.excBase_ValueError (T.hasType (by decide)) (I.ok.hd rfl) (by rw[he];exact hpl) c (uH I hg hC.bound ⟨rfl,?_⟩ hd)
 have z:=ha cpos b s p H _ (I.wish _) h
 have d:cD (e₀::es) (Ke P w K mg base N qual scope f cd A outer s₀ H₀ E).nox.env=(false,eval e₀ (Ke P w K mg base N qual scope f cd A outer s₀ H₀ E).env)::cD es (Ke P w K mg base N qual scope f cd A outer s₀ H₀ E).env:=he
 rw[d]at z
 rw[he]
 refine ic ?_
 refine eK z (λu B h1=>?_) λ_ _ z=>dI z
 obtain⟨vs,v,a,r,k,j⟩:=h1
 have a:=a.unwish
 exact⟨rfl,by rw[<-r.length];exact k,a.bk _ _ g,n.keeps a.bk,T.keeps a.bk,λy e o=>yO a o j⟩
end
section
variable{M:Model}{A:cO}{E:bQ->bS->Prop}{K:bN}{h:Heap}{g:Array GenState}{d:Drawn}{t:Nat}{os:OsState}{a C CW:bV}{oe:Obj}
theorem xU{Q:Bool->bS->Prop}(X:K.In h)(qW:f7 K CW MN "ValueError.__new__"=true)(hm:d6 K C (.ref CW)=some true)(ha:h.get? a=some oe)(hc:oe.cls = .ref C)
  (hq:Q true ⟨h,g,d,t,os⟩):wpAny M A (excMatches (.ref a) (.ref CW)) Q E ⟨h,g,d,t,os⟩:=by
 obtain⟨c,r,n,u,p,j,s,m,q,l,F,v,x,B,y,D,o,b,w,k,T⟩:=xn X qW
 have f:c.contains (.type "BaseException")=true:=T.hasType (by decide)
 have e:(b5 CW::c).contains (.type "BaseException")=true:=by rw[List.contains_cons,f,Bool.or_true]
 have z:=tc_notTuple
 have L:=jt (M:=M) X hm
 unfold excMatches
 repeat (first|(with_reducible refine nq ha ?_;rw[hc])|with_reducible refine nq b ?_|(with_reducible refine wpAny_isSubtype_exc b ?_;rw[e])|with_reducible refine L.at ?_|wp_step)
 exact hq
end
def Kv(C a:bV):HO:= .ext λh=>∃o,h.get? a=some o/\o.cls = .ref C/\∃vs,o.data = .fields vs
section
variable{X:Cx}{pins:List (bV×Obj)}{σ:St}{H:Hp}{s:bS}
theorem Inv.caught{a C:bV}{B:Heap}{a0:bQ}{H':Hp}{s':bS}{h6:Heap}(I:Inv X pins σ H s)(F:Flies X.prog X.w X.stack H s a C B a0 H' s')(fl:kX B X.stack a (.ref C) a0 h6)(up:s'.heap.UpToSlots h6):
  Inv X pins σ (upd H' a (Kv C a)) {s' with heap:=h6}:=by
 have fr:=F.free
 have l:=F.un
 have K:=F.fly.2.2.1
 obtain⟨A,vs,m,D,r,_⟩:=fl.first
 have j:∀b u,H' b=some u->b≠a:=λb u q z=>by rw[z,fr]at q;cases q
 have G:∀b o,s.heap.get? b=some o->H b=none->b≠a:=λb o q n z=>by
  by_cases d:b∈Gy X.stack
  ·obtain⟨_,x,e,g⟩:=fl.2.2.1.mem d
   rw[z,m]at e
   cases e
   exact g _ r
  ·have:=F.keep b o q n d
   rw[z,fl.2.1]at this
   cases this
 refine I.call' (s':={s' with heap:=h6}) (ch:=[]) F.os ⟨λb o q n nb _=>fl.1 _ _ (F.keep b o q n nb),λb o q n d _=>?_,λb o q n O=>?_,λb o q _=>?_,λb E q=>?_,λb o u q=>?_,λb N q=>?_⟩ ?_ F.bare (λb z=>absurd z (by simp))
 ·obtain⟨P,h⟩:=l.slot b o q n d (by simp)
  obtain⟨_,x,e,g⟩:=K.mem d
  have J:=Option.some.inj (e.symm.trans h)
  obtain⟨y,p⟩:=up b x e g
  rw[J]at p
  exact⟨y,p⟩
 ·rw[rR (G b o q n)]
  exact l.free b o q n O
 ·by_cases d:b∈Gy X.stack
  ·obtain⟨_,x,e,g⟩:=fl.2.2.1.mem d
   exact⟨_,e⟩
  ·obtain⟨L,h⟩:=F.has b o q d
   exact⟨L,fl.1 _ _ h⟩
 ·have f:=l.tups b E q
  rw[rR (j _ _ f)];exact f
 ·have f:=l.frzs b o u q
  rw[rR (j _ _ f)];exact f
 ·obtain⟨t,f⟩:=l.tbls b N q
  exact⟨t,by rw[rR (j _ _ f)];exact f⟩
 ·intro b u q
  by_cases d:b=a
  ·subst d
   rw[rF]at q
   cases q
   exact⟨⟨A,m,D,vs,r⟩,⟨A,m⟩,λh1 h2 ⟨o,h,p,M⟩ k=>⟨o,k o h,p,M⟩⟩
  ·rw[rR d]at q
   exact(F.hok b u q).stay (λc v _ z=>fl.1 _ _ z) (λc z=>by rw[rR (j _ _ z)];exact z) λc E z=>by rw[rR (j _ _ z)];exact z
theorem u8{M:Model}{A:cO}{E:bQ->bS->Prop}{i:Nat}{x:Str}{pos:Pos}{Q:Unit->bS->Prop}(I:Inv X pins σ H s)(hN:X.N.Nodup)(hi:X.N[i]?=some x)(hk:X.env.scope.names.lookup x=some .local)
  (h:∀s',Inv X pins (σ.set i none) H s'->Q () s'):wpAny M A (do bindName X.env x .none;unbindBehindTheSuite X.env x pos) Q E s:=by
 obtain⟨m,R,L⟩:=id I.loc
 have r:(X.env.scope.kind == .class||(X.env.scope.kind == .module&&X.env.locals != X.env.globals))=false:=by rw[I.ok.kind];rfl
 have t:i<σ.length:=by rw[I.len];exact(b8.mp hi).1
 have u:∀b o,X.s₀.heap.get? b=some o->b≠X.env.locals:=λb o q=>cF (ci (b6 q) I.ok.above)
 refine wpAny_nameGoes_keeps hk R r λW v F a=>?_
 refine h _ ⟨I.ok,I.os,I.bare,⟨λb o e n w f=>(a.2 b (u b o e)).trans (I.base.keep b o e n w f),λb o e n w f=>?_,I.base.free,λb o e f=>?_,I.base.tups,I.base.frzs,I.base.tbls⟩,⟨_,F,λj y T C g O=>?_⟩,λy c e=>?_,I.free,I.freeC,λp hp=>?_,λb P q=>?_,by simpa using I.len⟩
 ·obtain⟨U,q⟩:=I.base.slot b o e n w f
  exact⟨U,(a.2 b (u b o e)).trans q⟩
 ·obtain⟨K,q⟩:=I.base.there b o e f
  exact⟨K,(a.2 b (u b o e)).trans q⟩
 ·by_cases l:j=i
  ·subst l
   rw[iS t]at g
   cases g
  ·rw[hV (Ne.symm l)]at g
   obtain⟨V,S,q⟩:=L j y T C g O
   refine⟨V,S,?_⟩
   rcases q with⟨k,e⟩|⟨k,c,e,z⟩
   ·have J:y≠x:=λz=>l (xG hN C (z▸hi))
    exact .inl ⟨k,by dsimp only;rw[if_neg J];exact e⟩
   ·exact .inr ⟨k,c,e,z.sameBut a (I.cne y c e)⟩
 ·obtain⟨B,z⟩:=I.cell y c e
  exact⟨B,z.sameBut a (I.cne y c e)⟩
 ·obtain⟨e,n,D,nf,d⟩:=I.pin p hp
  exact⟨(a.2 p.1 D).trans e,n,D,nf,d⟩
 ·refine(I.hok b P q).stay (λc B G z=>(a.2 c ?_).trans z) (λ_ z=>z) λ_ _ z=>z
  rintro rfl
  rcases G with z|z
  ·rw[<-z,I.free]at q;cases q
  ·rw[I.free]at z;cases z
end
def Cx.hold(X:Cx)(a:bV):Cx:={X with A:=X.A.mark (some (.ref a)),calm:=false,xe:=λ_ _=>False}
theorem Cx.Ok.hold{X:Cx}(ok:X.Ok)(a:bV):(X.hold a).Ok:=
 ⟨ok.mod,ok.kind,ok.glob,ok.blt,ok.above,ok.inj,ok.has,ok.cab,(λz=>by cases z),ok.frames,ok.stk,ok.exf,ok.bs,ok.bsz,ok.noex,ok.exfs,ok.funs,ok.frf⟩
section
variable{X:Cx}{pins:List (bV×Obj)}{σ:St}{H:Hp}{s:bS}
theorem Inv.hold(I:Inv X pins σ H s)(a:bV):Inv (X.hold a) pins σ H s:=⟨I.ok.hold a,I.os,I.bare,I.base,I.loc,I.cell,I.free,I.freeC,I.pin,I.hok,I.len⟩
theorem Inv.unhold{a:bV}(ok:X.Ok)(I:Inv (X.hold a) pins σ H s):Inv X pins σ H s:=⟨ok,I.os,I.bare,I.base,I.loc,I.cell,I.free,I.freeC,I.pin,I.hok,I.len⟩
end
def Nm(X:Cx)(e:Expr)(t:XK->TE):Prop:=∀(pins:List (bV×Obj)) (s:bS) (σ:St) (H:Hp) (Q:VK) (E:XK) (xe:bQ->bS->Prop),Inv X pins σ H s->
 (∀H1 s1 e' s',Inv X pins σ H1 s1->GO X.prog X.w X.stack H1 s1 E e' s'->xe e' s')->t E σ H Q->wpAny (model X.prog X.w) X.A (eval e X.env) (EP X pins σ Q) xe s
def MO(X:Cx)(sts:List Stmt)(t:XK->TS):Prop:=∀(pins:List (bV×Obj)) (s:bS) (σ:St) (H:Hp) (D:Il) (E:XK) (xe:bQ->bS->Prop),Inv X pins σ H s->
 (∀H1 s1 e' s',Inv X pins σ H1 s1->GO X.prog X.w X.stack H1 s1 E e' s'->xe e' s')->t E D σ H->wpAny (model X.prog X.w) X.A (execs sts X.env) (SP X pins D) xe s
section
variable{X:Cx}
theorem AX{i:Nat}{x:Str}{e:Expr}{te:XK->TE}{pos pos':Pos}(hN:X.N.Nodup)(hi:X.N[i]?=some x)(hx:MG X.env.scope x)(he:Nm X e te)(hs:swapsWith e (some (.Name x pos')) pos.line X.env=pure false:=by rfl)(hf:X.fn x=true\/X.env.scope.names.lookup x=some .local:=by first|exact .inl rfl|exact .inr rfl|assumption):
  MO X [.Assign [.Name x pos'] e pos] (λE=>LB (te E) (Ia i)):=by
 intro a s m H D E g I k h
 refine iw (eK (Q:=SP X a D) (m3 (Fw (he a s m H _ E g I k h) λv n ⟨y,l,c,d,j⟩=>vN c hN hi hx d (λo b=>⟨_,l,b,j⟩) hf) hs) (λf n q=>?_) λ_ _ z=>z)
 cases f with
 | next=>exact fR q
 | ret v=>exact q
 | brk=>exact q
 | cont=>exact q
theorem D7{e:Expr}{te:XK->TE}{pos:Pos}(he:Nm X e te)(hs:swapsWith e none pos.line X.env=pure false:=by rfl):MO X [.Expr e pos] (λE=>L1 (te E)):=by
 intro a s b H D E d I j h;refine iw (eK (Q:=SP X a D) (oH (Fw (he a s b H _ E d I j h) λv l ⟨x,k,c,m,g⟩=>⟨b,k,c,g⟩) I.quiet hs) (λf l q=>?_) λ_ _ z=>z)
 cases f with
 | next=>exact fR q
 | ret v=>exact q
 | brk=>exact q
 | cont=>exact q
def Oh(K:bN)(CW:bV)(ni:Nat)(tb:XK->TS)(ts:TS):TS:=λD σ H=>
 tb (λc _ H1=>∃C,c = .ref C/\d6 K C (.ref CW)=some true/\∀a,H1 a=none->
  ts {nx:=λσ' H'=>D.nx (σ'.set ni none) H',rt:=D.rt,bk:=λσ' H'=>D.bk (σ'.set ni none) H',ct:=λσ' H'=>D.ct (σ'.set ni none) H'} (σ.set ni (some (.ref a))) (upd H1 a (Kv C a))) D σ H
theorem Ds{W n:Str}{CW:bV}{ni:Nat}{body suite:List Stmt}{b₀:Stmt}{np hpos pos:Pos}{tb:XK->TS}{ts:TS}(hst:X.stack=X.env::X.outer)(hfr:X.env.frame=some X.env.locals)(hN:X.N.Nodup)(hn:X.N[ni]?=some n)(hnl:X.env.scope.names.lookup n=some .local)
  (hW:HK X.K X.mg W CW)(hg:Gl X W)(hb:MO X body tb)(hs:∀a,PSs (X.hold a) (b₀::suite) ts)(hd:(W==("__debug__":Str))=false:=by decide):
  PS X (.Try body [.ExceptHandler (some (.Name W np)) (some n) (b₀::suite) hpos] [] [] pos) (Oh X.K CW ni tb ts):=by
 intro c s σ H D I h
 refine wpAny_Try_except (eK (hb c s σ H D _ (λe y=>wpAny (model X.prog X.w) X.A (noteFrame e X.env) (λ_ o=>wpAny (model X.prog X.w) X.A (setFlight e none) (λ_ G=>wpAny (model X.prog X.w) X.A (handleBy e X.env [.ExceptHandler (some (.Name W np)) (some n) (b₀::suite) hpos]) (SP X c D) X.xe G) X.xe o) X.xe y) I ?_ h) (λf s1 q=>?_) λ_ _ z=>z)
 ·rintro H1 s1 e' s' x ⟨a,C,B,P,k,rfl,F,C',O,hm,hk⟩
  cases O
  have R:=F.fly
  have b:=x.ok.frames
  rw[hst]at R b
  refine wpAny_looks_onW b hfr R λh4 E m=>?_
  refine wpAny_landsW E λh5 j l=>?_
  have t:kX B X.stack a (.ref C) P h5:=by rw[hst];exact j
  have p:=x.caught F t (m.trans l)
  obtain⟨oe,Y,U⟩:=j.there
  have Q:h5.Ns X.env.globals X.mg:=by rw[I.ok.glob];exact p.mod.glob.keeps p.bk
  refine wpAny_handleBy_cons (codeAny_handlers_test (h9 I.ok.kind hg (ku Q hW.bound ?_) hd)) (by intro q;cases q)
  refine xU p.kIn hW.exc hm Y U (codeAny_handlers_suite_as ?_)
  refine lands_againW j λh6 T S=>?_
  have L:kX B X.stack a (.ref C) P h6:=by rw[hst];exact T
  have Z:=x.caught F L ((m.trans l).trans S)
  refine vN (X:=X.hold a) (v:= .ref a) (Z.hold a) hN hn (.inl hnl) rfl (λs7 V=>?_) (.inr hnl)
  refine eK (hs a c s7 _ _ _ V (hk a F.free)) (λf s8 q=>?_) λ_ _ z=>dI z
  show wpAny _ X.A (do bindName X.env n .none;unbindBehindTheSuite X.env n hpos) _ _ _
  cases f with
  | next=>obtain⟨g,k,J,q⟩:=q;exact u8 (J.unhold I.ok) hN hn hnl λM d=>⟨_,_,d,q⟩
  | brk=>obtain⟨g,k,J,q⟩:=q;exact u8 (J.unhold I.ok) hN hn hnl λM d=>⟨_,_,d,q⟩
  | cont=>obtain⟨g,k,J,q⟩:=q;exact u8 (J.unhold I.ok) hN hn hnl λM d=>⟨_,_,d,q⟩
  | ret u=>obtain⟨v,g,k,J,r,q⟩:=q;exact u8 (J.unhold I.ok) hN hn hnl λM d=>⟨v,_,_,d,r,q⟩
 ·cases f with
  | next=>exact fR q
  | ret v=>exact q
  | brk=>exact q
  | cont=>exact q
end
structure L6(K:bN)(C:bV):Prop where
 exc:f7 K C MN "ValueError.__new__"=true
 ga:eO K (.ref C) "__getattribute__"=some (some (.builtin "BaseException.__getattribute__"))
 noG:eO K (.ref C) "__getattr__"=some none
 cl:eO K (.ref C) "__class__"=some (some (.builtin "object.__class__"))
 mo:d6 K C (.type "object")=some true
 sg:PySem.W.specialIn K (.builtin "object.__class__") "__get__"=some (some (.builtin "getset_descriptor.__get__"))
 tk:PySem.W.takesIn K (.builtin "object.__class__")=some true
 mB:d6 K C (.type "BaseException")=some true
section
variable{prog:cg}{w:cC}{A:cO}{E:bQ->bS->Prop}{K:bN}{h:Heap}{g:Array GenState}{d:Drawn}{t:Nat}{os:OsState}{a C:bV}{o:Obj}
theorem ER{R:Result->bS->Prop}{tp:bQ}(X:K.In h)(F:L6 K C)(ha:h.get? a=some o)(hc:o.cls = .ref C)(hq:R (.ok (.ret (.ref C))) ⟨h,g,d,t,os⟩):
  codeAny (model prog w) A (.call (.builtin "getset_descriptor.__get__") ⟨[.builtin "object.__class__",.ref a,tp],[]⟩) R ⟨h,g,d,t,os⟩:=by
 have b:kb (model prog w) h (typeOf (.ref a)) (.ref C):=hc▸(ix ha).andThen .now
 have c:=jt (M:=model prog w) X F.mo
 refine ik mK.plain q5 (mK.check _ _ _ _ _ _ _ _ qx (rj _ _ _) ?_)
 unfold Builtin.«getset_descriptor.__get__» mL
 rw[PySem.W.dga_obj]
 refine bM (bO ?_)
 unfold l8 kF kT isInstance
 simp only[qg]
 repeat lk
 refine⟨gi _ (by decide +kernel),dS qh ?_⟩
 unfold Builtin.«object.__class__» shownTypeOf
 repeat lk
 exact hq
theorem Cs{tk:Tok}{Q:Fin->bS->Prop}(X:K.In h)(F:L6 K C)(ha:h.get? a=some o)(hc:o.cls = .ref C)(hq:Q (.done (.ret (.ref C))) ⟨h,g,d,t,os⟩):
  wpAny (model prog w) A (Builtin.«object.__getattribute__» ⟨[.ref a,.str "__class__" tk],[]⟩) Q E ⟨h,g,d,t,os⟩:=by
 have c:kb (model prog w) h (typeOf (.ref a)) (.ref C):=hc▸(ix ha).andThen .now
 have e:=ia (M:=model prog w) X F.cl
 have b:=PySem.W.looks_specialIn (M:=model prog w) X F.sg
 unfold Builtin.«object.__getattribute__»
 repeat (first|with_reducible refine gf ?_|lk)
 refine ER X F ha hc ?_
 repeat lk
 exact hq
theorem Er{tk:Tok}{R:Result->bS->Prop}(X:K.In h)(F:L6 K C)(ha:h.get? a=some o)(hc:o.cls = .ref C)(hq:R (.ok (.ret (.ref C))) ⟨h,g,d,t,os⟩):
  codeAny (model prog w) A (.call (.builtin "BaseException.__getattribute__") ⟨[.ref a,.str "__class__" tk],[]⟩) R ⟨h,g,d,t,os⟩:=by
 refine ik jG.ga.plain PySem.F.entry_bexc_ga ?_
 have f:kb (model prog w) h (typeOf (.ref a)) (.ref C):=hc▸(ix ha).andThen .now
 have j:=jt (M:=model prog w) X F.mB
 have b:builtinKind "BaseException.__getattribute__"=some .slot:=by decide +kernel
 have c:splitId "BaseException.__getattribute__"=some ("BaseException","__getattribute__"):=by decide +kernel
 have e:=PySem.F.args_bexc_ga (.ref a) (.str "__class__" tk)
 simp only[checkBuiltinCall,b,c]
 refine bM ?_
 unfold isInstance
 repeat (first|with_reducible refine Cs X F ha hc ?_|lk)
 exact hq
theorem Dz{Q:Option bQ->bS->Prop}(X:K.In h)(F:L6 K C)(ha:h.get? a=some o)(hc:o.cls = .ref C)(hq:Q (some (.ref C)) ⟨h,g,d,t+1,os⟩):
  wpAny (model prog w) A (getAttr? (.ref a) "__class__") Q E ⟨h,g,d,t,os⟩:=by
 have f:kb (model prog w) h (typeOf (.ref a)) (.ref C):=hc▸(ix ha).andThen .now
 have e:=ia (M:=model prog w) X F.ga
 have c:=ia (M:=model prog w) X F.noG
 have b:(onTheHeap (b5 C)&&je "BaseException.__getattribute__"==je "object.__getattribute__")=false:=by
  have z:(je "BaseException.__getattribute__"==je "object.__getattribute__")=false:=by decide +kernel
  rw[z,jB]
 unfold getAttr? getAttrBy? getAttrBy
 refine bM (wpAny_mkText (bM (f8 (cR (bM (f.at (bM (e.at ?_))))))))
 dsimp only
 rw[if_neg (by rw[b];decide)]
 unfold getAttrByItsOwn
 refine bM ?_
 unfold hookBefore
 rw[if_pos (by rfl)]
 refine c.at ?_
 refine bM (f8 (cR ?_))
 unfold callGetattribute
 rw[if_neg (by decide)]
 unfold boundAndCalled
 rw[jG.ga.bind (.ref a)]
 refine bM (bO ?_)
 refine gf (Er X F ha hc ?_)
 refine eQ (a:=b5 C) rfl ?_
 exact bO hq
theorem y6(F:L6 K C):PySem.W.KitX K (.ref a) (.ref C) (λh=>∃o,h.get? a=some o/\o.cls = .ref C) where
 ty:=λ_ _ _ ⟨o,f,c⟩=>c▸(ix f).andThen .now
 it:=λM h X _=>by
  obtain⟨B,H,v,J,y,j,I,p,G,m,r,L,N,P,O,R,x,b,_⟩:=xn X F.exc
  intro V Y U T k q
  unfold isType loadHead
  exact bM (oI (k _ _ b) (bO q))
 ne:=λh D r S n Z X l=>by
  obtain⟨B,H,v,J,y,j,I,p,G,m,r,L,N,P,O,R,x,b,_⟩:=xn X F.exc
  refine nr.mpr λq=>?_
  have e:C=D:=b5.inj (beq_iff_eq.mp q)
  rw[e,l]at b
  have z:=congrArg rD (Option.some.inj b)
  exact nomatch z
 ca:=λ {u w A E Q s} X ⟨o,f,c⟩ k=>by
  obtain⟨hh,g,d,t,os⟩:=s
  exact Dz X F f c k
end
section
variable{X:Cx}
theorem tJ:FW X (.builtin "isinstance") (λxs H Q=>∃a C c b,xs=[.ref a,c]/\H a=some (Kv C a)/\L6 X.K C/\((∃W,c = .ref W/\fb X.K (.ref C) (.ref W)=some b)\/(∃T,c = .ty T/\fb X.K (.ref C) (.type T)=some b))/\Q (.bl b) H):=by
 intro j s n H xs m Q I r h;obtain⟨a,C,c,b,rfl,l,F,hk,q⟩:=h;obtain⟨u,d,rfl,k,g⟩:=Kd r
 cases(show u=b5 a from k);obtain⟨⟨o,f,e,_⟩,_,_⟩:=I.hok a _ l;rcases hk with⟨W,rfl,hk⟩|⟨T,rfl,hk⟩
 ·cases(show d=b5 W from g);exact fV (y6 F) I.kIn ⟨o,f,e⟩ hk (λz=>nomatch z) λtk=>⟨.bl b,H,I.tok tk,rfl,q⟩
 ·cases(show d=cX T from g);exact fV (y6 F) I.kIn ⟨o,f,e⟩ hk (λz=>nomatch z) λtk=>⟨.bl b,H,I.tok tk,rfl,q⟩
theorem uS{x:Str}{C:bV}{pos:Pos}(h:HK X.K X.mg x C)(hg:Gl X x:=by rfl)(hd:(x==("__debug__":Str))=false:=by decide):PE X (.Name x pos) (tC (.ref C)):=D0 hg h.bound rfl hd
end
section
variable{P:cg}{w:cC}{K:bN}{mg:Str->Option bQ}{base:Heap}
theorem Def.okE{x:Str}{st:Stmt}{N ps:List Str}{k:Nat}{sp:Sp}(F:Def K mg x st)(S:Fj N ps (Fg st))(len:∀vs H Q E,sp vs H Q E->vs.length=ps.length)
  (hb:∀(kV doc pm:bQ) (an:Option bV) (cdv ct:bQ) (us:List bQ),us.length=ps.length->bindArgs (fC x x (Fx st) (Fq st) (Fg st) .none kV doc pm an cdv ct) ⟨us,[]⟩=pure (ps.zip us))
  (hbody:∀(f:bV) (cdv:bQ) (A:cO) (outer:List Env) (s:bS) (H:Hp) (vs:List V) (Q:VK) (E:XK),Room k (A.deeper (envOfC x (Fg st) s.heap.objs.size f cdv))->sp vs H Q E->
   ∃t,PSs (Ke P w K mg base N x (Fg st) f cdv A outer s H E) (Fq st) t/\t {nx:=λ_ H'=>Q .non H',rt:=Q} (start N vs) H):Dn P w K mg base (GO P w) (k+1) x ps sp:=by
 obtain⟨f,h,F,m⟩:=F
 have c:=F.binds hb
 have d:=F.kp
 obtain⟨j,l,kV,doc,pm,an,cdv,ct,g,rfl,lk,b⟩:=F.ex
 exact⟨f,_,CJ lk b S len λA outer s H vs Q E e a=>hbody f cdv A outer s H vs Q E e a,m,d,c⟩
theorem JM{X:Cx}:FS (GO X.prog X.w) X E0:=λ_ _ _ _ _ _ _ ⟨_,_,_,_,_,_,_,z⟩=>z.elim
end
structure Xs where
 WishError:bV
 NoFraction:bV
 NoWishes:bV
 NoTable:bV
 NoPick:bV
 NoOrder:bV
 NoRoll:bV
 NoPerson:bV
 Unready:bV
 NoWay:bV
theorem Ek{K:bN}{C:bV}{bmB:List bQ}{nid:String}(q:f7 K C bmB nid=true):∃(d:Option bV) (cd:ClassData) (sl:Array (Option bQ)) (bm:List bQ),K.lookup C=some ⟨.type "type",d,.cls cd,sl⟩/\cd.mro = .ref C::bm:=by
 unfold f7 at q;split at q
 ·rename_i dd cd sl hlk
  split at q
  ·rename_i C' bm u0 u1 u2 u3 n u5 hmro hsl
   simp only[cH,beq_iff_eq]at q;obtain⟨⟨⟨⟨⟨rfl,_⟩,_⟩,_⟩,_⟩,_⟩:=q;exact⟨dd,cd,sl,bm,hlk,hmro⟩
  ·cases q
 ·cases q
theorem EA{K:bN}{C W:bV}{b:Bool}(qW:f7 K W MN "ValueError.__new__"=true)(m:d6 K C (.ref W)=some b):fb K (.ref C) (.ref W)=some b:=by
 obtain⟨d,g,k,j,a,e⟩:=Ek qW;have c:pO K W=some g:=by unfold pO;rw[a]
 unfold fb;by_cases h:C=W
 ·subst h;rw[if_pos (by simp)];unfold d6 at m;rw[c]at m;simp[e]at m;rw[m]
 ·rw[if_neg (by simpa using h)];unfold lU;have f:oJ K (.ref W)=some (.type "type"):=by
   show(K.lookup W).map _=_;rw[a];rfl
  simp only[c,f,mI,beq_self_eq_true,pP,if_true];exact m
theorem Eg{K:bN}{C:bV}{b:Bool}(m:d6 K C (.type "ValueError")=some b):fb K (.ref C) (.type "ValueError")=some b:=by
 unfold fb;rw[if_neg (by simp)];unfold lU;dsimp only;rw[if_pos (by decide +kernel)];exact m
def FV(x:Xs):Sp:=λvs H Q E=>∃t b:Int,vs=[.int t,.int b]/\(b=0->E (.ref x.NoFraction) none H)/\(b≠0->b.natAbs<2^9000/\∀p H',Same H H'->H' p=some (Lq (FQ.red t b))->Q (.ref p) H')
def Iw(K:bN):Sp:=λvs H Q _=>∃a b x y,vs=[.ref a,.ref b]/\SqT K H a [.int x.1,.int x.2]/\SqT K H b [.int y.1,.int y.2]/\Sz 4000 x/\Sz 4000 y/\Q (.bl (decide (x.1*y.2<y.1*x.2))) H
theorem Sz.up{m n:Nat}{p:Int×Int}(h:Sz m p)(hmn:m<=n):Sz n p:=⟨v7 h.1 hmn,v7 h.2.1 hmn,h.2.2⟩
theorem C2{a b:Int}{m:Nat}(h1:a.natAbs<2^m)(h2:b.natAbs<2^m):(a+b).natAbs<2^(m+1):=by
 have:=Int.natAbs_add_le a b;rw[qi];omega
section
variable{X:Cx}
theorem DC{xs:List V}{us:List bQ}(r:Vals xs us){i:Nat}{u:bQ}(h:us[i]?=some u):∃x,xs[i]?=some x/\RelV x u:=by
 have a:=r.length;have c:i<us.length:=(b8.mp h).1;have e:xs[i]?=some xs[i]:=by simp[show i<xs.length by omega]
 obtain⟨b,h1,h2⟩:=r.get e;rw[h]at h1
 cases h1;exact⟨_,e,h2⟩
theorem zy(hc:X.calm=true):FW X (.builtin "all") (λxs H Q=>∃(p:bV) (bs:List Bool),xs=[.ref p]/\SqL X.K H p (bs.map V.bl)/\Q (.bl (bs.all id)) H):=by
 intro C s L H xs G Q I r h;obtain⟨p,bs,rfl,D,q⟩:=h;obtain⟨u,rfl,g⟩:=F7 r
 cases(show u=b5 p from g);obtain⟨c,B,l,F⟩:=I.list D;have y:=B.length;rw[bP]at y;have hp:p<s.heap.objs.size:=by obtain⟨_,e,_⟩:=l.isList;exact b6 e
 have n:TruthOf X.prog X.w X.A.in1 (λi v=>c.toArray[i]?=some v) (λi=>bs.getD i false):=λi v s Q E m k=>by
  dsimp only at m k;rw[i9]at m;obtain⟨x,a,g⟩:=DC B m;rw[bZ]at a
  cases j:bs[i]? with
  | none=>rw[j]at a;cases a
  | some b=>
   rw[j]at a
   cases a
   cases(show v=dH b from g);have e:bs.getD i false=b:=by simp[bR,j]
   rw[e]at k;exact bO k
 refine call_all_walk (g8 l.isList ⟨s.heap.objs.size,_,_,_,_,_,_,rfl,oO (A:=X.A.in1) (I.ok.hd hc) s.heap.objs.size p (cF hp) c.toArray,⟨⟨_,b4 _ rfl,rfl,rfl⟩,l.isList.push _⟩,n,λJ tk hk=>?_⟩);have e:(cp c.toArray.size).all (λi=>bs.getD i false)=bs.all id:=by
  rw[cc,<-y];apply fS.mpr;rw[de,de];constructor
  ·intro h x a;obtain⟨i,d,rfl⟩:=dW.mp a;have:=h i (dq.mpr d);simpa [d]using this
  ·intro h i d;have f:=dq.mp d;have:=h bs[i] (cm f);simpa [f]using this
 rw[e];refine⟨.bl _,H,I.kept λb o t=>hk b o (λz=>?_) (bU _ t),rfl,q⟩;rw[bY]at z;subst z;exact absurd (b6 t) (cJ _)
theorem vG{ns:List Int}:∀{vs:List bQ},Vals (ns.map V.int) vs->IntsAre vs ns:=by
 induction ns with
 | nil=>intro vs r;cases r;exact .nil
 | cons n ns a=>
  intro vs r
  cases r with
  | cons r b=>
   obtain⟨t,rfl⟩:=(show ∃t,_=dn n t from r);exact .cons _ _ (a b)
theorem wt{prog:cg}{w:cC}{A:cO}{E:bQ->bS->Prop}{s:bS}{l:bV}{vs:List bQ}{Q:List bQ->bS->Prop}(ht:IsTup s.heap l vs.toArray)(hsz:vs.length<=sizeLine)
  (h:Q vs {s with heap:=(s.heap.push (seqObj "list" #[] 0)).update s.heap.objs.size (dr (· ++ vs.toArray))}):wpAny (model prog w) A (collect (.ref l)) Q E s:=by
 obtain⟨o,f,c,n,d⟩:=ht
 have b:(s.heap.push (seqObj "list" #[] 0)).get? l=some o:=bU _ f
 have a:(s.heap.push (seqObj "list" #[] 0)).get? s.heap.objs.size=some (seqObj "list" #[] 0):=b4 _ rfl
 unfold collect
 refine bM (jH (dS lE ?_))
 change wpAny _ _ (do again (.builtin "list.__iadd__" ⟨[<-newList [],.ref l],[]⟩)) _ _ s
 refine bM (iI (bO ⟨gi _ (by decide +kernel),dS nt ?_⟩))
 change wpAny _ _ (fz (.ref s.heap.objs.size) (.ref l) (.ref s.heap.objs.size)) _ _ {s with heap:=s.heap.push (seqObj "list" #[] 0)}
 unfold fz
 refine bM (gQ (T:="tuple") ⟨o,b,c⟩ ?_)
 rw[if_pos (by rw[show(cX "tuple"==cX "tuple")=true from rfl];simp)]
 refine bM (qj b d ?_)
 refine bM (qj (xs:= #[]) (n:=0) a rfl ?_)
 rw[if_neg (by simp)]
 refine bM (gZ (xs:= #[]) (n:=0) a rfl ?_ (cM _) (by change (#[]++vs.toArray).size<=sizeLine+1;simp only[Array.size_append,cc,lu];omega))
 refine bO ?_
 change wpAny (model prog w) A (do
   let o<-load s.heap.objs.size
   match o.data with
   | .seq xs _=>pure xs.toList
   | _=>unsupported "internal:collect") Q E {s with heap:=(s.heap.push (seqObj "list" #[] 0)).update s.heap.objs.size (dr (· ++ vs.toArray))}
 refine bM (wpAny_load (get?_update_seq a _) ?_)
 change wpAny _ _ (pure ((#[]:Array bQ)++vs.toArray).toList) Q E _
 have e:((#[]:Array bQ)++vs.toArray).toList=vs:=by simp
 rw[e]
 exact bO h
theorem At{prog:cg}{w:cC}{A:cO}{E:bQ->bS->Prop}{s:bS}{l:bV}{vs:List bQ}{ns:List Int}{Q:bQ->bS->Prop}(ht:IsTup s.heap l vs.toArray)(hI:IntsAre vs ns)(h64:vs.length<64)
  (h:∀(out:Array bQ) (ns':List Int),IntsAre out.toList ns'->ns'.Perm ns->ns'.Pairwise (· <= ·)->Q (.ref (s.heap.objs.size+1)) {s with heap:=sortedAll s.heap vs out}):
  wpAny (model prog w) A (call (.builtin "sorted") [.ref l]) Q E s:=by
 have b:((s.heap.push (seqObj "list" #[] 0)).update s.heap.objs.size (dr (· ++ vs.toArray))).objs.size=s.heap.objs.size+1:=by rw[nV,kY]
 have a:(((s.heap.push (seqObj "list" #[] 0)).update s.heap.objs.size (dr (· ++ vs.toArray))).push (seqObj "list" vs.toArray 0)).get? (s.heap.objs.size+1)=some (seqObj "list" vs.toArray 0):=by
  rw[<-b];exact b4 _ rfl
 refine gr oj nu nv (nw _) ?_
 unfold Builtin.«sorted»
 refine bM (m:=checkCount "sorted" 1 1 _) (bO ?_)
 have e:vs.length<=sizeLine:=cx (Fh (by omega))
 refine bM (wt ht e (bM (iI ?_)))
 change wpAny _ _ _ _ _ {s with heap:=((s.heap.push (seqObj "list" #[] 0)).update s.heap.objs.size (dr (· ++ vs.toArray))).push (seqObj "list" vs.toArray 0)}
 rw[b]
 refine bM (cR (df lV ⟨_,a,rfl⟩ lx (oP a hI h64 λout ns' c d f=>⟨_,rfl,?_⟩) (lW _)))
 exact bO ⟨_,rfl,h out ns' c d f⟩
theorem yQ:FW X (.builtin "sorted") (λxs H Q=>∃(p:bV) (ns:List Int),xs=[.ref p]/\(SqL X.K H p (ns.map V.int)\/SqT X.K H p (ns.map V.int))/\ns.length<64/\∀(l:bV) (ns':List Int),H l=none->ns'.Perm ns->ns'.Pairwise (· <= ·)->Q (.ref l) (upd H l (.lst (ns'.map V.int)))):=by
 intro g s y H xs C Q I r h;obtain⟨p,ns,rfl,f,B,q⟩:=h;obtain⟨u,rfl,x⟩:=F7 r
 cases(show u=b5 p from x);have fin:∀(a:List bQ),Vals (ns.map V.int) a->∀(d:Array bQ) (ns':List Int),IntsAre d.toList ns'->ns'.Perm ns->ns'.Pairwise (· <= ·)->EP X g y Q (.ref (s.heap.objs.size+1)) {s with heap:=sortedAll s.heap a d}:=λa c d ns' z m A=>by
  obtain⟨e,v⟩:=ql s.heap a d;refine⟨.ref (s.heap.objs.size+1),_,I.laid (t':=s.toks) (λb o t=>pQ t) (dJ _) (show ObjOk X.prog X.w _ _ _ (.lst (ns'.map V.int))from⟨?_,d.toList,e,uU z,by rw[v]⟩),rfl,q _ ns' (I.hok.fresh (dJ _)) m A⟩;rw[bP,m.length_eq];exact cx (Fh (by omega))
 rcases f with f|f
 ·obtain⟨a,c,k,n⟩:=I.list f;have j:=c.length;rw[bP]at j;exact sorted_ints k.isList (vG c) (by omega) (fin a c)
 ·obtain⟨a,c,k,n⟩:=I.tuple f;have j:=c.length;rw[bP]at j;exact At k (vG c) (by omega) (fin a c)
theorem zZ{pins:List (bV×Obj)}{σ:St}{H:Hp}{s:bS}{A:cO}{E:bQ->bS->Prop}{Q:bQ->bS->Prop}{tp:bV}{dd:Option bV}{its:List bQ}{n:Nat}{sl:Array (Option bQ)}{b:Bool}{x:V}{u:bQ}{t:String}(I:Inv X pins σ H s)(rx:RelV x u)(ty:tyOf X.K H x t)
  (htp:s.heap.get? tp=some ⟨.type "tuple",dd,.seq its.toArray n,sl⟩)(e:oQ X.K (.type t) its=some b)(h:∀tk,Q (.bool b) {s with toks:=tk}):wpAny (model X.prog X.w) A (call (.builtin "isinstance") [u,.ref tp]) Q E s:=by
 cases x with
 | non=>cases(show u=bQ.none from rx);cases(show t="NoneType"from ty);exact gW nh I.kIn True.intro htp e (λz=>nomatch z) h
 | bl y=>cases(show u=dH y from rx);cases(show t="bool"from ty);exact gW nj I.kIn True.intro htp e (λz=>nomatch z) h
 | int i=>obtain⟨tk,q⟩:=(show ∃t,u=dn i t from rx);cases q;cases(show t="int"from ty);exact gW nS I.kIn True.intro htp e (λz=>nomatch z) h
 | str y=>obtain⟨tk,q⟩:=(show ∃t,u=gY y t from rx);cases q;cases(show t="str"from ty);exact gW nT I.kIn True.intro htp e (λz=>nomatch z) h
 | ref a=>
  cases(show u=b5 a from rx)
  rcases ty with⟨rfl,f,d⟩|⟨rfl,f,d⟩
  ·obtain⟨c,_,⟨o,g,h1,h2,_⟩,_⟩:=I.list d
   exact gW nk I.kIn ⟨o,h1,h2⟩ htp e (λz=>nomatch z) h
  ·obtain⟨c,_,⟨o,h1,h2,_⟩,_⟩:=I.tuple d
   exact gW mJ I.kIn ⟨o,h1,h2⟩ htp e (λz=>nomatch z) h
 | byt _=>exact ty.elim
 | flt _=>exact ty.elim
 | ty _=>exact ty.elim
theorem AT:FW X (.builtin "isinstance") (λxs H Q=>∃x p t,xs=[x,.ref p]/\SqT X.K H p [.ty "list",.ty "tuple"]/\tyOf X.K H x t/\Q (.bl (Ik t "list"||Ik t "tuple")) H):=by
 intro g s D H xs B Q I r h;obtain⟨x,p,t,rfl,k,ty,q⟩:=h;obtain⟨u,d,rfl,m,l⟩:=Kd r
 cases(show d=b5 p from l);obtain⟨c,y,⟨o,h1,h2,n,h3⟩,_⟩:=I.tuple k;have e:c=[cX "list",cX "tuple"]:=by
  cases y with
  | cons j a=>
   cases a with
   | cons f a=>
    cases a
    cases(show _=cX "list"from j)
    cases(show _=cX "tuple"from f);rfl
 subst e;obtain⟨C,E,z,A⟩:=o;dsimp only at h2 h3;subst h2 h3;refine zZ I m ty h1 (b:=Ik t "list"||Ik t "tuple") ?_ λtk=>⟨.bl _,H,I.tok tk,rfl,q⟩;have v:=AH (K:=X.K) (T:="list") (wl ty) (by decide);have w:=AH (K:=X.K) (T:="tuple") (wl ty) (by decide);simp only[oQ,v,w]
 cases Ik t "list" <;> cases Ik t "tuple" <;> rfl
end
mutual
theorem A7:∀(n:Nat) (d:ij),GQ n d=true->d.canLay0=true/\d.depth<=n
 | _,.none,_=>by simp[il,iy]
 | _,.bool _,_=>by simp[il,iy]
 | _,.int _,_=>by simp[il,iy]
 | n,.str x,h=>by
  have a:eg (.str x)=true:=by cases n <;> simpa [GQ]using h
  exact⟨SeqAt.canLay_of_shaped a,by simp[iy]⟩
 | n+1,.tuple ds,h=>by
  have:=xr n ds (by simpa [GQ]using h)
  simp[il,iy,this]
 | n+1,.list ds,h=>by
  have:=xr n ds (by simpa [GQ]using h)
  simp[il,iy,this]
 | 0,.tuple _,h=>by simp[GQ]at h
 | 0,.list _,h=>by simp[GQ]at h
 | 0,.dict _,h=>by simp[GQ]at h
 | _+1,.dict _,h=>by simp[GQ]at h
theorem xr:∀(n:Nat) (ds:List ij),(∀d∈ds,GQ n d=true)->j0 ds=true/\ly ds<=n
 | n,[],_=>by simp[j0,ly]
 | n,d::ds,h=>by
  have h1:=A7 n d (h d b0)
  have h2:=xr n ds λx a=>h x (b3 _ a)
  simp only[j0,ly,h1.1,h2.1,pP,true_and]
  omega
end
theorem sy{n:Nat}{d:ij}(h:GQ n d=true)(hn:n<=64):eg d=true:=by
 have:=A7 n d h;unfold eg;rw[this.1];simp;omega
theorem tyOf.mono{K:bN}{H H':Hp}{x:V}{t:String}(e:Same H H')(h:tyOf K H x t):tyOf K H' x t:=by
 cases x with
 | ref a=>
  rcases h with⟨h1,c,b⟩|⟨h1,c,b⟩
  ·exact .inl ⟨h1,c,e.seq b⟩
  ·exact .inr ⟨h1,c,e.tup b⟩
 | non=>exact h
 | bl _=>exact h
 | int _=>exact h
 | str _=>exact h
 | byt _=>exact h
 | flt _=>exact h
 | ty _=>exact h
theorem ES{X:Cx}{tg l:Expr}{tl:TE}(hl:PE X l tl):PI X tg l (λσ H R=>Ma X.K tl σ H R\/NA X.K tl σ H R):=by
 intro a s σ H R I h;rcases h with h|h
 ·exact tD hl a s σ H R I h
 ·exact v6 hl a s σ H R I h
section
variable{X:Cx}{K:bN}
theorem xx(h:X.K=K):FW X (.type "list") (λxs H Q=>∃p ys,xs=[.ref p]/\(SqL K H p ys\/SqT K H p ys)/\∀l,H l=none->Q (.ref l) (upd H l (.lst ys))):=by subst h;exact sV
theorem t9(h:X.K=K):IxR X (ME K):=by subst h;exact rZ
theorem xL(h:X.K=K):IxR X (MJ K):=by subst h;exact sd
theorem vb(h:X.K=K):FW X (.builtin "len") (λxs H Q=>∃p ys,xs=[.ref p]/\(SqL K H p ys\/SqT K H p ys)/\Q (.int ys.length) H):=by subst h;exact rW
theorem DV{k:Nat}(h:X.K=K)(hr:Room k X.A):Gx X (compareOp .Eq) (MZ K):=by subst h;exact u9 hr
theorem B4{k:Nat}(h:X.K=K)(hr:Room k X.A):Gx X (compareOp .NotEq) (Nx K):=by subst h;exact v4 hr
theorem uY(h:X.K=K):Gx X (compareOp .NotIn) (NO K true):=by subst h;exact tK
theorem vH{x:Str}{xs:List V}{pos:Pos}(e:X.K=K)(h:LT K X.mg x xs)(hg:Gl X x:=by rfl)(hd:(x==("__debug__":Str))=false:=by decide):PE X (.Name x pos) (Mb K xs):=by subst e;exact uo h hg hd
structure Oi(X:Cx)(st:Stmt)(t:TS):Prop where
 h:PS X st t
structure K7(X:Cx)(ss:List Stmt)(t:TS):Prop where
 h:PSs X ss t
theorem EC{ss:List Stmt}{t:TS}(h:PSs X ss t):K7 X ss t:=⟨h⟩
theorem vK{st:Stmt}{ss:List Stmt}{t u:TS}(h1:PS X st t)(h2:K7 X ss u):K7 X (st::ss) (L0 t u):=⟨rG h1 h2.h⟩
theorem AK{st:Stmt}{ss:List Stmt}{t u:TS}(h1:Oi X st t)(h2:K7 X ss u):K7 X (st::ss) (L0 t u):=⟨rG h1.h h2.h⟩
end
end L2
namespace LM
def rng(n:Nat):List Int:=(cp n).map gF
theorem rng_len(n:Nat):(rng n).length=n:=by simp[rng]
theorem mem_rng{n:Nat}{x:Int}:x∈rng n↔0<=x/\x<n:=by
 unfold rng;simp only[cP,dq];constructor
 ·rintro⟨a,h,rfl⟩;simp;omega
 ·rintro⟨h0,h1⟩;exact⟨x.toNat,by omega,by simp;omega⟩
theorem z4(n:Nat):(rng n).Pairwise (· <= ·):=by
 unfold rng;rw[iW];refine j1 ?_ (kZ (n:=n));intro a b h;simp;omega
theorem rng_nodup(n:Nat):(rng n).Nodup:=by
 unfold rng;rw[List.nodup_iff_pairwise_ne,iW];refine j1 ?_ (kZ (n:=n));intro a b h z;have:a=b:=gF.inj z;omega
theorem yG{a b r:List Int}(ha:a.Perm r)(hs:a.Pairwise (· <= ·))(hr:r.Pairwise (· <= ·)):a=r:=
 kc (λx y _ _ h1 h2=>Int.le_antisymm h1 h2) hs hr ha
end LM
namespace L2
open PySem PySem.Spec PyProof.Rows
def IV(K:bN):Sp:=λvs H Q _=>∃v t,vs=[v]/\tyOf K H v t/\∀H',Same H H'->Q (.bl (Ik t "list"||Ik t "tuple")) H'
def J3(K:bN):Sp:=λvs H Q _=>∃a us,vs=[.ref a]/\(SqL K H a us\/SqT K H a us)/\∀H',Same H H'->Q (.bl (decide (1<=us.length/\us.length<=6))) H'
theorem SqL.over{K:bN}{H:Hp}{a p:bV}{o:HO}{xs:List V}(h:SqL K H a xs)(hne:a≠p):SqL K (upd H p o) a xs:=by
 rcases h with(h|⟨u,h⟩)|h
 ·exact .inl (.inl (by rw[rR hne];exact h))
 ·exact .inl (.inr ⟨u,by rw[rR hne];exact h⟩)
 ·exact .inr h
def fr(T:Int)(m:List Int):List (Int×Int):=m.map λx=>FQ.red x T
def RwFT(K:bN)(H:Hp)(T:Int)(v:V)(m:List Int):Prop:=∃a gs,v = .ref a/\SqT K H a gs/\cT (IsF K H) gs (fr T m)
theorem rX{K:bN}{H H':Hp}{gs:List V}{ps:List (Int×Int)}(e:Same H H')(h:cT (IsF K H) gs ps):cT (IsF K H') gs ps:=Paired.mapP h λ_ _ q=>q.mono e
theorem RwFT.mono{K:bN}{H H':Hp}{T:Int}{v:V}{m:List Int}(e:Same H H')(h:RwFT K H T v m):RwFT K H' T v m:=by
 obtain⟨a,b,rfl,q,c⟩:=h;exact⟨a,b,rfl,e.tup q,rX e c⟩
end L2
namespace LN
open LM
def Pm(n:Nat)(l:List Int):Prop:=l.Perm (rng n)
theorem Pm.len{n:Nat}{l:List Int}(h:Pm n l):l.length=n:=by rw[q8 h,rng_len]
theorem Pm.mem{n:Nat}{l:List Int}(h:Pm n l){x:Int}:x∈l↔0<=x/\x<n:=by rw[rl h];exact mem_rng
theorem Pm.nodup{n:Nat}{l:List Int}(h:Pm n l):l.Nodup:=(q9 h).mpr (rng_nodup n)
theorem findSome_snoc{α:Type}{f:Nat->Option α}{i:Nat}(h:(cp i).findSome? f=none):(cp (i+1)).findSome? f=f i:=by
 rw[fF,lF,h];simp
theorem findSome_up{α:Type}{f:Nat->Option α}{i n:Nat}{r:α}(h:(cp i).findSome? f=some r)(hn:i<=n):(cp n).findSome? f=some r:=by
 have e:cp n=cp i++(cp (n-i)).map (i + ·):=by
  rw[<-List.range_add]
  congr 1
  omega
 rw[e,lF,h];rfl
end LN
namespace L2
open PySem PySem.Spec PyProof.Rows
section
variable{X:Cx}{pins:List (bV×Obj)}{σ:St}{H:Hp}{s:bS}{h':Heap}
theorem Inv.turnedL{t':Nat}{fp:List bV}(I:Inv X pins σ H s)(k:∀b o,b∉fp->s.heap.get? b=some o->h'.get? b=some o)(hf:∀b∈fp,HP X pins H b):Inv X pins σ H {s with heap:=h',toks:=t'}:=by
 have d:∀b u,H b=some u->b∉fp:=λb u e z=>by rw[(hf b z).1]at e;cases e
 refine I.step (g':=s.gens) (d':=s.drawn) (ch:=fp) (λb t=>?_) (λb o _ _ a e _=>k b o a e) (λb o _ _ a e _=>⟨o.slots,k b o a e⟩) (λ_ _ _ _ n=>n)
  (λb o a e=>⟨o,k b o a e⟩) (λ_ _ e=>e) (λ_ _ _ e=>e) (λb B e=>⟨#[],by rw[e];simp⟩) (λm w=>?_) (λb u e=>?_) I.bare
 ·obtain⟨A,l,y,j,g,x⟩:=hf b t;exact⟨j,l,g,x⟩
 ·obtain⟨o,f,p,h,r⟩:=w;exact⟨o,f,p,k _ o (λz=>(hf _ z).2.1 rfl) h,r⟩
 ·refine(I.hok b u e).stay (λc v a q=>k c v ?_ q) (λ_ q=>q) λ_ _ q=>q;rcases a with z|z
  ·rw[z];exact d b u e
  ·exact d c _ z
theorem tW{h:Heap}{o u:Obj}{b:bV}(e:(h.push o).get? b=some u)(ho:o.isFreed=false):h.get? b=some u\/(b=h.objs.size/\u=o):=by
 rcases ny b h.objs.size with q|q|q
 ·left
  cases a:h.get? b with
  | some f=>rw[bU _ a]at e;exact e
  | none=>
   exfalso;unfold Heap.get? at a e;unfold kG at e;simp only[Array.getElem?_push]at e;rw[if_neg (by omega)]at e;rw[a]at e
   cases e
 ·right
  subst q;rw[b4 _ ho]at e
  cases e;exact⟨rfl,rfl⟩
 ·exfalso;have c:(h.push o).objs.size=h.objs.size+1:=by unfold kG;simp
  have d:b<h.objs.size+1:=by rw[<-c];exact b6 e
  exact cJ _ (ci q (Nat.le_of_lt_succ d))
def Ms(K:bN)(a:bV):It:=
 ⟨λi H=>∃xs x,SqL K H a xs/\xs[i]?=some x,λi H x H'=>∃y t,(∀xs,SqL K H a xs->xs[i]?=some y)/\x = .ref t/\H t=none/\H'=upd H t (.tup [.int i,y]),λi H=>∃xs,SqL K H a xs/\xs.length<=i⟩
theorem BO{P:cg}{w:cC}{K:bN}{elts:List Expr}{x1:Nat}{pos:Pos}(a it e:bV)(hne:e≠it):JY P w K (.Tuple elts x1 pos) (Ms K a) [e,it] e (λi h=>(∃old,IsEnum h e it i old)/\h.IsListIter it a i) where
 mem:=by simp
 obj:=λi h st b f=>by
  obtain⟨⟨old,j⟩,o,l,c,d⟩:=st
  rcases cj.mp f with z|z
  ·subst z
   exact⟨_,j,λv z=>by cases z⟩
  ·have e:=bY.mp z
   subst e
   exact⟨o,l,λv z=>by rw[d]at z;cases z⟩
 keep:=λi h m st k=>by
  obtain⟨⟨old,j⟩,l⟩:=st
  exact⟨⟨old,k e (by simp) _ j⟩,l.at λo q=>k it (by simp) o q⟩
 item:=by
  intro X A F B J i g s t H E I C st D
  subst A F B
  obtain⟨xs,x,r,G⟩:=D
  obtain⟨L,y,p,Q⟩:=I.list r
  obtain⟨u,hu,ru⟩:=y.get G
  obtain⟨⟨old,j⟩,l⟩:=st
  refine wpAny_pyNext_enum_item j l p.isList (x:=u) (by simpa using hu) hne λm so si V aa kk=>?_
  have M:∀b o,s.heap.get? b=some o->b≠s.heap.objs.size:=λb o q=>cF (b6 q)
  have Z:e≠s.heap.objs.size:=M _ _ j
  have li:it≠s.heap.objs.size:=by obtain⟨o,q,_⟩:=l;exact M _ _ q
  have hn:H s.heap.objs.size=none:=I.hok.fresh (bX _)
  have Y:Inv X g t (upd H s.heap.objs.size (.tup [.int i,x])) {s with heap:=s.heap.push {cls:= .type "tuple",data:= .seq #[.int i s.toks,u]},toks:=s.toks}:=
   I.laid (t':=s.toks) (λb o q=>bU _ q) (bX _) ⟨by show 2<=sizeLine;decide,[.int i s.toks,u],.cons ⟨_,rfl⟩ (.cons ru .nil),⟨_,b4 _ rfl,rfl,_,rfl⟩⟩
  have n:∀b∈[e,it],HP X g (upd H s.heap.objs.size (.tup [.int i,x])) b:=λb f=>by
   have q:=C b f
   refine⟨?_,q.2⟩
   have N:b≠s.heap.objs.size:=by
    rcases cj.mp f with z|z
    ·rw[z];exact Z
    ·rw[bY.mp z];exact li
   rw[rR N]
   exact q.1
  have T:Inv X g t (upd H s.heap.objs.size (.tup [.int i,x])) {s with heap:=m,toks:=s.toks+1}:=
   Inv.turnedL (s:={s with heap:=s.heap.push {cls:= .type "tuple",data:= .seq #[.int i s.toks,u]},toks:=s.toks}) Y (fp:=[e,it]) (t':=s.toks+1) (λb o f q=>by
    rcases tW q rfl with q|⟨rfl,rfl⟩
    ·exact kk b o (λz=>f (by simp[z])) (λz=>f (by simp[z])) q
    ·exact V) n
  refine⟨_,rfl,wpAny_letOwnedTupleGo_enum (s:={s with heap:=m,toks:=s.toks+1}) so λh2 U O=>?_⟩
  have R:Inv X g t (upd H s.heap.objs.size (.tup [.int i,x])) {s with heap:=h2,toks:=s.toks+1}:=
   Inv.turnedL (s:={s with heap:=m,toks:=s.toks+1}) T (fp:=[e,it]) (t':=s.toks+1) (λb o f q=>(O.2 b (λz=>f (by simp[z]))).trans q) n
  refine⟨.ref s.heap.objs.size,_,R,rfl,⟨x,_,λys hy=>by rw[I.list_inj hy r];exact G,rfl,hn,rfl⟩,⟨⟨_,U⟩,si.at λo q=>(O.2 it (Ne.symm hne)).trans q⟩,λb f=>(n b f).1⟩
 done:=by
  intro X A F B J i g s t H E I C st D
  subst A F B
  obtain⟨xs,r,G⟩:=D
  obtain⟨L,y,p,Q⟩:=I.list r
  obtain⟨⟨old,j⟩,l⟩:=st
  have hl:=y.length
  exact wpAny_pyNext_enum_end (I.ok.hd J) j l p.isList (by simp;omega) λm S=>⟨rfl,I.turnedL (fp:=[e,it]) (t':=s.toks) (λb o f q=>S b o (λz=>f (by simp[z])) q) C⟩
 self:=λ_ _ _ _ _ st h=>by
  obtain⟨⟨old,j⟩,l⟩:=st
  exact nA j h
def NF(K:bN)(ta:TA):TI:=λσ H R=>ta σ H λvs H1=>∃a,vs=[.ref a]/\(∃xs,SqL K H1 a xs)/\R (Ms K a) H1
theorem BK{elts:List Expr}{x1:Nat}{tpos:Pos}{a:Expr}{ta:TA}{p pos:Pos}(hg:Gl X "enumerate")(hm:X.mg "enumerate"=none)(ha:PA X [a] ta)(hs:cD [a] X.env=[(false,eval a X.env)]:=by rfl):
  PI X (.Tuple elts x1 tpos) (.Call (.Name "enumerate" p) [a] [] pos) (NF X.K ta):=by
 intro d s m H R I h
 refine rk (t7 I hg hm oE (du (Fw (ha pos d s m H _ I h) λF f ⟨vs,j,c,o,w⟩=>?_) hs rfl))
 obtain⟨l,e,⟨G,v⟩,q⟩:=w
 subst e
 cases o with
 | cons r u=>
  cases u
  cases r
  obtain⟨C,E,y,D⟩:=c.list v
  refine call_enumerate_list y.isList λk g t B A=>?_
  refine nA (s:={f with heap:=k}) g ?_
  have n:Inv X d m j {f with heap:=k}:=c.kept (t':=f.toks) A
  refine⟨_,[f.heap.objs.size+1,f.heap.objs.size],_,_,j,rfl,n,BO l _ _ (Nat.succ_ne_self _),⟨⟨_,g⟩,t⟩,λb x=>?_,q⟩
  rcases cj.mp x with z|z
  ·subst z
   exact c.fpOk (dJ _) (c.hok.fresh (dJ _))
  ·rw[bY.mp z]
   exact c.fpOk (bX _) (c.hok.fresh (bX _))
end
section
variable{X:Cx}{K:bN}
theorem xb{es:List Expr}{k:Nat}{pos:Pos}{t:Ly}(hK:X.K=K)(n:Nat)(hc:X.calm=true)(h:M3 X es t)(hn:(assignEach es X.env).length=n:=by rfl)(hst:(assignEach es X.env).findIdx? (·.1)=none:=by rfl):
  PG X (.Tuple es k pos) (ML K n t):=by subst hK;exact xO hc h hn hst
theorem Dv{T:String}{name:Str}{id:String}{r:V->List V->Hp->VK->Prop}{o e:Expr}{es:List Expr}{apos cpos:Pos}{to:TE}{t:TA}(hK:X.K=K)(pa:PlainAttrs T)(slot:Slot T name id)(hty:typeOf (.builtin id)=pure (.type "method_descriptor"))(hm:MS X id r)(ho:PE X o to)(ha:PA X (e::es) t)
  (hbase:attributeBase o name X.env (eval o X.env)=eval o X.env:=by rfl)
  (hfew:((backTo cpos (cD (e::es) X.env)).all (λx=>!x.1)&&(backToKw cpos (keywordEach [] X.env)).all (λx=>x.1.isSome)
   && decide ((e::es).length+([]:List Keyword).length+(if([]:List Keyword).isEmpty then 0 else 1)<30))=true:=by rfl)
  (hline:(apos.endLine==cpos.line)=true:=by rfl)(hs:cD (e::es) X.env=(false,eval e X.env)::cD es X.env:=by rfl)(hplain:(backTo cpos (cD es X.env)).any (·.1)=false:=by rfl):
  PE X (.Call (.Attribute o name apos) (e::es) [] cpos) (On K T r to t):=by subst hK;exact tO pa slot hty hm ho ha hbase hfew hline hs hplain
end
theorem CL{K:bN}{a:bV}{xs:List V}{g:TG}{tb:TS}{D:Il}{σ:St}{H:Hp}(Pv:Nat->St->Hp->Prop)(h0:Pv 0 σ H)(hl:∀i σ H,i<=xs.length->Pv i σ H->SqL K H a xs)
  (hs:∀i x σ H t,xs[i]?=some x->H t=none->Pv i σ H->g (.ref t) σ (upd H t (.tup [.int i,x])) λσ2 H2=>tb {D with nx:=Pv (i+1),ct:=Pv (i+1),bk:=D.nx} σ2 H2)(hd:∀σ H,Pv xs.length σ H->D.nx σ H):
  ∃W:Nat->Nat->St->Hp->Prop,(∃m,W 0 m σ H)/\∀i m σ H,W i m σ H->
   ((Ms K a).stop i H/\D.nx σ H)\/((Ms K a).go i H/\∃N:St->Hp->Prop,(∀σ' H',N σ' H'->∃m',m'<m/\W (i+1) m' σ' H')/\∀x H',(Ms K a).yld i H x H'->g x σ H' λσ2 H2=>tb {D with nx:=N,ct:=N,bk:=D.nx} σ2 H2):=by
 refine⟨λi m σ H=>m=xs.length-i/\i<=xs.length/\Pv i σ H,⟨xs.length,by simp,cM _,h0⟩,?_⟩
 rintro i m σ H ⟨rfl,d,p⟩
 have q:=hl i σ H d p
 by_cases b:i<xs.length
 ·refine .inr ⟨⟨xs,xs[i],q,by simp[b]⟩,Pv (i+1),λσ' H' c=>⟨xs.length-(i+1),by omega,rfl,b,c⟩,λx H' y=>?_⟩
  obtain⟨y,t,h1,rfl,h3,rfl⟩:=y
  exact hs i y σ H t (h1 xs q) h3 p
 ·have e:i=xs.length:=by omega
  subst e
  exact .inl ⟨⟨xs,q,bX _⟩,hd σ H p⟩
theorem Ax{K:bN}{a:bV}{xs:List V}{caps:List (Option Nat)}{g:TG}{tt:TT}{te:TE}{σ:St}{QQ:List V->Hp->Prop}{H:Hp}(Pv:Nat->List V->Hp->Prop)(h0:Pv 0 [] H)
  (hl:∀i ys H,i<=xs.length->Pv i ys H->SqL K H a xs)
  (hs:∀i x ys H t,xs[i]?=some x->H t=none->Pv i ys H->g (.ref t) (Gb caps σ) (upd H t (.tup [.int i,x])) λσ2 H2=>tt σ2 H2 λb H3=>if b=true then te σ2 H3 λy H4=>ys.length<sizeLine/\Pv (i+1) (ys++[y]) H4 else Pv (i+1) ys H3)
  (hd:∀ys H,Pv xs.length ys H->QQ ys H):FT caps g tt te σ QQ (Ms K a) H:=by
 refine⟨λi m ys H=>m=xs.length-i/\i<=xs.length/\Pv i ys H,⟨xs.length,by simp,cM _,h0⟩,?_⟩
 rintro i m ys H ⟨rfl,h,p⟩
 have q:=hl i ys H h p
 by_cases c:i<xs.length
 ·refine .inr ⟨⟨xs,xs[i],q,by simp[c]⟩,Pv (i+1),λj d f=>⟨xs.length-(i+1),by omega,rfl,c,f⟩,λx d y=>?_⟩
  obtain⟨y,t,h1,rfl,h3,rfl⟩:=y
  exact hs i y ys H t (h1 xs q) h3 p
 ·have e:i=xs.length:=by omega
  subst e
  exact .inl ⟨⟨xs,q,bX _⟩,hd ys H p⟩
theorem zN{K:bN}{a:bV}{xs:List V}{caps:List (Option Nat)}{g:TG}{te:TE}{σ:St}{QQ:List V->Hp->Prop}{H:Hp}(Pv:Nat->List V->Hp->Prop)(h0:Pv 0 [] H)
  (hl:∀i ys H,i<=xs.length->Pv i ys H->SqL K H a xs)
  (hs:∀i x ys H t,xs[i]?=some x->H t=none->Pv i ys H->g (.ref t) (Gb caps σ) (upd H t (.tup [.int i,x])) λσ2 H2=>te σ2 H2 λy H4=>ys.length<sizeLine/\Pv (i+1) (ys++[y]) H4)
  (hd:∀ys H,Pv xs.length ys H->QQ ys H):FT caps g Hs te σ QQ (Ms K a) H:=
 Ax Pv h0 hl (λi x ys H t c b p=>by simp only[tZ];exact hs i x ys H t c b p) hd
def IsR(K:bN)(H:Hp)(v:V)(row:List Int):Prop:=∃a,v = .ref a/\SqT K H a (row.map V.int)
theorem IsR.mono{K:bN}{H H':Hp}{v:V}{row:List Int}(e:Same H H')(h:IsR K H v row):IsR K H' v row:=by
 obtain⟨a,rfl,q⟩:=h;exact⟨a,rfl,e.tup q⟩
def FK(x y:Int×Int):Bool:=decide (x.1*y.2<y.1*x.2)
mutual
theorem xi:∀(n:Nat) (d:ij),GQ n d=true->eh d d=true
 | _,.none,_=>by simp[eh]
 | _,.bool _,_=>by simp[eh]
 | _,.int _,_=>by simp[eh]
 | n,.str x,h=>by simp[eh]
 | n+1,.tuple ds,h=>by
  have:=vQ n ds (by simpa [GQ]using h)
  simp[eh,this]
 | n+1,.list ds,h=>by
  have:=vQ n ds (by simpa [GQ]using h)
  simp[eh,this]
 | 0,.tuple _,h=>by simp[GQ]at h
 | 0,.list _,h=>by simp[GQ]at h
 | 0,.dict _,h=>by simp[GQ]at h
 | _+1,.dict _,h=>by simp[GQ]at h
theorem vQ:∀(n:Nat) (ds:List ij),(∀d∈ds,GQ n d=true)->f9 ds ds=true
 | n,[],_=>by simp[f9]
 | n,d::ds,h=>by
  have h1:=xi n d (h d b0)
  have h2:=vQ n ds λx a=>h x (b3 _ a)
  simp[f9,h1,h2]
end
end L2
namespace EM
open LM
def at0(ms:List Int)(t:Int):Int:=ms.getD t.toNat 0
def best(ms:List Int)(w:List Int):Int:=(w.filter λt=>decide (at0 ms t≠0)).headD 0
def dishes(W:List (List Int))(ms:List Int):List Int:=W.map (best ms)
def cnt(ds:List Int)(t:Int):Int:=(ds.count t:Nat)
def Gd(ds ms:List Int):Int->List Int->Int
 | s,[]=>s
 | s,t::r=>Gd ds ms (if at0 ms t*cnt ds s<at0 ms s*cnt ds t then t else s) r
def pick(ds ms:List Int):Int:=Gd ds ms (ds.headD 0) ds
def nextMs(ds ms:List Int):List Int:=(rng ms.length).map λj=>at0 ms j*cnt ds (pick ds ms)-cnt ds j*at0 ms (pick ds ms)
structure Course where
 m:Int
 D:Int
 ds:List Int
 gone:List Int
def goneOf(ds ms':List Int):List Int:=(rng ms'.length).filter λt=>decide (t∈ds)&&decide (at0 ms' t=0)
def G0(W:List (List Int))(D:Int)(ms:List Int):Course:=
 ⟨at0 ms (pick (dishes W ms) ms),D*cnt (dishes W ms) (pick (dishes W ms) ms),dishes W ms,goneOf (dishes W ms) (nextMs (dishes W ms) ms)⟩
def nz(ms:List Int):Nat:=((rng ms.length).filter λt=>decide (at0 ms t≠0)).length
theorem at0_mem{ms:List Int}{t:Int}(h0:0<=t)(h:t<ms.length):at0 ms t∈ms:=by
 unfold at0;have h1:t.toNat<ms.length:=by omega
 rw[bR,bT h1];exact cm h1
theorem Bp{ms w:List Int}(h:∃t∈w,at0 ms t≠0):best ms w∈w/\at0 ms (best ms w)≠0:=by
 obtain⟨t,e,f⟩:=h;have b:t∈w.filter λt=>decide (at0 ms t≠0):=dw.mpr ⟨e,decide_eq_true f⟩;unfold best
 cases c:w.filter λt=>decide (at0 ms t≠0)with
 | nil=>rw[c]at b;cases b
 | cons a r=>
  have d:a∈w.filter λt=>decide (at0 ms t≠0):=by rw[c];exact b0
  have:=dw.mp d;exact⟨this.1,of_decide_eq_true this.2⟩
theorem yA{a b e c d f:Int}(hd:0<d)(hc:0<=c)(hf:0<=f)(h1:a*d<=b*c)(h2:b*f<=e*d):a*f<=e*c:=by
 have h3:a*d*f<=b*c*f:=eT h1 hf;have h4:b*f*c<=e*d*c:=eT h2 hc;refine Int.le_of_mul_le_mul_right (a:=d) ?_ hd;have h:a*f*d=a*d*f:=by rw[fj]
 have g:b*c*f=b*f*c:=by rw[fj]
 have j:e*c*d=e*d*c:=by rw[fj]
 rw[h,j];rw[g]at h3;exact qm h3 h4
theorem cnt_pos{ds:List Int}{t:Int}(h:t∈ds):0<cnt ds t:=by
 have:=List.count_pos_iff.mpr h;unfold cnt;omega
theorem cnt_nn(ds:List Int)(t:Int):0<=cnt ds t:=by unfold cnt;omega
theorem xF{ds:List Int}{t:Int}(h:t∉ds):cnt ds t=0:=by
 unfold cnt;rw[mM.mpr h];rfl
theorem cnt_le(ds:List Int)(t:Int):cnt ds t<=ds.length:=by
 have:=List.count_le_length (a:=t) (l:=ds);unfold cnt;omega
theorem uG{ds ms:List Int}:∀(r:List Int) (s:Int),s∈ds->(∀t∈r,t∈ds)->
  Gd ds ms s r∈ds/\at0 ms (Gd ds ms s r)*cnt ds s<=at0 ms s*cnt ds (Gd ds ms s r)/\∀t∈r,at0 ms (Gd ds ms s r)*cnt ds t<=at0 ms t*cnt ds (Gd ds ms s r)
 | [],s,hs,_=>⟨hs,eF _,λt f=>by cases f⟩
 | t::r,s,hs,hr=>by
  have f:=hr t b0
  have g:∀u∈r,u∈ds:=λu e=>hr u (b3 _ e)
  unfold Gd
  by_cases c:at0 ms t*cnt ds s<at0 ms s*cnt ds t
  ·rw[if_pos c]
   obtain⟨a,b,d⟩:=uG (ms:=ms) r t f g
   refine⟨a,?_,λu e=>?_⟩
   ·exact yA (cnt_pos f) (cnt_nn _ _) (cnt_nn _ _) b (ef c)
   ·rcases cj.mp e with rfl|e
    ·exact b
    ·exact d u e
  ·rw[if_neg c]
   obtain⟨a,b,d⟩:=uG (ms:=ms) r s hs g
   refine⟨a,b,λu e=>?_⟩
   rcases cj.mp e with rfl|e
   ·exact yA (cnt_pos hs) (cnt_nn _ _) (cnt_nn _ _) b (rh.mp c)
   ·exact d u e
theorem yi{ds ms:List Int}(h:ds≠[]):pick ds ms∈ds/\∀t∈ds,at0 ms (pick ds ms)*cnt ds t<=at0 ms t*cnt ds (pick ds ms):=by
 cases ds with
 | nil=>exact absurd rfl h
 | cons a r=>
  have:=uG (ds:=a::r) (ms:=ms) (a::r) a b0 λ_ h=>h;exact⟨this.1,this.2.2⟩
theorem EZ(ms:List Int):(rng ms.length).map (at0 ms)=ms:=by
 conv=>rhs;rw[<-wH ms]
 unfold rng;rw[iz];rfl
theorem Ce(ds ms:List Int):(nextMs ds ms).length=ms.length:=by
 unfold nextMs;rw[bP,rng_len]
theorem rng_get{n k:Nat}(h:k<n):(rng n)[k]?=some (k:Int):=by
 unfold rng;rw[bZ,dy h];rfl
theorem at0_next{ds ms:List Int}{t:Int}(h0:0<=t)(h:t<ms.length):at0 (nextMs ds ms) t=at0 ms t*cnt ds (pick ds ms)-cnt ds t*at0 ms (pick ds ms):=by
 have h1:t.toNat<ms.length:=by omega
 have e:((t.toNat:Nat):Int)=t:=by omega
 conv=>lhs;unfold at0 nextMs
 rw[bR,bZ,rng_get h1,e];rfl
theorem sum_zero:∀{ms:List Int},(∀m∈ms,0<=m)->ms.sum=0->∀m∈ms,m=0
 | [],_,_,m,h=>by cases h
 | a::r,hn,hs,m,h=>by
  have e:=hn a b0
  have f:0<=r.sum:=by
   have:∀{r:List Int},(∀m∈r,0<=m)->0<=r.sum:=by
    intro r
    induction r with
    | nil=>intro _;exact eF 0
    | cons b q d=>intro h;rw[eR];have:=h b b0;have:=d λm c=>h m (b3 _ c);omega
   exact this λm c=>hn m (b3 _ c)
  rw[eR]at hs
  rcases cj.mp h with rfl|h
  ·omega
  ·exact sum_zero (λm c=>hn m (b3 _ c)) (by omega) m h
theorem uj:∀{ms:List Int},(∀m∈ms,m=0)->ms.sum=0
 | [],_=>rfl
 | a::r,h=>by rw[eR,h a b0,uj λm b=>h m (b3 _ b)];rfl
theorem some_left{ms:List Int}(h:ms.sum≠0):∃t:Int,0<=t/\t<ms.length/\at0 ms t≠0:=
 da λc=>h (uj λm a=>by
  obtain⟨k,hk,e⟩:=dW.mp a
  refine da λz=>c ⟨(k:Nat),by omega,by omega,?_⟩
  unfold at0
  rw[bR,eZ,bT hk,e]
  exact z)
theorem A9{d:Int}:∀{l:List Int},l.Nodup->((d∈l->(l.map λj=>if d=j then(1:Int)else 0).sum=1)/\(d∉l->(l.map λj=>if d=j then(1:Int)else 0).sum=0))
 | [],_=>⟨λh=>(by cases h),λ_=>rfl⟩
 | a::r,hn=>by
  obtain⟨h1,h2⟩:=ez.mp hn
  obtain⟨c,b⟩:=A9 (d:=d) h2
  rw[dh,eR]
  by_cases e:d=a
  ·subst e
   exact⟨λ_=>by rw[if_pos rfl,b h1];rfl,λh=>absurd b0 h⟩
  ·rw[if_neg e]
   exact⟨λh=>by rw[c ((cj.mp h).resolve_left e)];rfl,λh=>by rw[b λz=>h (b3 _ z)];rfl⟩
theorem vR{f g:Int->Int}:∀l:List Int,(l.map λj=>f j+g j).sum=(l.map f).sum+(l.map g).sum
 | []=>rfl
 | a::r=>by rw[dh,dh,dh,eR,eR,eR,vR r];omega
theorem wj{f g:Int->Int}{a b:Int}:∀l:List Int,(l.map λj=>f j*a-g j*b).sum=(l.map f).sum*a-(l.map g).sum*b
 | []=>by simp
 | x::r=>by
  rw[dh,dh,dh,eR,eR,eR,wj r,gw,gw]
  omega
theorem CT(d:Int)(ds:List Int)(j:Int):cnt (d::ds) j=cnt ds j+if d=j then 1 else 0:=by
 unfold cnt;rw[List.count_cons];by_cases e:d=j
 ·rw[if_pos e,if_pos (by simp[e])];rfl
 ·rw[if_neg e,if_neg (by simp[e])];rfl
theorem AD{n:Nat}:∀{ds:List Int},(∀d∈ds,0<=d/\d<n)->((rng n).map (cnt ds)).sum=ds.length
 | [],_=>uj λm b=>by
  obtain⟨j,_,rfl⟩:=cP.mp b
  rfl
 | d::ds,h=>by
  have a:=AD (n:=n) (ds:=ds) λx c=>h x (b3 _ c)
  have e:(rng n).map (cnt (d::ds))=(rng n).map λj=>cnt ds j+if d=j then 1 else 0:=eX λj _=>CT d ds j
  rw[e,vR,a,(A9 (rng_nodup n)).1 (mem_rng.mpr (h d b0)),cZ]
  omega
theorem yt{p q:Int->Bool}:∀{l:List Int},(∀x∈l,q x=true->p x=true)->(l.filter q).length<=(l.filter p).length/\((∃x∈l,p x=true/\q x=false)->(l.filter q).length<(l.filter p).length)
 | [],_=>⟨bX _,λ⟨x,h,_⟩=>by cases h⟩
 | a::r,h=>by
  obtain⟨j,f⟩:=yt (p:=p) (q:=q) (l:=r) λx b=>h x (b3 _ b)
  have g:=h a b0
  rw[nW,nW]
  cases e:q a with
  | true=>
   rw[if_pos rfl,if_pos (g e),cZ,cZ]
   refine⟨by omega,λ⟨x,b,hp,c⟩=>?_⟩
   rcases cj.mp b with rfl|b
   ·rw[e]at c;cases c
   ·have:=f ⟨x,b,hp,c⟩;omega
  | false=>
   rw[if_neg (by decide)]
   cases d:p a with
   | true=>rw[if_pos rfl,cZ];exact⟨by omega,λ_=>by omega⟩
   | false=>
    rw[if_neg (by decide)]
    refine⟨j,λ⟨x,b,hp,c⟩=>?_⟩
    rcases cj.mp b with rfl|b
    ·rw[d]at hp;cases hp
    ·exact f ⟨x,b,hp,c⟩
structure St(n:Nat)(D:Int)(ms:List Int)(T:Int)(G:List Int):Prop where
 pos:0<D
 len:ms.length=n
 nn:∀m∈ms,0<=m
 le:∀m∈ms,m<=D
 sum:ms.sum=n*(D-T)
 T0:0<=T
 gone:∀t:Int,0<=t->t<n->(t∈G↔at0 ms t=0)
 inG:∀t∈G,0<=t/\t<n
 nd:G.Nodup
 big:D<=8^(n-nz ms)
theorem EB(ms:List Int):nz ms<=ms.length:=by
 unfold nz;exact cG (dC ..) (by rw[rng_len];exact bX _)
theorem St.start{n:Nat}:St n 1 (fB n 1) 0 []:=by
 have a:∀t:Int,0<=t->t<n->at0 (fB n (1:Int)) t=1:=λt h0 h=>by
  unfold at0;rw[bR,List.getElem?_replicate_of_lt (by omega)];rfl
 refine⟨by decide,gn,λm h=>?_,λm h=>?_,?_,eF 0,λt h0 h=>⟨λz=>(by cases z),λz=>?_⟩,λt h=>(by cases h),gG,?_⟩
 ·rw[(mO.mp h).2];decide
 ·rw[(mO.mp h).2];decide
 ·have:∀n:Nat,(fB n (1:Int)).sum=n:=by
   intro n
   induction n with
   | zero=>rfl
   | succ k b=>rw[mf,eR,b];omega
  rw[this];omega
 ·rw[a t h0 h]at z;cases z
 ·exact_mod_cast Nat.one_le_pow _ _ (by decide)
section
variable{n:Nat}{W:List (List Int)}{D T:Int}{ms G:List Int}
theorem DL(S:St n D ms T G)(hW:∀w∈W,w.Perm (rng n))(hs:ms.sum≠0){w:List Int}(hw:w∈W):(0<=best ms w/\best ms w<n)/\at0 ms (best ms w)≠0/\best ms w∈w:=by
 obtain⟨t,h0,h1,c⟩:=some_left hs;rw[S.len]at h1;obtain⟨a,b⟩:=Bp (ms:=ms) (w:=w) ⟨t,(hW w hw).mem_iff.mpr (mem_rng.mpr ⟨h0,h1⟩),c⟩;exact⟨mem_rng.mp ((hW w hw).mem_iff.mp a),b,a⟩
theorem dish_ok(S:St n D ms T G)(hW:∀w∈W,w.Perm (rng n))(hs:ms.sum≠0){d:Int}(hd:d∈dishes W ms):(0<=d/\d<n)/\at0 ms d≠0:=by
 obtain⟨w,a,rfl⟩:=cP.mp hd;have:=DL S hW hs a;exact⟨this.1,this.2.1⟩
theorem BR(S:St n D ms T G)(hl:W.length=n)(hn1:1<=n)(hn6:n<=6)(hW:∀w∈W,w.Perm (rng n))(hs:ms.sum≠0):
  0<(G0 W D ms).m/\0<cnt (dishes W ms) (pick (dishes W ms) ms)/\cnt (dishes W ms) (pick (dishes W ms) ms)<=6/\pick (dishes W ms) ms∈(G0 W D ms).gone/\
  nz (nextMs (dishes W ms) ms)<nz ms/\
  St n (G0 W D ms).D (nextMs (dishes W ms) ms) (T*cnt (dishes W ms) (pick (dishes W ms) ms)+(G0 W D ms).m) (G++(G0 W D ms).gone):=by
 have k:(dishes W ms).length=n:=by unfold dishes;rw[bP,hl]
 have N:dishes W ms≠[]:=λz=>by rw[z]at k;simp at k;omega
 have y:=λ {d:Int} (h:d∈dishes W ms)=>dish_ok S hW hs h
 unfold G0
 dsimp only
 generalize dishes W ms=f at *
 obtain⟨F,I⟩:=yi (ms:=ms) N
 have g:=cnt_pos F
 have L:=cnt_le f (pick f ms)
 rw[k]at L
 obtain⟨⟨A,v⟩,pn⟩:=y F
 have C:0<at0 ms (pick f ms):=by
  have:=S.nn _ (at0_mem A (by rw[S.len];exact v));omega
 have r:∀t:Int,0<=t->t<n->at0 (nextMs f ms) t=at0 ms t*cnt f (pick f ms)-cnt f t*at0 ms (pick f ms):=λt h0 h1=>at0_next h0 (by rw[S.len];exact h1)
 have p:(nextMs f ms).length=n:=by rw[Ce,S.len]
 have o:∀t:Int,0<=t->t<n->at0 ms t=0->at0 (nextMs f ms) t=0:=λt h0 h1 z=>by
  have:t∉f:=λq=>(y q).2 z
  rw[r t h0 h1,z,xF this];omega
 have J:∀t:Int,0<=t->t<n->at0 ms t≠0->at0 (nextMs f ms) t=0->t∈f:=λt h0 h1 z q=>da λc=>by
  rw[r t h0 h1,xF c,jw,qo]at q
  rcases oo.mp q with q|q
  ·exact z q
  ·omega
 have E:at0 (nextMs f ms) (pick f ms)=0:=by
  rw[r _ A v,fZ];omega
 have l:∀t:Int,t∈goneOf f (nextMs f ms)↔(0<=t/\t<n)/\t∈f/\at0 (nextMs f ms) t=0:=λt=>by
  unfold goneOf
  rw[dw,p,mem_rng,cH,decide_eq_true_iff,decide_eq_true_iff]
 have M:nz (nextMs f ms)<nz ms:=by
  unfold nz
  rw[p,S.len]
  refine(yt λx V h=>?_).2 ⟨pick f ms,mem_rng.mpr ⟨A,v⟩,decide_eq_true pn,by rw[E];rfl⟩
  have B:=mem_rng.mp V
  exact decide_eq_true λz=>of_decide_eq_true h (o x B.1 B.2 z)
 refine⟨C,g,by omega,(l _).mpr ⟨⟨A,v⟩,F,E⟩,M,im S.pos g,p,?_,?_,?_,?_,λt h0 h1=>?_,λt h=>?_,?_,?_⟩
 ·intro m u
  unfold nextMs at u
  obtain⟨j,s,rfl⟩:=cP.mp u
  rw[S.len]at s
  obtain⟨H,K⟩:=mem_rng.mp s
  by_cases c:j∈f
  ·have:=I j c
   rw[fZ (cnt f j)];omega
  ·rw[xF c,jw]
   have:=iX (S.nn _ (at0_mem H (by rw[S.len];exact K))) (ef g)
   omega
 ·intro m u
  unfold nextMs at u
  obtain⟨j,s,rfl⟩:=cP.mp u
  rw[S.len]at s
  obtain⟨H,K⟩:=mem_rng.mp s
  have h1:=eT (S.le _ (at0_mem H (by rw[S.len];exact K))) (ef g)
  have h2:=iX (cnt_nn f j) (ef C)
  omega
 ·unfold nextMs
  rw[wj,EZ,S.len,AD (n:=n) (λd h=>(y h).1),k,S.sum]
  rw[pR,<-Int.mul_sub,jh,Int.sub_sub]
 ·have:=iX S.T0 (ef g);omega
 ·rw[cN,S.gone t h0 h1,l]
  constructor
  ·rintro(z|z)
   ·exact o t h0 h1 z
   ·exact z.2.2
  ·intro z
   by_cases c:at0 ms t=0
   ·exact .inl c
   ·exact .inr ⟨⟨h0,h1⟩,J t h0 h1 c z,z⟩
 ·rcases cN.mp h with h|h
  ·exact S.inG t h
  ·exact((l t).mp h).1
 ·refine fO.mpr ⟨S.nd,?_,λa U b R e=>?_⟩
  ·unfold goneOf
   exact(rng_nodup _).filter _
  ·subst e
   obtain⟨q,P,_⟩:=(l a).mp R
   exact(y P).2 ((S.gone a q.1 q.2).mp U)
 ·have Q:cnt f (pick f ms)<=8:=by omega
  have h1:=iY S.big Q (ef g) (by exact_mod_cast cM _)
  refine qm h1 ?_
  have e:(8:Int)^(n-nz ms)*8=8^(n-nz ms+1):=(Int.pow_succ ..).symm
  rw[e]
  have O:=EB ms
  rw[S.len]at O
  exact_mod_cast dM (by decide) (show n-nz ms+1<=n-nz (nextMs f ms)by omega)
theorem DS(S:St n D ms T G)(hn1:1<=n)(hs:ms.sum=0):T=D/\G.Perm (rng n):=by
 have a:=sum_zero S.nn hs;refine⟨?_,?_⟩
 ·have:=S.sum;rw[hs]at this;rcases oo.mp this.symm with h|h <;> omega
 ·refine(fD S.nd (rng_nodup n)).mpr λt=>?_;rw[mem_rng];exact⟨S.inG t,λh=>(S.gone t h.1 h.2).mpr (a _ (at0_mem h.1 (by rw[S.len];exact h.2)))⟩
end
end EM
namespace EM
open LM
structure MD where
 D:Int
 ms:List Int
 T:Int
 G:List Int
def s0(n:Nat):MD:=⟨1,fB n 1,0,[]⟩
def cs(W:List (List Int))(s:MD):Course:=G0 W s.D s.ms
def cn(W:List (List Int))(s:MD):Int:=cnt (dishes W s.ms) (pick (dishes W s.ms) s.ms)
def nxt(W:List (List Int))(s:MD):MD:=⟨s.D*cn W s,nextMs (dishes W s.ms) s.ms,s.T*cn W s+(cs W s).m,s.G++(cs W s).gone⟩
def st(W:List (List Int))(n:Nat):Nat->MD
 | 0=>s0 n
 | i+1=>nxt W (st W n i)
def Upto(W:List (List Int))(n N:Nat):Prop:=∀i,i<N->(st W n i).ms.sum≠0
theorem Upto.mono{W:List (List Int)}{n N M:Nat}(h:Upto W n N)(hM:M<=N):Upto W n M:=λi a=>h i (by omega)
theorem Upto.snoc{W:List (List Int)}{n N:Nat}(h:Upto W n N)(hs:(st W n N).ms.sum≠0):Upto W n (N+1):=λi a=>by
 rcases fe.mp a with z|z
 ·exact h i z
 ·rw[z];exact hs
structure Stops(W:List (List Int))(n N:Nat):Prop where
 up:Upto W n N
 last:(st W n N).ms.sum=0
structure Ws(n:Nat)(W:List (List Int)):Prop where
 n1:1<=n
 n6:n<=6
 len:W.length=n
 pm:∀w∈W,w.Perm (rng n)
section
variable{W:List (List Int)}{n:Nat}
theorem st_ok(h:Ws n W):∀i,Upto W n i->St n (st W n i).D (st W n i).ms (st W n i).T (st W n i).G/\nz (st W n i).ms+i<=n
 | 0,_=>⟨St.start,by
  have:=EB (fB n 1)
  rw[gn]at this
  exact this⟩
 | i+1,hu=>by
  obtain⟨S,d⟩:=st_ok h i (hu.mono (by omega))
  have b:=hu i (by omega)
  obtain⟨_,_,_,_,c,a⟩:=BR S h.len h.n1 h.n6 h.pm b
  refine⟨a,?_⟩
  show nz (nextMs (dishes W (st W n i).ms) (st W n i).ms)+(i+1)<=n
  omega
theorem upto_le(h:Ws n W){i:Nat}(hu:Upto W n i):i<=n:=by have:=(st_ok h i hu).2;omega
theorem D_le{D T:Int}{ms G:List Int}(S:St n D ms T G)(hn:n<=6):D<=262144:=by
 have h:=S.big;have h2:(8:Int)^(n-nz ms)<=8^6:=by
  have:(8:Nat)^(n-nz ms)<=8^6:=dM (by decide) (by omega)
  exact_mod_cast this
 have e:(8:Int)^6=262144:=by decide
 omega
structure Ob(W:List (List Int))(n:Nat)(s:MD):Prop where
 S:St n s.D s.ms s.T s.G
 S':St n (nxt W s).D (nxt W s).ms (nxt W s).T (nxt W s).G
 m0:0<(cs W s).m
 mD:(cs W s).m<=s.D
 c0:0<cn W s
 c6:cn W s<=6
 ne:(cs W s).gone≠[]
 dl:(dishes W s.ms).length=n
 dm:∀d∈dishes W s.ms,(0<=d/\d<n)/\at0 s.ms d≠0
theorem step_of(h:Ws n W){i:Nat}(hu:Upto W n i)(hs:(st W n i).ms.sum≠0):Ob W n (st W n i):=by
 obtain⟨S,_⟩:=st_ok h i hu;obtain⟨a,b,c,d,_,j⟩:=BR S h.len h.n1 h.n6 h.pm hs;have e:(dishes W (st W n i).ms).length=n:=by unfold dishes;rw[bP,h.len]
 have f:∀d∈dishes W (st W n i).ms,(0<=d/\d<n)/\at0 (st W n i).ms d≠0:=λd k=>dish_ok S h.pm hs k;have g:dishes W (st W n i).ms≠[]:=λz=>by rw[z]at e;have:=h.n1;simp at e;omega
 have hp:=f _ (yi (ms:=(st W n i).ms) g).1;refine⟨S,j,a,?_,b,c,(λz=>by unfold cs at z;rw[z]at d;cases d),e,f⟩;exact S.le _ (at0_mem hp.1.1 (by rw[S.len];exact hp.1.2))
def et(W:List (List Int))(n:Nat):Nat->Nat->Int->Int
 | 0,_,_=>0
 | i+1,p,t=>et W n i p t*cn W (st W n i)+if(dishes W (st W n i).ms).getD p 0=t then(cs W (st W n i)).m else 0
theorem et_bd(h:Ws n W)(p:Nat)(t:Int):∀i,Upto W n i->0<=et W n i p t/\et W n i p t<=(st W n i).T
 | 0,_=>⟨eF _,eF _⟩
 | i+1,hu=>by
  obtain⟨a,b⟩:=et_bd h p t i (hu.mono (by omega))
  have s:=step_of h (hu.mono (dJ i)) (hu i (cV i))
  have h1:=iX a (ef s.c0)
  have h2:=eT b (ef s.c0)
  have h3:=s.m0
  show 0<=et W n i p t*cn W (st W n i)+_/\et W n i p t*cn W (st W n i)+_<=(st W n i).T*cn W (st W n i)+(cs W (st W n i)).m
  split <;> omega
theorem all_gone(h:Ws n W){N:Nat}(hN:Stops W n N):(st W n N).T=(st W n N).D/\(st W n N).G.Perm (rng n):=DS (st_ok h N hN.up).1 h.n1 hN.last
end
theorem nodup_len:∀(n:Nat) {l:List Int},l.Nodup->(∀x∈l,0<=x/\x<(n:Int))->l.length<=n
 | 0,l,_,h=>by
  cases l with
  | nil=>exact bX _
  | cons x r=>have:=h x b0;omega
 | n+1,l,hn,h=>by
  have c:=nodup_len n (l:=l.erase (n:Int)) (hn.erase _) λx b=>by
   have h1:=h x (List.mem_of_mem_erase b)
   have h2:x≠(n:Int):=λz=>by rw[z]at b;exact(hn.not_mem_erase) b
   omega
  have:=List.length_erase (a:=(n:Int)) (l:=l)
  split at this <;> omega
theorem gone_eq{ns ds ms:List Int}(hm:∀i,i∈ns↔i∈ds)(hn:ns.Nodup)(hs:ns.Pairwise (· <= ·))(hd:∀d∈ds,0<=d/\d<ms.length):ns.filter (λt=>decide (at0 ms t=0))=goneOf ds ms:=by
 refine yG (b:=[]) ?_ (hs.filter _) ((z4 _).filter _);refine(fD (hn.filter _) ((rng_nodup _).filter _)).mpr λt=>?_;rw[dw,dw,hm,mem_rng];constructor
 ·rintro⟨a,b⟩;exact⟨hd t a,by rw[decide_eq_true a,b];rfl⟩
 ·rintro⟨_,b⟩;have:=(cH _ _).mp b;exact⟨of_decide_eq_true this.1,this.2⟩
end EM
namespace L2
open PySem PySem.Spec PyProof.Rows
def Fi(b:Nat->Bool):List Nat:=(cp 6).filter b
def FI(S:List Nat)(led:Bool):SetTable:=⟨if S.length<=4 then 7 else 31,S.toArray,#[],0,led,if S.length<=4 then 0 else 1,true⟩
def J6:List Nat->List (List Nat)
 | []=>[[]]
 | a::r=>J6 r++(J6 r).map (a :: ·)
theorem xD:∀{l S:List Nat},S.Sublist l->S∈J6 l
 | _,_,.slnil=>bY.mpr rfl
 | _,_,.cons a h=>cN.mpr (.inl (xD h))
 | _,_,.cons₂ a h=>cN.mpr (.inr (cP.mpr ⟨_,xD h,rfl⟩))
theorem ub(b:Nat->Bool):Fi b∈J6 (cp 6):=xD List.filter_sublist
def GU(S:List Nat)(v:Nat):Nat:=(S.filter (· < v)).length
def IC(S:List Nat)(v:Nat):List Nat:=S.take (GU S v)++v::S.drop (GU S v)
def Jq(S:List Nat)(v:Nat)(led:Bool):Bool:=
 match(FI S led).freeSlot (v:Int)with
 | some (j,d)=>
  let q:=(FI S led).put j
  decide (j=v) && !d&&decide (q.2=GU S v)&&q.1.fits (S.length+1)&&decide (q.1.plain=true) &&
  (if q.1.tooFull then
   match q.1.relaid ((IC S v).map gF).toArray (jI (S.length+1))with
   | some (t',o)=>decide (t'=FI (IC S v) led)&&decide (o=(cp (S.length+1)).toArray)&&t'.fits (S.length+1)&&coversAll o (S.length+1)
   | none=>false
  else decide (q.1=FI (IC S v) led))
 | none=>false
theorem DB:∀S∈J6 (cp 6),∀v∈cp 6,v∉S->Jq S v true=true/\Jq S v false=true:=by decide +kernel
theorem El:∀S∈J6 (cp 6),∀v∈cp 6,v∉S->IC S v=(cp 6).filter λx=>decide (x∈S)||x==v:=by decide +kernel
theorem Cp:∀S∈J6 (cp 6),(FI S true).fits S.length=true/\(FI S false).fits S.length=true:=by decide +kernel
def Ju(S:List Nat)(led:Bool):Bool:=
 (cp (S.length+1)).all λi=>decide (oR (FI S led).place (if i=0 then 0 else(S.getD (i-1) 0)+1)=i)
theorem Cn:∀S∈J6 (cp 6),Ju S true=true/\Ju S false=true:=by decide +kernel
def Iu(tok:Nat->Tok)(v:Nat):Int×bQ:=((v:Int),dn (v:Int) (tok v))
def SetIs(h:Heap)(a:bV)(b:Nat->Bool)(led:Bool):Prop:=
 ∃(o:Obj) (es:Array (Int×bQ)) (ep:Nat) (tok:Nat->Tok),h.get? a=some o/\o.ExactSet/\o.data = .set es ep (FI (Fi b) led)/\es.toList=(Fi b).map (Iu tok)
theorem tM{b:Nat->Bool}{v:Nat}:v∈Fi b↔v<6/\b v=true:=by
 unfold Fi;rw[dw,dq]
theorem uT(b:Nat->Bool):(Fi b).length<=6:=by
 unfold Fi;exact cG (dC ..) (by rw[eI];exact bX _)
theorem tT(b:Nat->Bool)(led:Bool):(FI (Fi b) led).fits (Fi b).length=true:=by
 have:=Cp _ (ub b)
 cases led
 ·exact this.2
 ·exact this.1
theorem xX{b:Nat->Bool}{v:Nat}(hv:v<6)(hb:b v=false):IC (Fi b) v=Fi λx=>b x||x==v:=by
 rw[El _ (ub b) v (dq.mpr hv) λz=>by rw[(tM.mp z).2]at hb;cases hb];unfold Fi;refine fP λx a=>?_;have:decide (x∈qI b (cp 6))=b x:=by
  rw[fS,decide_eq_true_iff,dw];exact⟨λh=>h.2,λh=>⟨a,h⟩⟩
 rw[this]
theorem yu{b:Nat->Bool}{v:Nat}(hb:b v=true):(Fi λx=>b x||x==v)=Fi b:=by
 unfold Fi;refine fP λx a=>?_;by_cases e:x=v
 ·subst e;rw[hb];rfl
 ·rw[beq_false_of_ne e,j7]
theorem wS(v:Nat)(hv:v<6):hashInt (v:Int)=v:=
 (show ∀v∈cp 6,hashInt ((v:Nat):Int)=v by decide +kernel) v (dq.mpr hv)
theorem xf{α:Type}(xs:Array α):Array.filterMap (λx=>xs[x]?) (cp xs.size).toArray=xs:=by
 apply oN;rw[Array.toList_filterMap];have:∀(l:List α),oS (λx=>l[x]?) (cp l.length)=l:=by
  intro l
  induction l with
  | nil=>rfl
  | cons a r b=>
   rw[cZ,List.range_succ_eq_map,fE,List.filterMap_map];show a::oS (λx=>r[x]?) (cp r.length)=a::r;rw[b]
 have:=this xs.toList;simpa using this
theorem zY{prog:cg}{w:cC}{b:Nat->Bool}{tok:Nat->Tok}{es:Array (Int×bQ)}(he:es.toList=(Fi b).map (Iu tok)):ElemsOf (intKind prog w) es.toList:=by
 intro e a;rw[he]at a;obtain⟨u,c,rfl⟩:=cP.mp a;exact⟨⟨(u:Int),beq_self_eq_true _,(wS u (tM.mp c).1).symm⟩,rfl⟩
theorem Aw{b:Nat->Bool}{v:Nat}{led:Bool}{es:Array (Int×bQ)}{x:bQ}{tok:Nat->Tok}(hv:v<6)(hb:b v=false)(he:es.toList=(Fi b).map (Iu tok)):
  ∃t,layNew (FI (Fi b) led) es (v:Int) x=(hO es (GU (Fi b) v) ((v:Int),x),t,false,false)/\t.plain=true/\t.fits (es.size+1)=true/\
   (t.tooFull=false->t=FI (IC (Fi b) v) led)/\(t.tooFull=true->t.relaid ((IC (Fi b) v).map gF).toArray (jI (es.size+1))=some (FI (IC (Fi b) v) led,(cp (es.size+1)).toArray)/\
    (FI (IC (Fi b) v) led).fits (es.size+1)=true/\coversAll (cp (es.size+1)).toArray (es.size+1)=true):=by
 have g:es.size=(Fi b).length:=by rw[<-dG,he,bP]
 have h:=DB _ (ub b) v (dq.mpr hv) λz=>by rw[(tM.mp z).2]at hb;cases hb
 have h1:Jq (Fi b) v led=true:=by
  cases led
  ·exact h.2
  ·exact h.1
 unfold Jq at h1
 cases e:(FI (Fi b) led).freeSlot (v:Int)with
 | none=>rw[e]at h1;cases h1
 | some r=>
  obtain⟨j,d⟩:=r
  rw[e]at h1
  dsimp only at h1
  rw[cH,cH,cH,cH,cH,decide_eq_true_iff,decide_eq_true_iff,decide_eq_true_iff]at h1
  obtain⟨⟨⟨⟨⟨rfl,n⟩,hp⟩,c⟩,l⟩,a⟩:=h1
  have m:d=false:=by cases d <;> first|rfl|cases n
  subst m
  rw[<-g]at c a
  have k:(hO es (GU (Fi b) j) ((j:Int),x)).size=es.size+1:=by
   have:=(k6 es (GU (Fi b) j) ((j:Int),x)).length_eq
   simpa using this
  refine⟨((FI (Fi b) led).put j).1,?_,l,c,λy=>?_,λq=>?_⟩
  ·unfold layNew
   rw[e]
   dsimp only
   rw[hp,k,c]
   have p:((FI (Fi b) led).put j).1.orStandIn (es.size+1)=((FI (Fi b) led).put j).1:=by
    unfold SetTable.orStandIn;rw[if_pos c]
   rw[p]
   rfl
  ·rw[y,if_neg (by decide)]at a
   exact of_decide_eq_true a
  ·rw[q,if_pos rfl]at a
   cases f:((FI (Fi b) led).put j).1.relaid ((IC (Fi b) j).map gF).toArray (jI (es.size+1))with
   | none=>rw[f]at a;cases a
   | some u=>
    obtain⟨A,o⟩:=u
    rw[f]at a
    dsimp only at a
    rw[cH,cH,cH,decide_eq_true_iff,decide_eq_true_iff]at a
    obtain⟨⟨⟨rfl,rfl⟩,w⟩,s⟩:=a
    exact⟨rfl,w,s⟩
theorem yy{prog:cg}{w:cC}{A:cO}{E:bQ->bS->Prop}{s:bS}{a:bV}{b:Nat->Bool}{led:Bool}{v:Nat}{tk:Tok}{Q:Bool->bS->Prop}(hv:v<6)(hS:SetIs s.heap a b led)
  (q:∀h',eS a s.heap h'->SetIs h' a (λx=>b x||x==v) led->Q (!b v) {s with heap:=h'}):
  wpAny (model prog w) A (setAddHashed a (.int v tk) ((intKind prog w).hash (v:Int))) Q E s:=by
 obtain⟨o,f,r,d,B,I,y,n⟩:=hS
 have J:f.size=(Fi b).length:=by rw[<-dG,n,bP]
 have h6:=uT b
 have L:(FI (Fi b) led).fits f.size=true:=by rw[J];exact tT b led
 have N:ElemsOf (intKind prog w) f.toList:=zY n
 have Y:(intKind prog w).hash (v:Int)=v:=wS v hv
 have aa:64<=scanBound:=by decide +kernel
 unfold setAddHashed
 refine cR ?_
 rw[qy]
 dsimp only
 refine bM (dg B y L ?_)
 dsimp only
 rw[if_pos (byScan_of (knd:=intKind prog w) (x:= .int v tk) rfl (by omega) N)]
 unfold setAddByScan
 refine bM (bM (io ?_))
 refine bM (wpAny_setScan_of (knd:=intKind prog w) (k:=(v:Int)) (beq_self_eq_true _) B y L N ?_)
 cases g:b v with
 | true=>
  cases D:pS (λe:Int×bQ=>(intKind prog w).is (v:Int) e.2) f.toList with
  | none=>
   have:=List.findIdx?_eq_none_iff.mp D (Iu d v) (by rw[n];exact cP.mpr ⟨v,tM.mpr ⟨hv,g⟩,rfl⟩)
   rw[show(intKind prog w).is (v:Int) (Iu d v).2=true from beq_self_eq_true _]at this
   cases this
  | some j=>
   refine bO (bO ?_)
   have:=q s.heap (rm a _) ⟨o,f,r,d,B,I,by rw[yu g];exact y,by rw[yu g];exact n⟩
   rw[g]at this
   exact this
 | false=>
  cases D:pS (λe:Int×bQ=>(intKind prog w).is (v:Int) e.2) f.toList with
  | some j=>
   obtain⟨e,h1,h2⟩:=List.findIdx?_eq_some_iff_getElem.mp D
   have H:f.toList[j]∈(Fi b).map (Iu d):=by rw[<-n];exact cm e
   obtain⟨u,F,P⟩:=cP.mp H
   have h3:=(tM.mp F).2
   have h4:(intKind prog w).is (v:Int) (Iu d u).2=true:=by rw[P];exact h1
   have h5:(u:Int)=v:=eq_of_beq h4
   have:u=v:=by omega
   rw[this,g]at h3
   cases h3
  | none=>
   obtain⟨t,X,M,Z,C,p⟩:=Aw (led:=led) (x:= .int v tk) hv g n
   dsimp only
   rw[Y,X]
   dsimp only
   refine bM (bO ?_)
   rw[if_pos M,hashByValue_scannable 8 (x:= .int v tk) rfl]
   refine bM (bO ?_)
   rw[if_pos (show plainKind (dn (v:Int) tk)=true from rfl)]
   have m:(hO f (GU (Fi b) v) ((v:Int),dn (v:Int) tk)).toList=(Fi λx=>b x||x==v).map (Iu λu=>if u=v then tk else d u):=by
    rw[SetTable.toList_insertAt,n,<-xX hv g]
    have T:(Fi b).map (Iu d)=(Fi b).map (Iu λu=>if u=v then tk else d u):=eX λu F=>by
     have:u≠v:=λz=>by rw[z]at F;rw[(tM.mp F).2]at g;cases g
     show((u:Int),dn (u:Int) (d u))=((u:Int),dn (u:Int) (if u=v then tk else d u))
     rw[if_neg this]
    rw[T]
    unfold IC
    rw[cb,dh,kd,kf]
    have S:Iu (λu=>if u=v then tk else d u) v=((v:Int),dn (v:Int) tk):=by
     show((v:Int),dn (v:Int) (if v=v then tk else d v))=_
     rw[if_pos rfl]
    rw[S]
   have h:(hO f (GU (Fi b) v) ((v:Int),dn (v:Int) tk)).size=f.size+1:=by
    have:=(k6 f (GU (Fi b) v) ((v:Int),dn (v:Int) tk)).length_eq
    simpa using this
   rw[xX hv g]at C p
   generalize hO f (GU (Fi b) v) ((v:Int),dn (v:Int) tk)=c at *
   have l:c.size<=sizeLine:=cx (Fh (by omega))
   rw[h]at l
   have K:=putSet_of c t y
   have g1:(s.heap.update a (mP c t)).get? a=some ⟨o.cls,o.dict,.set c (r+1) t,o.slots⟩:=by
    rw[<-K]
    exact dR _ B (by rw[K];rfl)
   refine bM (nB B y ?_ (by rw[h];exact l))
   cases G:t.tooFull with
   | false=>
    rw[if_neg (by simp)]
    refine bO (bO ?_)
    have:=q _ (d0 s.heap a (mP c t)) ⟨_,c,r+1,_,g1,I,by rw[C G],m⟩
    rw[g]at this
    exact this
   | true=>
    obtain⟨V,R,U⟩:=p G
    have H:Array.map (λx:Int×bQ=>x.1) c=((Fi λx=>b x||x==v).map gF).toArray:=by
     apply oN
     rw[Array.toList_map,m,iz]
     rfl
    have W:relayAll t c (jI c.size)=(c,FI (Fi λx=>b x||x==v) led,false):=by
     unfold relayAll
     rw[H,h,V]
     dsimp only
     rw[<-h,xf,h,R,U]
     rfl
    rw[if_pos (by simp),W]
    dsimp only
    refine bM (bO (bM (nB g1 rfl (bO (bO ?_)) (by rw[h];exact l))))
    have O:=putSet_of (o:=⟨o.cls,o.dict,.set c (r+1) t,o.slots⟩) c (FI (Fi λx=>b x||x==v) led) rfl
    have g2:((s.heap.update a (mP c t)).update a (mP c (FI (Fi λx=>b x||x==v) led))).get? a=some ⟨o.cls,o.dict,.set c (r+1+1) (FI (Fi λx=>b x||x==v) led),o.slots⟩:=by
     rw[<-O]
     exact dR _ g1 (by rw[O];rfl)
    have:=q _ ((d0 s.heap a _).trans (d0 _ a _)) ⟨_,c,r+1+1,_,g2,I,rfl,m⟩
    rw[g]at this
    exact this
def Fs(w:cC):Bool:=!w.params.followText "set-order"
theorem BL{prog:cg}{w:cC}{A:cO}{E:bQ->bS->Prop}{s:bS}(a:bQ){Q₁:bQ->bS->Prop}
  (h:Q₁ (.ref s.heap.objs.size) {s with heap:=s.heap.push {cls:= .type "set",data:= .set #[] 0 (ff 0 0 (Fs w))}}):
  codeAny (model prog w) A (.call (.builtin "set.__new__") ⟨[.type "set",a],[]⟩) (wants Q₁ E) s:=by
 refine lz ?_
 refine bM (eQ (F.newCall_set_1 a) (bO ⟨jf oq _,dS F.entry_set_new ?_⟩))
 rw[fu oq _]
 have b:=qp
 unfold Builtin.«set.__new__» oU
 refine bM (bM (bO ?_))
 refine b7 rfl (bM (eQ b (b7 rfl (bO ?_))))
 unfold newSet setsByText
 refine bM (bM (bM (eU (bO ?_))))
 show wpAny _ _ (newObj _ _) _ _ _
 unfold newObj
 dsimp only
 rw[if_neg (by decide)]
 unfold newObjAsIs
 exact bM (oh (bO (bO h)))
theorem SetIs.congr{h h':Heap}{a:bV}{b:Nat->Bool}{led:Bool}(H:SetIs h a b led)(e:∀o,h.get? a=some o->h'.get? a=some o):SetIs h' a b led:=by
 obtain⟨o,f,d,c,g,r⟩:=H;exact⟨o,f,d,c,e o g,r⟩
theorem SetIs.by{h:Heap}{a:bV}{b b':Nat->Bool}{led:Bool}(H:SetIs h a b led)(e:∀x,x<6->b x=b' x):SetIs h a b' led:=by
 have:Fi b=Fi b':=fP λx c=>e x (dq.mp c);unfold SetIs at H ⊢;rw[this]at H;exact H
theorem CZ{prog:cg}{w:cC}{A:cO}{R:Result->bS->Prop}{I:bV}{fp wr:List bV}{G:Array GenState->Array GenState->Prop}{n:Nat}{P:Nat->bQ->Prop}{St:Nat->bS->Prop}{led:Bool}
  (W:WalksS prog w A.in1 I fp wr G n P St)(S:bV)(hS:S∉fp)(val:Nat->Nat)(hP:∀i v,P i v->val i<6/\∃t,v=dn (val i:Nat) t):
  ∀(k i:Nat) (s:bS) (b:Nat->Bool),n-i=k->i<=n->St i s->SetIs s.heap S b led->
   (∀s',Moved (S::wr) G s s'->SetIs s'.heap S (λx=>b x||(j2 i (n-i)).any λj=>x==val j) led->R (.ok (.ret .none)) s')->
   codeAny (model prog w) A (.builtin "set.update.loop" ⟨[.ref S,.ref I],[]⟩) R s:=by
 have p:S∉wr:=λz=>hS (W.sub S z)
 intro k
 induction k with
 | zero=>
  intro i s b hk H f d h
  have e:i=n:=by omega
  subst e
  refine dS gH ?_
  rw[fu fw _]
  unfold Builtin.«set.update.loop»
  refine bM (W.done s _ _ f λs' m=>?_)
  refine bO (h s' ⟨λc o a=>m.heap c o λz=>a (b3 _ z),m.gens,m.drawn,m.os,m.toks⟩ ((d.congr λo=>m.heap S o p).by λx _=>?_))
  rw[gR]
  simp
 | succ k E=>
  intro i s b hk H f d h
  refine dS gH ?_
  rw[fu fw _]
  unfold Builtin.«set.update.loop»
  refine bM (W.item i s _ _ (by omega) f λv s' J r m=>?_)
  obtain⟨y,t,rfl⟩:=hP i v J
  dsimp only
  refine bM (cR ?_)
  unfold setAdd
  refine cR (bM ((intKind prog w).pyHash (k:=((val i:Nat):Int)) (beq_self_eq_true _) ?_))
  refine yy y (SetIs.congr d λo=>m.heap S o p) λB C u=>?_
  refine bO ⟨jf fw _,E (i+1) _ _ (by omega) (by omega) (W.frame (i+1) s' B (s'.toks+1) r (dJ _) λc a o q=>by rw[C.2 c λz=>hS (z▸a)];exact q) u λD g l=>h D ?_ (l.by λx _=>?_)⟩
  ·refine⟨λc o a q=>g.heap c o a ?_,W.gtrans _ _ _ m.gens g.gens,g.drawn.trans m.drawn,g.os.trans m.os,cG m.toks (cG (dJ _) g.toks)⟩
   show B.get? c=some o
   rw[C.2 c λz=>a (by rw[z];exact b0)]
   exact m.heap c o (λz=>a (b3 _ z)) q
  ·have e:n-i=(n-(i+1))+1:=by omega
   rw[e,kH,gz,Bool.or_assoc]
theorem wE{prog:cg}{w:cC}{A:cO}{E:bQ->bS->Prop}{s:bS}{l:bV}{items:Array bQ}{Q:bQ->bS->Prop}(hh:A.handled=none)(hl:s.heap.IsList l items)(val:Nat->Nat)
  (hv:∀i v,items[i]?=some v->val i<6/\∃t,v=dn (val i:Nat) t)
  (h:∀(h':Heap) (tk:Nat),SetIs h' s.heap.objs.size (λx=>(j2 0 items.size).any λj=>x==val j) (Fs w)->(∀b o,s.heap.get? b=some o->h'.get? b=some o)->Q (.ref s.heap.objs.size) {s with heap:=h',toks:=tk}):
  wpAny (model prog w) A (call (.type "set") [.ref l]) Q E s:=by
 obtain⟨c,U,p⟩:=ej.mro
 have g:=ej.made
 have q:=ej.sub
 refine gf (lz (bO ⟨gi _ (by decide +kernel),dS nC ?_⟩))
 rw[mQ (lG "set" [.ref l] []) rfl]
 have h1:=ej.notType
 have h2:=ej.canCreate
 have G:=nX (.ref l)
 unfold Builtin.«type.__call__»
 refine b7 (by rw[h1];rfl) (b7 (by rw[h2];rfl) (bM (eQ G (bM (eQ p (b7 rfl (bM (eQ g (bM (bO ?_))))))))))
 refine bM (cR (gf (gN (BL (E:=E) (.ref l) (Q₁:=λv S=>v = .ref s.heap.objs.size/\S=_) ⟨rfl,rfl⟩) λr y B=>?_)))
 cases r with
 | error e=>exact B
 | ok M=>
  cases M with
  | ret v=>
   obtain⟨rfl,rfl⟩:=(show v=_/\y=_ from B)
   have a:(s.heap.push {cls:=cX "set",data:=Data.set #[] 0 (ff 0 0 (Fs w))}).get? s.heap.objs.size=some {cls:=cX "set",data:=Data.set #[] 0 (ff 0 0 (Fs w))}:=b4 _ rfl
   refine bM (dQ (T:="set") ⟨_,a,rfl⟩ q (b7 rfl (bM (cR ?_))))
   unfold callSpecial?
   refine bM (fG (T:="set") ⟨_,a,rfl⟩ ej.init.lookup ?_)
   refine cR (bM (eQ (ej.init.bind _) (bM (gf (ik ej.init.plain nY (nZ ⟨_,a,rfl⟩ ?_))))))
   unfold Builtin.«set.__init__»
   refine bM (bO ?_)
   dsimp only[n5,ou]
   unfold typeNameOfCut
   unfold shownTypeOf
   refine bM (bM ?_)
   refine bM (gQ (T:="set") ⟨_,a,rfl⟩ (b7 rfl (bO (bO (bM (bO (bM (bO ?_))))))))
   unfold setUsed
   refine bM (bM (dg a rfl (by cases Fs w <;> rfl) (bO (b7 rfl ?_))))
   have f:=hl.push {cls:=cX "set",data:=Data.set #[] 0 (ff 0 0 (Fs w))}
   have u:kg {s with heap:=s.heap.push {cls:=cX "set",data:=Data.set #[] 0 (ff 0 0 (Fs w))}} (.ref l) "list":=by
    obtain⟨o,h1,h2,_⟩:=f
    exact⟨o,h1,h2⟩
   unfold jm jJ orM
   refine bM (bM (bM (dQ u oV (dQ u lX ?_))))
   refine b7 rfl (bM (gQ u (b7 rfl (bM (g8 f ?_)))))
   refine bM (jH ?_)
   have n:s.heap.get? s.heap.objs.size=none:=by
    cases e:s.heap.get? s.heap.objs.size with
    | none=>rfl
    | some o=>exact absurd (b6 e) (cJ _)
   have C:l≠s.heap.objs.size:=λz=>by
    obtain⟨o,h1,_⟩:=hl
    rw[z,n]at h1;cases h1
   have k:(s.heap.push {cls:=cX "set",data:=Data.set #[] 0 (ff 0 0 (Fs w))}).objs.size=s.heap.objs.size+1:=kY ..
   have D:l≠s.heap.objs.size+1:=λz=>by
    obtain⟨o,h1,_⟩:=hl
    rw[z]at h1
    exact absurd (gx (b6 h1)) (cJ _)
   dsimp only
   rw[k]
   refine CZ (rr (oO (A:=A.in1.in1.in1) hh (s.heap.objs.size+1) l D items)) s.heap.objs.size (λz=>?_) val hv items.size 0 _ (λ_=>false) rfl (cM _) ⟨?_,f.push _⟩ (led:=Fs w) ?_ λH m O=>?_
   ·rcases cj.mp z with z|z
    ·exact absurd z (cF (cV _))
    ·exact C (bY.mp z).symm
   ·exact⟨_,(by rw[<-k];exact b4 _ rfl),rfl,rfl⟩
   ·exact⟨_,#[],0,λ_=>0,bU _ a,⟨rfl,rfl,rfl⟩,rfl,rfl⟩
   ·refine bO (bO (bO (b7 rfl (bO ?_))))
    obtain⟨h',I,P,R,L⟩:=H
    have K:I=s.gens:=m.gens
    have J:P=s.drawn:=m.drawn
    have N:L=s.os:=m.os
    subst K J N
    refine h h' R (O.by λx _=>by rw[pT];rfl) λb o d=>m.heap b o (λz=>?_) (bU _ (bU _ d))
    rcases cj.mp z with z|z
    ·rw[z,n]at d;cases d
    ·rw[bY.mp z]at d
     exact absurd (gx (b6 d)) (cJ _)
  | _=>exact B.elim
theorem sr:Slot "set_iterator" (b9 "__next__") "set_iterator.__next__":=by
 refine Slot.of (owner:="set_iterator") (n:="__next__") ?_ ?_ ?_ ?_ ?_ ?_
 ·rw[ow,lH];rfl
 ·decide +kernel
 ·decide +kernel
 ·decide +kernel
 ·exact Or.inl (by decide +kernel)
 ·rw[oW];rfl
theorem tH:entryFor table "set_iterator.__next__"=some Builtin.«set_iterator.__next__»:=entryFor_of_tree rfl
theorem tR(a:bQ):argsOk "set_iterator.__next__" ⟨[a],[]⟩:=by
 show _=_;rw[pU (rows:=jS) rfl rfl];rfl
theorem wF:entryFor table "set.__iter__"=some Builtin.«frozenset.__iter__»:=jK (id':="frozenset.__iter__") rfl rfl (by decide +kernel) rfl
def FC(a:bV)(slot i n ep:Nat):Obj:={cls:= .type "set_iterator",data:= .fields #[rawInt slot,rawInt i,.ref a,rawInt n,rawInt ep]}
theorem Cz{prog:cg}{w:cC}{A:cO}{E:bQ->bS->Prop}{s:bS}{a:bV}{o:Obj}{es:Array (Int×bQ)}{ep:Nat}{t:SetTable}{Q:bQ->bS->Prop}(ho:s.heap.get? a=some o)(hx:o.ExactSet)(hd:o.data = .set es ep t)
  (hf:t.fits es.size=true)(hp:t.plain=true)
  (h:Q (.ref s.heap.objs.size) {s with heap:=s.heap.push (FC a 0 0 es.size ep)}):wpAny (model prog w) A (pyIter (.ref a)) Q E s:=by
 have b:s.TypeIs (.ref a) "set":=⟨o,ho,hx.1⟩
 refine iZ b ox (df ox b wF ?_ (F.args_set_iter_1 _))
 unfold Builtin.«frozenset.__iter__» qb slotArgs kh setEntries setDrawn setsByText
 refine bM (bM (bO (bO (bM (bM (bM (dg ho hd hf (bO (bO (bM (bM (dg ho hd hf ?_))))))))))))
 refine bM (bM (eU (bO (bO (b7 ?_ ?_)))))
 ·show decide ((_&&(!t.plain&&_))=true)=false
  rw[hp]
  simp
 refine bM (bO ?_)
 unfold setEpoch newFields
 refine bM (bM (dg ho hd hf (bO (bM ?_))))
 unfold newObj
 dsimp only
 rw[if_neg (by show ¬5>sizeLine+2;decide +kernel)]
 unfold newObjAsIs
 refine bM (oh (bO (bO ⟨_,rfl,"set_iterator",_,⟨_,b4 _ rfl,rfl⟩,sr.lookup,h⟩)))
def FP(S:List Nat)(k:Nat):Nat:=if k=0 then 0 else S.getD (k-1) 0+1
theorem uO:firstArgMember (cX "StopIteration") []=pure bQ.none:=by
 unfold firstArgMember;dsimp only;rw[pure_bind];split <;> rfl
theorem vV(b:Nat->Bool)(led:Bool){k:Nat}(hk:k<=(Fi b).length):oR (FI (Fi b) led).place (FP (Fi b) k)=k:=by
 have h:=Cn _ (ub b);have h1:Ju (Fi b) led=true:=by
  cases led
  ·exact h.2
  ·exact h.1
 unfold Ju at h1;have h2:=de.mp h1 k (dq.mpr (by omega));exact of_decide_eq_true h2
theorem Ch{prog:cg}{w:cC}{A:cO}{E:bQ->bS->Prop}{s:bS}{I a:bV}{o:Obj}{es:Array (Int×bQ)}{ep i:Nat}{b:Nat->Bool}{Q:Option bQ->bS->Prop}(hw:Fs w=true)
  (hI:s.heap.get? I=some (FC a (FP (Fi b) i) i es.size ep))(ho:s.heap.get? a=some o)(hd:o.data = .set es ep (FI (Fi b) (Fs w)))(hes:es.size=(Fi b).length)(hi:i<es.size)(hne:a≠I)
  (h:∀h',eS I s.heap h'->h'.get? I=some (FC a (FP (Fi b) (i+1)) (i+1) es.size ep)->Q (some es[i].2) {s with heap:=h'}):
  wpAny (model prog w) A (pyNext (.ref I)) Q E s:=by
 have g:(FI (Fi b) (Fs w)).fits es.size=true:=by rw[hes];exact tT b _
 have d:s.TypeIs (.ref I) "set_iterator":=⟨_,hI,rfl⟩
 unfold pyNext
 refine bM (f8 (dA d sr (df sr d tH ?_ (tR _))))
 unfold Builtin.«set_iterator.__next__» slotArgs
 refine bM (bO (bM (ip hI rfl ?_)))
 dsimp only[rawInt]
 unfold setEntries
 refine bM (bM (dg ho hd g (bO (b7 (by simp) ?_))))
 unfold setNext setsByText
 refine bM (bM (dg ho hd g ?_))
 dsimp only
 have j:w.params.followText "set-order"=false:=by
  unfold Fs at hw
  cases e:w.params.followText "set-order"with
  | false=>rfl
  | true=>rw[e]at hw;cases hw
 refine bM (bM (eU (bO ?_)))
 rw[if_neg (show ¬(model prog w).w.params.followText "set-order"=true by intro z;exact absurd (j.symm.trans z) (by decide))]
 refine b7 (by show decide ((!true&&_)=true)=false;rfl) (bM ?_)
 have k:∀(x:Bool) (P:Sem Unit),(if(!true&&x)=true then P else pure ())=pure ():=λx P=>rfl
 rw[hw]
 refine(show ∀(R:Unit->bS->Prop),R () s->wpAny (model prog w) A.in1 (if(!true&&_)=true then _ else pure ()) R _ s from λR z=>bO z) _ ?_
 have c:i<(Fi b).length:=by omega
 have f:(FI (Fi b) true).place[i]?=some (Fi b)[i]:=by
  show(Fi b).toArray[i]?=_
  simp[c]
 rw[eZ,vV b true (cx c),f,d8 hi]
 refine bO ?_
 dsimp only
 have g1:(s.heap.update I (pV λx=>x.setIfInBounds 0 (dn (((Fi b)[i]+1:Nat):Int) 0))).get? I=some {cls:= .type "set_iterator",data:= .fields #[dn (((Fi b)[i]+1:Nat):Int) 0,rawInt i,.ref a,rawInt es.size,rawInt ep]}:=
  dR (o:=FC a (FP (Fi b) i) i es.size ep) _ hI rfl
 refine bM (fM hI rfl (by show 0<5;decide) (bM (fM g1 rfl (by show 1<5;decide) (bO ⟨_,rfl,bO ?_⟩))))
 refine h _ ((d0 s.heap I _).trans (d0 _ I _)) ?_
 have e:FP (Fi b) (i+1)=(Fi b)[i]+1:=by
  unfold FP
  rw[if_neg (Nat.succ_ne_zero i),Nat.add_sub_cancel,bR,bT c]
  rfl
 rw[e]
 exact dR _ g1 rfl
theorem yj{prog:cg}{w:cC}{A:cO}{E:bQ->bS->Prop}{s:bS}{I a:bV}{o:Obj}{es:Array (Int×bQ)}{ep:Nat}{b:Nat->Bool}{Q:Option bQ->bS->Prop}(hA:A.handled=none)(hw:Fs w=true)
  (hI:s.heap.get? I=some (FC a (FP (Fi b) es.size) es.size es.size ep))(ho:s.heap.get? a=some o)(hd:o.data = .set es ep (FI (Fi b) (Fs w)))(hes:es.size=(Fi b).length)
  (h:∀h',(∀c ob,c≠I->s.heap.get? c=some ob->h'.get? c=some ob)->Q none {s with heap:=h'}):
  wpAny (model prog w) A (pyNext (.ref I)) Q E s:=by
 have g:(FI (Fi b) (Fs w)).fits es.size=true:=by rw[hes];exact tT b _
 have d:s.TypeIs (.ref I) "set_iterator":=⟨_,hI,rfl⟩
 unfold pyNext
 refine bM (f8 (dA d sr (df sr d tH ?_ (tR _))))
 unfold Builtin.«set_iterator.__next__» slotArgs
 refine bM (bO (bM (ip hI rfl ?_)))
 dsimp only[rawInt]
 unfold setEntries
 refine bM (bM (dg ho hd g (bO (b7 (by simp) ?_))))
 unfold setNext setsByText
 refine bM (bM (dg ho hd g ?_))
 dsimp only
 have k:w.params.followText "set-order"=false:=by
  unfold Fs at hw
  cases e:w.params.followText "set-order"with
  | false=>rfl
  | true=>rw[e]at hw;cases hw
 refine bM (bM (eU (bO ?_)))
 rw[if_neg (show ¬(model prog w).w.params.followText "set-order"=true by intro z;exact absurd (k.symm.trans z) (by decide))]
 refine b7 (by show decide ((!true&&_)=true)=false;rfl) (bM ?_)
 rw[hw]
 refine(show ∀(R:Unit->bS->Prop),R () s->wpAny (model prog w) A.in1 (if(!true&&_)=true then _ else pure ()) R _ s from λR z=>bO z) _ ?_
 rw[eZ,vV b true (by omega),f3 (bX _)]
 refine bO ?_
 dsimp only
 refine bM (fM hI rfl (by show 2<5;decide) ?_)
 unfold newExc raiseNew newTuple
 refine bM (bM (d5 (bM (eQ (a:=bQ.none) uO (d5 ?_ (kI ..)))) (cM _)))
 refine bM (ki ?_)
 rw[show A.in1.handled=none from hA]
 refine lY (bM (dQ (T:="StopIteration") ⟨_,b4 _ rfl,rfl⟩ jL (iq rfl (bO ?_))))
 refine h _ λc ob j f=>bU _ (bU _ ?_)
 rw[iC _ _ _ _ j]
 exact f
theorem wf{α:Type}(next:Nat->Nat):∀(fuel k:Nat) (left:List α) (out:Array α),left.length=fuel->(rE next fuel k left out).toList.Perm (out.toList++left)
 | 0,k,left,out,h=>by
  rw[pickOrder.go.eq_1,iO.mp h,er]
 | fuel+1,k,left,out,h=>by
  have a:next k%left.length<left.length:=Nat.mod_lt _ (by omega)
  rw[pickOrder.go.eq_2,bT a]
  dsimp only
  refine(wf next fuel (k+1) _ _ (by rw[List.length_eraseIdx,if_pos a];omega)).trans ?_
  rw[Array.toList_push,nD]
  refine qz _ ?_
  generalize next k%left.length=j at a
  have e:left.eraseIdx j=left.take j++left.drop (j+1):=List.eraseIdx_eq_take_drop_succ ..
  rw[e]
  have b:left=left.take j++left[j]::left.drop (j+1):=by
   rw[<-List.drop_eq_getElem_cons a,lD]
  conv=>rhs;rw[b]
  rw[List.singleton_append]
  exact nU.symm
theorem vT{α:Type}(next:Nat->Nat)(xs:Array α):(pickOrder next xs).toList.Perm xs.toList:=by
 unfold pickOrder;have:=wf next xs.size 0 xs.toList #[] (dG ..)
 simpa using this
theorem xq{prog:cg}{w:cC}{A:cO}{E:bQ->bS->Prop}{s:bS}{I a:bV}{o:Obj}{es:Array (Int×bQ)}{ep i:Nat}{b:Nat->Bool}{Q:Option bQ->bS->Prop}(hw:Fs w=false)
  (hI:s.heap.get? I=some (FC a 0 i es.size ep))(ho:s.heap.get? a=some o)(hd:o.data = .set es ep (FI (Fi b) (Fs w)))(hes:es.size=(Fi b).length)(hi:i<es.size)
  {x:Int×bQ}(hx:(pickOrder (w.params.setOrder a ep) es)[i]?=some x)
  (h:∀h',eS I s.heap h'->h'.get? I=some (FC a 0 (i+1) es.size ep)->Q (some x.2) {s with heap:=h'}):
  wpAny (model prog w) A (pyNext (.ref I)) Q E s:=by
 have c:(FI (Fi b) (Fs w)).fits es.size=true:=by rw[hes];exact tT b _
 have d:s.TypeIs (.ref I) "set_iterator":=⟨_,hI,rfl⟩
 have f:w.params.followText "set-order"=true:=by
  unfold Fs at hw
  cases e:w.params.followText "set-order"with
  | true=>rfl
  | false=>rw[e]at hw;cases hw
 unfold pyNext
 refine bM (f8 (dA d sr (df sr d tH ?_ (tR _))))
 unfold Builtin.«set_iterator.__next__» slotArgs
 refine bM (bO (bM (ip hI rfl ?_)))
 dsimp only[rawInt]
 unfold setEntries
 refine bM (bM (dg ho hd c (bO (b7 (by simp) ?_))))
 unfold setNext setWalk setsByText
 refine bM (bM (dg ho hd c ?_))
 dsimp only
 refine bM (bM (eU (bO ?_)))
 rw[if_pos (show(model prog w).w.params.followText "set-order"=true from f)]
 refine b7 (by simp) (bM (bM (dg ho hd c ?_)))
 dsimp only
 refine bM (bM (eU (bO ?_)))
 rw[if_pos (show(model prog w).w.params.followText "set-order"=true from f)]
 refine bM (eU (bO ?_))
 have g:(pickOrder ((model prog w).w.params.setOrder a ep) es)[((i:Nat):Int).toNat]?=some x:=by rw[eZ];exact hx
 dsimp only
 rw[g]
 refine bO ?_
 dsimp only[Option.map]
 have g1:(s.heap.update I (pV λy=>y.setIfInBounds 0 (dn (((0:Int).toNat:Nat):Int) 0))).get? I=some {cls:= .type "set_iterator",data:= .fields #[dn (((0:Int).toNat:Nat):Int) 0,rawInt i,.ref a,rawInt es.size,rawInt ep]}:=
  dR (o:=FC a 0 i es.size ep) _ hI rfl
 refine bM (fM hI rfl (by show 0<5;decide) (bM (fM g1 rfl (by show 1<5;decide) (bO ⟨_,rfl,bO ?_⟩))))
 refine h _ ((d0 s.heap I _).trans (d0 _ I _)) ?_
 exact dR _ g1 rfl
theorem xR{prog:cg}{w:cC}{A:cO}{E:bQ->bS->Prop}{s:bS}{I a:bV}{o:Obj}{es:Array (Int×bQ)}{ep:Nat}{b:Nat->Bool}{Q:Option bQ->bS->Prop}(hA:A.handled=none)(hw:Fs w=false)
  (hI:s.heap.get? I=some (FC a 0 es.size es.size ep))(ho:s.heap.get? a=some o)(hd:o.data = .set es ep (FI (Fi b) (Fs w)))(hes:es.size=(Fi b).length)
  (h:∀h',(∀c ob,c≠I->s.heap.get? c=some ob->h'.get? c=some ob)->Q none {s with heap:=h'}):
  wpAny (model prog w) A (pyNext (.ref I)) Q E s:=by
 have d:(FI (Fi b) (Fs w)).fits es.size=true:=by rw[hes];exact tT b _
 have f:s.TypeIs (.ref I) "set_iterator":=⟨_,hI,rfl⟩
 have g:w.params.followText "set-order"=true:=by
  unfold Fs at hw
  cases e:w.params.followText "set-order"with
  | true=>rfl
  | false=>rw[e]at hw;cases hw
 unfold pyNext
 refine bM (f8 (dA f sr (df sr f tH ?_ (tR _))))
 unfold Builtin.«set_iterator.__next__» slotArgs
 refine bM (bO (bM (ip hI rfl ?_)))
 dsimp only[rawInt]
 unfold setEntries
 refine bM (bM (dg ho hd d (bO (b7 (by simp) ?_))))
 unfold setNext setWalk setsByText
 refine bM (bM (dg ho hd d ?_))
 dsimp only
 refine bM (bM (eU (bO ?_)))
 rw[if_pos (show(model prog w).w.params.followText "set-order"=true from g)]
 refine b7 (by simp) (bM (bM (dg ho hd d ?_)))
 dsimp only
 refine bM (bM (eU (bO ?_)))
 rw[if_pos (show(model prog w).w.params.followText "set-order"=true from g)]
 refine bM (eU (bO ?_))
 have k:(pickOrder ((model prog w).w.params.setOrder a ep) es)[((es.size:Nat):Int).toNat]?=none:=by
  rw[eZ]
  refine f3 ?_
  have:=(vT (w.params.setOrder a ep) es).length_eq
  rw[dG,dG]at this
  exact m6 this
 dsimp only
 rw[k]
 refine bO ?_
 dsimp only[Option.map]
 refine bM (fM hI rfl (by show 2<5;decide) ?_)
 unfold newExc raiseNew newTuple
 refine bM (bM (d5 (bM (eQ (a:=bQ.none) uO (d5 ?_ (kI ..)))) (cM _)))
 refine bM (ki ?_)
 rw[show A.in1.handled=none from hA]
 refine lY (bM (dQ (T:="StopIteration") ⟨_,b4 _ rfl,rfl⟩ jL (iq rfl (bO ?_))))
 refine h _ λc ob l j=>bU _ (bU _ ?_)
 rw[iC _ _ _ _ l]
 exact j
theorem u6:Slot "set_iterator" (b9 "__iter__") "set_iterator.__iter__":=by
 refine Slot.of (owner:="set_iterator") (n:="__iter__") ?_ ?_ ?_ ?_ ?_ ?_
 ·rw[ow,lH];rfl
 ·decide +kernel
 ·decide +kernel
 ·decide +kernel
 ·exact Or.inl (by decide +kernel)
 ·rw[oW];rfl
theorem wC:entryFor table "set_iterator.__iter__"=some Builtin.«dict_keyiterator.__iter__»:=jK (id':="dict_keyiterator.__iter__") rfl rfl (by decide +kernel) rfl
theorem xc(a:bQ):argsOk "set_iterator.__iter__" ⟨[a],[]⟩:=by
 show _=_;rw[pU (rows:=jS) rfl rfl];rfl
def Kn(w:cC)(a:bV)(ep:Nat)(es:Array (Int×bQ)):Array (Int×bQ):=if Fs w=true then es else pickOrder (w.params.setOrder a ep) es
theorem xu(w:cC)(a:bV)(ep:Nat)(es:Array (Int×bQ)):(Kn w a ep es).toList.Perm es.toList:=by
 unfold Kn;split
 ·exact ii _
 ·exact vT _ _
theorem Bt{prog:cg}{w:cC}{A:cO}{I a:bV}{o:Obj}{es:Array (Int×bQ)}{ep:Nat}{b:Nat->Bool}(hA:A.handled=none)(hd:o.data = .set es ep (FI (Fi b) (Fs w)))(hes:es.size=(Fi b).length)(hne:a≠I):
  WalksS prog w A I [I,a] [I] (λx y=>y=x) es.size (λi v=>∃x,(Kn w a ep es)[i]?=some x/\v=x.2)
   (λi s=>s.heap.get? I=some (FC a (if Fs w=true then FP (Fi b) i else 0) i es.size ep)/\s.heap.get? a=some o):=by
 refine⟨λc m=>by rw[bY.mp m];exact b0,λ_=>rfl,λx y z h1 h2=>h2.trans h1,λi s f tk g _ hk=>⟨hk I b0 _ g.1,hk a (b3 _ b0) _ g.2⟩,λi s Q E t g h=>?_,λs Q E g h=>?_,λi s Q E g q=>?_⟩
 ·cases d:Fs w with
  | true=>
   obtain⟨e,j⟩:=g
   rw[if_pos d]at e
   refine Ch d e j hd hes t hne λf p n=>h _ _ ⟨es[i],?_,rfl⟩ ⟨?_,?_⟩ ?_
   ·unfold Kn;rw[if_pos d,d8 t]
   ·rw[if_pos d];exact n
   ·show f.get? a=some o
    rw[p.2 a hne];exact j
   ·exact⟨λc k m l=>by show f.get? c=some k;rw[p.2 c λz=>m (by rw[z];exact b0)];exact l,rfl,rfl,rfl,bX _⟩
  | false=>
   obtain⟨e,j⟩:=g
   rw[if_neg (by rw[d];decide)]at e
   have u:=(vT (w.params.setOrder a ep) es).length_eq
   rw[dG,dG]at u
   have B:(pickOrder (w.params.setOrder a ep) es)[i]?=some (pickOrder (w.params.setOrder a ep) es)[i]:=d8 (by omega)
   refine xq d e j hd hes t B λf p n=>h _ _ ⟨_,?_,rfl⟩ ⟨?_,?_⟩ ?_
   ·unfold Kn;rw[if_neg (by rw[d];decide)];exact B
   ·rw[if_neg (by rw[d];decide)];exact n
   ·show f.get? a=some o
    rw[p.2 a hne];exact j
   ·exact⟨λc k m l=>by show f.get? c=some k;rw[p.2 c λz=>m (by rw[z];exact b0)];exact l,rfl,rfl,rfl,bX _⟩
 ·obtain⟨e,j⟩:=g
  have fin:∀f,(∀c k,c≠I->s.heap.get? c=some k->f.get? c=some k)->Q none {s with heap:=f}:=λf hk=>h _ ⟨λc k m l=>hk c k (λz=>m (by rw[z];exact b0)) l,rfl,rfl,rfl,bX _⟩
  cases d:Fs w with
  | true=>rw[if_pos d]at e;exact yj hA d e j hd hes fin
  | false=>rw[if_neg (by rw[d];decide)]at e;exact xR hA d e j hd hes fin
 ·have r:s.TypeIs (.ref I) "set_iterator":=⟨_,g.1,rfl⟩
  refine iZ r u6 (df u6 r wC ?_ (xc _))
  exact bM (bO (bO ⟨_,rfl,"set_iterator",_,r,sr.lookup,q⟩))
theorem Cu{prog:cg}{w:cC}{A:cO}{E:bQ->bS->Prop}{s:bS}{a:bV}{Q:Bool->bS->Prop}(ht:s.TypeIs (.ref a) "set")(h:Q false s):wpAny (model prog w) A (hU (.ref a)) Q E s:=by
 have b:splitId "set.__len__"=some ("set","__len__"):=by decide +kernel
 unfold hU;refine bM (fG ht F.slot_set_len.lookup ?_);dsimp only;rw[b];dsimp only;refine bM (dQ ht qp (b7 rfl ?_));refine iq (by decide +kernel) ?_;refine bM (gQ ht ?_);exact bO h
theorem w4:∀{l:List (Int×bQ)},(∀x∈l,∃t,x.2=dn x.1 t)->IntsAre (l.map (·.2)) (l.map (·.1))
 | [],_=> .nil
 | x::r,h=>by
  obtain⟨t,e⟩:=h x b0
  rw[dh,dh,e]
  exact .cons _ _ (w4 λy a=>h y (b3 _ a))
theorem yF{prog:cg}{w:cC}{A:cO}{E:bQ->bS->Prop}{s:bS}{a:bV}{b:Nat->Bool}{Q:List bQ->bS->Prop}(hA:A.handled=none)(hS:SetIs s.heap a b (Fs w))
  (h:∀(h':Heap) (tk:Nat) (vs:List bQ) (ns:List Int),s.heap.objs.size<h'.objs.size->(∀c ob,s.heap.get? c=some ob->h'.get? c=some ob)->IntsAre vs ns->ns.Perm ((Fi b).map gF)->Q vs {s with heap:=h',toks:=tk}):wpAny (model prog w) A (collect (.ref a)) Q E s:=by
 obtain⟨o,d,f,aa,J,l,N,L⟩:=hS
 have C:d.size=(Fi b).length:=by rw[<-dG,L,bP]
 have Z:(FI (Fi b) (Fs w)).fits d.size=true:=by rw[C];exact tT b _
 have p:(s.heap.push (seqObj "list" #[] 0)).get? a=some o:=bU _ J
 have K:(s.heap.push (seqObj "list" #[] 0)).get? s.heap.objs.size=some (seqObj "list" #[] 0):=b4 _ rfl
 unfold collect
 refine bM (jH (dS lE ?_))
 change wpAny _ _ (do again (.builtin "list.__iadd__" ⟨[<-newList [],.ref a],[]⟩)) _ _ s
 refine bM (iI (bO ⟨gi _ (by decide +kernel),dS nt ?_⟩))
 change wpAny _ _ (fz (.ref s.heap.objs.size) (.ref a) (.ref s.heap.objs.size)) _ _ {s with heap:=s.heap.push (seqObj "list" #[] 0)}
 unfold fz
 have y:s.heap.objs.size≠a:=λz=>by
  have:=b6 J
  rw[z]at this
  exact absurd this (cJ _)
 refine bM (gQ (T:="set") ⟨o,p,l.1⟩ (b7 ?_ (bM (Cz p l N Z rfl (bM (cR (Cu ⟨o,bU _ p,l.1⟩ ?_)))))))
 ·show decide ((kj (.ref s.heap.objs.size) (.ref a)||_||_)=true)=false
  have:kj (.ref s.heap.objs.size) (.ref a)=false:=by
   show(s.heap.objs.size==a)=false
   exact beq_false_of_ne y
  rw[this]
  rfl
 refine iq (by decide +kernel) (bM (io ?_))
 have M:(s.heap.push (seqObj "list" #[] 0)).objs.size=s.heap.objs.size+1:=kY ..
 have S:a≠s.heap.objs.size+1:=λz=>by
  have:=b6 J
  rw[z]at this
  exact absurd (gx this) (cJ _)
 dsimp only
 have R:((s.heap.push (seqObj "list" #[] 0)).push (FC a 0 0 d.size f)).get? (s.heap.push (seqObj "list" #[] 0)).objs.size=some (FC a 0 0 d.size f):=b4 _ rfl
 have H:((s.heap.push (seqObj "list" #[] 0)).push (FC a 0 0 d.size f)).get? s.heap.objs.size=some (seqObj "list" #[] 0):=bU _ K
 have U:((s.heap.push (seqObj "list" #[] 0)).push (FC a 0 0 d.size f)).get? a=some o:=bU _ p
 have q:∀c ob,s.heap.get? c=some ob->c≠s.heap.objs.size/\((s.heap.push (seqObj "list" #[] 0)).push (FC a 0 0 d.size f)).get? c=some ob:=λc ob k=>⟨λz=>(by
  have:=b6 k
  rw[z]at this
  exact absurd this (cJ _)),bU _ (bU _ k)⟩
 rw[M]at R ⊢
 generalize(s.heap.push (seqObj "list" #[] 0)).push (FC a 0 0 d.size f)=g at *
 unfold k7
 have G:(g.update s.heap.objs.size (dr λx=>x.push bQ.none)).get? s.heap.objs.size=some (seqObj "list" #[bQ.none] 1):=dR (o:=seqObj "list" #[] 0) _ H rfl
 have P:((g.update s.heap.objs.size (dr λx=>x.push bQ.none)).update s.heap.objs.size (dr λx=>x.pop)).get? s.heap.objs.size=some (seqObj "list" #[] 2):=dR (o:=seqObj "list" #[bQ.none] 1) _ G rfl
 have t:∀c ob,c≠s.heap.objs.size->g.get? c=some ob->((g.update s.heap.objs.size (dr λx=>x.push bQ.none)).update s.heap.objs.size (dr λx=>x.pop)).get? c=some ob:=λc ob k hg=>by
  rw[iC _ _ _ _ k,iC _ _ _ _ k];exact hg
 refine bM (bM (gZ H rfl (gZ G rfl ?_ (by show 1<=sizeLine;decide +kernel) (cM _)) (cM _) (by show 1<=sizeLine+1;decide +kernel)))
 generalize(g.update s.heap.objs.size (dr λx=>x.push bQ.none)).update s.heap.objs.size (dr λx=>x.pop)=g4 at *
 refine bO ⟨gi _ (by decide +kernel),?_⟩
 refine codeAny_extend_loopS (Bt (A:=A.in1) (I:=s.heap.objs.size+1) (a:=a) (o:=o) hA N C S) (by have:=uT b;exact cx (Fh (by omega))) s.heap.objs.size (λz=>?_) _ d.size 0 _ #[] 2 rfl (cM _) ⟨?_,t a o (λz=>y z.symm) U⟩ P ⟨rfl,λj v B=>?_⟩ λV n c m r D=>?_
 ·rcases cj.mp z with z|z
  ·exact absurd z (cF (cV _))
  ·exact y (bY.mp z)
 ·have:(if Fs w=true then FP (Fi b) 0 else 0)=0:=by split <;> rfl
  rw[this]
  exact t _ _ (λz=>absurd z.symm (cF (cV _))) R
 ·simp at B
 ·obtain⟨h',W,d',t',o'⟩:=V
  have Y:W=s.gens:=m.gens
  have X:d'=s.drawn:=m.drawn
  have e3:o'=s.os:=m.os
  subst Y X e3
  refine bM (wpAny_load' r (bO ?_))
  refine h h' t' n.toList ((Kn w a f d).toList.map (·.1)) (b6 r) (λc ob k=>m.heap c ob (λz=>?_) (t c ob (q c ob k).1 (q c ob k).2)) ?_ ?_
  ·rcases cj.mp z with z|z
   ·exact(q c ob k).1 z
   ·have:=b6 k
    rw[bY.mp z]at this
    exact absurd (gx this) (cJ _)
  ·have O:=(xu w a f d).length_eq
   rw[dG,dG]at O
   have e:n.toList=(Kn w a f d).toList.map (·.2):=by
    refine List.ext_getElem? λj=>?_
    rw[bZ,e9,e9]
    cases B:n[j]? with
    | none=>
     have:n.size<=j:=Array.getElem?_eq_none_iff.mp B
     rw[f3 (by have:=D.1;omega)];rfl
    | some v=>
     obtain⟨x,l,rfl⟩:=D.2 j v B
     rw[l];rfl
   rw[e]
   refine w4 λx l=>?_
   have:=(xu w a f d).mem_iff.mp l
   rw[L]at this
   obtain⟨u,_,rfl⟩:=cP.mp this
   exact⟨_,rfl⟩
  ·refine((xu w a f d).map _).trans ?_
   rw[L,iz]
   exact ii _
theorem Ag{prog:cg}{w:cC}{A:cO}{E:bQ->bS->Prop}{s:bS}{a:bV}{b:Nat->Bool}{Q:bQ->bS->Prop}(hA:A.handled=none)(hS:SetIs s.heap a b (Fs w))
  (h:∀(l:bV) (h':Heap) (tk:Nat) (out:Array bQ) (ns:List Int),s.heap.objs.size<=l->(∀c ob,s.heap.get? c=some ob->h'.get? c=some ob)->(∃n,h'.get? l=some (seqObj "list" out n))->IntsAre out.toList ns->ns.Perm ((Fi b).map gF)->ns.Pairwise (· <= ·)->Q (.ref l) {s with heap:=h',toks:=tk}):
  wpAny (model prog w) A (call (.builtin "sorted") [.ref a]) Q E s:=by
 refine gr oj nu nv (nw _) ?_
 unfold Builtin.«sorted»
 refine bM (m:=checkCount "sorted" 1 1 _) (bO ?_)
 refine bM (yF (A:=A.in1) hA hS λh' tk vs ns j hk g hp=>bM (iI ?_ (by have:=uT b;have:=hp.length_eq;rw[bP]at this;have:=g.length;exact cx (Fh (by omega)))))
 have u:ns.length=(Fi b).length:=by rw[hp.length_eq,bP]
 have h6:=uT b
 have v:vs.length=ns.length:=g.length
 have f:(h'.push (seqObj "list" vs.toArray 0)).get? h'.objs.size=some (seqObj "list" vs.toArray 0):=b4 _ rfl
 refine bM (cR (df lV ⟨_,f,rfl⟩ lx (oP f g (by omega) λout o q r t=>⟨_,rfl,?_⟩) (lW _)))
 refine bO ⟨_,rfl,?_⟩
 refine h _ _ _ out o (cx j) (λc ob p=>?_) (sortedHeap_at f) q (r.trans hp) t
 have e:=hk c ob p
 have k:=b6 e
 have d:(h'.push (seqObj "list" vs.toArray 0)).get? c=some ob:=bU _ e
 exact(sortedHeap_old (cF k) (b6 d)).trans d
theorem Bg:∀{vs:List bQ} {ns:List Int},IntsAre vs ns->∀(i:Nat) (v:bQ),vs[i]?=some v->i<ns.length/\∃t,v=dn (ns.getD i 0) t
 | _,_,.nil,i,v,h=>by simp at h
 | _,_,.cons n t hr,0,v,h=>by
  rw[List.getElem?_cons_zero]at h
  cases h
  exact⟨Nat.zero_lt_succ _,t,rfl⟩
 | _,_,.cons n t hr,i+1,v,h=>by
  rw[List.getElem?_cons_succ]at h
  obtain⟨h1,a,e⟩:=Bg hr i v h
  exact⟨Nat.succ_lt_succ h1,a,e⟩
theorem yT(b:Nat->Bool):((Fi b).map gF).Nodup:=by
 unfold Fi;exact iW.mpr ((n7.filter _).imp λh z=>h (gF.inj z))
section
variable{X:Cx}
def Km(K:bN)(te:TE):TE:=λσ H Q=>te σ H λx H1=>∃(p:bV) (ns:List Int),x = .ref p/\SqL K H1 p (ns.map V.int)/\(∀i∈ns,0<=i/\i<6)/\
 ∀(l:bV) (ns':List Int),H1 l=none->(∀i,i∈ns'↔i∈ns)->ns'.Nodup->ns'.Pairwise (· <= ·)->Q (.ref l) (upd H1 l (.lst (ns'.map V.int)))
theorem xP{e:Expr}{te:TE}{p p2 pos pos2:Pos}(hc:X.calm=true)(h1:Gl X "sorted")(m1:X.mg "sorted"=none)(h2:Gl X "set")(m2:X.mg "set"=none)(ha:PE X e te)
  (he:cD [e] X.env=(false,eval e X.env)::cD [] X.env:=by rfl):PE X (.Call (.Name "sorted" p) [.Call (.Name "set" p2) [e] [] pos2] [] pos) (Km X.K te):=by
 intro D s σ H Q I h
 refine d9 (t7 I h1 m1 Boot.sorted ?_)
 refine gB ?_ rfl rfl
 show wpAny _ _ (spliced ((false,eval (.Call (.Name "set" p2) [e] [] pos2) X.env)::[])) _ _ s
 refine eP ?_
 refine d9 (t7 I h2 m2 Boot.set ?_)
 refine du ?_ he rfl
 rw[he]
 show wpAny _ _ (spliced ((false,eval e X.env)::[])) _ _ s
 refine eP (Fw (ha D s σ H _ I h) λu Y ⟨x,H1,m,r1,q1⟩=>?_)
 obtain⟨l,a,rfl,hq,G,q⟩:=q1
 cases(show u=b5 l from r1)
 obtain⟨y,Z,pl,hz⟩:=m.list hq
 have J:=vG Z
 have aa:y.length=a.length:=J.length
 have hA:X.A.handled=none:=m.ok.hd hc
 refine bO (wE hA pl.isList (λi=>(a.getD i 0).toNat) (λi v U=>?_) λh' tk g hk=>bO (Ag hA g λN h2 R P d L M f F b n=>?_))
 ·rw[<-e9]at U
  obtain⟨k,t,e⟩:=Bg J i v (by simpa using U)
  have r:a.getD i 0∈a:=by
   rw[bR,bT k]
   exact cm k
  have:=G _ r
  refine⟨by omega,t,?_⟩
  rw[e]
  congr 1
  omega
 ·have E:∀i,i∈d↔i∈a:=λi=>by
   rw[b.mem_iff,cP]
   constructor
   ·rintro⟨u,hu,rfl⟩
    obtain⟨_,O⟩:=tM.mp hu
    obtain⟨j,C,e⟩:=iA.mp O
    have e':u=(a.getD j 0).toNat:=eq_of_beq e
    have B:j<a.length:=by
     have:=oy.mp C
     simp at this
     omega
    have r:a.getD j 0∈a:=by
     rw[bR,bT B]
     exact cm B
    have:=G _ r
    have:gF u=a.getD j 0:=by rw[e'];show((a.getD j 0).toNat:Int)=_;omega
    rw[this];exact r
   ·intro k
    have ab:=G i k
    obtain⟨j,C,e⟩:=dW.mp k
    refine⟨i.toNat,tM.mpr ⟨by omega,iA.mpr ⟨j,?_,?_⟩⟩,by show((i.toNat:Nat):Int)=i;omega⟩
    ·rw[oy]
     exact⟨j,by simp;omega,by omega⟩
    ·rw[bR,bT C,Option.getD_some,e]
     exact beq_self_eq_true _
  obtain⟨n2,f⟩:=f
  have W:Y.heap.objs.size<=h'.objs.size:=by
   obtain⟨o,_,_,_,ho,_⟩:=g
   exact cx (b6 ho)
  have z:Y.heap.objs.size<=N:=cG W L
  have T:d.Nodup:=b.nodup_iff.mpr (yT _)
  refine⟨.ref N,_,m.laid (t':=R) (λc S hc=>M c S (hk c S hc)) z (show ObjOk X.prog X.w _ _ _ (.lst (d.map V.int))from⟨?_,P.toList,n2,uU F,by rw[f]⟩),rfl,q _ d (m.hok.fresh z) E T n⟩
  have h6:=uT (λx=>(j2 0 y.toArray.size).any λj=>x==(a.getD j 0).toNat)
  have:=b.length_eq
  rw[bP]at this ⊢
  exact cx (Fh (by omega))
end
section
variable{X:Cx}
theorem Da:LK X "list.count" (λx vs H Q=>∃(l:bV) (ns:List Int) (k:Int),x = .ref l/\vs=[.int k]/\SqL X.K H l (ns.map V.int)/\Q (.int (ns.count k:Nat)) H):=by
 intro b s m H x vs v j Q I d a h;obtain⟨l,ns,k,rfl,rfl,c,q⟩:=h
 cases d;obtain⟨u,rfl,tk,rfl⟩:=a.one;obtain⟨f,r,e,g⟩:=I.list c;exact count_list_ints e.isList (vG r) ⟨.int _,H,I.tok _,⟨_,rfl⟩,q⟩
theorem xW{K:bN}(h:X.K=K):LK X "list.count" (λx vs H Q=>∃(l:bV) (ns:List Int) (k:Int),x = .ref l/\vs=[.int k]/\SqL K H l (ns.map V.int)/\Q (.int (ns.count k:Nat)) H):=by
 subst h;exact Da
end
theorem vn(p q:Int×Int):eh (dF p) (dF q)=decide (p=q):=by
 obtain⟨a,b⟩:=p;obtain⟨c,d⟩:=q;unfold dF;by_cases h1:a=c <;> by_cases h2:b=d <;> simp[eh,f9,h1,h2]
theorem EW(p:Int×Int):GQ 1 (dF p)=true:=rfl
theorem sP(p:Int×Int):eg (dF p)=true:=sy (EW p) (by decide)
structure Wt(p:Int×Int)(a D:Int):Prop where
 w:p.1*D=a*p.2
 p2:p.2≠0
 d:D≠0
theorem vx{a D:Int}(hD:D≠0):Wt (FQ.red a D) a D:=⟨FQ.red_worth hD,by have:=(FQ.red_low (t:=a) hD).pos;omega,hD⟩
theorem AQ{a D:Int}(hD:D≠0):Wt (a,D) a D:=⟨rfl,hD,hD⟩
theorem DJ{p q:Int×Int}{a D b E:Int}(h:Wt p a D)(k:Wt q b E):GZ p q=FQ.red (a*E+b*D) (D*E):=by
 unfold GZ;refine FQ.red_eq (cW h.p2 k.p2) (cW h.d k.d) ?_
 calc (p.1*q.2+q.1*p.2)*(D*E)=(p.1*D)*(q.2*E)+(q.1*E)*(p.2*D):=by rw[gw];ac_rfl
  _=(a*p.2)*(q.2*E)+(b*q.2)*(p.2*D):=by rw[h.w,k.w]
  _=(a*E+b*D)*(p.2*q.2):=by rw[gw];ac_rfl
theorem Eo{p q:Int×Int}{a D b E:Int}(h:Wt p a D)(k:Wt q b E):Kg p q=FQ.red (a*E-b*D) (D*E):=by
 unfold Kg;refine FQ.red_eq (cW h.p2 k.p2) (cW h.d k.d) ?_
 calc (p.1*q.2-q.1*p.2)*(D*E)=(p.1*D)*(q.2*E)-(q.1*E)*(p.2*D):=by rw[jh];ac_rfl
  _=(a*p.2)*(q.2*E)-(b*q.2)*(p.2*D):=by rw[h.w,k.w]
  _=(a*E-b*D)*(p.2*q.2):=by rw[jh];ac_rfl
theorem AL{p q:Int×Int}{a D b E:Int}(h:Wt p a D)(k:Wt q b E):KA p q=FQ.red (a*b) (D*E):=by
 unfold KA;refine FQ.red_eq (cW h.p2 k.p2) (cW h.d k.d) ?_
 calc (p.1*q.1)*(D*E)=(p.1*D)*(q.1*E):=by ac_rfl
  _=(a*p.2)*(b*q.2):=by rw[h.w,k.w]
  _=(a*b)*(p.2*q.2):=by ac_rfl
theorem Bf{a D c:Int}(hD:D≠0)(hc:c≠0):FQ.red (a*c) (D*c)=FQ.red a D:=FQ.red_eq (cW hD hc) hD (by ac_rfl)
theorem AR{T D m c:Int}(hD:D≠0)(hc:c≠0):GZ (FQ.red T D) (FQ.red m (D*c))=FQ.red (T*c+m) (D*c):=by
 rw[DJ (vx hD) (vx (cW hD hc))];refine FQ.red_eq (cW hD (cW hD hc)) (cW hD hc) ?_;rw[gw,gw]
 congr 1 <;> ac_rfl
theorem xQ{a b D c:Int}(hD:D≠0)(hc:c≠0):Kg (FQ.red a D) (FQ.red b (D*c))=FQ.red (a*c-b) (D*c):=by
 rw[Eo (vx hD) (vx (cW hD hc))];refine FQ.red_eq (cW hD (cW hD hc)) (cW hD hc) ?_;rw[jh,jh]
 congr 1 <;> ac_rfl
theorem sJ{m D:Int}(hD:D≠0):FQ.red m D=(0,1)↔m=0:=by
 constructor
 ·intro h;have:=FQ.red_worth (t:=m) hD;rw[h]at this;simp at this;omega
 ·rintro rfl;exact vJ hD
theorem Bi{m D:Int}(hD:D≠0):FQ.red m D=(1,1)↔m=D:=by
 constructor
 ·intro h;have:=FQ.red_worth (t:=m) hD;rw[h]at this;simp at this;omega
 ·rintro rfl;exact yW hD
theorem Cm{p q:Int×Int}{a D b E:Int}(h:Wt p a D)(k:Wt q b E)(hp:0<p.2)(hq:0<q.2)(hD:0<D)(hE:0<E):FK p q=decide (a*E<b*D):=by
 have c:(p.1*q.2)*(D*E)=(a*E)*(p.2*q.2)/\(q.1*p.2)*(D*E)=(b*D)*(p.2*q.2):=by
  constructor
  ·calc (p.1*q.2)*(D*E)=(p.1*D)*(q.2*E):=by ac_rfl
    _=(a*p.2)*(q.2*E):=by rw[h.w]
    _=_:=by ac_rfl
  ·calc (q.1*p.2)*(D*E)=(q.1*E)*(p.2*D):=by ac_rfl
    _=(b*q.2)*(p.2*D):=by rw[k.w]
    _=_:=by ac_rfl
 have h1:0<D*E:=im hD hE;have h2:0<p.2*q.2:=im hp hq;unfold FK;refine decide_eq_decide.mpr ⟨λz=>?_,λz=>?_⟩
 ·have:=f4 z h1;rw[c.1,c.2]at this;exact gj this (ef h2)
 ·have:=f4 z h2;rw[<-c.1,<-c.2]at this;exact gj this (ef h1)
theorem yr{a D b E:Int}(hD:0<D)(hE:0<E):FK (FQ.red a D) (FQ.red b E)=decide (a*E<b*D):=
 Cm (vx (by omega)) (vx (by omega)) (FQ.red_low (by omega)).pos (FQ.red_low (by omega)).pos hD hE
theorem uc{a D:Int}{n:Nat}(hD:D≠0)(h1:a.natAbs<2^n)(h2:D.natAbs<2^n):Sz n (FQ.red a D):=by
 have s:=FQ.red_small (t:=a) hD;have p:=(FQ.red_low (t:=a) hD).pos;exact⟨ec s.1 h1,ec s.2 h2,by omega⟩
def Gw(ps:List (Int×Int)):Int×Int:=ps.foldl GZ (0,1)
theorem uV(ps:List (Int×Int))(p:Int×Int):Gw (ps++[p])=GZ (Gw ps) p:=by unfold Gw;rw[nE];rfl
theorem yz{D:Int}(hD:D≠0):∀(ms:List Int) (a:Int),(fr D ms).foldl GZ (FQ.red a D)=FQ.red (a+ms.sum) D
 | [],a=>by simp[fr]
 | m::ms,a=>by
  show(fr D ms).foldl GZ (GZ (FQ.red a D) (FQ.red m D))=_
  rw[xI hD,yz hD ms,eR,mr]
theorem Ea{D:Int}(hD:D≠0)(ms:List Int):Gw (fr D ms)=FQ.red ms.sum D:=by
 have:=yz hD ms 0;rw[vJ hD,d2]at this;exact this
theorem AZ{m n:Nat}{x y:Int×Int}(hx:Sz m x)(hy:Sz n y):Sz (m+n+1) (GZ x y):=by
 obtain⟨c,b,e⟩:=hx;obtain⟨d,a,f⟩:=hy;refine uc (cW e f) (C2 (vI c a) (by rw[Nat.add_comm];exact vI d b)) (v7 (vI b a) (by omega))
theorem xZ:∀(k:Nat) {ps:List (Int×Int)},ps.length=k->(∀p∈ps,Sz 30 p)->Sz (31*k+1) (Gw ps)
 | 0,ps,hl,_=>by rw[gK hl];exact⟨by decide,by decide,by decide⟩
 | k+1,ps,hl,h=>by
  have a:ps≠[]:=λz=>by rw[z]at hl;cases hl
  have e:=jn a
  rw[<-e,uV]
  have h1:=xZ k (ps:=ps.dropLast) (by rw[jg];omega) λp hp=>h p (List.dropLast_subset _ hp)
  have h2:=h _ (List.getLast_mem a)
  exact(AZ h1 h2).up (by omega)
theorem D9{ps:List (Int×Int)}(hl:ps.length<=60)(h:∀p∈ps,Sz 30 p):Sz 4000 (Gw ps):=(xZ _ rfl h).up (by omega)
def Ku(K:bN):Sp:=λvs H Q _=>∃(a:bV) (gs:List V) (ps:List (Int×Int)),vs=[.ref a]/\SqL K H a gs/\cT (IsF K H) gs ps/\(∀p∈ps,Sz 30 p)/\ps.length<=60/\∀v H',Same H H'->IsF K H' v (Gw ps)->Q v H'
def FG(s:Int×Int)(ps:List (Int×Int)):Int×Int:=ps.foldl (λs p=>if FK p s=true then p else s) s
def Iz(ps:List (Int×Int)):Int×Int:=FG (ps.headD (0,1)) ps
def Jt(K:bN):Sp:=λvs H Q _=>∃(a:bV) (gs:List V) (ps:List (Int×Int)),vs=[.ref a]/\SqL K H a gs/\cT (IsF K H) gs ps/\ps≠[]/\ps.length<=60/\(∀p∈ps,Sz 4000 p)/\∀v,IsF K H v (Iz ps)->Q v H
open EM in
def FR(D:Int)(ds ms:List Int)(t:Int):Int×Int:=FQ.red (at0 ms t) (D*cnt ds t)
open EM in
theorem ui{D:Int}{ds ms:List Int}(hD:0<D):∀(r:List Int) (s:Int),s∈ds->(∀t∈r,t∈ds)->FG (FR D ds ms s) (r.map (FR D ds ms))=FR D ds ms (Gd ds ms s r)
 | [],s,_,_=>rfl
 | t::r,s,hs,hr=>by
  have b:=hr t b0
  have a:∀u∈r,u∈ds:=λu h=>hr u (b3 _ h)
  have j:0<D*cnt ds s:=im hD (cnt_pos hs)
  have g:0<D*cnt ds t:=im hD (cnt_pos b)
  have e:FK (FR D ds ms t) (FR D ds ms s)=decide (at0 ms t*cnt ds s<at0 ms s*cnt ds t):=by
   unfold FR
   rw[yr g j]
   refine decide_eq_decide.mpr ?_
   have f:at0 ms t*(D*cnt ds s)=(at0 ms t*cnt ds s)*D:=by ac_rfl
   have d:at0 ms s*(D*cnt ds t)=(at0 ms s*cnt ds t)*D:=by ac_rfl
   rw[f,d]
   exact⟨λz=>gj z (ef hD),λz=>f4 z hD⟩
  show FG (if FK (FR D ds ms t) (FR D ds ms s)=true then FR D ds ms t else FR D ds ms s) (r.map (FR D ds ms))=FR D ds ms (Gd ds ms (if at0 ms t*cnt ds s<at0 ms s*cnt ds t then t else s) r)
  rw[e]
  by_cases c:at0 ms t*cnt ds s<at0 ms s*cnt ds t
  ·rw[if_pos (decide_eq_true c),if_pos c]
   exact ui hD r t b a
  ·rw[if_neg (by simpa using c),if_neg c]
   exact ui hD r s hs a
theorem Ac{D:Int}{ds ms:List Int}(hD:0<D)(hne:ds≠[]):Iz (ds.map (FR D ds ms))=FR D ds ms (EM.pick ds ms):=by
 cases ds with
 | nil=>exact absurd rfl hne
 | cons a r=>exact ui (ds:=a::r) hD (a::r) a b0 λ_ h=>h
def KY(K:bN):Sp:=λvs H Q _=>∃(w l:bV) (row ms:List Int) (D:Int) (gs:List V),vs=[.ref w,.ref l]/\SqT K H w (row.map V.int)/\SqL K H l gs/\cT (IsF K H) gs (fr D ms)/\0<D/\
 (∀t∈row,0<=t/\t<ms.length)/\row.length<=63/\(∃t∈row,EM.at0 ms t≠0)/\∀H',Same H H'->Q (.int (EM.best ms row)) H'
def KU(K:bN):Sp:=λvs H Q _=>∃(d l:bV) (ds ms:List Int) (D:Int) (gs:List V),vs=[.ref d,.ref l]/\SqL K H d (ds.map V.int)/\SqL K H l gs/\cT (IsF K H) gs (fr D ms)/\0<D/\D<=262144/\ds≠[]/\ds.length<=6/\
 (∀t∈ds,0<=t/\t<ms.length)/\(∀m∈ms,0<=m/\m<=D)/\∀v H',Same H H'->IsF K H' v (FR D ds ms (EM.pick ds ms))->Q v H'
def KQ(K:bN):Sp:=λvs H Q _=>∃(d l p:bV) (ds ms:List Int) (D c m:Int) (gs:List V),vs=[.ref d,.ref l,.ref p]/\SqL K H d (ds.map V.int)/\SqL K H l gs/\cT (IsF K H) gs (fr D ms)/\IsF K H (.ref p) (FQ.red m (D*c))/\
 0<D/\D<=262144/\0<c/\c<=6/\0<=m/\m<=D/\ds.length<=6/\ms.length<=6/\(∀m∈ms,0<=m/\m<=D)/\
 ∀q gs' H',Same H H'->H q=none->H' q=some (.lst gs')->cT (IsF K H') gs' (fr (D*c) ((LM.rng ms.length).map λj=>EM.at0 ms j*c-EM.cnt ds j*m))->Q (.ref q) H'
def IsC(K:bN)(P:bV)(H:Hp)(v:V)(c:EM.Course):Prop:=∃a l d g,v = .ref a/\SqT K H a [.ref l,.ref d,.ref g]/\IsF K H (.ref l) (FQ.red c.m c.D)/\H d=some (.lst (c.ds.map V.int))/\SqT K H g (c.gone.map V.int)/\d≠P
theorem IsC.mono{K:bN}{P:bV}{H H':Hp}{v:V}{c:EM.Course}(e:Same H H')(h:IsC K P H v c):IsC K P H' v c:=by
 obtain⟨a,l,d,g,rfl,h1,h2,h3,h4,h5⟩:=h;exact⟨a,l,d,g,rfl,e.tup h1,h2.mono e,e _ _ h3,e.tup h4,h5⟩
theorem IsC.over{K:bN}{P:bV}{H:Hp}{v:V}{c:EM.Course}{ys zs:List V}(h:IsC K P H v c)(hp:H P=some (.lst ys)):IsC K P (upd H P (.lst zs)) v c:=by
 obtain⟨a,l,d,g,rfl,h1,h2,h3,h4,h5⟩:=h;exact⟨a,l,d,g,rfl,u7 h1 hp,h2.over hp,by rw[rR h5];exact h3,u7 h4 hp,h5⟩
def F0(W:List (List Int))(n N:Nat):List EM.Course:=(cp N).map λi=>EM.cs W (EM.st W n i)
theorem z6{W:List (List Int)}{n N i:Nat}{c:EM.Course}(h:(F0 W n N)[i]?=some c):i<N/\c=EM.cs W (EM.st W n i):=by
 unfold F0 at h;rw[bZ]at h;by_cases a:i<N
 ·rw[dy a]at h;exact⟨a,(Option.some.inj h).symm⟩
 ·rw[fH (by rw[eI];omega)]at h
  cases h
def IZ(K:bN):Sp:=λvs H Q _=>∃(a:bV) (ws:List V) (W:List (List Int)) (n:Nat),vs=[.ref a]/\SqL K H a ws/\cT (IsR K H) ws W/\EM.Ws n W/\
 ∀p cs N H',Same H H'->H p=none->H' p=some (.lst cs)->EM.Stops W n N->cT (IsC K p H') cs (F0 W n N)->Q (.ref p) H'
def Jf(K:bN):Sp:=λvs H Q _=>∃(c:bV) (cs:List V) (W:List (List Int)) (n N p:Nat) (t:Int),vs=[.ref c,.int p,.int t]/\H c=some (.lst cs)/\EM.Ws n W/\EM.Upto W n N/\cT (IsC K c H) cs (F0 W n N)/\p<n/\
 ∀v H',Same H H'->IsF K H' v (FQ.red (EM.et W n N p t) (EM.st W n N).D)->Q v H'
def Gm(W:List (List Int))(n N p:Nat):List Int:=(LM.rng n).map (EM.et W n N p)
def FO(W:List (List Int))(n N:Nat):List (List Int):=(cp n).map (Gm W n N)
def IX(K:bN):Sp:=λvs H Q _=>∃(c:bV) (cs:List V) (W:List (List Int)) (n N p:Nat),vs=[.ref c,.int p,.int n]/\H c=some (.lst cs)/\EM.Ws n W/\EM.Upto W n N/\cT (IsC K c H) cs (F0 W n N)/\p<n/\
 ∀v H',Same H H'->RwFT K H' (EM.st W n N).D v (Gm W n N p)->Q v H'
def KM(K:bN):Sp:=λvs H Q _=>∃(a:bV) (ws:List V) (W:List (List Int)) (n:Nat),vs=[.ref a]/\SqL K H a ws/\cT (IsR K H) ws W/\EM.Ws n W/\
 ∀p us N H',Same H H'->H p=none->H' p=some (.lst us)->EM.Stops W n N->cT (RwFT K H' (EM.st W n N).D) us (FO W n N)->Q (.ref p) H'
theorem xH(t:Int):∀G:List Int,Jv (.int t) (G.map V.int)=decide (t∈G)
 | []=>by simp[Jv]
 | x::G=>by
  have a:=xH t G
  unfold Jv at a ⊢
  rw[dh,gz,a]
  by_cases h1:x=t
  ·subst h1;simp[K4]
  ·by_cases h2:t∈G
   ·simp[h2]
   ·have h3:t≠x:=λz=>h1 z.symm
    simp[K4,h1,h2,h3]
theorem vO(G:List Int):(G.map V.int).all GS=true:=by
 rw[de];intro v a;obtain⟨i,_,rfl⟩:=cP.mp a;rfl
theorem wY{α β:Type}{F:α->β->Prop}{x:α}{y:β}:∀{xs:List α} {ys:List β} {k:Nat},cT F xs ys->F x y->cT F (xs.set k x) (ys.set k y)
 | _,_,_,.nil,_=> .nil
 | _,_,0,.cons _ t,h=> .cons h t
 | _,_,k+1,.cons r t,h=> .cons r (wY t h)
theorem Bh{D:Int}{m:List Int}{k:Nat}(h:k<m.length):(fr D m)[k]?=some (FQ.red (m.getD k 0) D):=by
 unfold fr;rw[bZ,bR,bT h];rfl
abbrev LE:=Int×List Int
def cw(Ls:List LE)(i:Nat):Int:=((Ls.take i).map Prod.fst).sum
theorem cw_succ{Ls:List LE}{i:Nat}{l:LE}(h:Ls[i]?=some l):cw Ls (i+1)=cw Ls i+l.1:=by
 unfold cw;rw[cv,h,cb,List.sum_append];simp
structure LotsOk(n:Nat)(Ls:List LE)(T:Int):Prop where
 tot:cw Ls Ls.length=T
 w1:∀l∈Ls,1<=l.1
 w2:∀l∈Ls,l.1<=1000000000000
 ne:1<=Ls.length
 le:Ls.length<=40
 dl:∀l∈Ls,l.2.length=n
section
variable{n:Nat}{Ls:List LE}{T:Int}
theorem LotsOk.up(h:LotsOk n Ls T){i:Nat}(hi:i<Ls.length):cw Ls i<cw Ls (i+1)/\cw Ls (i+1)=cw Ls i+(Ls[i]).1:=by
 have e:=cw_succ (bT hi);have:=h.w1 _ (cm hi);omega
theorem LotsOk.mono(h:LotsOk n Ls T){i:Nat}:∀k,i+k<=Ls.length->cw Ls i<=cw Ls (i+k)
 | 0,_=>eF _
 | k+1,hk=>by
  have h1:=h.mono (i:=i) k (by omega)
  have h2:=(h.up (i:=i+k) (by omega)).1
  rw[<-mt]
  omega
theorem LotsOk.mono'(h:LotsOk n Ls T){i j:Nat}(hij:i<=j)(hj:j<=Ls.length):cw Ls i<=cw Ls j:=by
 have:=h.mono (i:=i) (j-i) (by omega);rw[show i+(j-i)=j by omega]at this;exact this
theorem cw_zero(Ls:List LE):cw Ls 0=0:=rfl
theorem LotsOk.bd(h:LotsOk n Ls T){i:Nat}(hi:i<=Ls.length):0<=cw Ls i/\cw Ls i<=T:=by
 have h1:=h.mono' (cM i) hi;have h2:=h.mono' hi (bX _);rw[cw_zero]at h1;rw[h.tot]at h2;exact⟨h1,h2⟩
theorem LotsOk.cwle(h:LotsOk n Ls T):∀i,i<=Ls.length->cw Ls i<=i*1000000000000
 | 0,_=>by rw[cw_zero];simp
 | i+1,hi=>by
  have h1:=h.cwle i (by omega)
  have h2:=(h.up (i:=i) (by omega)).2
  have h3:=h.w2 _ (cm (show i<Ls.length by omega))
  rw[h2]
  push_cast
  omega
theorem LotsOk.T0(h:LotsOk n Ls T):0<T/\T<2^80:=by
 have h1:=(h.up (i:=0) (by have:=h.ne;omega)).1;have h2:=h.bd (i:=1) h.ne;rw[cw_zero,nF]at h1;have h3:=h.cwle Ls.length (bX _);rw[h.tot]at h3;have h4:=h.le;have:(Ls.length:Int)*1000000000000<=40*1000000000000:=eT (by omega) (by decide);constructor <;> omega
end
structure Mc(Ls:List LE)(T:Int)(p:Int×Int)(i:Nat):Prop where
 lt:i<Ls.length
 yes:FK p (FQ.red (cw Ls (i+1)) T)=true
 no:∀j,j<i->FK p (FQ.red (cw Ls (j+1)) T)=false
def IsLot(K:bN)(H:Hp)(T:Int)(v:V)(l:LE):Prop:=∃a f g,v = .ref a/\SqT K H a [.ref f,.ref g]/\IsF K H (.ref f) (FQ.red l.1 T)/\SqT K H g (l.2.map V.int)
theorem IsLot.mono{K:bN}{H H':Hp}{T:Int}{v:V}{l:LE}(e:Same H H')(h:IsLot K H T v l):IsLot K H' T v l:=by
 obtain⟨a,f,g,rfl,h1,h2,h3⟩:=h;exact⟨a,f,g,rfl,e.tup h1,h2.mono e,e.tup h3⟩
def Gn(p:Int×Int):Prop:=FK p (0,1)=true\/FK p (1,1)=false
def JC(K:bN)(x:Xs):Sp:=λvs H Q E=>∃(L m:bV) (ls:List V) (Ls:List LE) (T:Int) (n:Nat) (p:Int×Int),vs=[.ref L,.ref m]/\SqL K H L ls/\cT (IsLot K H T) ls Ls/\LotsOk n Ls T/\IsF K H (.ref m) p/\Sz 2000 p/\0<p.2/\
 (Gn p->E (.ref x.NoPick) none H)/\(¬Gn p->∀i v H',Mc Ls T p i->Same H H'->IsR K H' v (Ls.getD i (0,[])).2->Q v H')
theorem vg{prog:cg}{w:cC}{A:cO}{E:bQ->bS->Prop}{s:bS}{it l:bV}{i:Nat}{items:Array bQ}{x:bQ}{Q:bQ->bS->Prop}(hit:s.heap.IsTupleIter it l i)(hl:s.heap.IsTuple l items)(hx:items[i]?=some x)
  (hQ:∀h':Heap,h'.IsTupleIter it l (i+1)->eS it s.heap h'->Q x {s with heap:=h'}):wpAny (model prog w) A (dt (.ref it)) Q E s:=by
 obtain⟨o,b,e,a⟩:=id hit
 obtain⟨g,c,f,h,d⟩:=hl
 unfold dt
 refine bM (dA (gI hit) gl (df gl (gI hit) jx ?_ (jo _)))
 refine bM (bO ?_)
 refine bM (dN b a rfl ?_)
 refine b7 rfl ?_
 refine bM (dN b a rfl ?_)
 refine bM (fh c d ?_)
 dsimp only
 rw[show items[((i:Nat):Int).toNat]?=some x from hx]
 refine bM (fM b a (by simp) ?_)
 refine bO ⟨x,rfl,bO (hQ _ ⟨_,dR _ b (Obj.isFreed_of_fields (mR a _)),(Obj.cls_mapFields o _).trans e,?_⟩ (d0 _ _ _))⟩
 rw[mR a]
 rfl
theorem vB{prog:cg}{w:cC}{A:cO}{E:bQ->bS->Prop}{s:bS}{it l:bV}{i:Nat}{items:Array bQ}{Q:bQ->bS->Prop}(hh:A.handled=none)(hit:s.heap.IsTupleIter it l i)(hl:s.heap.IsTuple l items)(hx:items[i]?=none)
  (hE:∀(h':Heap) (e:bV),qJ it s.heap h'->(∃o,h'.get? e=some o/\o.cls = .type "StopIteration")->E (.ref e) {s with heap:=h'}):wpAny (model prog w) A (dt (.ref it)) Q E s:=by
 obtain⟨o,b,g,a⟩:=id hit
 obtain⟨h,c,f,j,d⟩:=hl
 unfold dt
 refine bM (dA (gI hit) gl (df gl (gI hit) jx ?_ (jo _)))
 refine bM (bO ?_)
 refine bM (dN b a rfl ?_)
 refine b7 rfl ?_
 refine bM (dN b a rfl ?_)
 refine bM (fh c d ?_)
 dsimp only
 rw[show items[((i:Nat):Int).toNat]?=none from hx]
 refine bM (io (bM (fM b a (by simp) ?_)))
 unfold nG newExc raiseNew
 refine bM (bM (ir ?_ (by show(0:Nat)<=sizeLine;decide)))
 refine bM (eQ rfl (d5 ?_ ?_))
 ·refine bM (ki ?_)
  rw[show A.in1.handled=none from hh]
  refine lY ?_
  exact hE _ _ (((d0 _ _ _).extBut.push _).push _) ⟨_,b4 _ rfl,rfl⟩
 ·exact kI _ _ _ _ _ _ _ _
theorem yS{prog:cg}{w:cC}{A:cO}(hh:A.handled=none)(it l:bV)(hl:l≠it)(items:Array bQ):Draws prog w A it [it,l] items.size (λi v=>items[i]?=some v) (λi h=>h.IsTupleIter it l i/\h.IsTuple l items) where
 live:=λi h st=>by obtain⟨⟨o,g,_⟩,_⟩:=st;exact⟨o,g⟩
 frame:=λi h f st k=>by
  obtain⟨b,o,a,r⟩:=st
  exact⟨b.at λo q=>k it (by simp) o q,o,k l (by simp) o a,r⟩
 item:=λi s Q E d st h=>by
  obtain⟨b,a⟩:=st
  refine vg b a (x:=items[i]) (by simp[d]) λf c e=>h _ _ s.toks (by simp[d]) ⟨c,?_⟩ e
  obtain⟨o,q,r⟩:=a
  exact⟨o,(e.2 l hl).trans q,r⟩
 done:=λs Q E st h=>by
  obtain⟨b,a⟩:=st
  exact vB hh b a (by simp) h
structure LP(z TI TO i1 i2:bV)(fp1 fp2:List bV):Prop where
 TIz:TI≠z
 TOz:TO≠z
 i1z:i1≠z
 i2z:i2≠z
 TITO:TI≠TO
 TIi1:TI≠i1
 TIi2:TI≠i2
 TOi1:TO≠i1
 TOi2:TO≠i2
 i12:i1≠i2
 z1:z∉fp1
 T1:TO∉fp1
 i21:i2∉fp1
 z2:z∉fp2
 T2:TO∉fp2
 i12':i1∉fp2
theorem zf{prog:cg}{w:cC}{A:cO}{E:bQ->bS->Prop}{s:bS}{z TI TO i1 i2:bV}{fp1 fp2:List bV}{n1 n2 k1 k2:Nat}{P1 P2:Nat->bQ->Prop}{St1 St2:Nat->Heap->Prop}{a b:bQ}{Q:bQ->bS->Prop}
  (D1:Draws prog w A i1 fp1 n1 P1 St1)(D2:Draws prog w A i2 fp2 n2 P2 St2)(ap:LP z TI TO i1 i2 fp1 fp2)(hz:IsZip s.heap z TI TO .none)(hTI:IsPair s.heap TI (.ref i1) (.ref i2))(hTO:IsPair s.heap TO a b)
  (s1:St1 k1 s.heap)(s2:St2 k2 s.heap)(hk1:k1<n1)(hk2:k2<n2)
  (hQ:∀(x y:bQ) (h':Heap) (tk:Nat),P1 k1 x->P2 k2 y->IsZip h' z TI TO (rawInt s.heap.objs.size)->IsPair h' TO x y->St1 (k1+1) h'->St2 (k2+1) h'->IsPair h' s.heap.objs.size x y->h'.objs.size=s.heap.objs.size+1->
   (∀c o,c≠z->c≠TO->c≠i1->c≠i2->s.heap.get? c=some o->h'.get? c=some o)->Q (.ref s.heap.objs.size) {s with heap:=h',toks:=tk}):
  wpAny (model prog w) A (Builtin.«zip.__next__» {pos:=[.ref z]}) (λfin s'=>∃v,fin=qK (qL v)/\Q v s') E s:=by
 unfold Builtin.«zip.__next__»
 refine bM (bO ?_)
 refine bM (dN hz rfl rfl ?_)
 refine bM (dN hz rfl rfl ?_)
 refine bM (fh hTI rfl ?_)
 refine b7 rfl ?_
 unfold fi
 refine bM (bM (dN hz rfl rfl (bO ?_)))
 refine bM (io (bM (dN hz rfl rfl ?_)))
 refine bM (dY hz (by simp) λh1 U g=>?_)
 rw[show #[b5 i1,b5 i2].toList.zipIdx=[(b5 i1,0),(b5 i2,1)]from rfl,dD,bind_assoc]
 have F:IsPair h1 TO a b:=(g.2 TO ap.TOz).trans hTO
 have R:St1 k1 h1:=D1.frame _ _ _ s1 λc d o q=>(g.2 c (λe=>ap.z1 (e▸d))).trans q
 have K:St2 k2 h1:=D2.frame _ _ _ s2 λc d o q=>(g.2 c (λe=>ap.z2 (e▸d))).trans q
 refine bM (bM (mv ?_))
 refine(show wpAny (model prog w) A (if(dH false==dH true)=true then eB (.ref i1)else do let x<-dt (.ref i1);pure (some x)) _ _ _ from b7 rfl (bM (D1.item k1 _ _ _ hk1 R λx h2 aa px I l=>bO ?_)))
 have t:IsPair h2 TO a b:=(l.2 TO ap.TOi1).trans F
 refine bM (fh t rfl ?_)
 refine bM (lZ t λh3 G j=>?_)
 refine bM (j3 (bO ?_))
 dsimp only
 have u:IsPair h3 TO x b:=G
 have P:St1 (k1+1) h3:=D1.frame _ _ _ I λc d o q=>(j.2 c (λe=>ap.T1 (e▸d))).trans q
 have M:St2 k2 h3:=D2.frame _ _ _ K λc d o q=>(j.2 c (λe=>ap.T2 (e▸d))).trans ((l.2 c (λe=>ap.i12' (e▸d))).trans q)
 rw[dD,bind_assoc]
 refine bM (bM (mv ?_))
 refine(show wpAny (model prog w) A (if(dH false==dH true)=true then eB (.ref i2)else do let x<-dt (.ref i2);pure (some x)) _ _ _ from b7 rfl (bM (D2.item k2 _ _ _ hk2 M λy h4 W py Y k=>bO ?_)))
 have r:IsPair h4 TO x b:=(k.2 TO ap.TOi2).trans u
 refine bM (fh r rfl ?_)
 refine bM (lZ r λh5 H h=>?_)
 refine bM (j3 (bO ?_))
 dsimp only
 have m:IsPair h5 TO x y:=H
 rw[fL]
 refine bM (bO ?_)
 refine bM (fh m rfl ?_)
 refine bM (ir ?_ (by show 2<=sizeLine;decide))
 have C:h5.get? z=some {cls:=cX "zip",data:=lO #[Value.ellipsis,dH false,dH false,b5 TI,b5 TO]}:=
  (h.2 z (Ne.symm ap.TOz)).trans ((k.2 z (Ne.symm ap.i2z)).trans ((j.2 z (Ne.symm ap.TOz)).trans ((l.2 z (Ne.symm ap.i1z)).trans U)))
 unfold mh
 dsimp only
 have S:=bU (o:={cls:=cX "tuple",data:=ie [x,y].toArray}) C
 refine bM (bM (dY S (by simp) λh7 N n=>?_))
 refine dY N (by simp) λV L p=>?_
 have B:h5.objs.size=s.heap.objs.size:=by rw[h.1,k.1,j.1,l.1,g.1]
 have D:(h5.push {cls:=cX "tuple",data:=ie [x,y].toArray}).get? h5.objs.size=some {cls:=cX "tuple",data:=ie [x,y].toArray}:=b4 _ rfl
 have nz:h5.objs.size≠z:=Ne.symm (cF (b6 C))
 have T:St1 (k1+1) h5:=D1.frame _ _ _ P λc d o q=>(h.2 c (λe=>ap.T1 (e▸d))).trans ((k.2 c (λe=>ap.i21 (e▸d))).trans q)
 have O:St2 (k2+1) h5:=D2.frame _ _ _ Y λc d o q=>(h.2 c (λe=>ap.T2 (e▸d))).trans q
 have f:∀c o,c≠z->h5.get? c=some o->V.get? c=some o:=λc o d q=>(p.2 c d).trans ((n.2 c d).trans (bU _ q))
 refine bO ⟨_,rfl,?_⟩
 dsimp only
 rw[B]
 refine hQ x y V W px py ?_ (f TO _ ap.TOz m) (D1.frame _ _ _ T λc d o q=>f c o (λe=>ap.z1 (e▸d)) q) (D2.frame _ _ _ O λc d o q=>f c o (λe=>ap.z2 (e▸d)) q) ?_ ?_ (λc o X J c3 Z q=>?_)
 ·rw[<-B];exact L
 ·rw[<-B];exact(p.2 _ nz).trans ((n.2 _ nz).trans D)
 ·rw[p.1,n.1]
  show(h5.push _).objs.size=_
  unfold kG
  simp[B]
 ·exact f c o X ((h.2 c J).trans ((k.2 c Z).trans ((j.2 c J).trans ((l.2 c c3).trans ((g.2 c X).trans q)))))
theorem uy{prog:cg}{w:cC}{A:cO}{E:bQ->bS->Prop}{s:bS}{z:bV}{Q:Option bQ->bS->Prop}(ht:s.TypeIs (.ref z) "zip")
  (h:wpAny (model prog w) A.in1 (Builtin.«zip.__next__» {pos:=[.ref z]}) (λfin s'=>∃v,fin=qK (qL v)/\Q (some v) s') (λe s'=>(∃a o,e = .ref a/\s'.heap.get? a=some o/\o.cls = .type "StopIteration")/\Q none s') s):
  wpAny (model prog w) A (pyNext (.ref z)) Q E s:=by
 unfold pyNext
 refine bM (f8 (dA ht oz (df oz ht F.entry_zip_next ?_ (F.args_zip_next_1 _))))
 refine eK h (λfin s' b=>?_) (λe s' b=>?_)
 ·obtain⟨v,e,q⟩:=b
  exact⟨v,e,bO q⟩
 ·obtain⟨⟨a,o,rfl,d,c⟩,q⟩:=b
  refine bM (dQ (T:="StopIteration") ⟨o,d,c⟩ jL ?_)
  exact bO q
theorem AN{prog:cg}{w:cC}{A:cO}{E:bQ->bS->Prop}{s:bS}{z TI TO i1 i2:bV}{fp1:List bV}{n1:Nat}{P1:Nat->bQ->Prop}{St1:Nat->Heap->Prop}{a b:bQ}{Q:PySem.Fin->bS->Prop}
  (D1:Draws prog w A i1 fp1 n1 P1 St1)(i1z:i1≠z)(z1:z∉fp1)(hz:IsZip s.heap z TI TO .none)(hTI:IsPair s.heap TI (.ref i1) (.ref i2))(hTO:IsPair s.heap TO a b)(s1:St1 n1 s.heap)
  (hE:∀(h':Heap) (e:bV),(∀c o,c≠z->c≠i1->s.heap.get? c=some o->h'.get? c=some o)->(∃o,h'.get? e=some o/\o.cls = .type "StopIteration")->E (.ref e) {s with heap:=h'}):
  wpAny (model prog w) A (Builtin.«zip.__next__» {pos:=[.ref z]}) Q E s:=by
 unfold Builtin.«zip.__next__»
 refine bM (bO ?_)
 refine bM (dN hz rfl rfl ?_)
 refine bM (dN hz rfl rfl ?_)
 refine bM (fh hTI rfl ?_)
 refine b7 rfl ?_
 unfold fi
 refine bM (bM (dN hz rfl rfl (bO ?_)))
 refine bM (io (bM (dN hz rfl rfl ?_)))
 refine bM (dY hz (by simp) λh1 n g=>?_)
 rw[show #[b5 i1,b5 i2].toList.zipIdx=[(b5 i1,0),(b5 i2,1)]from rfl,dD,bind_assoc]
 have l:St1 n1 h1:=D1.frame _ _ _ s1 λc f o q=>(g.2 c (λe=>z1 (e▸f))).trans q
 refine bM (bM (mv ?_))
 refine(show wpAny (model prog w) A (if(dH false==dH true)=true then eB (.ref i1)else do let x<-dt (.ref i1);pure (some x)) _ _ _ from b7 rfl (bM (D1.done _ _ _ l λh2 e k d=>?_)))
 have j:h2.get? z=some _:=k z _ (Ne.symm i1z) n
 refine dY j (by simp) λh3 t h=>?_
 obtain⟨o,d,f⟩:=d
 have m:e≠z:=λq=>by
  rw[q,j]at d
  cases d
  exact absurd (cX.inj f) (by decide)
 exact hE h3 e (λc o p r q=>(h.2 c p).trans (k c o r ((g.2 c p).trans q))) ⟨o,(h.2 e m).trans d,f⟩
def Sqx(h:Heap)(tp:Bool)(l:bV)(items:Array bQ):Prop:=if tp=true then h.IsTuple l items else h.IsList l items
def Itx(h:Heap)(tp:Bool)(it l:bV)(i:Nat):Prop:=if tp=true then h.IsTupleIter it l i else h.IsListIter it l i
def Hk(tp:Bool)(l:bV):Obj:={cls:= .type (if tp=true then"tuple_iterator"else"list_iterator"),data:= .fields #[.ref l,.int 0 0]}
theorem wW{prog:cg}{w:cC}{A:cO}{E:bQ->bS->Prop}{s:bS}{tp:Bool}{l:bV}{items:Array bQ}{Q:bQ->bS->Prop}(h:Sqx s.heap tp l items)(hQ:Q (.ref s.heap.objs.size) {s with heap:=s.heap.push (Hk tp l)}):wpAny (model prog w) A (pyIter (.ref l)) Q E s:=by
 cases tp with
 | true=>exact mE h hQ
 | false=>exact g8 h hQ
theorem Sqx.keep{h h':Heap}{tp:Bool}{l:bV}{items:Array bQ}(q:Sqx h tp l items)(k:∀o,h.get? l=some o->h'.get? l=some o):Sqx h' tp l items:=by
 cases tp with
 | true=>obtain⟨o,a,r⟩:=(show h.IsTuple l items from q);exact⟨o,k o a,r⟩
 | false=>obtain⟨o,a,r⟩:=(show h.IsList l items from q);exact⟨o,k o a,r⟩
theorem Sqx.lt{h:Heap}{tp:Bool}{l:bV}{items:Array bQ}(q:Sqx h tp l items):l<h.objs.size:=by
 cases tp with
 | true=>obtain⟨o,a,r⟩:=(show h.IsTuple l items from q);exact b6 a
 | false=>obtain⟨o,a,r⟩:=(show h.IsList l items from q);exact b6 a
theorem Itx.new{h:Heap}{tp:Bool}{it l:bV}(e:h.get? it=some (Hk tp l)):Itx h tp it l 0:=by
 cases tp with
 | true=>exact⟨_,e,rfl,rfl⟩
 | false=>exact⟨_,e,rfl,rfl⟩
theorem Itx.keep{h h':Heap}{tp:Bool}{it l:bV}{i:Nat}(q:Itx h tp it l i)(k:∀o,h.get? it=some o->h'.get? it=some o):Itx h' tp it l i:=by
 cases tp with
 | true=>exact Heap.IsTupleIter.at q k
 | false=>exact Heap.IsListIter.at q k
theorem Itx.get{h:Heap}{tp:Bool}{it l:bV}{i:Nat}(q:Itx h tp it l i):∃vs n,h.get? it=some {cls:= .type n,data:= .fields vs}\/∃o,h.get? it=some o/\o.data = .fields vs:=by
 cases tp with
 | true=>obtain⟨o,e,c,d⟩:=(show h.IsTupleIter it l i from q);exact⟨_,"",.inr ⟨o,e,d⟩⟩
 | false=>obtain⟨o,e,c,d⟩:=(show h.IsListIter it l i from q);exact⟨_,"",.inr ⟨o,e,d⟩⟩
theorem uq{prog:cg}{w:cC}{A:cO}(hh:A.handled=none)(tp:Bool)(it l:bV)(hl:l≠it)(items:Array bQ):Draws prog w A it [it,l] items.size (λi v=>items[i]?=some v) (λi h=>Itx h tp it l i/\Sqx h tp l items):=by
 cases tp with
 | true=>exact yS hh it l hl items
 | false=>exact Draws.list hh it l hl items
theorem As(l1 l2:bV)(t1 t2:Bool)(xs ys:Array bQ):Meets (Builtin.«zip.__new__» {pos:=[.type "zip",.ref l1,.ref l2]}) (λ_ R s=>Sqx s.heap t1 l1 xs/\Sqx s.heap t2 l2 ys/\
  R (.ok (.ret (.ref (s.heap.objs.size+4)))) {s with heap:=((((s.heap.push (Hk t1 l1)).push (Hk t2 l2)).push {cls:= .type "tuple",data:= .seq #[.ref s.heap.objs.size,.ref (s.heap.objs.size+1)]}).push {cls:= .type "tuple",data:= .seq #[.none,.none]}).push {cls:= .type "zip",data:= .fields #[.none,.bool false,.bool false,.ref (s.heap.objs.size+2),.ref (s.heap.objs.size+3)]}}):=by
 refine Meets.of_wp λc w A R s h=>?_
 obtain⟨h1,h2,d⟩:=h
 have a:=sub_zip
 unfold Builtin.«zip.__new__» oF
 refine bM (bM (bO ?_))
 refine b7 rfl (bM (eQ a (b7 rfl (bO ?_))))
 refine b7 rfl ?_
 unfold oX
 dsimp only
 rw[dD]
 refine bM (bM (bM (bM (cR (wW h1 (bO ?_))))))
 dsimp only
 rw[dD]
 have b:Sqx (s.heap.push (Hk t1 l1)) t2 l2 ys:=h2.keep λo q=>bU _ q
 refine bM (bM (cR (wW (s:={s with heap:=s.heap.push (Hk t1 l1)}) b (bO ?_))))
 dsimp only
 rw[fL]
 have e:∀(h:Heap) (o:Obj),(h.push o).objs.size=h.objs.size+1:=λh o=>by unfold kG;simp
 refine bO (bO ?_)
 refine bM (ir ?_ (by show 2<=sizeLine;decide))
 refine bM (ir ?_ (by show 2<=sizeLine;decide))
 unfold oA
 refine bM (d5 ?_ (by show(5:Nat)<=sizeLine+2;decide))
 refine bO ⟨_,rfl,?_⟩
 simp only[e]
 exact d
def KL(K:bN)(H:Hp)(tp:Bool)(a:bV)(xs:List V):Prop:=if tp=true then SqT K H a xs else SqL K H a xs
structure ZipB(z TI TO i1 i2 l1 l2:bV):Prop where
 TIz:TI≠z
 TOz:TO≠z
 i1z:i1≠z
 i2z:i2≠z
 TITO:TI≠TO
 TIi1:TI≠i1
 TIi2:TI≠i2
 TOi1:TO≠i1
 TOi2:TO≠i2
 i12:i1≠i2
 l1z:l1≠z
 l1T:l1≠TO
 l1i:l1≠i1
 l1j:l1≠i2
 l2z:l2≠z
 l2T:l2≠TO
 l2i:l2≠i1
 l2j:l2≠i2
theorem ZipB.a{z TI TO i1 i2 l1 l2:bV}(b:ZipB z TI TO i1 i2 l1 l2):LP z TI TO i1 i2 [i1,l1] [i2,l2]:=
 ⟨b.TIz,b.TOz,b.i1z,b.i2z,b.TITO,b.TIi1,b.TIi2,b.TOi1,b.TOi2,b.i12,by simp[Ne.symm b.i1z,Ne.symm b.l1z],by simp[b.TOi1,Ne.symm b.l1T],by simp[Ne.symm b.i12,Ne.symm b.l1j],by simp[Ne.symm b.i2z,Ne.symm b.l2z],by simp[b.TOi2,Ne.symm b.l2T],by simp[b.i12,Ne.symm b.l2i]⟩
section
variable{X:Cx}{pins:List (bV×Obj)}{σ:St}{H:Hp}{s:bS}
theorem Inv.sqx(I:Inv X pins σ H s){tp:Bool}{a:bV}{xs:List V}(h:KL X.K H tp a xs):∃its:List bQ,Vals xs its/\Sqx s.heap tp a its.toArray:=by
 cases tp with
 | true=>obtain⟨its,r,p,_⟩:=I.tuple h;exact⟨its,r,p⟩
 | false=>obtain⟨its,r,p,_⟩:=I.list h;exact⟨its,r,p.isList⟩
theorem Inv.sqb_inj(I:Inv X pins σ H s){tp:Bool}{a:bV}{xs ys:List V}(h:KL X.K H tp a xs)(h':KL X.K H tp a ys):xs=ys:=by
 cases tp with
 | true=>exact I.tuple_inj h h'
 | false=>exact I.list_inj h h'
end
def NV(K:bN)(t1 t2:Bool)(a b:bV):It:=
 ⟨λi H=>∃xs ys x y,KL K H t1 a xs/\KL K H t2 b ys/\xs[i]?=some x/\ys[i]?=some y,
  λi H v H'=>∃x y t,(∀xs,KL K H t1 a xs->xs[i]?=some x)/\(∀ys,KL K H t2 b ys->ys[i]?=some y)/\v = .ref t/\H t=none/\H'=upd H t (.tup [x,y]),
  λi H=>∃xs,KL K H t1 a xs/\xs.length=i⟩
theorem Cd{P:cg}{w:cC}{K:bN}{elts:List Expr}{x1:Nat}{pos:Pos}(t1 t2:Bool)(l1 l2 z TI TO i1 i2:bV)(ap:ZipB z TI TO i1 i2 l1 l2):
  JY P w K (.Tuple elts x1 pos) (NV K t1 t2 l1 l2) [z,TI,TO,i1,i2] z (λi h=>IsZip h z TI TO .none/\IsPair h TI (.ref i1) (.ref i2)/\(∃a b,IsPair h TO a b)/\Itx h t1 i1 l1 i/\Itx h t2 i2 l2 i) where
 mem:=by simp
 obj:=λi h st b f=>by
  obtain⟨j,p,⟨a,c,r⟩,m,t⟩:=st
  simp only[cj,gE,or_false]at f
  rcases f with rfl|rfl|rfl|rfl|rfl
  ·exact⟨_,j,λv z=>by cases z⟩
  ·exact⟨_,p,λv z=>by cases z⟩
  ·exact⟨_,r,λv z=>by cases z⟩
  ·cases t1 with
   | true=>obtain⟨o,e,_,d⟩:=(show h.IsTupleIter _ _ _ from m);exact⟨o,e,λv z=>by rw[d]at z;cases z⟩
   | false=>obtain⟨o,e,_,d⟩:=(show h.IsListIter _ _ _ from m);exact⟨o,e,λv z=>by rw[d]at z;cases z⟩
  ·cases t2 with
   | true=>obtain⟨o,e,_,d⟩:=(show h.IsTupleIter _ _ _ from t);exact⟨o,e,λv z=>by rw[d]at z;cases z⟩
   | false=>obtain⟨o,e,_,d⟩:=(show h.IsListIter _ _ _ from t);exact⟨o,e,λv z=>by rw[d]at z;cases z⟩
 keep:=λi h F st k=>by
  obtain⟨j,p,⟨a,c,r⟩,m,t⟩:=st
  exact⟨k z (by simp) _ j,k TI (by simp) _ p,⟨a,c,k TO (by simp) _ r⟩,m.keep λo q=>k i1 (by simp) o q,t.keep λo q=>k i2 (by simp) o q⟩
 item:=by
  intro X U hw hK Z i l s Q H E I V st Y
  subst U hw hK
  obtain⟨xs,ys,x,y,D,S,hx,hy⟩:=Y
  obtain⟨g,G,T⟩:=I.sqx D
  obtain⟨C,ah,p2⟩:=I.sqx S
  obtain⟨u,hu,ru⟩:=G.get hx
  obtain⟨v,hv,rv⟩:=ah.get hy
  obtain⟨j,p,⟨a,c,r⟩,m,t⟩:=st
  have O:=I.ok.hd Z
  have ad:i<g.toArray.size:=by rw[cc];exact(b8.mp hu).1
  have al:i<C.toArray.size:=by rw[cc];exact(b8.mp hv).1
  refine uy ⟨_,j,rfl⟩ (zf (uq (A:=X.A.in1) O t1 i1 l1 ap.l1i g.toArray) (uq (A:=X.A.in1) O t2 i2 l2 ap.l2j C.toArray) ap.a j p r ⟨m,T⟩ ⟨t,p2⟩ ad al λL N F tk px py aj aa ak ag ab an R=>?_)
  have ex:L=u:=by
   have:g.toArray[i]?=some L:=px
   rw[i9,hu]at this
   exact(Option.some.inj this).symm
  have ey:N=v:=by
   have:C.toArray[i]?=some N:=py
   rw[i9,hv]at this
   exact(Option.some.inj this).symm
  subst ex ey
  have B:∀b o,s.heap.get? b=some o->b≠s.heap.objs.size:=λb o q=>cF (b6 q)
  have hn:H s.heap.objs.size=none:=I.hok.fresh (bX _)
  have af:∀b∈[z,TI,TO,i1,i2],b≠s.heap.objs.size:=λb f=>by
   simp only[cj,gE,or_false]at f
   rcases f with rfl|rfl|rfl|rfl|rfl
   ·exact B _ _ j
   ·exact B _ _ p
   ·exact B _ _ r
   ·obtain⟨vs,n,e|⟨o,e,_⟩⟩:=m.get
    ·exact B _ _ e
    ·exact B _ _ e
   ·obtain⟨vs,n,e|⟨o,e,_⟩⟩:=t.get
    ·exact B _ _ e
    ·exact B _ _ e
  have I0:Inv X l Q (upd H s.heap.objs.size (.tup [x,y])) {s with heap:=s.heap.push {cls:= .type "tuple",data:= .seq #[L,N]},toks:=s.toks}:=
   I.laid (t':=s.toks) (λb o q=>bU _ q) (bX _) ⟨by show 2<=sizeLine;decide,[L,N],.cons ru (.cons rv .nil),⟨_,b4 _ rfl,rfl,_,rfl⟩⟩
  have J:∀b∈[z,TI,TO,i1,i2],HP X l (upd H s.heap.objs.size (.tup [x,y])) b:=λb f=>by
   have q:=V b f
   exact⟨by rw[rR (af b f)];exact q.1,q.2⟩
  have I1:Inv X l Q (upd H s.heap.objs.size (.tup [x,y])) {s with heap:=F,toks:=tk}:=
   Inv.turnedL (s:={s with heap:=s.heap.push {cls:= .type "tuple",data:= .seq #[L,N]},toks:=s.toks}) I0 (fp:=[z,TI,TO,i1,i2]) (t':=tk) (λb o f q=>by
    simp only[cj,gE,or_false,not_or]at f
    rcases tW q rfl with q|⟨rfl,rfl⟩
    ·exact R b o f.1 f.2.2.1 f.2.2.2.1 f.2.2.2.2 q
    ·exact ab) J
  refine⟨_,rfl,wpAny_letOwnedTupleGo_zip (s:={s with heap:=F,toks:=tk}) aj λh2 ai M=>?_⟩
  have I2:Inv X l Q (upd H s.heap.objs.size (.tup [x,y])) {s with heap:=h2,toks:=tk}:=
   Inv.turnedL (s:={s with heap:=F,toks:=tk}) I1 (fp:=[z,TI,TO,i1,i2]) (t':=tk) (λb o f q=>(M.2 b (λe=>f (by simp[e]))).trans q) J
  have ac:IsPair F TI (.ref i1) (.ref i2):=R TI _ ap.TIz ap.TITO ap.TIi1 ap.TIi2 p
  refine⟨.ref s.heap.objs.size,_,I2,rfl,⟨x,y,_,λaq h=>by rw[I.sqb_inj h D];exact hx,λam h=>by rw[I.sqb_inj h S];exact hy,rfl,hn,rfl⟩,⟨ai,(M.2 TI ap.TIz).trans ac,⟨_,_,(M.2 TO ap.TOz).trans aa⟩,ak.1.keep λo q=>(M.2 i1 ap.i1z).trans q,ag.1.keep λo q=>(M.2 i2 ap.i2z).trans q⟩,λb f=>(J b f).1⟩
 done:=by
  intro X U hw hK Z i l s Q H E I V st Y
  subst U hw hK
  obtain⟨xs,D,ao⟩:=Y
  obtain⟨g,G,T⟩:=I.sqx D
  obtain⟨j,p,⟨a,c,r⟩,m,t⟩:=st
  have O:=I.ok.hd Z
  have hl:=G.length
  have en:i=g.toArray.size:=by rw[cc];omega
  subst en
  refine uy ⟨_,j,rfl⟩ (AN (uq (A:=X.A.in1) O t1 i1 l1 ap.l1i g.toArray) ap.i1z (by simp[Ne.symm ap.i1z,Ne.symm ap.l1z]) j p r ⟨m,T⟩ λF e R ho=>?_)
  obtain⟨o,ho,ae⟩:=ho
  exact⟨⟨e,o,rfl,ho,ae⟩,rfl,I.turnedL (fp:=[z,TI,TO,i1,i2]) (t':=s.toks) (λb o f q=>R b o (λz=>f (by simp[z])) (λz=>f (by simp[z])) q) V⟩
 self:=λ_ _ _ _ _ st h=>by
  obtain⟨j,_⟩:=st
  exact kJ j h
theorem x9{prog:cg}{w:cC}{A:cO}{E:bQ->bS->Prop}{s:bS}{l1 l2:bV}{t1 t2:Bool}{xs ys:Array bQ}{Q:bQ->bS->Prop}(h1:Sqx s.heap t1 l1 xs)(h2:Sqx s.heap t2 l2 ys)
  (h:∀h':Heap,IsZip h' (s.heap.objs.size+4) (s.heap.objs.size+2) (s.heap.objs.size+3) .none->IsPair h' (s.heap.objs.size+2) (.ref s.heap.objs.size) (.ref (s.heap.objs.size+1))->IsPair h' (s.heap.objs.size+3) .none .none->
   Itx h' t1 s.heap.objs.size l1 0->Itx h' t2 (s.heap.objs.size+1) l2 0->h'.objs.size=s.heap.objs.size+5->(∀c o,s.heap.get? c=some o->h'.get? c=some o)->Q (.ref (s.heap.objs.size+4)) {s with heap:=h'}):
  wpAny (model prog w) A (call (.type "zip") [.ref l1,.ref l2]) Q E s:=by
 refine callType_new F.called_zip (by decide) (F.typeCall_zip_2 _ _) (F.newCall_zip_2 _ _) (λG=>F.args_object_init_3 G _ _) F.entry_zip_new (As l1 l2 t1 t2 xs ys) ⟨h1,h2,?_⟩
 have a:∀(h:Heap) (o:Obj),(h.push o).objs.size=h.objs.size+1:=λh o=>by unfold kG;simp
 have r:∀(h:Heap) (o:Obj) (n:Nat),h.objs.size=n->o.isFreed=false->(h.push o).get? n=some o:=λh o n e f=>by rw[<-e];exact b4 _ f
 have fr:∀y l,(Hk y l).isFreed=false:=λy l=>rfl
 generalize ho1:Hk t1 l1=v
 generalize ho2:Hk t2 l2=t
 have I:v.isFreed=false:=by rw[<-ho1];rfl
 have H:t.isFreed=false:=by rw[<-ho2];rfl
 generalize hq1:s.heap.push v=g
 have C:g.objs.size=s.heap.objs.size+1:=by rw[<-hq1];exact a _ _
 have g1:g.get? s.heap.objs.size=some v:=by rw[<-hq1];exact b4 _ I
 have J:∀c o,s.heap.get? c=some o->g.get? c=some o:=λc o q=>by rw[<-hq1];exact bU _ q
 generalize hq2:g.push t=d
 have z:d.objs.size=s.heap.objs.size+2:=by rw[<-hq2,a,C]
 have g2:d.get? (s.heap.objs.size+1)=some t:=by rw[<-hq2];exact r _ _ _ C H
 have D:∀c o,g.get? c=some o->d.get? c=some o:=λc o q=>by rw[<-hq2];exact bU _ q
 generalize hq3:d.push {cls:=cX "tuple",data:=ie #[b5 s.heap.objs.size,b5 (s.heap.objs.size+1)]}=j
 have B:j.objs.size=s.heap.objs.size+3:=by rw[<-hq3,a,z]
 have g3:j.get? (s.heap.objs.size+2)=some {cls:=cX "tuple",data:=ie #[b5 s.heap.objs.size,b5 (s.heap.objs.size+1)]}:=by rw[<-hq3];exact r _ _ _ z rfl
 have u:∀c o,d.get? c=some o->j.get? c=some o:=λc o q=>by rw[<-hq3];exact bU _ q
 generalize hq4:j.push {cls:=cX "tuple",data:=ie #[bQ.none,bQ.none]}=b
 have x:b.objs.size=s.heap.objs.size+4:=by rw[<-hq4,a,B]
 have g4:b.get? (s.heap.objs.size+3)=some {cls:=cX "tuple",data:=ie #[bQ.none,bQ.none]}:=by rw[<-hq4];exact r _ _ _ B rfl
 have m:∀c o,j.get? c=some o->b.get? c=some o:=λc o q=>by rw[<-hq4];exact bU _ q
 generalize hq5:b.push {cls:=cX "zip",data:=lO #[bQ.none,dH false,dH false,b5 (s.heap.objs.size+2),b5 (s.heap.objs.size+3)]}=p
 have K:p.objs.size=s.heap.objs.size+5:=by rw[<-hq5,a,x]
 have g5:p.get? (s.heap.objs.size+4)=some {cls:=cX "zip",data:=lO #[bQ.none,dH false,dH false,b5 (s.heap.objs.size+2),b5 (s.heap.objs.size+3)]}:=by rw[<-hq5];exact r _ _ _ x rfl
 have k:∀c o,b.get? c=some o->p.get? c=some o:=λc o q=>by rw[<-hq5];exact bU _ q
 exact⟨⟨_,g5,rfl⟩,h p g5 (k _ _ (m _ _ g3)) (k _ _ g4) (Itx.new (by rw[ho1];exact k _ _ (m _ _ (u _ _ (D _ _ g1))))) (Itx.new (by rw[ho2];exact k _ _ (m _ _ (u _ _ g2)))) K λc o q=>k _ _ (m _ _ (u _ _ (D _ _ (J _ _ q))))⟩
theorem zp{n l1 l2:Nat}(h1:l1<n)(h2:l2<n):ZipB (n+4) (n+2) (n+3) n (n+1) l1 l2:=by
 have d:∀a b:Nat,a<b->a≠b:=λa b h=>cF h;exact⟨d _ _ (by omega),d _ _ (by omega),d _ _ (by omega),d _ _ (by omega),d _ _ (by omega),(d _ _ (by omega)).symm,(d _ _ (by omega)).symm,(d _ _ (by omega)).symm,(d _ _ (by omega)).symm,d _ _ (by omega),
  d _ _ (by omega),d _ _ (by omega),d _ _ (by omega),d _ _ (by omega),d _ _ (by omega),d _ _ (by omega),d _ _ (by omega),d _ _ (by omega)⟩
def N1(K:bN)(ta:TA):TI:=λσ H R=>ta σ H λvs H1=>∃(t1 t2:Bool) (a b:bV),vs=[.ref a,.ref b]/\(∃xs,KL K H1 t1 a xs)/\(∃ys,KL K H1 t2 b ys)/\R (NV K t1 t2 a b) H1
section
variable{X:Cx}
theorem Dl{elts:List Expr}{x1:Nat}{tpos:Pos}{a b:Expr}{ta:TA}{p pos:Pos}(hg:Gl X "zip")(hm:X.mg "zip"=none)(ha:PA X [a,b] ta)(hs:cD [a,b] X.env=[(false,eval a X.env),(false,eval b X.env)]:=by rfl)(hs2:cD [b] X.env=[(false,eval b X.env)]:=by rfl):
  PI X (.Tuple elts x1 tpos) (.Call (.Name "zip" p) [a,b] [] pos) (N1 X.K ta):=by
 intro d s x H R I h
 refine rk (t7 I hg hm lI (du (Fw (ha pos d s x H _ I h) λU c ⟨vs,o,f,D,J⟩=>?_) (by rw[hs,hs2]) (by rw[hs2];rfl)))
 obtain⟨B,E,C,F,e,⟨V,P⟩,⟨W,L⟩,q⟩:=J
 subst e
 obtain⟨u,v,rfl,G,z⟩:=Kd D
 cases G
 cases z
 obtain⟨N,T,l⟩:=f.sqx P
 obtain⟨M,S,t⟩:=f.sqx L
 refine x9 l t λr k m j n y Q O=>?_
 refine kJ (s:={c with heap:=r}) k ?_
 have A:Inv X d x o {c with heap:=r}:=f.kept (t':=c.toks) O
 refine⟨_,[c.heap.objs.size+4,c.heap.objs.size+2,c.heap.objs.size+3,c.heap.objs.size,c.heap.objs.size+1],_,_,o,rfl,A,Cd B E C F _ _ _ _ _ (zp l.lt t.lt),⟨k,m,⟨_,_,j⟩,n,y⟩,λb w=>?_,q⟩
 have g:c.heap.objs.size<=b:=by
  simp only[cj,gE,or_false]at w
  rcases w with rfl|rfl|rfl|rfl|rfl <;> omega
 exact f.fpOk g (f.hok.fresh g)
end
theorem x0{K:bN}{t1 t2:Bool}{a b:bV}{xs ys:List V}{caps:List (Option Nat)}{g:TG}{te:TE}{σ:St}{QQ:List V->Hp->Prop}{H:Hp}(Pv:Nat->List V->Hp->Prop)(he:xs.length=ys.length)(h0:Pv 0 [] H)
  (hl:∀i zs H,i<=xs.length->Pv i zs H->KL K H t1 a xs/\KL K H t2 b ys)
  (hs:∀i x y zs H t,xs[i]?=some x->ys[i]?=some y->H t=none->Pv i zs H->g (.ref t) (Gb caps σ) (upd H t (.tup [x,y])) λσ2 H2=>te σ2 H2 λv H4=>zs.length<sizeLine/\Pv (i+1) (zs++[v]) H4)
  (hd:∀zs H,Pv xs.length zs H->QQ zs H):FT caps g Hs te σ QQ (NV K t1 t2 a b) H:=by
 refine⟨λi m zs H=>m=xs.length-i/\i<=xs.length/\Pv i zs H,⟨xs.length,by simp,cM _,h0⟩,?_⟩
 rintro i m zs H ⟨rfl,n,p⟩
 obtain⟨d,f⟩:=hl i zs H n p
 by_cases c:i<xs.length
 ·refine .inr ⟨⟨xs,ys,xs[i],ys[i],d,f,by simp[c],by simp[show i<ys.length by omega]⟩,Pv (i+1),λo l j=>⟨xs.length-(i+1),by omega,rfl,c,j⟩,λx l y=>?_⟩
  obtain⟨h,k,t,h1,h2,rfl,h3,rfl⟩:=y
  simp only[tZ]
  exact hs i h k zs H t (h1 xs d) (h2 ys f) h3 p
 ·have e:i=xs.length:=by omega
  subst e
  exact .inl ⟨⟨xs,d,rfl⟩,hd zs H p⟩
theorem C5{M:Model}{A:cO}{E:bQ->bS->Prop}{s:bS}{a:bV}{Q:Option Obj->bS->Prop}(h:Q (s.heap.get? a) s):wpAny M A (loadIfAlive a) Q E s:=λb p hA=>by
 show Sem.wp M b (Sem.loadIfAlive a Sem.pure) _ _ p s;rw[Sem.wp_loadIfAlive];exact bO h b p hA
def F8(h:Heap)(z TI TO T:bV):Prop:=∃(f1:Bool) (o:Obj),h.get? z=some {cls:= .type "zip",data:= .fields #[rawInt T,.bool f1,.bool false,.ref TI,.ref TO]}/\h.get? T=some o
theorem uL{prog:cg}{w:cC}{A:cO}{E:bQ->bS->Prop}{s:bS}{z TI TO T:bV}{Q:Bool->bS->Prop}(hz:F8 s.heap z TI TO T)(hne:T≠z)(hQ:∀h':Heap,F8 h' z TI TO T->eS z s.heap h'->Q false {s with heap:=h'}):
  wpAny (model prog w) A (fi (.ref z)) Q E s:=by
 obtain⟨d,o,hz,a⟩:=hz
 unfold fi
 refine bM (dN hz rfl rfl ?_)
 refine bM (C5 ?_)
 rw[show s.heap.get? ((T:Int)).toNat=some o from a]
 refine b7 rfl ?_
 refine bM (dN hz rfl rfl ?_)
 cases d with
 | false=>
  refine iq rfl (bM (dY hz (by simp) λh' b c=>bO (hQ h' ⟨true,o,b,(c.2 T hne).trans a⟩ c)))
 | true=>
  refine b7 rfl (bO (hQ s.heap ⟨true,o,hz,a⟩ ⟨rfl,λ_ _=>rfl⟩))
theorem AF{prog:cg}{w:cC}{A:cO}{E:bQ->bS->Prop}{s:bS}{z TI TO i1 i2 T:bV}{fp1 fp2:List bV}{n1 n2 k1 k2:Nat}{P1 P2:Nat->bQ->Prop}{St1 St2:Nat->Heap->Prop}{Q:bQ->bS->Prop}
  (D1:Draws prog w A i1 fp1 n1 P1 St1)(D2:Draws prog w A i2 fp2 n2 P2 St2)(ap:LP z TI TO i1 i2 fp1 fp2)(hz:F8 s.heap z TI TO T)(hne:T≠z)(hn1:T≠i1)(hn2:T≠i2)(hTI:IsPair s.heap TI (.ref i1) (.ref i2))
  (s1:St1 k1 s.heap)(s2:St2 k2 s.heap)(hk1:k1<n1)(hk2:k2<n2)
  (hQ:∀(x y:bQ) (h':Heap) (tk:Nat),P1 k1 x->P2 k2 y->F8 h' z TI TO T->St1 (k1+1) h'->St2 (k2+1) h'->IsPair h' s.heap.objs.size x y->h'.objs.size=s.heap.objs.size+1->
   (∀c o,c≠z->c≠i1->c≠i2->s.heap.get? c=some o->h'.get? c=some o)->Q (.ref s.heap.objs.size) {s with heap:=h',toks:=tk}):
  wpAny (model prog w) A (Builtin.«zip.__next__» {pos:=[.ref z]}) (λfin s'=>∃v,fin=qK (qL v)/\Q v s') E s:=by
 have u:=hz
 obtain⟨O,o,g,P⟩:=u
 unfold Builtin.«zip.__next__»
 refine bM (bO ?_)
 refine bM (dN g rfl rfl ?_)
 refine bM (dN g rfl rfl ?_)
 refine bM (fh hTI rfl ?_)
 refine b7 rfl ?_
 refine bM (uL hz hne λh1 F f=>?_)
 refine b7 rfl ?_
 dsimp only
 rw[<-gS]
 rw[show #[b5 i1,b5 i2].toList=[b5 i1,b5 i2]from rfl,dD,bind_assoc]
 have B:St1 k1 h1:=D1.frame _ _ _ s1 λc d o q=>(f.2 c (λe=>ap.z1 (e▸d))).trans q
 have p:St2 k2 h1:=D2.frame _ _ _ s2 λc d o q=>(f.2 c (λe=>ap.z2 (e▸d))).trans q
 refine bM (bM (cR ?_))
 refine(show wpAny (model prog w) A (if(dH false==dH true)=true then eB (.ref i1)else do let x<-dt (.ref i1);pure (some x)) _ _ _ from b7 rfl (bM (D1.item k1 _ _ _ hk1 B λx h2 N L n b=>bO (bO ?_))))
 dsimp only
 have C:St2 k2 h2:=D2.frame _ _ _ p λc d o q=>(b.2 c (λe=>ap.i12' (e▸d))).trans q
 rw[dD,bind_assoc]
 refine bM (bM (cR ?_))
 refine(show wpAny (model prog w) A (if(dH false==dH true)=true then eB (.ref i2)else do let x<-dt (.ref i2);pure (some x)) _ _ _ from b7 rfl (bM (D2.item k2 _ _ _ hk2 C λy h3 H K r a=>bO (bO ?_))))
 dsimp only
 rw[fL]
 refine bM (bO ?_)
 dsimp only
 refine bM (ir ?_ (by show 2<=sizeLine;decide))
 refine bO ⟨_,rfl,?_⟩
 have k:h3.objs.size=s.heap.objs.size:=by rw[a.1,b.1,f.1]
 have t:St1 (k1+1) h3:=D1.frame _ _ _ n λc d o q=>(a.2 c (λe=>ap.i21 (e▸d))).trans q
 have M:∀c o,c≠z->c≠i1->c≠i2->s.heap.get? c=some o->h3.get? c=some o:=λc o m h j q=>(a.2 c j).trans ((b.2 c h).trans ((f.2 c m).trans q))
 obtain⟨g1,G,l,D⟩:=F
 have I:h3.get? z=some _:=(a.2 z (Ne.symm ap.i2z)).trans ((b.2 z (Ne.symm ap.i1z)).trans l)
 have J:h3.get? T=some G:=(a.2 T hn2).trans ((b.2 T hn1).trans D)
 dsimp only
 rw[k]
 refine hQ x y _ H L K ⟨g1,G,bU _ I,bU _ J⟩ (D1.frame _ _ _ t λc _ o q=>bU _ q) (D2.frame _ _ _ r λc _ o q=>bU _ q) ?_ ?_ (λc o m h j q=>bU _ (M c o m h j q))
 ·rw[<-k];exact b4 _ rfl
 ·show(h3.push _).objs.size=_
  unfold kG
  simp[k]
theorem Db{prog:cg}{w:cC}{A:cO}{E:bQ->bS->Prop}{s:bS}{z TI TO i1 i2 T:bV}{fp1:List bV}{n1:Nat}{P1:Nat->bQ->Prop}{St1:Nat->Heap->Prop}{Q:PySem.Fin->bS->Prop}
  (D1:Draws prog w A i1 fp1 n1 P1 St1)(z1:z∉fp1)(hz:F8 s.heap z TI TO T)(hne:T≠z)(hTI:IsPair s.heap TI (.ref i1) (.ref i2))(s1:St1 n1 s.heap)
  (hE:∀(h':Heap) (e:bV),(∀c o,c≠z->c≠i1->s.heap.get? c=some o->h'.get? c=some o)->(∃o,h'.get? e=some o/\o.cls = .type "StopIteration")->E (.ref e) {s with heap:=h'}):
  wpAny (model prog w) A (Builtin.«zip.__next__» {pos:=[.ref z]}) Q E s:=by
 have d:=hz
 obtain⟨n,o,a,p⟩:=d
 unfold Builtin.«zip.__next__»
 refine bM (bO ?_)
 refine bM (dN a rfl rfl ?_)
 refine bM (dN a rfl rfl ?_)
 refine bM (fh hTI rfl ?_)
 refine b7 rfl ?_
 refine bM (uL hz hne λh1 m b=>?_)
 refine b7 rfl ?_
 dsimp only
 rw[<-gS]
 rw[show #[b5 i1,b5 i2].toList=[b5 i1,b5 i2]from rfl,dD,bind_assoc]
 have f:St1 n1 h1:=D1.frame _ _ _ s1 λc j o q=>(b.2 c (λe=>z1 (e▸j))).trans q
 refine bM (bM (cR ?_))
 exact(show wpAny (model prog w) A (if(dH false==dH true)=true then eB (.ref i1)else do let x<-dt (.ref i1);pure (some x)) _ _ _ from b7 rfl (bM (D1.done _ _ _ f λh2 e g k=>hE h2 e (λc o l h q=>g c o h ((b.2 c l).trans q)) k)))
def Nc(h:Heap)(z TI TO T:bV):Prop:=(IsZip h z TI TO .none/\∃a b,IsPair h TO a b)\/F8 h z TI TO T
theorem uW{α β:Type}{R:α->β->Prop}:∀{l:List α} {m:List β},l.length=m.length->(∀(i:Nat) a b,l[i]?=some a->m[i]?=some b->R a b)->cT R l m
 | [],[],_,_=> .nil
 | a::l,b::m,hl,h=> .cons (h 0 a b rfl rfl) (uW (by simpa using hl) λi x y c d=>h (i+1) x y (by simpa using c) (by simpa using d))
def Me(K:bN):R2:=λx y H Q=>∃(a b:bV) (xs ys:List V),x = .ref a/\y = .ref b/\SqT K H a xs/\SqT K H b ys/\xs.length+ys.length<=sizeLine/\
 ∀p H',Same H H'->SqT K H' p (xs++ys)->Q (.ref p) H'
theorem Bq{X:Cx}:Gx X (binaryOp .Add) (Me X.K):=by
 intro k s P H x y v u Q I A C h;obtain⟨a,b,B,S,rfl,rfl,o,m,G,q⟩:=h;by_cases j:B=[]
 ·cases A
  cases C;obtain⟨c,N,J,_⟩:=I.tuple o;obtain⟨l,Y,O,_⟩:=I.tuple m;have T:c=[]:=N.nil_iff.mpr j;obtain⟨⟨W,U,M,R⟩,z,t,n,w⟩:=id J;obtain⟨⟨V,r,E,D⟩,g,f,L,d⟩:=id O;simp only at t w f d;subst t w f d;refine m9 ⟨_,z,rfl⟩ ⟨_,g,rfl⟩ kz mm iU iN (iG _ _)
   (tuple_addW0 a b c.toArray l.toArray n L U r R D (by simp[T])) ⟨z,g,?_⟩
  exact⟨.ref b,H,I,rfl,q b H (Same.refl _) (by rw[j];exact m)⟩
 ·refine D6 k s P H (.ref a) (.ref b) v u Q I A C ⟨a,b,B,S,rfl,rfl,o,m,j,G,λe=>?_,λ_ p hp=>?_⟩
  ·exact q a H (Same.refl _) (by rw[e,er];exact o)
  ·exact q p _ (mH hp _) (SqT.of rF)
theorem EX{xs:List V}{k:Nat}(h:k<=xs.length):Gz xs none (some (k:Int))=xs.take k:=by
 unfold Gz;rw[HT.sIx_none,HT.sIx_nat,qq,oB h];rfl
theorem CV{xs:List V}{k:Nat}(h:k<=xs.length):Gz xs (some (k:Int)) none=xs.drop k:=by
 unfold Gz;rw[HT.sIx_none,HT.sIx_nat,oB h,dz (by rw[dP];omega)]
def Gc(w ts:List Int):List Int:=w.filter λt=>!decide (t∈ts)
def Gg(w ts:List Int):Int:=(Gc w ts).getD 0 0
theorem Ko:∀(row ts:List Int),row.Nodup->(∀t∈row,t∈ts)->row.length<=ts.length
 | [],_,_,_=>cM _
 | a::r,ts,hn,h=>by
  have b:=h a b0
  have:=Ko r (ts.erase a) (ez.mp hn).2 λt c=>(l3 (show t≠a from λz=>(ez.mp hn).1 (z▸c))).mpr (h t (b3 _ c))
  rw[kl b]at this
  have:=List.length_pos_of_mem b
  rw[cZ]
  omega
theorem AB{n:Nat}{w ts:List Int}(h:LN.Pm n w)(hl:ts.length<n):∃t∈w,t∉ts:=by
 refine da λz=>?_;have:=Ko w ts h.nodup λt a=>da λy=>z ⟨t,a,y⟩;rw[h.len]at this;omega
theorem x6{w ts:List Int}(h:∃t∈w,t∉ts):(Gc w ts)[0]?=some (Gg w ts)/\Gg w ts∈w/\Gg w ts∉ts:=by
 obtain⟨t,h1,h2⟩:=h;have a:t∈Gc w ts:=dw.mpr ⟨h1,by simpa using h2⟩;unfold Gg
 cases c:Gc w ts with
 | nil=>rw[c]at a;cases a
 | cons b r=>
  have d:b∈Gc w ts:=by rw[c];exact b0
  obtain⟨h3,h4⟩:=dw.mp d;exact⟨rfl,h3,by simpa using h4⟩
def tk(W:List (List Int))(o:List Int):Nat->List Int
 | 0=>[]
 | k+1=>tk W o k++[Gg (W.getD (o.getD k 0).toNat []) (tk W o k)]
def bt(W:List (List Int))(o:List Int)(k:Nat):Int:=Gg (W.getD (o.getD k 0).toNat []) (tk W o k)
theorem DU(W:List (List Int))(o:List Int):∀k,tk W o k=(cp k).map (bt W o)
 | 0=>rfl
 | k+1=>by
  rw[fF,cb,<-DU W o k]
  rfl
theorem BG(W:List (List Int))(o:List Int)(k:Nat):(tk W o k).length=k:=by rw[DU];simp
structure GA(n:Nat)(W:List (List Int)):Prop where
 lo:1<=n
 hi:n<=6
 len:W.length=n
 pm:∀w∈W,LN.Pm n w
theorem EJ{K:bN}{H:Hp}{a b:bV}{l m:List Int}{Q:VK}(h1:SqT K H a (l.map V.int))(h2:SqT K H b (m.map V.int))(hl:l.length+m.length<=1000)(q:∀p H',Same H H'->SqT K H' p ((l++m).map V.int)->Q (.ref p) H'):Me K (.ref a) (.ref b) H Q:=
 ⟨a,b,_,_,rfl,rfl,h1,h2,by rw[bP,bP];exact cG hl (by decide),λp H' S h=>q p H' S (by rw[cb];exact h)⟩
end L2
namespace HM
open LM LN
def cnt(n:Nat)(S:Nat->Bool):Nat:=(cp n).countP S
theorem tE(n:Nat)(S:Nat->Bool):cnt (n+1) S=cnt n S+if S n=true then 1 else 0:=by
 unfold cnt;rw[fF,List.countP_append];simp[List.countP_cons]
theorem tF{S S':Nat->Bool}:∀{n:Nat},(∀i,i<n->S i=true->S' i=true)->cnt n S<=cnt n S'
 | 0,_=>bX _
 | n+1,h=>by
  have b:=tF (n:=n) λi a=>h i (cS a)
  rw[tE,tE]
  by_cases e:S n=true
  ·rw[if_pos e,if_pos (h n (cV n) e)];omega
  ·rw[if_neg e];omega
theorem wu(S S':Nat->Bool):∀n:Nat,cnt n (λi=>S i||S' i)<=cnt n S+cnt n S'
 | 0=>bX _
 | n+1=>by
  have a:=wu S S' n
  rw[tE,tE,tE]
  cases S n <;> cases S' n <;> simp <;> omega
theorem vd{S S':Nat->Bool}(hd:∀i,S i=true->S' i=true->False):∀n:Nat,cnt n (λi=>S i||S' i)=cnt n S+cnt n S'
 | 0=>rfl
 | n+1=>by
  have a:=vd hd n
  rw[tE,tE,tE,a]
  cases h1:S n <;> cases h2:S' n <;> simp <;> try omega
  exact(hd n h1 h2).elim
theorem cnt_pos{S:Nat->Bool}:∀{n:Nat},0<cnt n S->∃i,i<n/\S i=true
 | 0,h=>absurd h (cJ _)
 | n+1,h=>by
  rw[tE]at h
  by_cases e:S n=true
  ·exact⟨n,cV n,e⟩
  ·rw[if_neg e]at h
   obtain⟨i,h1,h2⟩:=cnt_pos (n:=n) (by omega)
   exact⟨i,cS h1,h2⟩
theorem cnt_one(c:Nat):∀n:Nat,cnt n (λi=>i==c)=if c<n then 1 else 0
 | 0=>rfl
 | n+1=>by
  rw[tE,cnt_one c n]
  by_cases e:n=c
  ·subst e;simp
  ·by_cases h:c<n
   ·simp[e,h,show c<n+1 by omega]
   ·simp[e,h,show ¬c<n+1 by omega]
theorem yp(n:Nat)(A S:Nat->Bool)(h:∀i,S i=true->A i=true):cnt n A=cnt n S+cnt n (λi=>A i && !S i):=by
 rw[<-vd (S:=S) (S':=λi=>A i && !S i) (λi h1 h2=>by simp[h1]at h2)]
 congr 1
 funext i
 cases h1:S i with
 | true=>simp[h i h1]
 | false=>simp
def nb(n:Nat)(E:Nat->Nat->Bool)(S:Nat->Bool)(c:Nat):Bool:=(cp n).any λr=>S r&&E r c
theorem vo{n:Nat}{E:Nat->Nat->Bool}{S:Nat->Bool}{c:Nat}:nb n E S c=true↔∃r,r<n/\S r=true/\E r c=true:=by
 unfold nb;rw[iA];constructor
 ·rintro⟨r,h1,h2⟩;rw[cH]at h2;exact⟨r,dq.mp h1,h2⟩
 ·rintro⟨r,h1,h2,h3⟩;exact⟨r,dq.mpr h1,by rw[h2,h3];rfl⟩
theorem hall(n:Nat):∀(m:Nat) (A:Nat->Bool) (E:Nat->Nat->Bool),cnt n A=m->(∀S:Nat->Bool,(∀i,S i=true->A i=true)->cnt n S<=cnt n (nb n E S))->
  ∃f:Nat->Nat,(∀r,r<n->A r=true->f r<n/\E r (f r)=true)/\∀r r',r<n->r'<n->A r=true->A r'=true->f r=f r'->r=r':=by
 intro m
 induction m using Nat.strongRecOn with
 | _ m G=>
  intro A E hA I
  by_cases h0:m=0
  ·have T:∀r,r<n->A r=true->False:=λr a h=>by
    have:cnt n (λi=>i==r)<=cnt n A:=tF λi _ e=>by rw[eq_of_beq e];exact h
    rw[cnt_one,if_pos a,hA,h0]at this
    omega
   exact⟨λ_=>0,λr a h=>(T r a h).elim,λr _ a _ h=>(T r a h).elim⟩
  by_cases p:∃b:Nat->Bool,(∀i,b i=true->A i=true)/\0<cnt n b/\cnt n b<m/\cnt n (nb n E b)<=cnt n b
  ·obtain⟨b,H,hp,U,Y⟩:=p
   obtain⟨O,g1,g2⟩:=G _ U b E rfl λS h=>I S λi k=>H i (h i k)
   have x:=yp n A b H
   obtain⟨M,q,J⟩:=G (cnt n λi=>A i && !b i) (by omega) (λi=>A i && !b i) (λr c=>E r c && !nb n E b c) rfl λS h=>by
    have K:∀i,S i=true->b i=true->False:=λi h1 h2=>by
     have:=h i h1
     simp[h2]at this
    have W:=I (λi=>S i||b i) λi k=>by
     rcases ju.mp k with z|z
     ·have:=h i z
      rw[cH]at this
      exact this.1
     ·exact H i z
    rw[vd K]at W
    have h2:cnt n (nb n E λi=>S i||b i)<=cnt n (λc=>nb n (λr c=>E r c && !nb n E b c) S c||nb n E b c):=tF λc _ p=>by
     obtain⟨r,a,F,u⟩:=vo.mp p
     cases v:nb n E b c with
     | true=>simp
     | false=>
      rw[j7]
      rcases ju.mp F with z|z
      ·exact vo.mpr ⟨r,a,z,by simp[u,v]⟩
      ·exact absurd (vo.mpr ⟨r,a,z,u⟩) (by rw[v];exact cA)
    have h3:=wu (nb n (λr c=>E r c && !nb n E b c) S) (nb n E b) n
    omega
   have y:∀r r',r<n->b r=true->r'<n->A r'=true->¬b r'=true->O r=M r'->False:=λr r' a h1 g h2 h3 e=>by
    have t:=(g1 r a h1).2
    have l:=(q r' g (by simp[h2,h3])).2
    rw[<-e,cH]at l
    have:=vo.mpr ⟨r,a,h1,t⟩
    rw[this]at l
    exact absurd l.2 (by decide)
   refine⟨λr=>if b r=true then O r else M r,λr a h=>?_,λr r' a g h s e=>?_⟩
   ·dsimp only
    by_cases z:b r=true
    ·rw[if_pos z];exact g1 r a z
    ·rw[if_neg z]
     obtain⟨t,l⟩:=q r a (by simp[h,z])
     rw[cH]at l
     exact⟨t,l.1⟩
   ·dsimp only at e
    by_cases z:b r=true
    ·rw[if_pos z]at e
     by_cases d:b r'=true
     ·rw[if_pos d]at e;exact g2 r r' a g z d e
     ·rw[if_neg d]at e;exact(y r r' a z g s d e).elim
    ·rw[if_neg z]at e
     by_cases d:b r'=true
     ·rw[if_pos d]at e;exact(y r' r g d a h z e.symm).elim
     ·rw[if_neg d]at e;exact J r r' a g (by simp[h,z]) (by simp[s,d]) e
  ·obtain⟨L,B,w⟩:=cnt_pos (n:=n) (S:=A) (by omega)
   have h1:=I (λi=>i==L) λi k=>by rw[eq_of_beq k];exact w
   rw[cnt_one,if_pos B]at h1
   obtain⟨o,C,Q⟩:=cnt_pos (n:=n) (S:=nb n E λi=>i==L) (by omega)
   obtain⟨j,X,D,P⟩:=vo.mp Q
   have D:j=L:=eq_of_beq D
   subst D
   have x:=yp n A (λi=>i==j) λi k=>by rw[eq_of_beq k];exact w
   rw[cnt_one,if_pos B]at x
   obtain⟨f,q,J⟩:=G (cnt n λi=>A i && !(i==j)) (by omega) (λi=>A i && !(i==j)) (λr c=>E r c && !(c==o)) rfl λS h=>by
    by_cases Z:cnt n S=0
    ·omega
    have R:∀i,S i=true->A i=true:=λi k=>by
     have:=h i k
     rw[cH]at this
     exact this.1
    have N:cnt n S<m:=by
     have:=tF (n:=n) λi _=>h i
     omega
    have V:cnt n S<cnt n (nb n E S):=da λz=>p ⟨S,R,by omega,N,by omega⟩
    have h2:cnt n (nb n E S)<=cnt n (λc=>nb n (λr c=>E r c && !(c==o)) S c||c==o):=tF λc _ p=>by
     obtain⟨r,a,F,u⟩:=vo.mp p
     cases v:c==o with
     | true=>simp
     | false=>rw[j7];exact vo.mpr ⟨r,a,F,by simp[u,v]⟩
    have h3:=wu (nb n (λr c=>E r c && !(c==o)) S) (λc=>c==o) n
    have h4:=cnt_one o n
    rw[if_pos C]at h4
    omega
   refine⟨λr=>if r=j then o else f r,λr a h=>?_,λr r' a g h s e=>?_⟩
   ·dsimp only
    by_cases z:r=j
    ·rw[if_pos z,z];exact⟨C,P⟩
    ·rw[if_neg z]
     obtain⟨t,l⟩:=q r a (by simp[h,z])
     rw[cH]at l
     exact⟨t,l.1⟩
   ·dsimp only at e
    by_cases z:r=j
    ·by_cases d:r'=j
     ·rw[z,d]
     ·rw[if_pos z,if_neg d]at e
      have:=(q r' g (by simp[s,d])).2
      rw[<-e]at this
      simp at this
    ·by_cases d:r'=j
     ·rw[if_neg z,if_pos d]at e
      have:=(q r a (by simp[h,z])).2
      rw[e]at this
      simp at this
     ·rw[if_neg z,if_neg d]at e
      exact J r r' a g (by simp[h,z]) (by simp[s,d]) e
def sm:Nat->(Nat->Int)->Int
 | 0,_=>0
 | n+1,f=>sm n f+f n
theorem sm_congr{f g:Nat->Int}:∀{n:Nat},(∀i,i<n->f i=g i)->sm n f=sm n g
 | 0,_=>rfl
 | n+1,h=>by
  show sm n f+f n=sm n g+g n
  rw[sm_congr λi a=>h i (cS a),h n (cV n)]
theorem sm_le{f g:Nat->Int}:∀{n:Nat},(∀i,i<n->f i<=g i)->sm n f<=sm n g
 | 0,_=>eF _
 | n+1,h=>by
  have h1:=sm_le λi a=>h i (cS a)
  have h2:=h n (cV n)
  show sm n f+f n<=sm n g+g n
  omega
theorem sm_add(f g:Nat->Int):∀n:Nat,sm n (λi=>f i+g i)=sm n f+sm n g
 | 0=>rfl
 | n+1=>by
  show sm n (λi=>f i+g i)+(f n+g n)=(sm n f+f n)+(sm n g+g n)
  rw[sm_add f g n]
  omega
theorem sm_zero:∀n:Nat,sm n (λ_=>0)=0
 | 0=>rfl
 | n+1=>by show sm n (λ_=>0)+0=0;rw[sm_zero n];rfl
theorem sm_swap(a:Nat->Nat->Int)(m:Nat):∀n:Nat,sm n (λi=>sm m (a i))=sm m (λj=>sm n λi=>a i j)
 | 0=>(sm_zero m).symm
 | n+1=>by
  show sm n (λi=>sm m (a i))+sm m (a n)=sm m (λj=>(sm n λi=>a i j)+a n j)
  rw[sm_swap a m n,sm_add]
theorem sm_cnt(S:Nat->Bool)(R:Int):∀n:Nat,sm n (λi=>if S i=true then R else 0)=R*cnt n S
 | 0=>by show(0:Int)=R*0;simp
 | n+1=>by
  show sm n _+(if S n=true then R else 0)=_
  rw[sm_cnt S R n,tE]
  by_cases e:S n=true
  ·rw[if_pos e,if_pos e];push_cast;rw[iP,gJ]
  ·rw[if_neg e,if_neg e];simp
structure NE(n:Nat)(M:Nat->Nat->Int)(R:Int):Prop where
 pos:0<R
 nn:∀i j,0<=M i j
 row:∀i,i<n->sm n (M i)=R
 col:∀j,j<n->sm n (λi=>M i j)=R
theorem Ee{n:Nat}{M:Nat->Nat->Int}{R:Int}(h:NE n M R):∃f:Nat->Nat,(∀r,r<n->f r<n/\M r (f r)≠0)/\∀r r',r<n->r'<n->f r=f r'->r=r':=by
 obtain⟨f,h1,h2⟩:=hall n _ (λ_=>true) (λr c=>decide (M r c≠0)) rfl λS _=>by
  have k:sm n (λi=>if S i=true then R else 0)=sm n (λi=>sm n λj=>if S i=true then M i j else 0):=sm_congr λi b=>by
   by_cases e:S i=true
   ·rw[if_pos e,<-h.row i b];exact sm_congr λj _=>by rw[if_pos e]
   ·rw[if_neg e];exact(sm_zero n).symm.trans (sm_congr λj _=>by rw[if_neg e])
  have d:sm n (λj=>sm n λi=>if S i=true then M i j else 0)<=sm n (λj=>if nb n (λr c=>decide (M r c≠0)) S j=true then R else 0):=sm_le λj l=>by
   by_cases e:nb n (λr c=>decide (M r c≠0)) S j=true
   ·rw[if_pos e,<-h.col j l];exact sm_le λi _=>by
     by_cases z:S i=true
     ·rw[if_pos z];exact eF _
     ·rw[if_neg z];exact h.nn i j
   ·rw[if_neg e];exact Int.le_of_eq ((sm_congr λi b=>by
     by_cases z:S i=true
     ·rw[if_pos z];exact da λy=>e (vo.mpr ⟨i,b,z,decide_eq_true y⟩)
     ·rw[if_neg z]).trans (sm_zero n))
  rw[<-sm_swap,<-k,sm_cnt,sm_cnt]at d;have:=Int.le_of_mul_le_mul_left d h.pos;omega
 exact⟨f,λr a=>⟨(h1 r a rfl).1,by simpa using(h1 r a rfl).2⟩,λr r' a g e=>h2 r r' a g rfl rfl e⟩
end HM
namespace HM
open LM LN
def ent(M:List (List Int))(p t:Nat):Int:=(M.getD p []).getD t 0
structure Reg(n:Nat)(M:List (List Int))(R:Int):Prop where
 len:M.length=n
 cols:∀r∈M,r.length=n
 nn:∀p t,0<=ent M p t
 row:∀i,i<n->sm n (ent M i)=R
 col:∀j,j<n->sm n (λi=>ent M i j)=R
theorem getD_lt{α:Type}{l:List α}{i:Nat}{d:α}(h:i<l.length):l.getD i d=l[i]:=by rw[bR,bT h];rfl
theorem addDeal_len{M:List (List Int)}{d:List Int}{w:Int}(h:M.length=d.length):(addDeal M d w).length=M.length:=by simp[addDeal,h]
theorem addDeal_get{M:List (List Int)}{d:List Int}{w:Int}{p:Nat}(h:M.length=d.length)(hp:p<M.length):(addDeal M d w)[p]?=some (addOne (M.getD p []) (d.getD p 0) w):=by
 unfold addDeal;rw[lJ,bT hp,bT (show p<d.length by omega),getD_lt hp,getD_lt (show p<d.length by omega)]
theorem A8{n:Nat}{M:List (List Int)}{R:Int}{d:List Int}{w:Int}(h:Reg n M R)(hd:d.length=n)(hb:∀t∈d,0<=t/\t<n){p:Nat}(hp:p<n)(t:Nat):
  ent (addDeal M d w) p t=ent M p t+if(d.getD p 0).toNat=t then w else 0:=by
 have f:M.length=d.length:=by rw[h.len,hd]
 have a:p<M.length:=by rw[h.len];exact hp
 have b:(M.getD p []).length=n:=by rw[getD_lt a];exact h.cols _ (cm a)
 have c:=hb (d.getD p 0) (by rw[getD_lt (show p<d.length by omega)];exact cm _)
 unfold ent
 rw[show(addDeal M d w).getD p []=addOne (M.getD p []) (d.getD p 0) w by rw[bR,addDeal_get f a];rfl]
 generalize M.getD p []=r at b
 generalize d.getD p 0=x at c
 unfold addOne
 rw[bR,List.getElem?_set]
 by_cases e:x.toNat=t
 ·subst e
  rw[if_pos rfl,if_pos rfl,if_pos (by omega)]
  rfl
 ·rw[if_neg e,if_neg e,<-bR]
  omega
theorem BS{S S':Nat->Bool}{n:Nat}(h:∀i,i<n->S i=S' i):cnt n S=cnt n S':=
 Nat.le_antisymm (tF λi a e=>by rw[<-h i a];exact e) (tF λi a e=>by rw[h i a];exact e)
theorem pm_at{n:Nat}{d:List Int}(h:Pm n d){t:Nat}(ht:t<n):∃p,p<n/\d.getD p 0=(t:Int)/\∀q,q<n->(d.getD q 0).toNat=t->q=p:=by
 obtain⟨p,hp,e⟩:=dW.mp (h.mem.mpr (show(0:Int)<=(t:Int)/\(t:Int)<n by omega));have f:=h.len;refine⟨p,by omega,by rw[getD_lt hp,e],λq g c=>?_⟩;have a:q<d.length:=by omega
 have b:=h.mem.mp (cm a);rw[getD_lt a]at c;have:d[q]=d[p]:=by rw[e];omega
 exact(nH a h.nodup).mp (by rw[bT a,bT hp,this])
theorem vq{n:Nat}{p:Nat}(hp:p<n){S:Nat->Bool}(hS:∀q,q<n->(S q=true↔q=p))(w:Int):sm n (λq=>if S q=true then w else 0)=w:=by
 rw[sm_cnt,BS (S':=λq=>q==p) λi a=>by
  rw[fS,hS i a];exact⟨λe=>by rw[e];exact beq_self_eq_true _,λe=>eq_of_beq e⟩,cnt_one,if_pos hp]
 simp
theorem Ed{n:Nat}{M:List (List Int)}{r:List Int}(hl:M.length=n)(hr:r∈M):∃p,p<n/\M.getD p []=r:=by
 obtain⟨p,hp,e⟩:=dW.mp hr;exact⟨p,by omega,by rw[getD_lt hp,e]⟩
theorem Reg.add{n:Nat}{M:List (List Int)}{R:Int}{d:List Int}{w:Int}(h:Reg n M R)(hd:Pm n d)(hw:∀p,p<n->0<=ent M p (d.getD p 0).toNat+w):Reg n (addDeal M d w) (R+w):=by
 have c:=hd.len;have o:M.length=d.length:=by rw[h.len,c]
 have s:∀t∈d,0<=t/\t<n:=λt f=>hd.mem.mp f;have k:=λ {p} (hp:p<n) t=>A8 (w:=w) h c s hp t;have a:(addDeal M d w).length=n:=by rw[addDeal_len o,h.len]
 have bd:∀p,p<n->0<=d.getD p 0/\d.getD p 0<n:=λp hp=>s _ (by rw[getD_lt (show p<d.length by omega)];exact cm _);refine⟨a,λr x=>?_,λp t=>?_,λi l=>?_,λj m=>?_⟩
 ·obtain⟨p,hp,e⟩:=Ed a x;rw[<-e,bR,addDeal_get o (by rw[h.len];exact hp)];show(addOne _ _ _).length=n;rw[Ai];have b:p<M.length:=by rw[h.len];exact hp
  rw[getD_lt b];exact h.cols _ (cm b)
 ·by_cases hp:p<n
  ·rw[k hp];by_cases e:(d.getD p 0).toNat=t
   ·rw[if_pos e,<-e];exact hw p hp
   ·rw[if_neg e,f5];exact h.nn p t
  ·unfold ent;rw[show(addDeal M d w).getD p []=[]by rw[bR,fH (by omega)];rfl];exact eF 0
 ·rw[sm_congr (g:=λt=>ent M i t+if decide ((d.getD i 0).toNat=t)=true then w else 0) λt _=>by rw[k l];simp,sm_add,h.row i l,vq (p:=(d.getD i 0).toNat) (by have:=bd i l;omega) (λq _=>by rw[decide_eq_true_iff];exact eq_comm)]
 ·obtain⟨p,hp,e,v⟩:=pm_at hd m;rw[sm_congr (g:=λi=>ent M i j+if decide ((d.getD i 0).toNat=j)=true then w else 0) λt f=>by rw[k f];simp,sm_add,h.col j m,vq (p:=p) hp (λq u=>by
   rw[decide_eq_true_iff];exact⟨v q u,λz=>by rw[z,e];rfl⟩)]
theorem Reg.regF{n:Nat}{M:List (List Int)}{R:Int}(h:Reg n M R)(hR:0<R):NE n (ent M) R:=⟨hR,h.nn,h.row,h.col⟩
def within(M:List (List Int)):Nat->List Int->Option (List Int)
 | 0,b=>some b
 | k+1,b=>(cp M.length).findSome? λt=>if ent M b.length t≠0/\(t:Int)∉b then within M k (b++[(t:Int)])else none
theorem vt{M:List (List Int)}:∀{k:Nat} {b d:List Int},within M k b=some d->b.Nodup->d.Nodup/\d.length=b.length+k/\(∀j,j<b.length->d.getD j 0=b.getD j 0)/\∀j,b.length<=j->j<b.length+k->∃t:Nat,t<M.length/\d.getD j 0=(t:Int)/\ent M j t≠0
 | 0,b,d,h,hb=>by
  cases h
  exact⟨hb,rfl,λ_ _=>rfl,λj h1 h2=>by omega⟩
 | k+1,b,d,h,hb=>by
  obtain⟨t,l,e⟩:=List.exists_of_findSome?_eq_some h
  split at e
  ·rename_i hc
   have c:(b++[(t:Int)]).Nodup:=fO.mpr ⟨hb,by simp,λx n y m=>by rw[bY.mp m];intro z;exact hc.2 (z▸n)⟩
   obtain⟨h1,h2,h3,h4⟩:=vt e c
   rw[cr,dB]at h2 h3 h4
   have a:d.getD b.length 0=(t:Int):=by
    rw[h3 b.length (by omega),bR,d3 (bX _),gR]
    rfl
   refine⟨h1,by omega,λj g=>?_,λj p o=>?_⟩
   ·rw[h3 j (by omega),bR,gq g,<-bR]
   ·by_cases f:j=b.length
    ·subst f
     exact⟨t,dq.mp l,a,hc.1⟩
    ·exact h4 j (by omega) (by omega)
  ·cases e
theorem vW{M:List (List Int)}{f:Nat->Nat}(hf:∀j,j<M.length->f j<M.length/\ent M j (f j)≠0)(hi:∀j j',j<M.length->j'<M.length->f j=f j'->j=j'):∀{k:Nat} {b:List Int},b.length+k<=M.length->(∀j,b.length<=j->j<b.length+k->(f j:Int)∉b)->(within M k b).isSome=true
 | 0,b,_,_=>rfl
 | k+1,b,hl,hb=>by
  unfold within
  rw[List.findSome?_isSome_iff]
  obtain⟨h1,h2⟩:=hf b.length (by omega)
  refine⟨f b.length,dq.mpr h1,?_⟩
  rw[if_pos ⟨h2,hb b.length (bX _) (by omega)⟩]
  refine vW hf hi (by rw[cr,dB];omega) λj a c z=>?_
  rw[cr,dB]at a c
  rcases cN.mp z with z|z
  ·exact hb j (by omega) (by omega) z
  ·have:=bY.mp z
   have:=hi j b.length (by omega) (by omega) (by omega)
   omega
theorem E8{n:Nat}{d:List Int}(hl:d.length=n)(hn:d.Nodup)(hb:∀t∈d,0<=t/\t<n):Pm n d:=by
 unfold Pm;have e:∀(m:Nat) (l:List Int) (r:List Int),l.length=m->r.length=m->l.Nodup->(∀t∈l,t∈r)->l.Perm r:=by
  intro m
  induction m with
  | zero=>intro l r h1 h2 _ _;rw[iO.mp h1,iO.mp h2]
  | succ m f=>
   intro l r h1 h2 hn h
   cases l with
   | nil=>cases h1
   | cons a l=>
    have c:=h a b0;refine(qa.cons a (f l (r.erase a) (by simpa using h1) (by rw[kl c,h2];rfl) (ez.mp hn).2 λt b=>?_)).trans (List.perm_cons_erase c).symm;exact(l3 (show t≠a from λz=>(ez.mp hn).1 (z▸b))).mpr (h t (b3 _ b))
 exact e n d (rng n) hl (rng_len n) hn λt b=>mem_rng.mpr (hb t b)
def valsM(M:List (List Int))(d:List Int):List Int:=qf (λr t=>r.getD t.toNat 0) M d
def minGo(s:Int)(l:List Int):Int:=l.foldl (λs p=>if p<s then p else s) s
def minL(l:List Int):Int:=minGo (l.headD 0) l
theorem zx:∀(l:List Int) (s:Int),minGo s l<=s/\(∀x∈l,minGo s l<=x)/\(minGo s l=s\/minGo s l∈l)
 | [],s=>⟨eF _,(λ_ h=>nomatch h),.inl rfl⟩
 | a::l,s=>by
  obtain⟨h1,h2,h3⟩:=zx l (if a<s then a else s)
  have e:minGo s (a::l)=minGo (if a<s then a else s) l:=rfl
  rw[e]
  by_cases c:a<s
  ·rw[if_pos c]at h1 h2 h3 ⊢
   refine⟨by omega,λx b=>?_,.inr ?_⟩
   ·rcases cj.mp b with z|z
    ·rw[z];exact h1
    ·exact h2 x z
   ·rcases h3 with z|z
    ·rw[z];exact b0
    ·exact b3 _ z
  ·rw[if_neg c]at h1 h2 h3 ⊢
   refine⟨h1,λx b=>?_,?_⟩
   ·rcases cj.mp b with z|z
    ·rw[z];omega
    ·exact h2 x z
   ·rcases h3 with z|z
    ·exact .inl z
    ·exact .inr (b3 _ z)
theorem DR{l:List Int}(h:l≠[]):minL l∈l/\∀x∈l,minL l<=x:=by
 cases l with
 | nil=>exact absurd rfl h
 | cons a l=>
  obtain⟨h1,h2,h3⟩:=zx (a::l) a;refine⟨?_,h2⟩;rcases h3 with z|z
  ·show minGo a (a::l)∈_;rw[z];exact b0
  ·exact z
def dealOf(M:List (List Int)):List Int:=(within M M.length []).getD []
def wOf(M:List (List Int)):Int:=minL (valsM M (dealOf M))
theorem sm_one_le{n:Nat}{f:Nat->Int}(hf:∀i,0<=f i):∀{i:Nat},i<n->f i<=sm n f:=by
 have b:∀m,0<=sm m f:=λm=>by
  have:=sm_le (n:=m) (f:=λ_=>0) (g:=f) λi _=>hf i;rw[sm_zero]at this;exact this
 induction n with
 | zero=>intro i h;exact absurd h (fW _)
 | succ n a=>
  intro i h;show f i<=sm n f+f n;by_cases e:i=n
  ·subst e;have:=b i;omega
  ·have:=a (i:=i) (by omega);have:=hf n;omega
structure Lh(n:Nat)(M:List (List Int))(R:Int):Prop where
 some:within M n []=some (dealOf M)
 pm:Pm n (dealOf M)
 ne:∀p,p<n->ent M p ((dealOf M).getD p 0).toNat≠0
 le:∀p,p<n->wOf M<=ent M p ((dealOf M).getD p 0).toNat
 eq:∃p,p<n/\ent M p ((dealOf M).getD p 0).toNat=wOf M
 w1:1<=wOf M
 wR:wOf M<=R
 reg:Reg n (addDeal M (dealOf M) (-wOf M)) (R-wOf M)
theorem valsM_get{n:Nat}{M:List (List Int)}{d:List Int}(hM:M.length=n)(hd:d.length=n){p:Nat}(hp:p<n):(valsM M d)[p]?=some (ent M p (d.getD p 0).toNat):=by
 unfold valsM ent;rw[lJ,bT (show p<M.length by omega),bT (show p<d.length by omega),getD_lt (show p<M.length by omega),getD_lt (show p<d.length by omega)]
theorem Reg.step{n:Nat}{M:List (List Int)}{R:Int}(h:Reg n M R)(hR:0<R)(hn:1<=n):Lh n M R:=by
 have a:=h.len;obtain⟨f,H,E⟩:=Ee (h.regF hR);have J:=vW (M:=M) (f:=f) (by rw[a];exact H) (by rw[a];exact E) (k:=n) (b:=[]) (by simp[a]) λj _ _=>gE;obtain⟨d,o⟩:=j6.mp J;have v:dealOf M=d:=by unfold dealOf;rw[a,o];rfl
 obtain⟨O,l,Q,s⟩:=vt o gG;rw[lu,nF]at l s;have A:∀t∈d,0<=t/\t<n:=λt G=>by
  obtain⟨j,C,e⟩:=dW.mp G;obtain⟨K,h1,h2,_⟩:=s j (cM _) (by omega);rw[getD_lt C,e]at h2;omega
 have q:=E8 l O A;have u:∀p,p<n->ent M p (d.getD p 0).toNat≠0:=λp hp=>by
  obtain⟨K,h1,h2,h3⟩:=s p (cM _) hp;rw[h2];exact h3
 have y:valsM M d≠[]:=λz=>by
  have:=valsM_get a l (p:=0) (by omega);rw[z]at this
  cases this
 have P:(valsM M d).length=n:=by unfold valsM;simp[a,l]
 obtain⟨L,N⟩:=DR y;have x:wOf M=minL (valsM M d):=by unfold wOf;rw[v]
 obtain⟨c,B,D⟩:=dW.mp L;have g:c<n:=by omega
 have m:ent M c (d.getD c 0).toNat=wOf M:=by
  have:=valsM_get a l g;rw[bT B,D]at this;rw[x];exact(Option.some.inj this).symm
 have r:∀p,p<n->wOf M<=ent M p (d.getD p 0).toNat:=λp hp=>by
  rw[x];exact N _ (cz (valsM_get a l hp))
 have F:1<=wOf M:=by
  have:=u c g;have:=h.nn c (d.getD c 0).toNat;omega
 have I:wOf M<=R:=by
  rw[<-m,<-h.row c g];refine sm_one_le (λi=>h.nn c i) ?_;have:=A (d.getD c 0) (by rw[getD_lt (show c<d.length by omega)];exact cm _);omega
 rw[<-v]at q u r m;refine⟨by rw[o,v],q,u,r,⟨c,g,m⟩,F,I,?_⟩;have:=h.add (w:= -wOf M) q λp hp=>by have:=r p hp;omega
 rw[mS];exact this
def it(Z:List (List Int))(T:Int):Nat->List (List Int)×Int
 | 0=>(Z,T)
 | k+1=>(addDeal (it Z T k).1 (dealOf (it Z T k).1) (-wOf (it Z T k).1),(it Z T k).2-wOf (it Z T k).1)
def lotAt(Z:List (List Int))(T:Int)(k:Nat):Int×List Int:=(wOf (it Z T k).1,dealOf (it Z T k).1)
def lotsL(Z:List (List Int))(T:Int)(k:Nat):List (Int×List Int):=(cp k).map (lotAt Z T)
def pn(n:Nat)(M:List (List Int)):Int:=sm n λp=>(cnt n λt=>decide (ent M p t≠0):Nat)
structure NM(n:Nat)(Z:List (List Int))(T:Int)(k:Nat):Prop where
 reg:Reg n (it Z T k).1 (it Z T k).2
 r0:0<=(it Z T k).2
 rT:(it Z T k).2<=T
 lots:∀j,j<k->Lh n (it Z T j).1 (it Z T j).2
 ent:∀p,p<n->∀t,ent Z p t=ent (it Z T k).1 p t+sm k λj=>if((lotAt Z T j).2.getD p 0).toNat=t then(lotAt Z T j).1 else 0
 wts:sm k (λj=>(lotAt Z T j).1)=T-(it Z T k).2
 kill:∀j,j<k->∃p,p<n/\HM.ent (it Z T k).1 p ((lotAt Z T j).2.getD p 0).toNat=0
 few:(it Z T k).2≠0->pn n (it Z T k).1+k<=pn n Z
 last:(it Z T k).2=0->(k:Int)+n<=pn n Z+1
 ap:∀i j,i<j->j<k->(lotAt Z T i).2≠(lotAt Z T j).2
theorem Ey{S S':Nat->Bool}{c:Nat}:∀{n:Nat},(∀i,i<n->S i=true->S' i=true)->c<n->S' c=true->S c=false->cnt n S+1<=cnt n S':=by
 intro n h d h1 h2;have:cnt n (λi=>S i||i==c)=cnt n S+cnt n (λi=>i==c):=vd (λi a b=>by rw[eq_of_beq b,h2]at a;cases a) n;have h3:cnt n (λi=>S i||i==c)<=cnt n S':=tF λi e z=>by
  rcases ju.mp z with z|z
  ·exact h i e z
  ·rw[eq_of_beq z];exact h1
 have h4:=cnt_one c n;rw[if_pos d]at h4;omega
theorem Fe{f g:Nat->Int}{c:Nat}:∀{n:Nat},(∀i,i<n->f i<=g i)->c<n->f c+1<=g c->sm n f+1<=sm n g:=by
 intro n
 induction n with
 | zero=>intro _ h _;exact absurd h (fW _)
 | succ n b=>
  intro h d h1;show sm n f+f n+1<=sm n g+g n;by_cases e:c=n
  ·subst e;have:=sm_le (n:=c) λi a=>h i (cS a);omega
  ·have:=b (λi a=>h i (cS a)) (by omega) h1;have:=h n (cV n);omega
theorem it_ok{n:Nat}{Z:List (List Int)}{T:Int}(hZ:Reg n Z T)(hT:0<T)(hn:1<=n):∀k,(∀j,j<k->(it Z T j).2≠0)->NM n Z T k
 | 0,_=>by
  refine⟨hZ,ef hT,eF _,(λj h=>absurd h (fW _)),(λp _ t=>?_),?_,(λj h=>absurd h (fW _)),(λ_=>?_),(λh=>?_),(λi j _ h=>absurd h (fW _))⟩
  ·show ent Z p t=ent Z p t+0
   omega
  ·show(0:Int)=T-T
   omega
  ·show pn n Z+0<=pn n Z
   omega
  ·exact absurd h (by show T≠0;omega)
 | k+1,hk=>by
  have I:=it_ok hZ hT hn k λj d=>hk j (cS d)
  have v:=hk k (cV k)
  have S:=I.reg.step (by have:=I.r0;omega) hn
  have o:=λ {p} (hp:p<n) t=>A8 (w:= -wOf (it Z T k).1) I.reg S.pm.len (λt m=>S.pm.mem.mp m) hp t
  have bd:∀p,p<n->((dealOf (it Z T k).1).getD p 0).toNat<n:=λp hp=>by
   have y:=S.pm.len
   have:=S.pm.mem.mp (show(dealOf (it Z T k).1).getD p 0∈_ by rw[getD_lt (show p<_ by omega)];exact cm _)
   omega
  have q:∀p,p<n->∀t,ent (it Z T (k+1)).1 p t<=ent (it Z T k).1 p t:=λp hp t=>by
   show ent (addDeal (it Z T k).1 (dealOf (it Z T k).1) (-wOf (it Z T k).1)) p t<=_
   rw[o hp]
   have:=S.w1
   split <;> omega
  have s:=S.reg.nn
  have x:pn n (it Z T (k+1)).1+1<=pn n (it Z T k).1:=by
   have u:∀p,p<n->∀t,t<n->decide (ent (it Z T (k+1)).1 p t≠0)=true->decide (ent (it Z T k).1 p t≠0)=true:=λp hp t _ h=>by
    have h1:=q p hp t
    have h2:0<=ent (it Z T (k+1)).1 p t:=s p t
    have h3:=of_decide_eq_true h
    exact decide_eq_true (by omega)
   obtain⟨b,a,l⟩:=S.eq
   refine Fe (c:=b) (λp hp=>?_) a ?_
   ·have:=tF (n:=n) λt m=>u p hp t m
    exact Int.ofNat_le.mpr this
   ·have:=Ey (n:=n) (c:=((dealOf (it Z T k).1).getD b 0).toNat) (λt m=>u b a t m) (bd b a) (decide_eq_true (S.ne b a)) (by
     refine decide_eq_false λz=>z ?_
     show ent (addDeal (it Z T k).1 (dealOf (it Z T k).1) (-wOf (it Z T k).1)) b _=0
     rw[o a,if_pos rfl,l]
     omega)
    omega
  refine⟨S.reg,?_,?_,λj d=>?_,λp hp t=>?_,?_,λj d=>?_,λh=>?_,λh=>?_,λi j r d=>?_⟩
  ·show 0<=(it Z T k).2-wOf (it Z T k).1
   have:=S.wR
   omega
  ·show(it Z T k).2-wOf (it Z T k).1<=T
   have:=S.w1
   have:=I.rT
   omega
  ·rcases fe.mp d with z|z
   ·exact I.lots j z
   ·rw[z];exact S
  ·rw[I.ent p hp t]
   show _=ent (addDeal (it Z T k).1 (dealOf (it Z T k).1) (-wOf (it Z T k).1)) p t+(sm k _+if((dealOf (it Z T k).1).getD p 0).toNat=t then wOf (it Z T k).1 else 0)
   rw[o hp]
   split <;> omega
  ·show sm k _+wOf (it Z T k).1=T-((it Z T k).2-wOf (it Z T k).1)
   have:=I.wts
   omega
  ·rcases fe.mp d with z|z
   ·obtain⟨p,hp,e⟩:=I.kill j z
    refine⟨p,hp,?_⟩
    have h1:=q p hp ((lotAt Z T j).2.getD p 0).toNat
    have h2:0<=HM.ent (it Z T (k+1)).1 p ((lotAt Z T j).2.getD p 0).toNat:=s _ _
    omega
   ·subst z
    obtain⟨b,a,l⟩:=S.eq
    refine⟨b,a,?_⟩
    show HM.ent (addDeal (it Z T j).1 (dealOf (it Z T j).1) (-wOf (it Z T j).1)) b ((dealOf (it Z T j).1).getD b 0).toNat=0
    rw[o a,if_pos rfl,l]
    omega
  ·have:=I.few v
   push_cast
   omega
  ·have h1:=I.few v
   have h2:(n:Int)<=pn n (it Z T k).1:=by
    have:=sm_le (n:=n) (f:=λ_=>if(true:Bool)=true then 1 else 0) (g:=λp=>(cnt n λt=>decide (HM.ent (it Z T k).1 p t≠0):Nat)) λp hp=>by
     have h3:cnt n (λi=>i==((dealOf (it Z T k).1).getD p 0).toNat)<=cnt n λt=>decide (HM.ent (it Z T k).1 p t≠0):=tF λi _ e=>by
      rw[eq_of_beq e]
      exact decide_eq_true (S.ne p hp)
     rw[cnt_one,if_pos (bd p hp)]at h3
     rw[if_pos rfl]
     omega
    rw[sm_cnt (λ_=>true) 1 n]at this
    have e:cnt n (λ_=>true)=n:=by unfold cnt;simp
    rw[e]at this
    show(n:Int)<=sm n _
    omega
   push_cast
   omega
  ·rcases fe.mp d with z|z
   ·exact I.ap i j r z
   ·subst z
    intro e
    obtain⟨p,hp,l⟩:=I.kill i r
    rw[e]at l
    exact S.ne p hp l
def Fin(Z:List (List Int))(T:Int)(k:Nat):Prop:=(it Z T k).2=0/\∀j,j<k->(it Z T j).2≠0
theorem pn_le{n:Nat}(hn:n<=6)(M:List (List Int)):pn n M<=36:=by
 have cn:∀S:Nat->Bool,cnt n S<=n:=λS=>by
  have:=tF (n:=n) (S:=S) (S':=λ_=>true) λ_ _ _=>rfl;have e:cnt n (λ_=>true)=n:=by unfold cnt;simp
  omega
 have:=sm_le (n:=n) (f:=λp=>(cnt n λt=>decide (ent M p t≠0):Nat)) (g:=λ_=>if(true:Bool)=true then 6 else 0) λp _=>by
  have:=cn λt=>decide (ent M p t≠0);rw[if_pos rfl];omega
 rw[sm_cnt (λ_=>true) 6 n]at this;have:=cn λ_=>true;show sm n _<=36;omega
end HM
namespace L2
open PySem PySem.Spec PyProof.Rows
section
variable{prog:cg}{w:cC}{A:cO}{E:bQ->bS->Prop}{s:bS}
def NN(prog:cg)(w:cC)(h:Heap)(k:List Int)(v:bQ):Prop:=∃b,v = .ref b/\IsTupleKey (intKind prog w) h k b
end
theorem xy:entryFor table "set.__len__"=some Builtin.«frozenset.__len__»:=jK (id':="frozenset.__len__") rfl rfl (by decide +kernel) rfl
theorem uR{prog:cg}{w:cC}:∀{r:List Int} {its:List bQ},Vals (r.map V.int) its->ItemsAre (intKind prog w) r its
 | [],[],_=> .nil
 | i::r,v::its,h=>by
  cases h with
  | cons h1 h2=>
   obtain⟨t,rfl⟩:=h1
   exact .cons (beq_self_eq_true _) (uR h2)
theorem Inv.tupV{X:Cx}{pins:List (bV×Obj)}{σ:St}{H:Hp}{s:bS}(I:Inv X pins σ H s){v:V}{u:bQ}{r:List Int}(h:IsR X.K H v r)(rv:RelV v u):NN X.prog X.w s.heap r u:=by
 obtain⟨a,rfl,d⟩:=h
 cases(show u=b5 a from rv);obtain⟨b,c,⟨o,h1,h2,n,h3⟩,_⟩:=I.tuple d;exact⟨a,rfl,o,b.toArray,n,h1,h2,h3,uR c⟩
def RwFL(K:bN)(H:Hp)(T:Int)(v:V)(m:List Int):Prop:=∃a gs,v = .ref a/\SqL K H a gs/\cT (IsF K H) gs (fr T m)
theorem RwFL.mono{K:bN}{H H':Hp}{T:Int}{v:V}{m:List Int}(e:Same H H')(h:RwFL K H T v m):RwFL K H' T v m:=by
 obtain⟨a,b,rfl,h1,h2⟩:=h;exact⟨a,b,rfl,e.seq h1,rX e h2⟩
def RwFX(K:bN)(H:Hp)(T:Int)(lo:bV)(v:V)(m:List Int):Prop:=∃a gs,v = .ref a/\a≠lo/\H a=some (.lst gs)/\cT (IsF K H) gs (fr T m)
theorem RwFX.fl{K:bN}{H:Hp}{T:Int}{lo:bV}{v:V}{m:List Int}(h:RwFX K H T lo v m):RwFL K H T v m:=by
 obtain⟨a,b,rfl,_,h1,h2⟩:=h;exact⟨a,b,rfl,SqL.of h1,h2⟩
theorem RwFX.mono{K:bN}{H H':Hp}{T:Int}{lo:bV}{v:V}{m:List Int}(e:Same H H')(h:RwFX K H T lo v m):RwFX K H' T lo v m:=by
 obtain⟨a,b,rfl,h0,h1,h2⟩:=h;exact⟨a,b,rfl,h0,e _ _ h1,rX e h2⟩
theorem RwFX.over{K:bN}{H:Hp}{T:Int}{lo:bV}{ys zs:List V}{v:V}{m:List Int}(h:RwFX K H T lo v m)(hp:H lo=some (.lst ys)):RwFX K (upd H lo (.lst zs)) T lo v m:=by
 obtain⟨a,b,rfl,h0,h1,h2⟩:=h;exact⟨a,b,rfl,h0,by rw[rR h0];exact h1,Paired.mapP h2 λ_ _ q=>q.over hp⟩
theorem IsLot.over{K:bN}{H:Hp}{T:Int}{v:V}{l:LE}{p:bV}{ys zs:List V}(h:IsLot K H T v l)(hp:H p=some (.lst ys)):IsLot K (upd H p (.lst zs)) T v l:=by
 obtain⟨a,f,g,rfl,h1,h2,h3⟩:=h;exact⟨a,f,g,rfl,u7 h1 hp,h2.over hp,u7 h3 hp⟩
theorem Ct{a b T:Int}(hT:T≠0):Kg (FQ.red a T) (FQ.red b T)=FQ.red (a-b) T:=by
 have:=xQ (a:=a) (b:=b) (c:=1) hT (by decide);rw[gJ,gJ]at this;exact this
theorem zB(T:Int)(m:List Int):(fr T m).length=m.length:=by unfold fr;rw[bP]
structure Nr(n:Nat)(T:Int)(M:List (List Int)):Prop where
 lo:1<=n
 hi:n<=6
 t0:0<T
 t1:T<2^80
 len:M.length=n
 cols:∀r∈M,r.length=n
def IJ(K:bN)(m:Nat):Sp:=λvs H Q _=>∃(l b:bV) (rs:List V) (M:List (List Int)) (T:Int) (n k:Nat) (bs:List Int),vs=[.ref l,.ref b]/\SqL K H l rs/\cT (RwFL K H T) rs M/\Nr n T M/\SqT K H b (bs.map V.int)/\bs.length+k=n/\k<=m/\
 (HM.within M k bs=none->∀H',Same H H'->Q .non H')/\(∀d,HM.within M k bs=some d->∀p H',Same H H'->SqT K H' p (d.map V.int)->Q (.ref p) H')
def LF(K:bN):Sp:=λvs H Q _=>∃(r w:bV) (gs:List V) (m:List Int) (t T x:Int),vs=[.ref r,.int t,.ref w]/\SqL K H r gs/\cT (IsF K H) gs (fr T m)/\IsF K H (.ref w) (FQ.red x T)/\(0<T/\T<2^80)/\(0<=t/\t<m.length)/\m.length<=6/\(0<=m.getD t.toNat 0/\m.getD t.toNat 0<=T)/\(0<=x/\x<=T)/\
 ∀p gs' H',Same H H'->H p=none->H' p=some (.lst gs')->cT (IsF K H') gs' (fr T (LM.addOne m t (-x)))->Q (.ref p) H'
structure K2(n:Nat)(T:Int)(Z:List (List Int)):Prop where
 lo:1<=n
 hi:n<=6
 t0:0<T
 t1:T<2^80
 reg:HM.Reg n Z T
def JG(K:bN):Sp:=λvs H Q _=>∃(a:bV) (us:List V) (Z:List (List Int)) (T:Int) (n:Nat),vs=[.ref a]/\SqL K H a us/\cT (RwFT K H T) us Z/\K2 n T Z/\
 ∀k p ls H',HM.Fin Z T k->Same H H'->H p=none->H' p=some (.lst ls)->cT (IsLot K H' T) ls (HM.lotsL Z T k)->Q (.ref p) H'
theorem uJ{T:Int}(hT:0<T):∀(l:List Int) (s:Int),FG (FQ.red s T) (l.map λx=>FQ.red x T)=FQ.red (HM.minGo s l) T
 | [],s=>rfl
 | a::l,s=>by
  show FG (if FK (FQ.red a T) (FQ.red s T)=true then FQ.red a T else FQ.red s T) (l.map λx=>FQ.red x T)=FQ.red (HM.minGo (if a<s then a else s) l) T
  rw[yr hT hT]
  by_cases h:a<s
  ·rw[if_pos (decide_eq_true (f4 h hT)),if_pos h]
   exact uJ hT l a
  ·rw[if_neg (by rw[decide_eq_true_iff];exact λz=>h (gj z (ef hT))),if_neg h]
   exact uJ hT l s
theorem Ad{T:Int}(hT:0<T){l:List Int}(h:l≠[]):Iz (l.map λx=>FQ.red x T)=FQ.red (HM.minL l) T:=by
 cases l with
 | nil=>exact absurd rfl h
 | cons a l=>exact uJ hT (a::l) a
abbrev FL:=List Int×List Int
def IsPK(prog:cg)(w:cC)(h:Heap)(k:FL)(a:bV):Prop:=
 ∃o n x y,h.get? a=some o/\o.cls = .type "tuple"/\o.data = .seq #[.ref x,.ref y] n/\IsTupleKey (intKind prog w) h k.1 x/\IsTupleKey (intKind prog w) h k.2 y
section
variable{prog:cg}{w:cC}{A:cO}{E:bQ->bS->Prop}{s:bS}
theorem IsPK.typeIs{k:FL}{a:bV}(x:IsPK prog w s.heap k a):s.TypeIs (.ref a) "tuple":=let⟨o,_,_,_,c,b,_⟩:=x;⟨o,c,b⟩
def Kw(prog:cg)(w:cC)(k:FL):Int:=reduceHash (iB [tupleKeyHash (intKind prog w) k.1,tupleKeyHash (intKind prog w) k.2])
theorem Bk{k:FL}{a:bV}{Q:Int->bS->Prop}(hu:A.units+2<cLine)(hk:IsPK prog w s.heap k a)(h:Q (Kw prog w k) {s with toks:=s.toks+((k.1.length+1)+(k.2.length+1)+1)}):wpAny (model prog w) A (pyHash (.ref a)) Q E s:=by
 have b:=hk.typeIs;obtain⟨o,n,x,y,d,_,c,h1,h2⟩:=hk;unfold pyHash pyHashByItsType;refine bM (wpAny_cRoomFor_or (.inr (by omega)) ?_);refine bM (fG b i0.lookup ?_);show wpAny _ _ (if(some (je "tuple.__hash__")==some bQ.none)=true then _ else _) Q E s;rw[if_neg (by rw[beq_builtin_none];exact cA)];refine bM (fG b i0.lookup ?_);show wpAny _ _ (callSpecialIfBoundUnlessNone? (.ref a) "__hash__" _ >>= _) Q E s;refine bM (wpAny_callSpecialIfBoundUnlessNone?_slot b i0 (df i0 b F.entry_tuple_hash ?_ (F.args_tuple_hash_1 _)));show wpAny _ _ (oY (.ref a) >>= _) _ _ s;refine bM (jM d c ?_);rw[<-gS,show #[b5 x,b5 y].toList=[b5 x,b5 y]from rfl];rw[dD,bind_assoc];refine bM (bM (mT (show A.units+1<cLine by omega) h1 ?_));refine bO ?_;dsimp only;rw[dD,bind_assoc];refine bM (bM (mT (s:={s with toks:=s.toks+(k.1.length+1)}) (show A.units+1<cLine by omega) h2 ?_));refine bO ?_;dsimp only;rw[fL];refine bM (bO ?_);refine wpAny_ret_mkInt ?_;show wpAny _ _ (if(decide (-(2:Int)^63<=iB [tupleKeyHash (intKind prog w) k.1,tupleKeyHash (intKind prog w) k.2])&&decide (iB [tupleKeyHash (intKind prog w) k.1,tupleKeyHash (intKind prog w) k.2]<2^63))=true then _ else _) Q E _;unfold Kw reduceHash at h;split at h
 ·rename_i hr
  rw[if_pos hr];exact bO (by simpa [mt]using h)
 ·rename_i hr
  rw[if_neg hr];exact bM (io (bO (by simpa [mt]using h)))
theorem IsPK.inj{h:Heap}{a:bV}{k k':FL}(hx:IsPK prog w h k a)(hy:IsPK prog w h k' a):k=k':=by
 obtain⟨o,n,x,y,p,_,m,h1,h2⟩:=hx;obtain⟨t,s,q,r,b,_,c,g,f⟩:=hy;rw[p]at b
 cases b;rw[m]at c;injection c with e _
 have d:=congrArg mY e;simp only[List.cons.injEq,b5.injEq,and_true]at d;obtain⟨l,j⟩:=d;subst l j;exact Prod.ext (h1.inj g) (h2.inj f)
theorem IsPK.keeps{h h':Heap}{k:FL}{a d:bV}{o:Obj}{es ep}(hx:IsPK prog w h k a)(ho:h.get? d=some o)(hd:o.data = .dict es ep)(hs:eS d h h'):IsPK prog w h' k a:=by
 obtain⟨e,n,x,y,h0,f,b,h1,h2⟩:=hx;have c:a≠d:=by
  rintro rfl;rw[ho]at h0
  cases h0;rw[hd]at b
  cases b
 exact⟨e,n,x,y,(hs.2 a c).trans h0,f,b,h1.keeps ho hd hs,h2.keeps ho hd hs⟩
theorem BM{k k':FL}{a b:bV}{Q:Bool->bS->Prop}(hu:A.units+2<cLine)(hx:IsPK prog w s.heap k a)(hy:IsPK prog w s.heap k' b)(h:Q (decide (k=k')) s):wpAny (model prog w) A (eqBool (.ref a) (.ref b)) Q E s:=by
 unfold eqBool
 try with_reducible refine cR ?_
 show wpAny _ _ (if(b5 a==b5 b)=true then _ else _) Q E s;by_cases c:(b5 a==b5 b)=true
 ·rw[if_pos c];have e:a=b:=by have:=eq_of_beq c;injection this
  subst e;have e:=hx.inj hy;subst e;exact bM (io (bO (by simpa using h)))
 ·rw[if_neg c];have g:=hx.typeIs;have j:=hy.typeIs;obtain⟨o,n,x,y,v,_,u,h1,h2⟩:=hx;obtain⟨C,B,l,m,p,_,q,t,r⟩:=hy;refine bM (wpAny_richCompare_same_room (op:= .Eq) g j jp (df jp g F.entry_tuple_eq ?_ (F.args_tuple_eq_2 _ _)) (by omega));show wpAny _ _ (isInstance (.ref b) (.type "tuple") >>= _) _ _ s;refine bM (dQ j ja ?_);simp only[gA,fk,if_false];refine bM (jM v u ?_);refine bM (jM p q ?_);rw[show List.zip #[b5 x,b5 y].toList #[b5 l,b5 m].toList=[(b5 x,b5 l),(b5 y,b5 m)]from rfl];rw[dD,bind_assoc];refine bM (bM (mU (show A.units+1<cLine by omega) h1 t ?_));by_cases f:k.1=k'.1
  ·rw[decide_eq_true f];simp only[gA,fk,if_false];refine bO ?_;dsimp only;rw[dD,bind_assoc];refine bM (bM (mU (show A.units+1<cLine by omega) h2 r ?_));by_cases d:k.2=k'.2
   ·rw[decide_eq_true d];simp only[gA,fk,if_false];refine bO ?_;dsimp only;rw[fL];refine bM (bO (bO ⟨_,rfl,(λe=>nomatch e),dU ?_⟩));rw[decide_eq_true (Prod.ext f d)]at h;exact h
   ·rw[decide_eq_false d];simp only[oZ,if_true];rw[decide_eq_false (λz=>d (by rw[z]))]at h;exact bM (bO (bO (bM (bO (bO ⟨_,rfl,(λe=>nomatch e),dU h⟩)))))
  ·rw[decide_eq_false f];simp only[oZ,if_true];rw[decide_eq_false (λz=>f (by rw[z]))]at h;exact bM (bO (bO (bM (bO (bO ⟨_,rfl,(λe=>nomatch e),dU h⟩)))))
theorem zn{f:Nat}{ks:List Int}{a:bV}{Q:Bool->bS->Prop}(hk:IsTupleKey (intKind prog w) s.heap ks a)(h:Q true s):wpAny (model prog w) A (eqIsQuiet (f+1) (.ref a)) Q E s:=by
 have g:=hk.typeIs;obtain⟨o,b,n,l,_,k,m⟩:=hk;unfold eqIsQuiet;refine bM (fG g jp.lookup ?_);show wpAny _ _ (isInstance (.ref a) (.type "tuple") >>= _) _ _ s;refine bM (dQ g ja ?_);simp only[gA,fk,if_false];refine bM (fh l k ?_);refine bM ?_;show wpAny _ _ (forIn b _ _) _ _ s;rw[<-gS];refine kK _ (λrest r c=>r.1=none/\c=s/\∀v∈rest,carriedByValue v=true) _ ?_ ?_ _ _ ⟨rfl,rfl,m.byValue⟩
 ·rintro v rest r c ⟨_,rfl,j⟩;rw[eqIsQuiet_byValue _ (j v b0)];refine bM (bO ?_);simp only[gA,fk,if_false];exact bO ⟨rfl,rfl,λu d=>j u (b3 _ d)⟩
 ·rintro⟨q,p⟩ c ⟨e,rfl,_⟩;simp only at e;subst e;exact bO h
theorem Dc{k:FL}{a:bV}{Q:Bool->bS->Prop}(hk:IsPK prog w s.heap k a)(h:Q true s):wpAny (model prog w) A (eqIsQuiet 8 (.ref a)) Q E s:=by
 have b:=hk.typeIs;obtain⟨o,n,x,y,d,_,c,h1,h2⟩:=hk;unfold eqIsQuiet;refine bM (fG b jp.lookup ?_);show wpAny _ _ (isInstance (.ref a) (.type "tuple") >>= _) _ _ s;refine bM (dQ b ja ?_);simp only[gA,fk,if_false];refine bM (fh d c ?_);show wpAny _ _ (forIn #[b5 x,b5 y] _ _ >>= _) _ _ s;rw[<-gS,show #[b5 x,b5 y].toList=[b5 x,b5 y]from rfl,dD,bind_assoc];refine bM (bM (zn h1 ?_));simp only[gA,fk,if_false];refine bO ?_;dsimp only;rw[dD,bind_assoc];refine bM (bM (zn h2 ?_));simp only[gA,fk,if_false];refine bO ?_;dsimp only;rw[fL];exact bM (bO (bO h))
end
def Lo(prog:cg)(w:cC):HeapKind prog w FL where
 is:=IsPK prog w
 hash:=Kw prog w
 draws:=λk=>(k.1.length+1)+(k.2.length+1)+1
 room:=λA=>A.units+2<cLine
 inj:=λhx hy=>hx.inj hy
 keeps:=λx ho hd hs=>x.keeps ho hd hs
 pyHash:=λhu hk h=>Bk hu hk h
 eqBool:=λhu hx hy h=>BM hu hx hy h
 quiet:=λhk h=>Dc hk h
structure KW(κ:Type)[DecidableEq κ] where
 knd:(prog:cg)->(w:cC)->HeapKind prog w κ
 at':bN->Hp->κ->bV->Prop
 ok:∀{X:Cx} {pins:List (bV×Obj)} {σ:St} {H:Hp} {s:bS} {k:κ} {a:bV},Inv X pins σ H s->at' X.K H k a->(knd X.prog X.w).is s.heap k a
 map:∀{K:bN} {H H':Hp} {k:κ} {a:bV},(∀b xs,SqT K H b xs->SqT K H' b xs)->at' K H k a->at' K H' k a
 room:∀{prog:cg} {w:cC} {A:cO},A.units+3<cLine->(knd prog w).room A.in1
 room':∀{prog:cg} {w:cC} {A:cO},A.units+3<cLine->(knd prog w).room A
def DXe{P:cg}{w:cC}{κ:Type}[DecidableEq κ](knd:HeapKind P w κ)(xs:List (κ×bV×bQ))(ep:Nat)(d:bV)(h:Heap):Prop:=
 (d==sysModules)=false/\∃o es,h.get? d=some o/\o.ExactDict/\o.data = .dict es ep/\es.toList=xs.map (entryOfKey knd)/\(xs.map (·.1)).Nodup
def DictE{κ:Type}[DecidableEq κ](W:KW κ)(P:cg)(w:cC)(K:bN)(H:Hp)(d:bV)(ep:Nat)(kvs:List (κ×Int)):Prop:=
 ∃xs,H d=some (.ext (DXe (W.knd P w) xs ep d))/\cT (λ(p:κ×Int) (q:κ×bV×bQ)=>p.1=q.1/\(∃t,q.2.2=dn p.2 t)/\W.at' K H p.1 q.2.1) kvs xs
def DictI{κ:Type}[DecidableEq κ](W:KW κ)(P:cg)(w:cC)(K:bN)(H:Hp)(d:bV)(kvs:List (κ×Int)):Prop:=∃ep,DictE W P w K H d ep kvs
section
variable{κ:Type}[DecidableEq κ]{W:KW κ}{P:cg}{w:cC}{K:bN}{H H':Hp}{d:bV}{ep:Nat}{kvs:List (κ×Int)}
theorem DictE.mono(e:Same H H')(h:DictE W P w K H d ep kvs):DictE W P w K H' d ep kvs:=by
 obtain⟨f,h1,h2⟩:=h;exact⟨f,e _ _ h1,Paired.mapP h2 λ_ _ ⟨a,b,c⟩=>⟨a,b,W.map (λ_ _ q=>e.tup q) c⟩⟩
theorem DictI.mono(e:Same H H')(h:DictI W P w K H d kvs):DictI W P w K H' d kvs:=by
 obtain⟨a,h⟩:=h;exact⟨a,h.mono e⟩
theorem vP{p a:bV}{φ:Heap->Prop}{o:HO}{xs:List V}(h:SqT K H a xs)(hp:H p=some (.ext φ)):SqT K (upd H p o) a xs:=by
 rcases h with(h|⟨u,h⟩)|h
 ·exact .inl (.inl (by rw[rR (λz=>by rw[z,hp]at h;cases h)];exact h))
 ·exact .inl (.inr ⟨u,by rw[rR (λz=>by rw[z,hp]at h;cases h)];exact h⟩)
 ·exact .inr h
theorem DictE.overX{p:bV}{φ:Heap->Prop}{o:HO}(h:DictE W P w K H d ep kvs)(hp:H p=some (.ext φ))(hne:d≠p):DictE W P w K (upd H p o) d ep kvs:=by
 obtain⟨e,h1,h2⟩:=h;exact⟨e,by rw[rR hne];exact h1,Paired.mapP h2 λ_ _ ⟨a,b,c⟩=>⟨a,b,W.map (λ_ _ q=>vP q hp) c⟩⟩
theorem DXe.frame{knd:HeapKind P w κ}{xs:List (κ×bV×bQ)}{h1 h2:Heap}(h:DXe knd xs ep d h1)(k:∀o,h1.get? d=some o->h2.get? d=some o):DXe knd xs ep d h2:=by
 obtain⟨a,o,e,b,c⟩:=h;exact⟨a,o,e,k o b,c⟩
theorem xw{knd:HeapKind P w κ}{xs:List (κ×bV×bQ)}{h:Heap}(hx:DXe knd xs ep d h):ObjOk P w H h d (.ext (DXe knd xs ep d)):=
 ⟨hx,let⟨_,o,_,b,_⟩:=hx;⟨o,b⟩,λ_ _ a b=>a.frame b⟩
end
section
variable{κ:Type}[DecidableEq κ]{W:KW κ}{X:Cx}{pins:List (bV×Obj)}{σ:St}{H:Hp}{s:bS}{d:bV}{ep:Nat}{kvs:List (κ×Int)}{A:cO}{E:bQ->bS->Prop}
theorem Inv.dx(I:Inv X pins σ H s)(h:DictE W X.prog X.w X.K H d ep kvs):∃xs,DXe (W.knd X.prog X.w) xs ep d s.heap/\s.heap.DictOfH (W.knd X.prog X.w) d xs/\cT (λ(p:κ×Int) (q:κ×bV×bQ)=>p.1=q.1/\(∃t,q.2.2=dn p.2 t)/\W.at' X.K H p.1 q.2.1) kvs xs:=by
 obtain⟨xs,h1,h2⟩:=h;obtain⟨k,_,_⟩:=I.hok d _ h1;obtain⟨h3,o,l,a,b,c,e,f⟩:=id k;refine⟨xs,k,⟨o,l,ep,a,b,c,e,λq m=>?_,f⟩,h2⟩;obtain⟨i,r,n⟩:=dW.mp m;obtain⟨p,hp,g,_,j⟩:=Paired.get h2 (bT r);rw[n]at g j;rw[<-g];exact W.ok I j
theorem vY{xs:List (κ×bV×bQ)}{K:bN}{H:Hp}(k:κ):∀{kvs:List (κ×Int)},cT (λ(p:κ×Int) (q:κ×bV×bQ)=>p.1=q.1/\(∃t,q.2.2=dn p.2 t)/\W.at' K H p.1 q.2.1) kvs xs->(kvs.lookup k=none/\atKey xs k=none)\/∃n a t,kvs.lookup k=some n/\atKey xs k=some (a,dn n t):=by
 induction xs with
 | nil=>
  intro kvs h
  cases h;exact .inl ⟨rfl,rfl⟩
 | cons q xs g=>
  intro kvs h
  cases h with
  | @cons p _ ps _ hp hr=>
   obtain⟨f,⟨t,d⟩,_⟩:=hp;obtain⟨b,pn⟩:=p;obtain⟨j,c,l⟩:=q;dsimp only at f d;subst f d;by_cases e:b=k
   ·subst e;refine .inr ⟨pn,c,t,?_,?_⟩
    ·simp[gv]
    ·simp[atKey]
   ·have h1:((b,pn)::ps).lookup k=ps.lookup k:=by
     rw[dj,show(k==b)=false from beq_false_of_ne (Ne.symm e)]
    have h2:atKey ((b,c,dn pn t)::xs) k=atKey xs k:=by
     unfold atKey;rw[List.find?_cons_of_neg (by simpa using e)]
    rw[h1,h2];exact g hr
def M2(W:KW κ)(P:cg)(w:cC)(K:bN)(td ty tx:TE):TE:=λσ H Q=>td σ H λx H1=>∃(d:bV),x = .ref d/\(∃kvs,DictI W P w K H1 d kvs)/\ty σ H1 λy H2=>tx σ H2 λz H3=>∃(a:bV) (k:κ) (n:Int) (kvs:List (κ×Int)),y = .ref a/\z = .int n/\DictI W P w K H3 d kvs/\W.at' K H3 k a/\Q (.int ((kvs.lookup k).getD n)) H3
theorem yZ{P:cg}{w:cC}{K:bN}{o e f:Expr}{apos cpos:Pos}{td ty tx:TE}{j:Nat}(hP:X.prog=P)(hw:X.w=w)(hK:X.K=K)(hr:Room j X.A)(ho:PE X o td)(he:PE X e ty)(hf:PE X f tx)(hbase:attributeBase o "get" X.env (eval o X.env)=eval o X.env:=by rfl)
  (hfew:((backTo cpos (cD [e,f] X.env)).all (λx=>!x.1)&&(backToKw cpos (keywordEach [] X.env)).all (λx=>x.1.isSome)&&decide (([e,f]:List Expr).length+([]:List Keyword).length+(if([]:List Keyword).isEmpty then 0 else 1)<30))=true:=by rfl)
  (hline:(apos.endLine==cpos.line)=true:=by rfl)(htrees:backTo cpos (cD [e,f] X.env)=[(false,eval e X.env),(false,eval f X.env)]:=by rfl):PE X (.Call (.Attribute o "get" apos) [e,f] [] cpos) (M2 W P w K td ty tx):=by
 subst hP hw hK
 intro c s v H Q I h
 refine nI hbase hfew hline kM lK PySem.F.type_dict_get (Fw (ho c s v H _ I h) λu s1 ⟨x,Y,C,V,d,ex,⟨O,aa,E⟩,U⟩=>?_)
 subst ex
 obtain rfl:u=b5 d:=V
 obtain⟨ab,⟨N,o1,ae,g1,g2,_⟩,D,_⟩:=C.dx E
 refine⟨D.typeIs,λb z=>?_,?_⟩
 ·cases z
  exact⟨o1,g1,g2.2.1⟩
 rw[htrees]
 refine fY rfl (ic (eP (Fw (he c s1 v Y _ C U) λJ M ⟨y,H2,L,ry,T⟩=>eP (Fw (hf c M v H2 _ L T) λfv s3 ⟨z,H3,p,rz,a,k,n,ad,R,S,⟨ac,B⟩,hk,Z⟩=>jY ?_))))
 subst R S
 cases(show J=b5 a from ry)
 obtain⟨tn,rfl⟩:=rz
 obtain⟨xs,⟨g,_⟩,l,G⟩:=p.dx B
 refine qr lK l.typeIs PySem.F.entry_dict_get (PySem.F.args_dict_get_3 _ _ _) (meetsH_dict_get_default (W.knd X.prog X.w) d a g (.int n tn)) ⟨W.room (by have:=hr.units;omega),k,xs,W.ok p hk,l,?_⟩
 refine⟨_,H3,p.tok _,?_,Z⟩
 rcases vY k G with⟨r,q⟩|⟨m,b,t,r,q⟩
 ·rw[r,q];exact⟨_,rfl⟩
 ·rw[r,q];exact⟨_,rfl⟩
def Ig(kvs:List (κ×Int))(k:κ)(n:Int):List (κ×Int):=if(kvs.lookup k).isSome=true then kvs.map (λp=>if p.1=k then(p.1,n)else p)else kvs++[(k,n)]
theorem z9{K:bN}{H H':Hp}{xs:List (κ×bV×bQ)}{kvs:List (κ×Int)}{k:κ}{a:bV}{n:Int}{t:Tok}(rel:cT (λ(p:κ×Int) (q:κ×bV×bQ)=>p.1=q.1/\(∃t,q.2.2=dn p.2 t)/\W.at' K H p.1 q.2.1) kvs xs)
  (up:∀(k':κ) (b:bV),W.at' K H k' b->W.at' K H' k' b)(hk:W.at' K H k a):cT (λ(p:κ×Int) (q:κ×bV×bQ)=>p.1=q.1/\(∃t,q.2.2=dn p.2 t)/\W.at' K H' p.1 q.2.1) (Ig kvs k n) (storedH xs k a (.int n t)):=by
 unfold Ig
 rcases vY k rel with⟨f,d⟩|⟨m,b,l,f,d⟩
 ·rw[f,storedH_new d]
  exact Paired.app (Paired.mapP rel λ_ _ ⟨c,j,g⟩=>⟨c,j,up _ _ g⟩) (.cons ⟨rfl,⟨t,rfl⟩,up _ _ hk⟩ .nil)
 ·rw[f,storedH_old d]
  show cT _ (kvs.map λp=>if p.1=k then(p.1,n)else p) (xs.map (putAt k (.int n t)))
  clear f d
  induction rel with
  | nil=>exact .nil
  | @cons p q ps qs h _ ih=>
   obtain⟨c,j,g⟩:=h
   refine .cons ?_ ih
   unfold putAt
   dsimp only
   by_cases e:p.1=k
   ·rw[if_pos e,if_pos (c▸e)]
    exact⟨c,⟨t,rfl⟩,up _ _ g⟩
   ·rw[if_neg e,if_neg (λz=>e (c.trans z))]
    exact⟨c,j,up _ _ g⟩
def MX(W:KW κ)(P:cg)(w:cC)(K:bN):V->V->V->Hp->(Hp->Prop)->Prop:=λo i v H Q=>∃(d a:bV) (k:κ) (n:Int) (kvs:List (κ×Int)),o = .ref d/\i = .ref a/\v = .int n/\DictI W P w K H d kvs/\W.at' K H k a/\kvs.length<=1000000/\
 ∀H',(∃φ φ',H d=some (.ext φ)/\H'=upd H d (.ext φ'))->DictI W P w K H' d (Ig kvs k n)->Q H'
theorem Ez{P:cg}{w:cC}{K:bN}{j:Nat}(hP:X.prog=P)(hw:X.w=w)(hK:X.K=K)(hr:Room j X.A):LG X (MX W P w K):=by
 subst hP hw hK;intro J s σ H o i v ov iv u Q I V N Y h;obtain⟨d,a,k,n,aa,rfl,rfl,rfl,⟨ep,D⟩,hk,hl,q⟩:=h
 cases V
 cases N;obtain⟨t,rfl⟩:=Y;obtain⟨f,⟨l,o1,ac,g1,g2,g3,_⟩,G,g⟩:=I.dx D;have Z:=Paired.len g;refine wpAny_setItem_heap (W.room (by have:=hr.units;omega)) (W.ok I hk) G (λO z S=>?_) (cG (show f.length<=1000000 by omega) (by decide));obtain⟨E,B,c,C,T,U,M,a5,R⟩:=z;obtain⟨ab,h1,h2⟩:=D;have L:DXe (W.knd X.prog X.w) (storedH f k a (.int n t)) c d O:=⟨l,E,B,C,T,U,M,R⟩;have F:=I.write (t':=s.toks+(W.knd X.prog X.w).draws k) (x:=d) (e:=d) (o:= .ext (DXe (W.knd X.prog X.w) (storedH f k a (.int n t)) c d)) (by rw[h1];trivial) (.inl rfl) (λb ob p m=>(S.2 b p).trans m) ⟨E,C⟩ (xw L);refine⟨_,F,q _ ⟨_,_,h1,rfl⟩ ⟨c,storedH f k a (.int n t),rF,?_⟩⟩;have y:∀(r:κ) (b:bV),W.at' X.K H r b->W.at' X.K (upd H d (.ext (DXe (W.knd X.prog X.w) (storedH f k a (.int n t)) c d))) r b:=λr b p=>W.map (λ_ _ m=>vP m h1) p;generalize upd H d (.ext (DXe (W.knd X.prog X.w) (storedH f k a (.int n t)) c d))=Hn at y;exact z9 g y hk
end
section
variable{κ:Type}[DecidableEq κ]{W:KW κ}{X:Cx}
theorem Inv.bigS{pins:List (bV×Obj)}{σ:St}{H:Hp}{s:bS}(I:Inv X pins σ H s):sysModules<s.heap.objs.size:=qt (by decide) ((I.mod.glob.keeps I.bk).lt)
theorem A6{P:cg}{w:cC}(knd:HeapKind P w κ)(h:Heap)(hb:sysModules<h.objs.size):DXe knd [] 0 h.objs.size (h.push {cls:= .type "dict",data:= .dict #[]}):=
 ⟨beq_eq_false_iff_ne.mpr (Ne.symm (cF hb)),_,#[],b4 _ rfl,⟨rfl,rfl,rfl⟩,rfl,rfl,gG⟩
def NC(W:KW κ)(P:cg)(w:cC)(K:bN):TE:=λ_ H Q=>∀d H',H d=none->(∃φ,H'=upd H d (.ext φ))->DictI W P w K H' d []->Q (.ref d) H'
theorem AA{P:cg}{w:cC}{K:bN}{pos:Pos}(hP:X.prog=P)(hw:X.w=w)(hK:X.K=K):PE X (.Dict [] [] pos) (NC W P w K):=by
 subst hP hw hK;exact λb s c H Q I h=>n8 ⟨.ref s.heap.objs.size,_,I.laid (a:=s.heap.objs.size) (o:= .ext (DXe (W.knd X.prog X.w) [] 0 s.heap.objs.size)) (t':=s.toks) (λ_ _ q=>bU _ q) (bX _) (xw (A6 _ s.heap I.bigS)),rfl,
  h _ _ (I.hok.fresh (bX _)) ⟨_,rfl⟩ ⟨0,[],rF,.nil⟩⟩
def MB(W:KW κ)(P:cg)(w:cC)(K:bN)(tk tv:TE):TE:=λσ H Q=>∀d H1,H d=none->(∃φ,H1=upd H d (.ext φ))->DictI W P w K H1 d []->tk σ H1 λx H2=>tv σ H2 λy H3=>∃(a:bV) (k:κ) (n:Int),x = .ref a/\y = .int n/\W.at' K H3 k a/\DictI W P w K H3 d []/\
 ∀H',(∃φ φ',H3 d=some (.ext φ)/\H'=upd H3 d (.ext φ'))->DictI W P w K H' d [(k,n)]->Q (.ref d) H'
theorem Cr{P:cg}{w:cC}{K:bN}{j:Nat}{ke ve:Expr}{pos:Pos}{tk tv:TE}(hP:X.prog=P)(hw:X.w=w)(hK:X.K=K)(hr:Room j X.A)(hk:PE X ke tk)(hv:PE X ve tv):PE X (.Dict [some ke] [ve] pos) (MB W P w K tk tv):=by
 subst hP hw hK;intro c s r H Q I h;have L:=I.laid (a:=s.heap.objs.size) (o:= .ext (DXe (W.knd X.prog X.w) [] 0 s.heap.objs.size)) (t':=s.toks) (h':=s.heap.push {cls:= .type "dict",data:= .dict #[]}) (λ_ _ q=>bU _ q) (bX _) (xw (A6 _ s.heap I.bigS));have S:=h s.heap.objs.size _ (I.hok.fresh (bX _)) ⟨_,rfl⟩ ⟨0,[],rF,.nil⟩;refine wpAny_Dict_any rfl rfl (by simp) (by show 1<=15;decide) ?_;refine pairTrees_cons_walk (Fw (hk c _ r _ _ L S) λu s1 ⟨x,H2,F,T,O⟩=>Fw (hv c s1 r H2 _ F O) λv J ⟨y,H3,f,ry,a,k,n,ex,N,p,⟨ep,D⟩,V⟩=>pairTrees_nil_walk ?_);subst ex N
 cases(show u=b5 a from T);obtain⟨t,rfl⟩:=ry;obtain⟨xs,⟨g,_⟩,G,z⟩:=f.dx D
 cases z;unfold storeAll;rw[dD];refine bM (bM (wpAny_dictSet_heap (hsz:=cM _) (W.room' (by have:=hr.units;omega)) (W.ok f p) G λh' m sb=>bO ?_));dsimp only;rw[fL];refine bO ?_;obtain⟨E,B,d,C,a2,a3,R,a5,Z⟩:=m;obtain⟨aa,h1,h2⟩:=D;have M:DXe (W.knd X.prog X.w) (storedH [] k a (.int n t)) d s.heap.objs.size h':=⟨g,E,B,C,a2,a3,R,Z⟩;have U:=f.write (t':=J.toks+(W.knd X.prog X.w).draws k) (x:=s.heap.objs.size) (e:=s.heap.objs.size) (o:= .ext (DXe (W.knd X.prog X.w) (storedH [] k a (.int n t)) d s.heap.objs.size)) (by rw[h1];trivial) (.inl rfl) (λb ob Y l=>(sb.2 b Y).trans l) ⟨E,C⟩ (xw M);refine⟨.ref s.heap.objs.size,_,U,rfl,V _ ⟨_,_,h1,rfl⟩ ⟨d,storedH [] k a (.int n t),rF,?_⟩⟩;exact .cons ⟨rfl,⟨t,rfl⟩,W.map (λ_ _ l=>vP l h1) p⟩ .nil
end
def RawD(h:Heap)(d:bV)(es:Array DictEntry)(ep:Nat):Prop:=∃o,h.get? d=some o/\o.ExactDict/\o.data = .dict es ep
section
variable{prog:cg}{w:cC}{A:cO}{E:bQ->bS->Prop}{s:bS}
theorem RawD.ty{d:bV}{es:Array DictEntry}{ep:Nat}(r:RawD s.heap d es ep):s.TypeIs (.ref d) "dict":=let⟨o,a,b,_⟩:=r;⟨o,a,b.1⟩
theorem yg(d:bV)(hs:(d==sysModules)=false):MeetsIn prog w (Builtin.«dict.items» ⟨[.ref d],[]⟩) (λ_ R s=>(∃es ep,RawD s.heap d es ep)/\R (.ok (.ret (.ref s.heap.objs.size))) {s with heap:=s.heap.push {cls:= .type "dict_items",data:= .fields #[.ref d]}}):=
 .of_wp λA R s ⟨⟨es,ep,r⟩,h⟩=>by
  unfold Builtin.«dict.items» rb qA
  refine bM (bM (wpAny_notOrdered_dict r.ty (bO ?_)))
  rw[if_neg (by rw[hs];exact cA)]
  exact bM (bO (bM (d5 (bO ⟨_,rfl,h⟩))))
theorem yY{v d:bV}{es:Array DictEntry}{ep:Nat}{Q:bQ->bS->Prop}(hv:s.heap.IsItemsView v d)(r:RawD s.heap d es ep)
  (hQ:Q (.ref s.heap.objs.size) {s with heap:=s.heap.push {cls:= .type "dict_itemiterator",data:= .fields #[.none,.bool false,.ref d,.int 0 0,.int es.size 0,.int ep 0,.none,.none]}}):wpAny (model prog w) A (pyIter (.ref v)) Q E s:=by
 obtain⟨j,f,h,e⟩:=id hv
 obtain⟨o,b,g,c⟩:=id r
 refine iZ hv.typeIs k8 (df k8 hv.typeIs F.entry_dict_items_iter ?_ (F.args_dict_items_iter_1 _))
 unfold Builtin.«dict_items.__iter__» pj n9
 refine bM (bO (bM (bM (dN f e (x:= .ref d) rfl (bO ?_)))))
 refine bM (bM (j4 b c (bM (lA b c ?_))))
 have a:gX "dict_itemiterator"=true:=by decide
 simp only[a,if_true]
 refine d5 (bO ⟨_,rfl,"dict_itemiterator",_,⟨_,b4 _ rfl,rfl⟩,d7.lookup,?_⟩) (by simp only[sizeOk,iJ,cc,cr,cZ,lu,lP];omega)
 simpa [rawInt,iJ]using hQ
theorem yU{it d:bV}{i ep:Nat}{es:Array DictEntry}{ok ov:bQ}{Q:Option bQ->bS->Prop}(hit:IsItemIter s.heap it d i es.size ep ok ov)(r:RawD s.heap d es ep)(hlt:i<es.size)
  (hQ:∀h',IsItemIterOut h' it d (i+1) es.size ep es[i].key es[i].val s.heap.objs.size->h'.get? s.heap.objs.size=some {cls:= .type "tuple",data:= .seq #[es[i].key,es[i].val]}->h'.objs.size=s.heap.objs.size+1->
   (∀b o,b≠it->s.heap.get? b=some o->h'.get? b=some o)->Q (some (.ref s.heap.objs.size)) {s with heap:=h'}):wpAny (model prog w) A (pyNext (.ref it)) Q E s:=by
 obtain⟨hp,g,l,tk,n⟩:=s
 obtain⟨o,I,O,H⟩:=id r
 have h:kg ⟨hp,g,l,tk,n⟩ (.ref it) "dict_itemiterator":=⟨_,hit,rfl⟩
 unfold pyNext
 refine bM (f8 (dA (name:=b9 "__next__") h d7 (df d7 h jd ?_ (i8 _))))
 refine bM (bO (bM (bM ?_)))
 first|refine bM (fI h (bO ?_))|refine bM (wpAny_typeNameOf_itemiter h (bO ?_))
 refine bM (ip hit rfl ?_)
 have G:gX "dict_itemiterator"=true:=by decide
 simp only[G,if_true]
 show wpAny _ _ (if(b5 d==bQ.none)=true then _ else _) _ _ _
 rw[if_neg (show ¬((b5 d==bQ.none)=true)from cA)]
 refine bM (bO (bM (j4 I H ?_)))
 rw[if_neg (by simp)]
 refine bM (bO (bM (lA I H ?_)))
 rw[if_neg (by simp)]
 refine bO ?_
 simp only[show ¬((i:Int)<0)from by omega,if_false,eZ,d8 hlt]
 refine bM ?_
 first|refine bM (fI h (bO ?_))|refine bM (wpAny_typeNameOf_itemiter h (bO ?_))
 refine bM (i3 h ?_)
 show wpAny _ _ (setField (.ref it) 3 (rawInt ((i:Int)+1)) >>= _) _ _ ⟨hp,g,l,tk,n⟩
 refine bM (dY hit (by simp) λh1 k p=>?_)
 replace p:eS it hp h1:=p
 replace k:IsItemIter h1 it d (i+1) es.size ep ok ov:=by
  have e:((i+1:Nat):Int)=(i:Int)+1:=by omega
  unfold IsItemIter;rw[e];simpa [rawInt]using k
 have m:kg ⟨h1,g,l,tk,n⟩ (.ref it) "dict_itemiterator":=⟨_,k,rfl⟩
 refine bM (cR (bM (i3 m (bM (i3 m ?_)))))
 show wpAny _ _ (i4 (.ref it) 6 es[i].key es[i].val) _ _ ⟨h1,g,l,tk,n⟩
 generalize es[i].key=a at *
 generalize es[i].val=c at *
 unfold i4 mw
 refine bM (ir ?_)
 have j:IsItemIter (h1.push {cls:= .type "tuple",data:= .seq #[a,c]}) it d (i+1) es.size ep ok ov:=bU _ k
 have u:h1.objs.size=hp.objs.size:=p.1
 have J:(h1.push {cls:= .type "tuple",data:= .seq #[a,c]}).get? hp.objs.size=some {cls:= .type "tuple",data:= .seq #[a,c]}:=by rw[<-u];exact b4 _ rfl
 have K:(h1.push {cls:= .type "tuple",data:= .seq #[a,c]}).objs.size=hp.objs.size+1:=by rw[fK,u]
 have L:∀b o,b≠it->hp.get? b=some o->(h1.push {cls:= .type "tuple",data:= .seq #[a,c]}).get? b=some o:=λb o f e=>bU _ (p.extBut b o f e)
 have N:it≠hp.objs.size:=cF (b6 hit)
 show wpAny _ _ _ _ _ ⟨h1.push {cls:= .type "tuple",data:= .seq #[a,c]},g,l,tk,n⟩
 rw[u]
 generalize h1.push {cls:= .type "tuple",data:= .seq #[a,c]}=h2 at j J K L
 clear k p m u
 refine bM (bM (dN j rfl (x:= .none) rfl (bO ?_)))
 simp only[if_true]
 refine bM (dN j rfl (x:=ok) rfl (bM (dN j rfl (x:=ov) rfl ?_)))
 refine bM (dY j (by simp) λh3 C y=>?_)
 replace y:eS it h2 h3:=y
 replace C:IsItemIter h3 it d (i+1) es.size ep a ov:=C
 refine bM (dY C (by simp) λh4 z q=>?_)
 replace q:eS it h3 h4:=q
 replace z:IsItemIter h4 it d (i+1) es.size ep a c:=z
 refine bM (dY z (by simp) λh5 D t=>?_)
 replace t:eS it h4 h5:=t
 replace D:IsItemIterOut h5 it d (i+1) es.size ep a c hp.objs.size:=D
 refine bM (dY D (by simp) λh6 B v=>?_)
 replace v:eS it h5 h6:=v
 replace B:IsItemIterOut h6 it d (i+1) es.size ep a c hp.objs.size:=B
 have M:∀b o,b≠it->h2.get? b=some o->h6.get? b=some o:=λb o f e=>v.extBut b o f (t.extBut b o f (q.extBut b o f (y.extBut b o f e)))
 refine bM (j3 (bO (bO ⟨_,rfl,bO (hQ h6 B (M _ _ (Ne.symm N) J) ?_ λb o f e=>M b o f (L b o f e))⟩)))
 show h6.objs.size=hp.objs.size+1
 rw[v.1,t.1,q.1,y.1,K]
theorem Aa{it d:bV}{i ep:Nat}{es:Array DictEntry}{ok ov:bQ}{Q:Option bQ->bS->Prop}(hh:A.handled=none)(hit:IsItemIter s.heap it d i es.size ep ok ov)(r:RawD s.heap d es ep)(hge:es.size<=i)
  (hQ:∀h',qJ it s.heap h'->Q none {s with heap:=h'}):wpAny (model prog w) A (pyNext (.ref it)) Q E s:=by
 obtain⟨o,f,h,g⟩:=id r
 have c:s.TypeIs (.ref it) "dict_itemiterator":=⟨_,hit,rfl⟩
 unfold pyNext
 refine bM (f8 (dA (name:=b9 "__next__") c d7 (df d7 c jd ?_ (i8 _))))
 refine bM (bO (bM (bM ?_)))
 first|refine bM (fI c (bO ?_))|refine bM (wpAny_typeNameOf_itemiter c (bO ?_))
 refine bM (ip hit rfl ?_)
 have e:gX "dict_itemiterator"=true:=by decide
 simp only[e,if_true]
 show wpAny _ _ (if(b5 d==bQ.none)=true then _ else _) _ _ s
 rw[if_neg (show ¬((b5 d==bQ.none)=true)from cA)]
 refine bM (bO (bM (j4 f g ?_)))
 rw[if_neg (by simp)]
 refine bM (bO (bM (lA f g ?_)))
 rw[if_neg (by simp)]
 refine bO ?_
 simp only[show ¬((i:Int)<0)from by omega,if_false,eZ,f3 hge]
 refine bM ?_
 first|refine bM (fI c (bO ?_))|refine bM (wpAny_typeNameOf_itemiter c (bO ?_))
 show wpAny _ _ (setField (.ref it) 2 .none >>= _) _ _ s
 refine bM (fM hit rfl (by simp) ?_)
 show wpAny _ _ (newExc (.type "StopIteration") [] >>= _) _ _ _
 refine bM ?_
 simp only[newExc,newTuple]
 refine bM (d5 ?_ (by size_fits))
 refine bM (m:=firstArgMember _ _) (eQ (a:=bQ.none) (by first|rfl|(simp only[firstArgMember];rfl)) ?_)
 refine d5 ?_ (by size_fits)
 simp only[raiseNew]
 refine bM (ki ?_)
 rw[show A.in1.handled=none from hh]
 refine bM (bO (lY ?_))
 refine bM (dQ (T:="StopIteration") (b:=true) ⟨_,b4 _ rfl,rfl⟩ jL ?_)
 exact bO (hQ _ (((d0 ..).extBut.push _).push _))
end
section
variable{κ:Type}[DecidableEq κ]
def Nd(W:KW κ)(P:cg)(w:cC)(K:bN)(d:bV)(ep n:Nat):It:=
 ⟨λi H=>∃kvs k m,DictE W P w K H d ep kvs/\kvs.length=n/\kvs[i]?=some (k,m),
  λi H v H'=>∃a k m t,(∀kvs,DictE W P w K H d ep kvs->kvs[i]?=some (k,m))/\W.at' K H k a/\v = .ref t/\H t=none/\H'=upd H t (.tup [.ref a,.int m]),
  λi H=>∃kvs,DictE W P w K H d ep kvs/\kvs.length=n/\n<=i⟩
theorem Inv.dx_inj{W:KW κ}{X:Cx}{pins:List (bV×Obj)}{σ:St}{H:Hp}{s:bS}{d:bV}{ep:Nat}{kvs kvs':List (κ×Int)}(I:Inv X pins σ H s)(h:DictE W X.prog X.w X.K H d ep kvs)(h':DictE W X.prog X.w X.K H d ep kvs'):kvs=kvs':=by
 obtain⟨S,⟨_,o,J,y,T,z,t,_⟩,G,b⟩:=I.dx h;obtain⟨E,⟨_,Q,D,g,P,n,c,_⟩,C,a⟩:=I.dx h';rw[y]at g
 cases g;rw[z]at n;injection n with e1 _
 subst e1;rw[t]at c;have M:=Paired.len b;have O:=Paired.len a;have v:=congrArg iM c;rw[bP,bP]at v;refine kE (by omega) λi h1 h2=>?_;obtain⟨q,u,N,⟨L,p⟩,r⟩:=Paired.get' (i:=i) b (bT h1);obtain⟨R,j,F,⟨B,m⟩,f⟩:=Paired.get' (i:=i) a (bT h2);have e:=congrArg (λl:List DictEntry=>l[i]?) c;simp only[bZ,u,j,oC]at e;have e:=Option.some.inj e;unfold entryOfKey at e;injection e with _ e2 e3
 injection e2 with e2
 have k:=W.ok I r;have x:=W.ok I f;rw[e2]at k;have A:=(W.knd X.prog X.w).inj k x;rw[p,m]at e3;injection e3 with e4 _
 exact Prod.ext A e4
theorem vC:entryFor table "dict_itemiterator.__iter__"=some Builtin.«dict_keyiterator.__iter__»:=jK (id':="dict_keyiterator.__iter__") rfl rfl (by decide +kernel) rfl
theorem Am{P:cg}{w:cC}{A:cO}{E:bQ->bS->Prop}{s:bS}{it d:bV}{i n ep:Nat}{ok ov:bQ}{Q:bQ->bS->Prop}(hit:IsItemIter s.heap it d i n ep ok ov)(h:Q (.ref it) s):wpAny (model P w) A (pyIter (.ref it)) Q E s:=by
 have a:s.TypeIs (.ref it) "dict_itemiterator":=⟨_,hit,rfl⟩;refine iZ a ji (df ji a vC ?_ (F.args_dict_itemiterator_iter_1 _));exact bM (bO (bO ⟨_,rfl,"dict_itemiterator",_,a,d7.lookup,h⟩))
theorem zR{W:KW κ}{P:cg}{w:cC}{K:bN}{elts:List Expr}{x1:Nat}{pos:Pos}(d it:bV)(ep n:Nat):JY P w K (.Tuple elts x1 pos) (Nd W P w K d ep n) [it] it (λi h=>∃ok ov,IsItemIter h it d i n ep ok ov) where
 mem:=by simp
 obj:=λi h st b a=>by
  obtain⟨ok,ov,q⟩:=st
  rw[bY.mp a]
  exact⟨_,q,λv z=>by cases z⟩
 keep:=λi h t st k=>by
  obtain⟨ok,ov,q⟩:=st
  exact⟨ok,ov,k it (by simp) _ q⟩
 item:=by
  intro X B Q C Z i c s A H E I F st N
  subst B Q C
  obtain⟨Y,k,m,y,S,hk⟩:=N
  obtain⟨xs,⟨_,o,r,L,M,O,x,_⟩,hd,j⟩:=I.dx y
  obtain⟨ok,ov,f⟩:=st
  have p:r.size=n:=by
   have:=congrArg iM x
   have:=Paired.len j
   simp at *
   omega
  subst p
  have hi:i<r.size:=by have:=(b8.mp hk).1;omega
  obtain⟨q,hq,V,⟨D,R⟩,T⟩:=Paired.get' j hk
  have ee:r[i]=entryOfKey (W.knd X.prog X.w) q:=by
   have e:=congrArg (λl:List DictEntry=>l[i]?) x
   simp only[bZ,hq,oC,e9,d8 hi]at e
   exact Option.some.inj e
  refine yU f ⟨o,L,M,O⟩ hi λt J G ab kk=>?_
  rw[ee]at J G
  obtain⟨qk,g,qv⟩:=q
  dsimp only at V R T
  subst V R
  dsimp only[entryOfKey]at J G
  have li:it≠s.heap.objs.size:=cF (b6 f)
  have hn:H s.heap.objs.size=none:=I.hok.fresh (bX _)
  have I0:Inv X c A (upd H s.heap.objs.size (.tup [.ref g,.int m])) {s with heap:=s.heap.push {cls:= .type "tuple",data:= .seq #[.ref g,.int m D]},toks:=s.toks}:=
   I.laid (t':=s.toks) (λb o q=>bU _ q) (bX _) ⟨by show 2<=sizeLine;decide,[.ref g,.int m D],.cons rfl (.cons ⟨_,rfl⟩ .nil),⟨_,b4 _ rfl,rfl,_,rfl⟩⟩
  have u:∀b∈[it],HP X c (upd H s.heap.objs.size (.tup [.ref g,.int m])) b:=λb a=>by
   have q:=F b a
   refine⟨?_,q.2⟩
   rw[rR (by rw[bY.mp a];exact li)]
   exact q.1
  have I1:Inv X c A (upd H s.heap.objs.size (.tup [.ref g,.int m])) {s with heap:=t,toks:=s.toks}:=
   Inv.turnedL (s:={s with heap:=s.heap.push {cls:= .type "tuple",data:= .seq #[.ref g,.int m D]},toks:=s.toks}) I0 (fp:=[it]) (t':=s.toks) (λb o a q=>by
    rcases tW q rfl with q|⟨rfl,rfl⟩
    ·exact kk b o (λz=>a (by simp[z])) q
    ·exact G) u
  refine⟨_,rfl,wpAny_letOwnedTupleGo_items (s:={s with heap:=t}) J λh2 se sb=>?_⟩
  have I2:Inv X c A (upd H s.heap.objs.size (.tup [.ref g,.int m])) {s with heap:=h2,toks:=s.toks}:=
   Inv.turnedL (s:={s with heap:=t,toks:=s.toks}) I1 (fp:=[it]) (t':=s.toks) (λb o a q=>(sb.2 b (λz=>a (by simp[z]))).trans q) u
  exact⟨.ref s.heap.objs.size,_,I2,rfl,⟨g,k,m,_,λaa h=>by rw[I.dx_inj h y];exact hk,T,rfl,hn,rfl⟩,⟨_,_,se⟩,λb a=>(u b a).1⟩
 done:=by
  intro X B Q C Z i c s A H E I F st N
  subst B Q C
  obtain⟨Y,y,S,U⟩:=N
  obtain⟨xs,⟨_,o,r,L,M,O,x,_⟩,hd,j⟩:=I.dx y
  obtain⟨ok,ov,f⟩:=st
  have p:r.size=n:=by
   have:=congrArg iM x
   have:=Paired.len j
   simp at *
   omega
  subst p
  exact Aa (I.ok.hd Z) f ⟨o,L,M,O⟩ U λt eb=>⟨rfl,I.turnedL (fp:=[it]) (t':=s.toks) (λb o a q=>eb b o (λz=>a (by simp[z])) q) F⟩
 self:=λ_ _ _ _ _ st h=>by
  obtain⟨ok,ov,f⟩:=st
  exact Am f h
def Mh(W:KW κ)(P:cg)(w:cC)(K:bN)(td:TE):TI:=λσ H R=>td σ H λx H1=>∃(d:bV) (ep:Nat) (kvs:List (κ×Int)),x = .ref d/\DictE W P w K H1 d ep kvs/\R (Nd W P w K d ep kvs.length) H1
theorem C1{W:KW κ}{X:Cx}{P:cg}{w:cC}{K:bN}{elts:List Expr}{x1:Nat}{tpos apos cpos:Pos}{o:Expr}{td:TE}(hP:X.prog=P)(hw:X.w=w)(hK:X.K=K)(ho:PE X o td)(hbase:attributeBase o "items" X.env (eval o X.env)=eval o X.env:=by rfl)(hline:(apos.endLine==cpos.line)=true:=by rfl):
  PI X (.Tuple elts x1 tpos) (.Call (.Attribute o "items" apos) [] [] cpos) (Mh W P w K td):=by
 subst hP hw hK
 intro c s A H R I h
 refine kB hbase hline (Fw (ho c s A H _ I h) λv a ⟨x,y,r,E,d,j,e,L,M,q⟩=>?_)
 subst L
 obtain rfl:v=b5 d:=E
 obtain⟨N,⟨g,m,t,k,l,C,G,_⟩,p,B⟩:=r.dx M
 have n:t.size=e.length:=by
  have:=congrArg iM G
  have:=Paired.len B
  simp at *
  omega
 refine⟨"dict",_,kM,kN,PySem.F.type_dict_items,p.typeIs,λb z=>by cases z;exact⟨m,k,l.2.1⟩,fY rfl (ma ?_)⟩
 refine qr kN p.typeIs PySem.F.entry_dict_items (PySem.F.args_dict_items_1 _) (yg d g) ⟨⟨t,j,m,k,l,C⟩,?_⟩
 have u:∀b o,a.heap.get? b=some o->(a.heap.push {cls:= .type "dict_items",data:= .fields #[.ref d]}).get? b=some o:=λb o z=>bU _ z
 have f:Inv X c A y {a with heap:=a.heap.push {cls:= .type "dict_items",data:= .fields #[.ref d]}}:=r.kept (t':=a.toks) u
 refine yY (s:={a with heap:=a.heap.push {cls:= .type "dict_items",data:= .fields #[.ref d]}}) ⟨_,b4 _ rfl,rfl,rfl⟩ ⟨m,u _ _ k,l,C⟩ ?_
 rw[n]
 have D:=f.kept (t':=a.toks) (h':=(a.heap.push {cls:= .type "dict_items",data:= .fields #[.ref d]}).push {cls:= .type "dict_itemiterator",data:= .fields #[.none,.bool false,.ref d,.int 0 0,.int e.length 0,.int j 0,.none,.none]}) λb o z=>bU _ z
 refine⟨_,[(a.heap.push {cls:= .type "dict_items",data:= .fields #[.ref d]}).objs.size],_,_,y,rfl,D,zR d _ j e.length,⟨_,_,b4 _ rfl⟩,λb J=>?_,q⟩
 rw[bY.mp J]
 exact f.fpOk (bX _) (f.hok.fresh (bX _))
theorem Bs{W:KW κ}{P:cg}{w:cC}{K:bN}{d:bV}{ep:Nat}{kvs:List (κ×Int)}{g:TG}{tb:TS}{D:Il}{σ:St}{H:Hp}(Pv:Nat->St->Hp->Prop)(h0:Pv 0 σ H)(hl:∀i σ H,i<=kvs.length->Pv i σ H->DictE W P w K H d ep kvs)
  (hs:∀i k m a σ H t,kvs[i]?=some (k,m)->W.at' K H k a->H t=none->Pv i σ H->g (.ref t) σ (upd H t (.tup [.ref a,.int m])) λσ2 H2=>tb {D with nx:=Pv (i+1),ct:=Pv (i+1),bk:=D.nx} σ2 H2)(hd:∀σ H,Pv kvs.length σ H->D.nx σ H):
  ∃Wv:Nat->Nat->St->Hp->Prop,(∃m,Wv 0 m σ H)/\∀i m σ H,Wv i m σ H->((Nd W P w K d ep kvs.length).stop i H/\D.nx σ H)\/
   ((Nd W P w K d ep kvs.length).go i H/\∃N:St->Hp->Prop,(∀σ' H',N σ' H'->∃m',m'<m/\Wv (i+1) m' σ' H')/\∀x H',(Nd W P w K d ep kvs.length).yld i H x H'->g x σ H' λσ2 H2=>tb {D with nx:=N,ct:=N,bk:=D.nx} σ2 H2):=by
 refine⟨λi m σ H=>m=kvs.length-i/\i<=kvs.length/\Pv i σ H,⟨kvs.length,by simp,cM _,h0⟩,?_⟩
 rintro i m σ H ⟨rfl,f,p⟩
 have q:=hl i σ H f p
 by_cases b:i<kvs.length
 ·refine .inr ⟨⟨kvs,_,_,q,rfl,bT b⟩,Pv (i+1),λσ' H' c=>⟨kvs.length-(i+1),by omega,rfl,b,c⟩,λx H' y=>?_⟩
  obtain⟨a,k,m,t,h1,h2,rfl,h3,rfl⟩:=y
  exact hs i k m a σ H t (h1 kvs q) h2 h3 p
 ·have e:i=kvs.length:=by omega
  subst e
  exact .inl ⟨⟨kvs,q,rfl,bX _⟩,hd σ H p⟩
end
def Ij:KW (List Int) where
 knd:=λprog w=>tupleKind (intKind prog w)
 at':=λK H k a=>SqT K H a (k.map V.int)
 ok:=λ {X pins σ H s k a} I h=>by
  obtain⟨b,e,hb⟩:=I.tupV (v:= .ref a) (u:= .ref a) ⟨a,rfl,h⟩ rfl
  cases e
  exact hb
 map:=λf h=>f _ _ h
 room:=λh=>by show _+1<cLine;omega
 room':=λh=>by show _<cLine;omega
def Ih:KW FL where
 knd:=Lo
 at':=λK H k a=>∃x y,SqT K H a [.ref x,.ref y]/\SqT K H x (k.1.map V.int)/\SqT K H y (k.2.map V.int)
 ok:=λ {X pins σ H s k a} I h=>by
  obtain⟨x,y,h1,h2,h3⟩:=h
  obtain⟨b1,e1,k1⟩:=I.tupV (v:= .ref x) (u:= .ref x) ⟨x,rfl,h2⟩ rfl
  obtain⟨b2,e2,k2⟩:=I.tupV (v:= .ref y) (u:= .ref y) ⟨y,rfl,h3⟩ rfl
  cases e1
  cases e2
  obtain⟨its,rs,⟨o,q1,q2,n,q3⟩,_⟩:=I.tuple h1
  cases rs with
  | cons r1 rs=>
   cases rs with
   | cons r2 rs=>
    cases rs
    cases r1
    cases r2
    exact⟨o,n,x,y,q1,q2,q3,k1,k2⟩
 map:=λf h=>by
  obtain⟨x,y,h1,h2,h3⟩:=h
  exact⟨x,y,f _ _ h1,f _ _ h2,f _ _ h3⟩
 room:=λh=>by show _+1+2<cLine;omega
 room':=λh=>by show _+2<cLine;omega
end L2
namespace TM
open LM LN
def MQ(l:List Int):Prop:=l.Pairwise (· <= ·)
theorem zo:∀{l m:List Int},l.Perm m->MQ l->MQ m->l=m
 | [],m,h,_,_=>(List.nil_perm.mp h).symm
 | a::l,[],h,_,_=>by have:=h.length_eq;simp at this
 | a::l,b::m,h,h1,h2=>by
  have e:a=b:=by
   have f:=cj.mp (h.mem_iff.mp (b0 (a:=a)))
   have g:=cj.mp (h.mem_iff.mpr (b0 (a:=b)))
   obtain⟨c,_⟩:=eo.mp h1
   obtain⟨d,_⟩:=eo.mp h2
   rcases f with z|z
   ·exact z
   ·rcases g with y|y
    ·exact y.symm
    ·have:=c b y
     have:=d a z
     omega
  subst e
  rw[zo (List.perm_cons a |>.mp h) (eo.mp h1).2 (eo.mp h2).2]
def K9(x:Int):List Int->List Int
 | []=>[x]
 | a::l=>if x<=a then x::a::l else a::K9 x l
def srt:List Int->List Int
 | []=>[]
 | a::l=>K9 a (srt l)
theorem vS(x:Int):∀l,(K9 x l).Perm (x::l)
 | []=>ii _
 | a::l=>by
  unfold K9
  split
  ·exact ii _
  ·exact((vS x l).cons a).trans (qa.swap x a l)
theorem zt(x:Int):∀{l},MQ l->MQ (K9 x l)
 | [],_=>eo.mpr ⟨(λ_ h=>nomatch h),mq.nil⟩
 | a::l,h=>by
  unfold K9
  obtain⟨h1,h2⟩:=eo.mp h
  split
  ·rename_i c
   exact eo.mpr ⟨λb d=>by
    rcases cj.mp d with z|z
    ·omega
    ·have:=h1 b z;omega,h⟩
  ·rename_i c
   refine eo.mpr ⟨λb d=>?_,zt x h2⟩
   rcases cj.mp ((vS x l).mem_iff.mp d)with z|z
   ·omega
   ·exact h1 b z
theorem srt_perm:∀l,(srt l).Perm l
 | []=>ii _
 | a::l=>(vS a (srt l)).trans ((srt_perm l).cons a)
theorem yV:∀l,MQ (srt l)
 | []=>mq.nil
 | a::l=>zt a (yV l)
theorem srt_eq{l m:List Int}(h:m.Perm l)(hs:MQ m):m=srt l:=zo (h.trans (srt_perm l).symm) hs (yV l)
theorem zd(l:List Int)(x:Int):srt (srt l++[x])=srt (l++[x]):=srt_eq ((srt_perm _).trans ((srt_perm l).append_right [x])) (yV _)
theorem Bj{l:List Int}{x:Int}:x∈srt l↔x∈l:=(srt_perm l).mem_iff
def freeP(n:Nat)(π:List Int):List Int:=(rng n).filter λp=>!decide (p∈π)
def exts(n:Nat)(π:List Int):List (List Int):=(freeP n π).map λp=>π++[p]
def pre(n:Nat):Nat->List (List Int)
 | 0=>[[]]
 | k+1=>(pre n k).flatMap (exts n)
structure L8(n k:Nat)(π:List Int):Prop where
 len:π.length=k
 nd:π.Nodup
 bd:∀p∈π,0<=p/\p<n
theorem pre_ok{n:Nat}:∀{k:Nat} {π:List Int},π∈pre n k->L8 n k π
 | 0,π,h=>by
  rw[bY.mp h]
  exact⟨rfl,gG,λ_ h=>nomatch h⟩
 | k+1,π,h=>by
  obtain⟨c,h1,h2⟩:=oa.mp h
  obtain⟨p,h3,rfl⟩:=cP.mp h2
  obtain⟨h4,h5⟩:=dw.mp h3
  have I:=pre_ok h1
  have h6:p∉c:=by simpa using h5
  refine⟨by rw[cr,I.len];rfl,fO.mpr ⟨I.nd,by simp,λx d y b z=>h6 (by rw[bY.mp b]at z;rw[<-z];exact d)⟩,λq a=>?_⟩
  rcases cN.mp a with z|z
  ·exact I.bd q z
  ·rw[bY.mp z];exact mem_rng.mp h4
theorem free_len{n k:Nat}{π:List Int}(h:L8 n k π):(freeP n π).length+k=n:=by
 have b:∀(l m:List Int),l.Nodup->m.Nodup->(∀x∈m,x∈l)->(l.filter λp=>!decide (p∈m)).length+m.length=l.length:=by
  intro l m c f d;have hp:(l.filter λp=>decide (p∈m)).Perm m:=by
   refine(fD (c.filter _) f).mpr λx=>?_;rw[dw];exact⟨λz=>of_decide_eq_true z.2,λz=>⟨d x z,decide_eq_true z⟩⟩
  have h1:=List.length_eq_countP_add_countP (p:=λp=>decide (p∈m)) (l:=l);rw[jq,jq,hp.length_eq]at h1;have e:(l.filter λa=>decide (¬decide (a∈m)=true))=l.filter λp=>!decide (p∈m):=fP λx _=>by by_cases z:x∈m <;> simp[z]
  rw[e]at h1;omega
 have:=b (rng n) π (rng_nodup n) h.nd λx g=>mem_rng.mpr (h.bd x g);rw[rng_len,h.len]at this;exact this
def smL{α:Type}(l:List α)(f:α->Int):Int:=(l.map f).sum
theorem tq{α:Type}(f:α->Int):smL [] f=0:=rfl
theorem sB{α:Type}(a:α)(l:List α)(f:α->Int):smL (a::l) f=f a+smL l f:=by unfold smL;simp
theorem vf{α:Type}(l m:List α)(f:α->Int):smL (l++m) f=smL l f+smL m f:=by unfold smL;simp
theorem smL_congr{α:Type}{l:List α}{f g:α->Int}(h:∀x∈l,f x=g x):smL l f=smL l g:=by unfold smL;rw[eX h]
theorem vM{α β:Type}(g:α->List β)(f:β->Int):∀l:List α,smL (l.flatMap g) f=smL l λx=>smL (g x) f
 | []=>rfl
 | a::l=>by rw[List.flatMap_cons,vf,sB,vM g f l]
theorem wo{α β:Type}(g:α->β)(f:β->Int)(l:List α):smL (l.map g) f=smL l λx=>f (g x):=by unfold smL;rw[iz];rfl
theorem A1{α:Type}(f g:α->Int):∀l:List α,smL l (λx=>f x+g x)=smL l f+smL l g
 | []=>rfl
 | a::l=>by rw[sB,sB,sB,A1 f g l];omega
theorem BH{α:Type}(c:Int)(f:α->Int):∀l:List α,smL l (λx=>c*f x)=c*smL l f
 | []=>by show(0:Int)=c*0;rw[f6]
 | a::l=>by rw[sB,sB,BH c f l,iP]
theorem t5{α:Type}(c:Int):∀l:List α,smL l (λ_=>c)=c*l.length
 | []=>by show(0:Int)=c*0;rw[f6]
 | a::l=>by rw[sB,t5 c l,cZ];push_cast;rw[iP,gJ,qu]
theorem za{α:Type}(l:List α):smL l (λ_=>0)=0:=by rw[t5,jw]
def fct:Nat->Int
 | 0=>1
 | k+1=>fct k*((k:Int)+1)
theorem y9{n:Nat}(g:List Int->Int){j:Nat}:∀d,j+d<=n->fct (n-(j+d))*smL (pre n (j+d)) (λo=>g (o.take j))=fct (n-j)*smL (pre n j) λo=>g (o.take j)
 | 0,_=>rfl
 | d+1,h=>by
  have c:=y9 (n:=n) g (j:=j) d (by omega)
  rw[<-c]
  have e:smL (pre n (j+(d+1))) (λo=>g (o.take j))=((n-(j+d):Nat):Int)*smL (pre n (j+d)) λo=>g (o.take j):=by
   show smL ((pre n (j+d)).flatMap (exts n)) _=_
   rw[vM,<-BH]
   refine smL_congr λa b=>?_
   have I:=pre_ok b
   have k:=free_len I
   unfold exts
   rw[wo,smL_congr (g:=λ_=>g (a.take j)) λp _=>by rw[gL (by rw[I.len];omega)],t5,fZ,show((freeP n a).length:Int)=((n-(j+d):Nat):Int)by omega]
  rw[e,<-pR]
  congr 1
  obtain⟨m,f⟩:∃m,n-(j+d)=m+1:=⟨n-(j+d)-1,by omega⟩
  rw[f,show n-(j+(d+1))=m by omega]
  show fct m*((m+1:Nat):Int)=fct m*((m:Int)+1)
  push_cast
  rfl
theorem AM{n:Nat}(g:List Int->Int){j:Nat}(hj:j<=n):smL (pre n n) (λo=>g (o.take j))=fct (n-j)*smL (pre n j) g:=by
 have:=y9 (n:=n) g (j:=j) (n-j) (by omega);rw[show j+(n-j)=n by omega,gR]at this;rw[show fct 0=1 from rfl,jj]at this;rw[this,smL_congr (g:=g) λo a=>by rw[dz (by rw[(pre_ok a).len];exact bX _)]]
theorem BJ(n:Nat):((pre n n).length:Int)=fct n:=by
 have:=AM (n:=n) (λ_=>1) (j:=0) (cM _);rw[t5,t5]at this;rw[jj,qq]at this;rw[this];show fct n*(1*(([[]]:List (List Int)).length:Int))=fct n;simp
end TM
namespace L2
open PySem PySem.Spec PyProof.Rows
open TM
theorem yE{w ts us:List Int}(h:∀t,t∈ts↔t∈us):Gg w ts=Gg w us:=by
 unfold Gg Gc;rw[fP (q:=λt=>!decide (t∈us)) λt _=>by simp only[decide_eq_decide.mpr (h t)]]
theorem xl(W:List (List Int))(o:List Int){j:Nat}:∀k,k<=j->tk W (o.take j) k=tk W o k
 | 0,_=>rfl
 | k+1,h=>by
  show tk W (o.take j) k++[_]=tk W o k++[_]
  rw[xl W o k (by omega),show(o.take j).getD k 0=o.getD k 0 by rw[bR,bR,gy (by omega)]]
theorem DF(W:List (List Int))(o:List Int){j k:Nat}(h:k<j):bt W (o.take j) k=bt W o k:=by
 unfold bt;rw[xl W o k (by omega),show(o.take j).getD k 0=o.getD k 0 by rw[bR,bR,gy h]]
def KJ(W:List (List Int))(π:List Int):List Int:=tk W π π.length
def Gi(W:List (List Int))(p:Int)(ts:List Int):Int:=Gg (W.getD p.toNat []) ts
theorem C7(W:List (List Int))(π:List Int)(p:Int):KJ W (π++[p])=KJ W π++[Gi W p (KJ W π)]:=by
 unfold KJ Gi;rw[cr,show π.length+([p]:List Int).length=π.length+1 from rfl];have e:tk W (π++[p]) π.length=tk W π π.length:=by
  have:=xl W (π++[p]) (j:=π.length) π.length (bX _);rw[gL (bX _),cI]at this;exact this.symm
 show tk W (π++[p]) π.length++[Gg (W.getD ((π++[p]).getD π.length 0).toNat []) (tk W (π++[p]) π.length)]=_;rw[e,show(π++[p]).getD π.length 0=p by rw[bR,d3 (bX _),gR];rfl]
def FX(W:List (List Int))(π:List Int):FL:=(srt π,srt (KJ W π))
def FJ(n:Nat)(W:List (List Int))(k:FL):List (Int×Int):=(freeP n k.1).map λp=>(p,Gi W p k.2)
def GF(k:FL)(pt:Int×Int):FL:=(srt (k.1++[pt.1]),srt (k.2++[pt.2]))
theorem vm(n:Nat)(W:List (List Int))(π:List Int):FJ n W (FX W π)=(freeP n π).map λp=>(p,Gi W p (KJ W π)):=by
 unfold FJ FX freeP;rw[fP (q:=λp=>!decide (p∈π)) λp _=>by simp only[decide_eq_decide.mpr (Bj (l:=π) (x:=p))]];exact eX λp _=>by unfold Gi;rw[yE λt=>Bj]
theorem yh(W:List (List Int))(π:List Int)(p:Int):GF (FX W π) (p,Gi W p (KJ W π))=FX W (π++[p]):=by
 unfold GF FX;rw[zd,zd,C7]
section
variable{κ:Type}[DecidableEq κ]
def GC(F:κ->Int)(kvs:List (κ×Int)):Int:=smL kvs λp=>p.2*F p.1
def KN(kvs:List (κ×Int)):Prop:=(kvs.map Prod.fst).Nodup
theorem ww{k:κ}:∀{kvs:List (κ×Int)},kvs.lookup k=none↔k∉kvs.map Prod.fst
 | []=>by simp[gv]
 | (a,m)::kvs=>by
  rw[dj]
  by_cases e:k=a
  ·subst e;simp
  ·rw[show(k==a)=false from beq_false_of_ne e]
   show kvs.lookup k=none↔_
   rw[ww,dh,cj]
   simp[e]
theorem B6{kvs:List (κ×Int)}{k:κ}(h:kvs.lookup k=none)(x:Int):Ig kvs k x=kvs++[(k,x)]:=by unfold Ig;rw[h];rfl
theorem Be{kvs:List (κ×Int)}{k:κ}{m:Int}(h:kvs.lookup k=some m)(x:Int):Ig kvs k x=kvs.map λp=>if p.1=k then(p.1,x)else p:=by unfold Ig;rw[h];rfl
theorem Dr{kvs:List (κ×Int)}(h:KN kvs)(k:κ)(x:Int):KN (Ig kvs k x):=by
 cases e:kvs.lookup k with
 | none=>
  rw[B6 e];unfold KN;rw[cb];exact fO.mpr ⟨h,by simp,λa d b f z=>ww.mp e (by have c:b=k:=bY.mp f;rw[<-c,<-z];exact d)⟩
 | some m=>
  rw[Be e];unfold KN;rw[iz,show(Prod.fst∘λp:κ×Int=>if p.1=k then(p.1,x)else p)=Prod.fst from funext λp=>by show(if p.1=k then(p.1,x)else p).1=p.1;split <;> rfl];exact h
theorem BQ(kvs:List (κ×Int))(k:κ)(x:Int):(Ig kvs k x).length<=kvs.length+1:=by
 unfold Ig;split
 ·rw[bP];omega
 ·rw[cr];exact bX _
theorem ze(F:κ->Int){k:κ}{m x:Int}:∀{kvs:List (κ×Int)},KN kvs->kvs.lookup k=some m->GC F (kvs.map λp=>if p.1=k then(p.1,x)else p)=GC F kvs+(x-m)*F k
 | [],_,h=>by simp[gv]at h
 | (a,y)::kvs,hn,h=>by
  have b:=ez.mp (show((a::kvs.map Prod.fst):List κ).Nodup from hn)
  rw[dj]at h
  unfold GC
  rw[dh,sB,sB]
  by_cases e:k=a
  ·subst e
   rw[beq_self_eq_true]at h
   have h:y=m:=Option.some.inj h
   subst h
   have c:kvs.map (λp:κ×Int=>if p.1=k then(p.1,x)else p)=kvs:=by
    have:∀p∈kvs,(if p.1=k then(p.1,x)else p)=p:=λp hp=>if_neg (show ¬p.1=k from λz=>b.1 (z▸cP.mpr ⟨p,hp,rfl⟩))
    rw[eX this]
    simp
   rw[c]
   show(if k=k then(k,x)else(k,y)).2*F (if k=k then(k,x)else(k,y)).1+_=_
   rw[if_pos rfl]
   show x*F k+_=y*F k+_+_
   rw[jh]
   omega
  ·rw[show(k==a)=false from beq_false_of_ne e]at h
   have d:=ze F (x:=x) b.2 h
   unfold GC at d
   rw[d]
   show(if a=k then(a,x)else(a,y)).2*F (if a=k then(a,x)else(a,y)).1+_=_
   rw[if_neg (Ne.symm e)]
   omega
def JF(kvs:List (κ×Int))(k:κ)(x:Int):List (κ×Int):=Ig kvs k ((kvs.lookup k).getD 0+x)
theorem zb(F:κ->Int){kvs:List (κ×Int)}(h:KN kvs)(k:κ)(x:Int):GC F (JF kvs k x)=GC F kvs+x*F k:=by
 unfold JF
 cases e:kvs.lookup k with
 | none=>
  rw[B6 e];unfold GC;rw[vf,sB,tq];show _+((0+x)*F k+0)=_;rw[d2];omega
 | some m=>
  rw[Be e,ze F h e];show GC F kvs+(m+x-m)*F k=_;rw[show m+x-m=x by omega]
theorem Em{kvs:List (κ×Int)}(h:KN kvs)(k:κ):(kvs.lookup k).getD 0=GC (λa=>if a=k then 1 else 0) kvs:=by
 induction kvs with
 | nil=>rfl
 | cons p kvs c=>
  obtain⟨a,m⟩:=p;have b:=ez.mp (show((a::kvs.map Prod.fst):List κ).Nodup from h);unfold GC at c ⊢;rw[sB,dj];by_cases e:k=a
  ·subst e;rw[beq_self_eq_true];have z:smL kvs (λp=>p.2*if p.1=k then 1 else 0)=0:=(smL_congr (g:=λ_=>0) λp hp=>by rw[if_neg (show ¬p.1=k from λz=>b.1 (z▸cP.mpr ⟨p,hp,rfl⟩)),f6]).trans (za _);rw[z];show m=m*(if k=k then 1 else 0)+0;rw[if_pos rfl];omega
  ·rw[show(k==a)=false from beq_false_of_ne e];show(kvs.lookup k).getD 0=m*(if a=k then 1 else 0)+_;rw[if_neg (Ne.symm e),c b.2];omega
end
def Ip(p t:Int)(q u:Int):Int:=if q=p/\u=t then 1 else 0
def FY(n:Nat)(W:List (List Int))(F:List Int->Int):Nat->Int
 | 0=>0
 | k+1=>FY n W F k+fct (n-(k+1))*smL (pre n k) λπ=>smL (freeP n π) λp=>F [p,Gi W p (KJ W π)]
def Hi(W:List (List Int))(n:Nat)(o:List Int)(p t:Int):Int:=HM.sm n λj=>Ip p t (o.getD j 0) (bt W o j)
theorem zD{α:Type}(f:α->Nat->Int)(l:List α):∀n,smL l (λx=>HM.sm n (f x))=HM.sm n λj=>smL l λx=>f x j
 | 0=>za l
 | n+1=>by
  show smL l (λx=>HM.sm n (f x)+f x n)=HM.sm n _+_
  rw[A1,zD f l n]
theorem yd{n:Nat}(W:List (List Int))(p t:Int):∀k,k<=n->FY n W (λl=>Ip p t (l.getD 0 0) (l.getD 1 0)) k=HM.sm k λj=>smL (pre n n) λo=>Ip p t (o.getD j 0) (bt W o j)
 | 0,_=>rfl
 | k+1,hk=>by
  show FY n W _ k+_=HM.sm k _+_
  rw[yd W p t k (by omega)]
  congr 1
  have e:smL (pre n n) (λo=>Ip p t (o.getD k 0) (bt W o k))=smL (pre n n) λo=>(λo=>Ip p t (o.getD k 0) (bt W o k)) (o.take (k+1)):=smL_congr λo _=>by
   show _=Ip p t ((o.take (k+1)).getD k 0) (bt W (o.take (k+1)) k)
   rw[DF W o (cV k),show(o.take (k+1)).getD k 0=o.getD k 0 by rw[bR,bR,gy (cV k)]]
  show _=smL (pre n n) λo=>Ip p t (o.getD k 0) (bt W o k)
  rw[e,AM (λo=>Ip p t (o.getD k 0) (bt W o k)) hk]
  congr 1
  show _=smL ((pre n k).flatMap (exts n)) _
  rw[vM]
  refine smL_congr λa c=>?_
  have I:=pre_ok c
  unfold exts
  rw[wo]
  refine smL_congr λq _=>?_
  have b:(a++[q]).getD k 0=q:=by rw[<-I.len,bR,d3 (bX _),gR];rfl
  have d:bt W (a++[q]) k=Gi W q (KJ W a):=by
   unfold bt Gi KJ
   rw[b,<-I.len]
   have:=xl W (a++[q]) (j:=a.length) a.length (bX _)
   rw[gL (bX _),cI]at this
   rw[this]
  rw[b,d]
  rfl
theorem BD{n:Nat}(W:List (List Int))(p t:Int):FY n W (λl=>Ip p t (l.getD 0 0) (l.getD 1 0)) n=smL (pre n n) λo=>Hi W n o p t:=by
 rw[yd W p t n (bX _)];unfold Hi;rw[zD]
theorem DP(W:List (List Int))(n:Nat)(o:List Int)(p t:Int):0<=Hi W n o p t/\Hi W n o p t<=n:=by
 unfold Hi;have h:∀j,0<=Ip p t (o.getD j 0) (bt W o j)/\Ip p t (o.getD j 0) (bt W o j)<=1:=λj=>by unfold Ip;split <;> omega
 constructor
 ·have:=HM.sm_le (n:=n) (f:=λ_=>0) (g:=λj=>Ip p t (o.getD j 0) (bt W o j)) λj _=>(h j).1;rw[HM.sm_zero]at this;exact this
 ·have:=HM.sm_le (n:=n) (f:=λj=>Ip p t (o.getD j 0) (bt W o j)) (g:=λ_=>if(true:Bool)=true then 1 else 0) λj _=>by rw[if_pos rfl];exact(h j).2
  rw[HM.sm_cnt (λ_=>true) 1 n]at this;have e:HM.cnt n (λ_=>true)=n:=by unfold HM.cnt;simp
  rw[e]at this;omega
structure CI(n:Nat)(W:List (List Int))(k:Nat)(C:List (List Int×Int)):Prop where
 kn:KN C
 sum:∀F,GC F C=FY n W F k
 len:C.length<=k*46656
structure BI(n:Nat)(W:List (List Int))(k:Nat)(B:List (FL×Int)):Prop where
 kn:KN B
 sum:∀F,GC F B=smL (pre n k) λπ=>F (FX W π)
 len:B.length<=6^k
 key:∀p∈B,∃π∈pre n k,p.1=FX W π
def Mj(n:Nat)(W:List (List Int))(F:List Int->Int)(key:FL):Int:=smL (FJ n W key) λpt=>F [pt.1,pt.2]
def MA(n:Nat)(W:List (List Int))(G:FL->Int)(key:FL):Int:=smL (FJ n W key) λpt=>G (GF key pt)
structure TJ(n:Nat)(W:List (List Int))(k:Nat)(B:List (FL×Int))(i:Nat)(key:FL)(num:Int)(j:Nat)(C:List (List Int×Int))(L:List (FL×Int)):Prop where
 ck:KN C
 lk:KN L
 cs:∀F,GC F C=FY n W F k+fct (n-(k+1))*(smL (B.take i) (λe=>e.2*Mj n W F e.1)+num*smL ((FJ n W key).take j) λpt=>F [pt.1,pt.2])
 ls:∀G,GC G L=smL (B.take i) (λe=>e.2*MA n W G e.1)+num*smL ((FJ n W key).take j) λpt=>G (GF key pt)
 cl:C.length<=k*46656+i*6+j
 ll:L.length<=i*6+j
 lv:∀p∈L,∃π∈pre n (k+1),p.1=FX W π
abbrev TI0(n:Nat)(W:List (List Int))(k:Nat)(B:List (FL×Int))(i:Nat)(C:List (List Int×Int))(L:List (FL×Int)):Prop:=∀key num,TJ n W k B i key num 0 C L
section
variable{n:Nat}{W:List (List Int)}{k:Nat}{B:List (FL×Int)}{C:List (List Int×Int)}{L:List (FL×Int)}
theorem CI.zero:CI n W 0 []:=⟨gG,λ_=>rfl,cM _⟩
theorem BI.zero:BI n W 0 [(([],[]),1)]:=⟨by unfold KN;simp,λF=>by
  show smL [(([],[]),1)] (λp:FL×Int=>p.2*F p.1)=smL [[]] _;rw[sB,tq,sB,tq];show 1*F ([],[])+0=F (FX W [])+0;rw[jj];rfl,bX _,λp hp=>⟨[],bY.mpr rfl,by rw[bY.mp hp];rfl⟩⟩
theorem TI0.start(h:CI n W k C):TI0 n W k B 0 C []:=λb a=>⟨h.kn,gG,λF=>by
  rw[h.sum F,dX,dX,tq,tq,f6];omega,λG=>by
  rw[dX,dX,tq,tq,f6];rfl,by have:=h.len;omega,cM _,λ_ h=>nomatch h⟩
theorem TJ.step{i j:Nat}{key:FL}{num:Int}{pt:Int×Int}(h:TJ n W k B i key num j C L)(hp:(FJ n W key)[j]?=some pt)(hv:∃π∈pre n (k+1),GF key pt=FX W π):
  TJ n W k B i key num (j+1) (JF C [pt.1,pt.2] (num*fct (n-(k+1)))) (JF L (GF key pt) num):=by
 refine⟨Dr h.ck _ _,Dr h.lk _ _,λF=>?_,λG=>?_,?_,?_,λp a=>?_⟩
 ·rw[zb F h.ck,h.cs F,cv,hp,vf]
  show _+num*fct (n-(k+1))*F [pt.1,pt.2]=_+_*(_+num*(_+smL [pt] _))
  rw[sB,tq,f5,show num*fct (n-(k+1))*F [pt.1,pt.2]=fct (n-(k+1))*(num*F [pt.1,pt.2])by ac_rfl,mr,<-iP,mr,<-iP]
 ·rw[zb G h.lk,h.ls G,cv,hp,vf]
  show _+num*G (GF key pt)=_+num*(_+smL [pt] _)
  rw[sB,tq,iP,iP,f6,f5]
  omega
 ·unfold JF
  exact cG (BQ _ _ _) (by have:=h.cl;omega)
 ·unfold JF
  exact cG (BQ _ _ _) (by have:=h.ll;omega)
 ·unfold JF Ig at a
  split at a
  ·obtain⟨q,b,e⟩:=cP.mp a
   obtain⟨π,h1,h2⟩:=h.lv q b
   refine⟨π,h1,?_⟩
   rw[<-e,<-h2]
   split <;> rfl
  ·rcases cN.mp a with z|z
   ·exact h.lv p z
   ·rw[bY.mp z]
    exact hv
theorem TJ.done{i:Nat}{key:FL}{num:Int}(hB:B[i]?=some (key,num))(hl:(FJ n W key).length<=6)(h:TJ n W k B i key num (FJ n W key).length C L):TI0 n W k B (i+1) C L:=λa b=>by
 refine⟨h.ck,h.lk,λF=>?_,λG=>?_,?_,?_,h.lv⟩
 ·rw[h.cs F,cI,dX,tq,f6,f5,cv,hB,vf];show _+_*(_+_)=_+_*(_+smL [(key,num)] _);rw[sB,tq,f5];rfl
 ·rw[h.ls G,cI,dX,tq,f6,f5,cv,hB,vf];show _+_=_+smL [(key,num)] _;rw[sB,tq,f5];rfl
 ·have:=h.cl;omega
 ·have:=h.ll;omega
theorem TI0.finish(hB:BI n W k B)(hk:k<6)(h:TI0 n W k B B.length C L):CI n W (k+1) C/\BI n W (k+1) L:=by
 have h0:=h ([],[]) 0;have b:B.length<=7776:=cG hB.len (by
  have:6^k<=6^5:=dM (by decide) (by omega);simpa using this)
 refine⟨⟨h0.ck,λF=>?_,by have:=h0.cl;omega⟩,⟨h0.lk,λG=>?_,?_,h0.lv⟩⟩
 ·rw[h0.cs F,cI,dX,tq,f6,f5];show _+_*GC (Mj n W F) B=FY n W F k+_;rw[hB.sum]
  congr 2
  refine smL_congr λa _=>?_;unfold Mj;rw[vm,wo]
 ·rw[h0.ls G,cI,dX,tq,f6,f5];show GC (MA n W G) B=smL ((pre n k).flatMap (exts n)) _;rw[hB.sum,vM];refine smL_congr λa _=>?_;unfold MA exts;rw[vm,wo,wo];exact smL_congr λp _=>by rw[yh]
 ·have:=h0.ll;have:=hB.len;rw[qi];omega
end
def Jy(K:bN):Sp:=λvs H Q _=>∃(w l:bV) (row ts:List Int),vs=[.ref w,.ref l]/\SqT K H w (row.map V.int)/\(SqL K H l (ts.map V.int)\/SqT K H l (ts.map V.int))/\row.length<=63/\(∃t∈row,t∉ts)/\∀H',Same H H'->Q (.int (Gg row ts)) H'
def IY(K:bN):Sp:=λvs H Q _=>∃(a:bV) (ns:List Int) (x:Int),vs=[.ref a,.int x]/\SqT K H a (ns.map V.int)/\ns.length<=60/\∀p H',Same H H'->SqT K H' p ((srt (ns++[x])).map V.int)->Q (.ref p) H'
def J4(K:bN):Sp:=λvs H Q _=>∃(a g t:bV) (ws:List V) (W:List (List Int)) (n:Nat) (key:FL),vs=[.ref a,.ref g,.ref t]/\SqL K H a ws/\cT (IsR K H) ws W/\GA n W/\SqT K H g (key.1.map V.int)/\SqT K H t (key.2.map V.int)/\key.2.length<n/\
 ∀p ls H',Same H H'->H p=none->H' p=some (.lst ls)->cT (IsF K H') ls (FJ n W key)->Q (.ref p) H'
def G5:Sp:=λvs H Q _=>∃k:Nat,vs=[.int k]/\k<=6/\Q (.int (fct k)) H
def Kb(P:cg)(w:cC)(K:bN):Sp:=λvs H Q _=>∃(a:bV) (ws:List V) (W:List (List Int)) (n:Nat),vs=[.ref a]/\SqL K H a ws/\cT (IsR K H) ws W/\GA n W/\
 ∀d C H',Same H H'->DictI Ij P w K H' d C->CI n W n C->Q (.ref d) H'
def Ga(n:Nat)(W:List (List Int))(p:Int):List (Int×Int):=(cp n).map λ(t:Nat)=>FQ.red (FY n W (λl=>Ip p t (l.getD 0 0) (l.getD 1 0)) n) (fct n)
def J2(P:cg)(w:cC)(K:bN):Sp:=λvs H Q _=>∃(d:bV) (C:List (List Int×Int)) (W:List (List Int)) (n:Nat) (p:Int),vs=[.ref d,.int p,.int n]/\DictI Ij P w K H d C/\CI n W n C/\n<=6/\
 ∀q gs H',Same H H'->H q=none->H' q=some (.tup gs)->cT (IsF K H') gs (Ga n W p)->Q (.ref q) H'
def RwG(K:bN)(H:Hp)(v:V)(r:List (Int×Int)):Prop:=∃a gs,v = .ref a/\SqT K H a gs/\cT (IsF K H) gs r
theorem RwG.mono{K:bN}{H H':Hp}{v:V}{r:List (Int×Int)}(e:Same H H')(h:RwG K H v r):RwG K H' v r:=by
 obtain⟨a,b,rfl,h1,h2⟩:=h;exact⟨a,b,rfl,e.tup h1,rX e h2⟩
def JD(n:Nat)(W:List (List Int)):List (List (Int×Int)):=(cp n).map λ(p:Nat)=>Ga n W p
def Je(K:bN):Sp:=λvs H Q _=>∃(a:bV) (ws:List V) (W:List (List Int)) (n:Nat),vs=[.ref a]/\SqL K H a ws/\cT (IsR K H) ws W/\GA n W/\
 ∀q us H',Same H H'->H q=none->H' q=some (.lst us)->cT (RwG K H') us (JD n W)->Q (.ref q) H'
structure KX(bad:List bV)(H H':Hp):Prop where
 keep:∀b o,b∉bad->H b=some o->H' b=some o
 was:∀b∈bad,∃φ,H b=some (.ext φ)
 is:∀b∈bad,∃φ,H' b=some (.ext φ)
section
variable{bad:List bV}{H H' H'':Hp}{K:bN}
theorem KX.refl(h:∀b∈bad,∃φ,H b=some (.ext φ)):KX bad H H:=⟨λ_ _ _ e=>e,h,h⟩
theorem KX.trans(a:KX bad H H')(b:KX bad H' H''):KX bad H H'':=⟨λc o d e=>b.keep c o d (a.keep c o d e),a.was,b.is⟩
theorem KX.of(e:Same H H')(h:∀b∈bad,∃φ,H b=some (.ext φ)):KX bad H H':=⟨λ_ _ _ q=>e _ _ q,h,λb a=>by obtain⟨φ,q⟩:=h b a;exact⟨φ,e _ _ q⟩⟩
theorem KX.put{d:bV}(h:∀b∈bad,∃φ,H b=some (.ext φ))(hd:d∈bad)(e:∃φ φ',H d=some (.ext φ)/\H'=upd H d (.ext φ')):KX bad H H':=by
 obtain⟨φ,φ',h1,rfl⟩:=e;refine⟨λb o a q=>by rw[rR (show b≠d from λz=>a (by rw[z];exact hd))];exact q,h,λb a=>?_⟩;by_cases z:b=d
 ·subst z;exact⟨φ',rF⟩
 ·rw[rR z];exact h b a
theorem KX.get(a:KX bad H H'){b:bV}{o:HO}(h:H b=some o)(hn:∀φ,o≠ .ext φ):H' b=some o:=a.keep b o (λz=>by obtain⟨φ,q⟩:=a.was b z;rw[h]at q;exact hn φ (Option.some.inj q)) h
theorem KX.tup(a:KX bad H H'){b:bV}{xs:List V}(h:SqT K H b xs):SqT K H' b xs:=by
 rcases h with(h|⟨u,h⟩)|h
 ·exact .inl (.inl (a.get h λ_ z=>by cases z))
 ·exact .inl (.inr ⟨u,a.get h λ_ z=>by cases z⟩)
 ·exact .inr h
theorem KX.lst(a:KX bad H H'){b:bV}{xs:List V}(h:H b=some (.lst xs)):H' b=some (.lst xs):=a.get h λ_ z=>by cases z
theorem KX.same{H0:Hp}(a:KX bad H H')(e:Same H0 H)(hf:∀b∈bad,H0 b=none):Same H0 H':=λb o q=>a.keep b o (λz=>by rw[hf b z]at q;cases q) (e b o q)
theorem KX.dict{κ:Type}[DecidableEq κ]{W:KW κ}{P:cg}{w:cC}{d:bV}{ep:Nat}{kvs:List (κ×Int)}(a:KX bad H H')(h:DictE W P w K H d ep kvs)(hd:d∉bad):DictE W P w K H' d ep kvs:=by
 obtain⟨e,h1,h2⟩:=h;exact⟨e,a.keep _ _ hd h1,Paired.mapP h2 λ_ _ ⟨c,f,b⟩=>⟨c,f,W.map (λ_ _ q=>a.tup q) b⟩⟩
theorem DictI.ext{κ:Type}[DecidableEq κ]{W:KW κ}{P:cg}{w:cC}{d:bV}{kvs:List (κ×Int)}(h:DictI W P w K H d kvs):∃φ,H d=some (.ext φ):=by
 obtain⟨a,b,h1,_⟩:=h;exact⟨_,h1⟩
end
theorem zg{m:Nat}(h:m<=6):0<TM.fct m/\TM.fct m<=720:=
 (show ∀m∈cp 7,0<TM.fct m/\TM.fct m<=720 by decide) m (dq.mpr (by omega))
theorem B1(l:List Int):(TM.srt l).length=l.length:=(TM.srt_perm l).length_eq
theorem Cl{n k:Nat}{W:List (List Int)}{π:List Int}{pt:Int×Int}(hπ:π∈TM.pre n k)(hp:pt∈FJ n W (FX W π)):∃ρ∈TM.pre n (k+1),GF (FX W π) pt=FX W ρ:=by
 rw[vm]at hp;obtain⟨p,h1,rfl⟩:=cP.mp hp;exact⟨π++[p],oa.mpr ⟨π,hπ,cP.mpr ⟨p,h1,rfl⟩⟩,yh W π p⟩
def Ii(n:Nat)(f:Nat->Nat->Int):List (List Int):=(cp n).map λp=>(cp n).map λt=>f p t
theorem zj(n:Nat)(f:Nat->Nat->Int):(Ii n f).length=n:=by unfold Ii;simp
theorem zi{n:Nat}{f:Nat->Nat->Int}{p:Nat}(hp:p<n):(Ii n f)[p]?=some ((cp n).map λt=>f p t):=by unfold Ii;rw[bZ,dy hp];rfl
theorem E5{n:Nat}{g:Nat->Int}{t:Nat}(ht:t<n):((cp n).map g)[t]?=some (g t):=by rw[bZ,dy ht];rfl
theorem CU(n:Nat)(W:List (List Int)):(JD n W).length=n:=by unfold JD;simp
theorem zU(n:Nat)(W:List (List Int))(p:Int):(Ga n W p).length=n:=by unfold Ga;simp
def GM(n:Nat)(W:List (List Int))(p t:Nat):Int:=TM.smL (TM.pre n n) λo=>Hi W n o p t
theorem BY{n:Nat}{W:List (List Int)}{p:Nat}:Ga n W p=(cp n).map λ(t:Nat)=>FQ.red (GM n W p t) (TM.fct n):=by
 unfold Ga GM;exact eX λt _=>by rw[BD]
def Mg{κ:Type}[DecidableEq κ](kvs:List (κ×Int))(k:κ):Int:=(kvs.lookup k).getD 0
theorem Cy(C:List (List Int×Int))(h:KN C)(n:Nat)(W:List (List Int))(hs:∀F,GC F C=FY n W F n)(p t:Int):Mg C [p,t]=FY n W (λl=>Ip p t (l.getD 0 0) (l.getD 1 0)) n:=by
 have f:=Em h [p,t];have e:FY n W (λa=>if a=[p,t]then 1 else 0) n=FY n W (λl=>Ip p t (l.getD 0 0) (l.getD 1 0)) n:=by
  have c:∀k,FY n W (λa=>if a=[p,t]then 1 else 0) k=FY n W (λl=>Ip p t (l.getD 0 0) (l.getD 1 0)) k:=by
   intro k
   induction k with
   | zero=>rfl
   | succ k d=>
    show FY n W _ k+_=FY n W _ k+_;rw[d]
    congr 2
    exact TM.smL_congr λb _=>TM.smL_congr λq _=>by
     show(if[q,Gi W q (KJ W b)]=[p,t]then(1:Int)else 0)=Ip p t q (Gi W q (KJ W b));unfold Ip;simp
  exact c n
 rw[<-e,<-hs];exact f
theorem Dg{n:Nat}{o:List Int}(h:o∈TM.pre n n):LN.Pm n o:=by
 have I:=TM.pre_ok h;have c:=TM.free_len I;have b:TM.freeP n o=[]:=gK (by omega);refine(fD I.nd (LM.rng_nodup n)).mpr λx=>⟨λa=>LM.mem_rng.mpr (I.bd x a),λa=>?_⟩;refine da λz=>?_;have:x∈TM.freeP n o:=dw.mpr ⟨a,by simpa using z⟩;rw[b]at this
 cases this
end L2
namespace L2
open TM
theorem vq{n c:Nat}(hc:c<n)(x:Int):HM.sm n (λi=>if i=c then x else 0)=x:=by
 have h:=HM.sm_cnt (λi=>i==c) x n;rw[HM.cnt_one,if_pos hc]at h;rw[HM.sm_congr (g:=λi=>if(i==c)=true then x else 0) λi _=>by by_cases e:i=c <;> simp[e],h];simp
theorem Du{α:Type}(l:List α):smL l (λ_=>(1:Int))=l.length:=by rw[t5,jj]
theorem Eu{n:Nat}{W:List (List Int)}{o:List Int}(ok:GA n W)(ho:LN.Pm n o){k:Nat}(hk:k<n):0<=bt W o k/\bt W o k<n/\bt W o k∉tk W o k:=by
 have e:=ho.len;have d:=ho.mem.mp (show o.getD k 0∈o by rw[HM.getD_lt (by omega)];exact cm _);have b:(o.getD k 0).toNat<W.length:=by have:=ok.len;omega
 have a:=ok.pm _ (cm b);unfold bt;rw[HM.getD_lt b];have c:=x6 (AB (ts:=tk W o k) a (by rw[BG];exact hk));have:=a.mem.mp c.2.1;exact⟨this.1,this.2,c.2.2⟩
theorem Fd{n:Nat}{W:List (List Int)}{o:List Int}(ok:GA n W)(ho:LN.Pm n o):LN.Pm n (tk W o n):=by
 have d:∀k,k<=n->(tk W o k).Nodup/\∀t∈tk W o k,0<=t/\t<n:=by
  intro k
  induction k with
  | zero=>exact λ_=>⟨gG,λ_ h=>nomatch h⟩
  | succ k m=>
   intro hk;obtain⟨h1,h2⟩:=m (by omega);obtain⟨j,g,f⟩:=Eu ok ho (k:=k) (by omega);have e:tk W o (k+1)=tk W o k++[bt W o k]:=rfl;rw[e];refine⟨fO.mpr ⟨h1,by simp,λx a y l z=>f (by rw[bY.mp l]at z;rw[<-z];exact a)⟩,λt b=>?_⟩;rcases cN.mp b with z|z
   ·exact h2 t z
   ·rw[bY.mp z];exact⟨j,g⟩
 obtain⟨h1,h2⟩:=d n (bX _);refine(fD h1 (LM.rng_nodup n)).mpr λx=>⟨λa=>LM.mem_rng.mpr (h2 x a),λa=>?_⟩;refine da λz=>?_;have c:=LM.mem_rng.mp a;have:=Ko (x::tk W o n) (LM.rng n) (ez.mpr ⟨z,h1⟩) λt b=>LM.mem_rng.mpr (by
  rcases cj.mp b with e|e
  ·rw[e];exact c
  ·exact h2 t e)
 rw[cZ,BG,LM.rng_len]at this;omega
theorem EF(W:List (List Int))(o:List Int){n j:Nat}(hj:j<n):(tk W o n).getD j 0=bt W o j:=by
 rw[DU,bR,bZ,dy hj];rfl
theorem DH{n:Nat}(W:List (List Int)){o:List Int}(ho:LN.Pm n o){p:Nat}(hp:p<n):∃j,j<n/\o.getD j 0=(p:Int)/\(∀i,i<n->o.getD i 0=(p:Int)->i=j)/\∀V t,Hi V n o p t=if bt V o j=t then 1 else 0:=by
 obtain⟨j,d,e,f⟩:=HM.pm_at ho hp;refine⟨j,d,e,λi b h=>f i b (by rw[h];rfl),λV t=>?_⟩;unfold Hi;rw[HM.sm_congr (g:=λi=>if i=j then(if bt V o j=t then 1 else 0)else 0) λi b=>?_,vq d];unfold Ip;by_cases c:i=j
 ·subst c;rw[if_pos rfl];by_cases a:bt V o i=t
  ·rw[if_pos a,if_pos ⟨e,a⟩]
  ·rw[if_neg a,if_neg λz=>a z.2]
 ·rw[if_neg c,if_neg λz=>c (f i b (by rw[z.1];rfl))]
theorem CK{n:Nat}{W:List (List Int)}{o:List Int}(ok:GA n W)(ho:LN.Pm n o){p:Nat}(hp:p<n):HM.sm n (λt=>Hi W n o p t)=1:=by
 obtain⟨j,a,_,_,h⟩:=DH W ho hp;obtain⟨d,b,_⟩:=Eu ok ho a;rw[HM.sm_congr (g:=λt=>if t=(bt W o j).toNat then 1 else 0) λt _=>?_,vq (by omega)];show Hi W n o p t=_;rw[h];by_cases c:bt W o j=t
 ·rw[if_pos c,if_pos (by omega)]
 ·rw[if_neg c,if_neg (by omega)]
theorem Cg{n:Nat}{W:List (List Int)}{o:List Int}(ok:GA n W)(ho:LN.Pm n o){t:Nat}(ht:t<n):HM.sm n (λp=>Hi W n o p t)=1:=by
 unfold Hi;rw[HM.sm_swap];obtain⟨j,d,e,f⟩:=HM.pm_at (Fd ok ho) ht;rw[HM.sm_congr (g:=λi=>if i=j then 1 else 0) λi b=>?_,vq d];have h:=ho.len;have k:=ho.mem.mp (show o.getD i 0∈o by rw[HM.getD_lt (by omega)];exact cm _);rw[EF W o d]at e;by_cases c:i=j
 ·subst c;rw[if_pos rfl,HM.sm_congr (g:=λp=>if p=(o.getD i 0).toNat then 1 else 0) λp _=>?_,vq (by omega)];unfold Ip;by_cases a:p=(o.getD i 0).toNat
  ·rw[if_pos a,if_pos ⟨by omega,e⟩]
  ·rw[if_neg a,if_neg λz=>a (by omega)]
 ·rw[if_neg c,HM.sm_congr (g:=λ_=>0) λp _=>?_,HM.sm_zero];unfold Ip;rw[if_neg λz=>c (f i b (by rw[EF W o b,z.2];rfl))]
theorem CF{n:Nat}{W:List (List Int)}(ok:GA n W){p:Nat}(hp:p<n):HM.sm n (λt=>GM n W p t)=fct n:=by
 unfold GM;rw[<-zD (λo t=>Hi W n o p t),smL_congr (g:=λ_=>1) λo a=>CK ok (Dg a) hp,Du,BJ]
theorem CO{n:Nat}{W:List (List Int)}(ok:GA n W){t:Nat}(ht:t<n):HM.sm n (λp=>GM n W p t)=fct n:=by
 unfold GM;rw[<-zD (λo p=>Hi W n o p t),smL_congr (g:=λ_=>1) λo a=>Cg ok (Dg a) ht,Du,BJ]
theorem EL{α:Type}{l:List α}{f:α->Int}(h:∀x∈l,0<=f x):0<=smL l f:=by
 induction l with
 | nil=>exact eF _
 | cons a l b=>
  rw[sB];have:=h a b0;have:=b λx c=>h x (b3 _ c);omega
theorem Et(n:Nat)(W:List (List Int))(p t:Nat):0<=GM n W p t:=EL λo _=>(DP W n o p t).1
theorem xC{n:Nat}{f:Nat->Nat->Int}{p t:Nat}(hp:p<n)(ht:t<n):HM.ent (Ii n f) p t=f p t:=by
 unfold HM.ent;rw[bR,bR,zi hp];show(((cp n).map λt=>f p t)[t]?).getD 0=_;rw[E5 ht];rfl
theorem Co{n:Nat}{W:List (List Int)}(ok:GA n W):HM.Reg n (Ii n (GM n W)) (fct n):=by
 refine⟨zj _ _,λr d=>?_,λp t=>?_,λi b=>?_,λj c=>?_⟩
 ·unfold Ii at d;obtain⟨q,_,rfl⟩:=cP.mp d;simp
 ·by_cases hp:p<n
  ·by_cases a:t<n
   ·rw[xC hp a];exact Et n W p t
   ·unfold HM.ent;rw[bR,bR,zi hp];show 0<=(((cp n).map λt=>GM n W p t)[t]?).getD 0;rw[fH (by simpa using a)];exact eF _
  ·unfold HM.ent;have e:(Ii n (GM n W))[p]?=none:=fH (by rw[zj];omega);rw[bR,bR,e];exact eF _
 ·rw[HM.sm_congr (g:=λt=>GM n W i t) λt a=>xC b a];exact CF ok b
 ·rw[HM.sm_congr (g:=λp=>GM n W p j) λp hp=>xC hp c];exact CO ok c
end L2
namespace L2
open TM
section
variable{n:Nat}{W V:List (List Int)}{P X:List Int}
theorem EO{n:Nat}{t:Int}(h0:0<=t)(h1:t<n):EM.at0 (fB n (1:Int)) t=1:=by
 unfold EM.at0;rw[HM.getD_lt (by rw[gn];omega),List.getElem_replicate]
end
end L2
namespace L2
open PySem PySem.Spec PyProof.Rows
section
variable{X:Cx}
theorem BP:∀{vs:List bQ} {ns:List Int} (hi:IntsAre vs ns) {i:Nat} (h:i<vs.length),∃t,vs[i]=dn (ns[i]'(by rw[<-hi.length];exact h)) t
 | _,_,.cons n t r,0,_=>⟨t,rfl⟩
 | _,_,.cons n t r,i+1,h=>BP r (i:=i) (by simpa using h)
theorem index_tup_ints{prog:cg}{w:cC}{A:cO}{E:bQ->bS->Prop}{s:bS}{a:bV}{vs:List bQ}{ns:List Int}{k:Int}{t:Tok}{Q:bQ->bS->Prop}(ht:IsTup s.heap a vs.toArray)(hi:IntsAre vs ns)
  (hk:k∈ns)(h:Q (.int (ns.idxOf k:Nat) s.toks) {s with toks:=s.toks+1}):wpAny (model prog w) A (call (.builtin "tuple.index") [.ref a,.int k t]) Q E s:=by
 have u:=hi.length
 have q:ns.idxOf k<ns.length:=fJ.mpr hk
 refine fU iK ht.typeIs jT (jN _ _) (S:=λA R s=>IsTup s.heap a vs.toArray/\R (.ok (.ret (.int (ns.idxOf k:Nat) s.toks))) {s with toks:=s.toks+1}) ?_ ⟨ht,h⟩
 intro prog w A R s ⟨ht,h⟩
 show wpAny _ _ _ _ _ _
 unfold Builtin.«tuple.index»
 simp only[iu]
 wp_walk using pW ht
 have p:([:min vs.toArray.size vs.toArray.size]:og).size=vs.length:=by simp[lL]
 rw[p]
 refine kK (M:=model prog w) (A:=A.in1) _ (λl b g=>b=((none:Option PySem.Fin),())/\g=s/\∃i,l=j2 i (vs.length-i)/\i<=ns.idxOf k) _ (λx rest b g m=>?_) (λb g m=>?_) _ _ ⟨rfl,rfl,0,rfl,cM _⟩
 ·obtain⟨rfl,rfl,i,e,d⟩:=m
  have f:i<vs.length:=by omega
  rw[show vs.length-i=(vs.length-(i+1))+1 by omega,kH]at e
  injection e with o hrest
  subst o
  obtain⟨j,r⟩:∃j,vs[x]=dn (ns[x]'(by omega)) j:=BP hi f
  have n:vs.toArray[x]?=some (dn (ns[x]'(by omega)) j):=by simp[f,r]
  rw[n]
  refine bM (nM ?_)
  by_cases c:ns[x]'(by omega)=k
  ·have o:ns.idxOf k=x:=by
    have h1:ns.idxOf k<=x:=by
     refine kC λz=>?_
     exact absurd c (by simpa using i5 z)
    omega
   rw[show(ns[x]'(by omega)==k)=true by simp[c],if_pos rfl]
   wp_walk
   rw[o]at h
   exact h
  ·rw[show(ns[x]'(by omega)==k)=false by simp[c],if_neg (by decide)]
   refine bO ⟨rfl,rfl,x+1,hrest,?_⟩
   refine mV d λz=>c ?_
   have:=gT q
   simp only[<-z]at this
   exact this
 ·obtain⟨_,_,i,e,d⟩:=m
  have:=congrArg iM e
  simp at this
  omega
theorem SqT.frz{K:bN}{H:Hp}{a:bV}{o:Obj}{xs:List V}(h:H a=some (.frz o (.tup xs))):SqT K H a xs:= .inl (.inr ⟨o,h⟩)
theorem uB:FW X (.type "tuple") (λxs H Q=>∃p ys,xs=[.ref p]/\SqL X.K H p ys/\∀l o,H l=none->o.dict=none->Q (.ref l) (upd H l (.frz o (.tup ys)))):=by
 intro c s j H xs z Q I r h;obtain⟨p,ys,rfl,t,q⟩:=h;obtain⟨u,rfl,v⟩:=F7 r
 cases v;obtain⟨a,g,x,k⟩:=I.list t;have y:=g.length;refine om x.isList (λd n=>?_) (by simp only[cc] <;> omega);have f:Inv X c j H {s with heap:=d}:=I.kept (t':=s.toks) n;have m:Inv X c j (upd H d.objs.size (.frz {cls:= .type "tuple",data:= .seq a.toArray} (.tup ys))) {s with heap:=d.push {cls:= .type "tuple",data:= .seq a.toArray}}:=
  f.laid (t':=s.toks) (λb o e=>bU _ e) (bX _) (show ObjOk X.prog X.w _ _ _ (.frz _ (.tup ys))from⟨b4 _ rfl,k,a,g,p9 _ _⟩)
 exact⟨.ref d.objs.size,_,m,rfl,q _ _ (f.hok.fresh (bX _)) rfl⟩
end
theorem uN{K:bN}{H:Hp}{T:Int}:∀{Z:List (List Int)} {us:List V},cT (RwG K H) us (Z.map (fr T))->cT (RwFT K H T) us Z
 | [],_,.nil=> .nil
 | _::_,_,.cons h t=> .cons h (uN t)
theorem DE(n:Nat)(W:List (List Int)):JD n W=(Ii n (GM n W)).map (fr (TM.fct n)):=by
 unfold JD Ii;rw[iz];refine eX λp _=>?_;rw[BY];show _=fr (TM.fct n) ((cp n).map λt=>GM n W p t);unfold fr;rw[iz];rfl
theorem Eb{n:Nat}{W:List (List Int)}(ok:GA n W):K2 n (TM.fct n) (Ii n (GM n W)):=by
 have h:=zg ok.hi;exact⟨ok.lo,ok.hi,h.1,by omega,Co ok⟩
end L2
namespace L2
open TM
section
variable{n:Nat}{W:List (List Int)}
theorem zI(h:EM.Ws n W)(ms:List Int):(EM.dishes W ms).length=n:=by unfold EM.dishes;rw[bP];exact h.len
theorem DN(h:EM.Ws n W){i:Nat}(hu:EM.Upto W n (i+1)){p:Nat}(hp:p<n):0<=(EM.dishes W (EM.st W n i).ms).getD p 0/\(EM.dishes W (EM.st W n i).ms).getD p 0<n/\EM.at0 (EM.st W n i).ms ((EM.dishes W (EM.st W n i).ms).getD p 0)≠0:=by
 have S:=(EM.st_ok h i (hu.mono (dJ i))).1;have a:p<(EM.dishes W (EM.st W n i).ms).length:=by rw[zI h];exact hp
 rw[HM.getD_lt a];have:=EM.dish_ok S h.pm (hu i (cV i)) (cm a);exact⟨this.1.1,this.1.2,this.2⟩
theorem BU(c:Int)(f:Nat->Int):∀n,HM.sm n (λi=>f i*c)=HM.sm n f*c
 | 0=>by show(0:Int)=0*c;rw[jw]
 | n+1=>by
  show HM.sm n (λi=>f i*c)+f n*c=(HM.sm n f+f n)*c
  rw[BU c f n,gw]
theorem Dw(h:EM.Ws n W){p:Nat}(hp:p<n):∀i,EM.Upto W n i->HM.sm n (λt=>EM.et W n i p t)=(EM.st W n i).T
 | 0,_=>HM.sm_zero n
 | i+1,hu=>by
  have a:=Dw h hp i (hu.mono (dJ i))
  obtain⟨d,b,_⟩:=DN h hu hp
  show HM.sm n (λt=>EM.et W n i p t*EM.cn W (EM.st W n i)+if(EM.dishes W (EM.st W n i).ms).getD p 0=(t:Int)then(EM.cs W (EM.st W n i)).m else 0)=(EM.st W n i).T*EM.cn W (EM.st W n i)+(EM.cs W (EM.st W n i)).m
  rw[HM.sm_add (λt=>EM.et W n i p t*EM.cn W (EM.st W n i)),BU _ (λt=>EM.et W n i p t),a]
  congr 1
  rw[HM.sm_congr (g:=λt=>if t=((EM.dishes W (EM.st W n i).ms).getD p 0).toNat then(EM.cs W (EM.st W n i)).m else 0) λt _=>?_,vq (by omega)]
  by_cases c:(EM.dishes W (EM.st W n i).ms).getD p 0=(t:Int)
  ·rw[if_pos c,if_pos (by omega)]
  ·rw[if_neg c,if_neg (by omega)]
theorem Ci{l:List Int}{t m:Int}:∀{n:Nat},l.length=n->HM.sm n (λp=>if l.getD p 0=t then m else 0)=EM.cnt l t*m:=by
 intro n
 induction n generalizing l with
 | zero=>
  intro b;rw[gK b];show(0:Int)=EM.cnt [] t*m;unfold EM.cnt;simp
 | succ n f=>
  intro b;have a:l≠[]:=λz=>by rw[z]at b;cases b
  have e:l.dropLast++[l.getLast a]=l:=jn a;have d:l.dropLast.length=n:=by rw[jg,b];rfl
  show HM.sm n (λp=>if l.getD p 0=t then m else 0)+(if l.getD n 0=t then m else 0)=_;rw[HM.sm_congr (g:=λp=>if l.dropLast.getD p 0=t then m else 0) λp hp=>?_,f d]
  ·have h:l.getD n 0=l.getLast a:=by
    conv=>lhs;rw[<-e]
    rw[bR,d3 (by omega),d,gR];simp
   rw[h];have j:EM.cnt l t=EM.cnt l.dropLast t+if l.getLast a=t then 1 else 0:=by
    unfold EM.cnt
    conv=>lhs;rw[<-e]
    rw[List.count_append];by_cases c:l.getLast a=t
    ·rw[if_pos c,c];simp
    ·rw[if_neg c,mM.mpr (λz=>c (bY.mp z).symm)];simp
   rw[j,gw];by_cases c:l.getLast a=t
   ·rw[if_pos c,if_pos c,jj]
   ·rw[if_neg c,if_neg c,jw]
  ·show(if l.getD p 0=t then m else 0)=if l.dropLast.getD p 0=t then m else 0
   have:l.getD p 0=l.dropLast.getD p 0:=by
    conv=>lhs;rw[<-e]
    rw[bR,gq (by omega),bR]
   rw[this]
theorem Dj(h:EM.Ws n W){t:Int}(h0:0<=t)(h1:t<n):∀i,EM.Upto W n i->HM.sm n (λp=>EM.et W n i p t)=(EM.st W n i).D-EM.at0 (EM.st W n i).ms t
 | 0,_=>by
  show HM.sm n (λ_=>0)=1-EM.at0 (fB n 1) t
  rw[HM.sm_zero,EO h0 h1]
  rfl
 | i+1,hu=>by
  have a:=Dj h h0 h1 i (hu.mono (dJ i))
  have S:=(EM.st_ok h i (hu.mono (dJ i))).1
  show HM.sm n (λp=>EM.et W n i p t*EM.cn W (EM.st W n i)+if(EM.dishes W (EM.st W n i).ms).getD p 0=t then(EM.cs W (EM.st W n i)).m else 0)=(EM.st W n i).D*EM.cn W (EM.st W n i)-EM.at0 (EM.nextMs (EM.dishes W (EM.st W n i).ms) (EM.st W n i).ms) t
  rw[HM.sm_add (λp=>EM.et W n i p t*EM.cn W (EM.st W n i)),BU _ (λp=>EM.et W n i p t),a,Ci (zI h _),EM.at0_next h0 (by rw[S.len];exact h1)]
  show((EM.st W n i).D-EM.at0 (EM.st W n i).ms t)*EM.cn W (EM.st W n i)+EM.cnt (EM.dishes W (EM.st W n i).ms) t*(EM.cs W (EM.st W n i)).m=(EM.st W n i).D*EM.cn W (EM.st W n i)-(EM.at0 (EM.st W n i).ms t*EM.cn W (EM.st W n i)-EM.cnt (EM.dishes W (EM.st W n i).ms) t*(EM.cs W (EM.st W n i)).m)
  grind
theorem Fb(h:EM.Ws n W){i:Nat}(hu:EM.Upto W n i)(p:Nat)(t:Int):0<=EM.et W n i p t:=(EM.et_bd h p t i hu).1
end
end L2
namespace L2
open PySem PySem.Spec PyProof.Rows TM
section
variable{n N:Nat}{W:List (List Int)}
theorem BE:(FO W n N).length=n:=by unfold FO;simp
theorem D8{p:Nat}(hp:p<n):(FO W n N)[p]?=some (Gm W n N p):=by
 unfold FO;rw[bZ,dy hp];rfl
theorem zq{p:Nat}(hp:p<n):(FO W n N).getD p []=Gm W n N p:=by
 rw[bR,D8 hp];rfl
theorem wI(p:Nat):(Gm W n N p).length=n:=by unfold Gm;rw[bP,LM.rng_len]
theorem Bx{p t:Nat}(ht:t<n):(Gm W n N p).getD t 0=EM.et W n N p t:=by
 unfold Gm;rw[bR,bZ,EM.rng_get ht];rfl
theorem yH{p t:Nat}(hp:p<n)(ht:t<n):HM.ent (FO W n N) p t=EM.et W n N p t:=by
 unfold HM.ent;rw[zq hp,Bx ht]
theorem Ew(h:EM.Ws n W)(hN:EM.Stops W n N):K2 n (EM.st W n N).D (FO W n N):=by
 have S:=(EM.st_ok h N hN.up).1;have f:=EM.D_le S h.n6;have e:=(EM.all_gone h hN).1;have z:=EM.sum_zero S.nn hN.last;refine⟨h.n1,h.n6,S.pos,by omega,⟨BE,λr c=>?_,λp t=>?_,λi b=>?_,λj d=>?_⟩⟩
 ·unfold FO at c;obtain⟨p,_,rfl⟩:=cP.mp c;exact wI p
 ·by_cases hp:p<n
  ·by_cases a:t<n
   ·rw[yH hp a];exact Fb h hN.up p t
   ·unfold HM.ent;rw[zq hp,bR,fH (by rw[wI];omega)];exact eF 0
  ·unfold HM.ent;rw[bR (l:=FO W n N),fH (by rw[BE];omega)];exact eF 0
 ·rw[HM.sm_congr (g:=λt=>EM.et W n N i t) λt a=>yH b a,Dw h b N hN.up,e]
 ·rw[HM.sm_congr (g:=λp=>EM.et W n N p j) λp hp=>yH hp d,Dj h (by omega) (by omega) N hN.up,z _ (EM.at0_mem (by omega) (by rw[S.len];omega))];omega
end
theorem DI{n k j:Nat}{T:Int}{Z:List (List Int)}(tb:K2 n T Z)(hf:HM.Fin Z T k)(hj:j<k):LN.Pm n (HM.lotAt Z T j).2/\∀p,p<n->0<HM.ent Z p ((HM.lotAt Z T j).2.getD p 0).toNat:=by
 have I:=HM.it_ok tb.reg tb.t0 tb.lo k hf.2;have S:=I.lots j hj;have J:=HM.it_ok tb.reg tb.t0 tb.lo j λi a=>hf.2 i (by omega);refine⟨S.pm,λp hp=>?_⟩;have h1:=S.le p hp;have h2:=S.w1;have h3:0<=HM.sm j λi=>if((HM.lotAt Z T i).2.getD p 0).toNat=((HM.lotAt Z T j).2.getD p 0).toNat then(HM.lotAt Z T i).1 else 0:=by
  have:=HM.sm_le (n:=j) (f:=λ_=>0) (g:=λi=>if((HM.lotAt Z T i).2.getD p 0).toNat=((HM.lotAt Z T j).2.getD p 0).toNat then(HM.lotAt Z T i).1 else 0) λi a=>by
   have:=(J.lots i a).w1;show(0:Int)<=if _ then HM.wOf (HM.it Z T i).1 else 0
   split <;> omega
  rwa[HM.sm_zero]at this
 rw[J.ent p hp];show 0<HM.ent (HM.it Z T j).1 p ((HM.dealOf (HM.it Z T j).1).getD p 0).toNat+_;omega
def Lr(K:bN):Sp:=λvs H Q _=>∃(a:bV) (gs:List V) (ps:List (Int×Int)),vs=[.ref a]/\(SqL K H a gs\/SqT K H a gs)/\cT (IsF K H) gs ps/\(∀i,Sz 4000 (Gw (ps.take i)))/\(∀p∈ps,Sz 4000 p)/\∀v H',Same H H'->IsF K H' v (Gw ps)->Q v H'
theorem Ev{K:bN}{vs:List V}{H:Hp}{Q:VK}{E:XK}(h:Ku K vs H Q E):Lr K vs H Q E:=by
 obtain⟨a,c,f,rfl,d,e,b,g,q⟩:=h;exact⟨a,c,f,rfl,.inl d,e,λi=>D9 (by rw[cf];omega) λp hp=>b p (dO hp),λp hp=>(b p hp).up (by decide),q⟩
end L2
namespace L2
open PySem PySem.Spec PyProof.Rows
section
variable{X:Cx}
def N3:V->Option Int->Option Int->Hp->VK->Prop:=λx lo hi H Q=>∃z,x = .str z/\z.length<=sizeLine/\Q (.str (gb z lo hi)) H
def GD:bQ->Option (Int×Tok)
 | .int i t=>some (i,t)
 | _=>none
theorem vA:Oa X N3:=by
 intro n s A H x v c d a b y Q I r w j g h;obtain⟨z,rfl,k,q⟩:=h;obtain⟨t,rfl⟩:=r;refine⟨"str",_,nP.lookup,mG s z t,?_⟩;have f:s.heap.IsSlice y (GD c) (GD d) none:=by
  obtain⟨o,h1,h2,h3⟩:=w;refine⟨o,h1,h2,?_⟩;rw[h3]
  cases j <;> cases g <;> rfl
 have m:(GD c).map (·.1)=a:=by cases j <;> rfl
 have l:(GD d).map (·.1)=b:=by cases g <;> rfl
 refine wpAny_getItem_str_slice f (by rfl) ?_;have p:(sliceMade z t (GD c) (GD d) none) = .val (.str z t)/\gb z a b=z\/sliceMade z t (GD c) (GD d) none = .str (gb z a b):=by
  unfold sliceMade gb slicePicked;rw[m,l];simp only[Option.map_none,kA];split
  ·exact .inl ⟨rfl,rfl⟩
  ·exact .inr rfl
 rcases p with⟨e,u⟩|e
 ·rw[e];exact⟨.str z,H,I,⟨_,rfl⟩,by rw[u]at q;exact q⟩
 ·rw[e];exact⟨cG (Txt.slice_le z a b) k,.str (gb z a b),H,I.tok _,⟨_,rfl⟩,q⟩
theorem ya:Gx X (compareOp .LtE) (λx y H Q=>∃i j,x = .str i/\y = .str j/\Q (.bl (!decide (j.cps.toList<i.cps.toList))) H):=by
 intro a s d H x y v u Q I b c h;obtain⟨i,j,rfl,rfl,q⟩:=h;obtain⟨t,rfl⟩:=b;obtain⟨e,rfl⟩:=c;exact P.le_str ⟨.bl _,H,I,rfl,q⟩
theorem zP:Gx X (binaryOp .Mult) (λx y H Q=>∃z n,x = .str z/\y = .int n/\MulOk z n/\Q (.str (i6 z n)) H):=by
 intro a s f H x y v u Q I c d h;obtain⟨z,n,rfl,rfl,b,q⟩:=h;obtain⟨t,rfl⟩:=c;obtain⟨e,rfl⟩:=d;exact SB.mul b λe k=>⟨.str _,H,I.tok _,⟨_,rfl⟩,q⟩
def Nv:V->List V->Hp->VK->Prop:=λx vs H Q=>∃z y,x = .str z/\vs=[.str y]/\Q (.int (qM z y)) H
theorem Ep:MS X "str.find" Nv:=by
 intro a s f H x e v d Q I b c h;obtain⟨z,y,rfl,rfl,q⟩:=h;obtain⟨t,rfl⟩:=b;obtain⟨u,rfl,g,rfl⟩:=F7 c;exact SC.find ⟨.int _,H,I.tok _,⟨_,rfl⟩,q⟩
theorem ud:∀{ys:List Str} {its:List bQ},Vals (ys.map V.str) its->StrsAre its ys
 | [],_,.nil=> .nil
 | y::_,_,.cons ⟨t,e⟩ r=>e▸ .cons y t (ud r)
theorem yb:∀{its:List bQ} {ys:List Str},StrsAre its ys->Vals (ys.map V.str) its
 | _,_,.nil=> .nil
 | _,_,.cons _ _ r=> .cons ⟨_,rfl⟩ (yb r)
def M5(K:bN):V->List V->Hp->VK->Prop:=λx vs H Q=>∃z p ys,x = .str z/\vs=[.ref p]/\SqL K H p (ys.map V.str)/\z.length<=16/\(ys.map jA).sum+ys.length<=1048576/\Q (.str (kO z ys)) H
theorem DK:MS X "str.join" (M5 X.K):=by
 intro a s n H x m v l Q I c d h;obtain⟨z,p,r,rfl,rfl,hp,h1,h2,q⟩:=h;obtain⟨t,rfl⟩:=c;obtain⟨u,rfl,b⟩:=F7 d
 cases(show u=b5 p from b);obtain⟨g,f,e,j⟩:=I.list hp;exact join_listW e.isList (by simpa using ud f) h1 h2 λo k=>⟨.str _,H,I.tok _,⟨_,rfl⟩,q⟩
def Mx:V->List V->Hp->VK->Prop:=λx vs H Q=>∃z y,x = .str z/\vs=[.str y]/\y.length≠0/\z.length+2<=sizeLine/\∀p,H p=none->Q (.ref p) (upd H p (.lst ((Txt.split z y).map V.str)))
theorem x8:∀(l:List Str) (k:Nat),Vals (l.map V.str) (strsFrom k l)
 | [],_=> .nil
 | _::l,k=> .cons ⟨_,rfl⟩ (x8 l (k+1))
theorem zG:MS X "str.split" Mx:=by
 intro j s C H x L v J Q I p D h;obtain⟨z,y,rfl,rfl,o,E,q⟩:=h;obtain⟨t,rfl⟩:=p;obtain⟨u,rfl,t',rfl⟩:=F7 D;have g:(y.length==0)=false:=beq_eq_false_iff_ne.mpr o;have k:s.TypeIs (.str z t) "str":=mG s z t;have d:∀(e:Txt.split z y=[z]),EP X j C Q (.ref s.heap.objs.size) {s with heap:=s.heap.push {cls:= .type "list",data:= .seq #[.str z t]}}:=λe=>by
  have a:=q _ (I.hok.fresh (bX _));rw[e]at a;exact⟨.ref s.heap.objs.size,_,I.lnew (ys:=[.str z]) (its:=[.str z t]) (t':=s.toks) (.cons ⟨_,rfl⟩ .nil) (show 1<=sizeLine by decide),rfl,a⟩
 have M:=fact_split z y;by_cases b:(decide (z.length<y.length)||decide (iD z<iD y))=true
 ·have e:Txt.split z y=[z]:=by unfold Txt.split;rw[if_pos b]
  have B:Meets (Builtin.«str.split» {pos:=[.str z t,.str y t']}) (listOfItself z t):=by
   intro m w A R G r;obtain⟨K,n⟩:=split_sep_tree z y t t';rw[n,if_pos b];refine bM (io ?_);refine bM (iI ?_);exact bO r
  exact fU kP k j5 (jO _ _) B (d e)
 ·have f:(decide (z.length<y.length)||decide (iD z<iD y))=false:=by simpa using b
  by_cases c:(iQ z y 0 z.length (z.length+1)).isEmpty=true
  ·have e:Txt.split z y=[z]:=by unfold Txt.split;rw[if_neg b,if_pos c]
   exact fU kP k j5 (jO _ _) (meets_str_split_not_found z y t t' f g c) (d e)
  ·have e:Txt.split z y=km z (iQ z y 0 z.length (z.length+1)) y.length:=by unfold Txt.split;rw[if_neg b,if_neg c]
   have l:(km z (iQ z y 0 z.length (z.length+1)) y.length).length<=sizeLine:=by rw[<-e];omega
   refine fU kP k j5 (jO _ _) (meets_str_split_sep z y t t' f g (by simpa using c) (by omega) l) ?_;have a:=q _ (I.hok.fresh (bX _));rw[e]at a;exact⟨.ref s.heap.objs.size,_,I.lnew (x8 _ _) (by rw[bP];exact l),rfl,a⟩
end
def Nh(a b:Str):Prop:=a.cps.toList<=b.cps.toList
theorem yq:∀(x y:List Nat),ltCps x y=true↔x<y
 | [],[]=>by unfold ltCps;simp
 | [],_::_=>by unfold ltCps;simp
 | _::_,[]=>by unfold ltCps;simp
 | a::r,b::t=>by
  unfold ltCps
  rw[gp,<-yq r t]
  simp
theorem C8{a b:Str}:ltCps b.cps.toList a.cps.toList=false↔Nh a b:=by
 unfold Nh;rw[<-List.not_lt,<-Bool.not_eq_true];exact not_congr (yq _ _)
theorem wq{a b:Str}(h:a.cps.toList=b.cps.toList):a=b:=by
 cases a;cases b;exact congrArg Str.mk (Array.toList_inj.mp h)
theorem w5:∀{l:List Str} {x:Str},risingS x l=true->(x::l).Pairwise Nh
 | [],_,_=>List.pairwise_singleton _ _
 | y::l,x,h=>by
  rw[risingS.eq_2,cH]at h
  have b:=w5 h.2
  have h1:Nh x y:=C8.mp (by simpa using h.1)
  refine eo.mpr ⟨λz a=>?_,b⟩
  rcases cj.mp a with rfl|a
  ·exact h1
  ·exact List.le_trans h1 ((eo.mp b).1 z a)
theorem wX{l:List Str}(h:sortedS l=true):l.Pairwise Nh:=by
 cases l with
 | nil=>exact .nil
 | cons x l=>exact w5 h
theorem vp{a b:List Str}(ha:sortedS a=true)(hb:sortedS b=true)(h:a.Perm b):a=b:=
 kc (λ_ _ _ _ h1 h2=>wq (List.le_antisymm h1 h2)) (wX ha) (wX hb) h
section
variable{X:Cx}
theorem yR{prog:cg}{w:cC}{A:cO}{E:bQ->bS->Prop}{s:bS}{l:bV}{vs:List bQ}{ss:List Str}{Q:bQ->bS->Prop}(ht:IsTup s.heap l vs.toArray)(hI:StrsAre vs ss)(h64:vs.length<64)
  (h:∀(out:Array bQ) (ss':List Str),StrsAre out.toList ss'->ss'.Perm ss->sortedS ss'=true->Q (.ref (s.heap.objs.size+1)) {s with heap:=sortedAll s.heap vs out}):
  wpAny (model prog w) A (call (.builtin "sorted") [.ref l]) Q E s:=by
 have a:((s.heap.push (seqObj "list" #[] 0)).update s.heap.objs.size (dr (· ++ vs.toArray))).objs.size=s.heap.objs.size+1:=by rw[nV,kY]
 have b:(((s.heap.push (seqObj "list" #[] 0)).update s.heap.objs.size (dr (· ++ vs.toArray))).push (seqObj "list" vs.toArray 0)).get? (s.heap.objs.size+1)=some (seqObj "list" vs.toArray 0):=by
  rw[<-a];exact b4 _ rfl
 refine gr oj nu nv (nw _) ?_
 unfold Builtin.«sorted»
 refine bM (m:=checkCount "sorted" 1 1 _) (bO ?_)
 have g:vs.length<=sizeLine:=cx (Fh (by omega))
 refine bM (wt ht g (bM (iI ?_)))
 change wpAny _ _ _ _ _ {s with heap:=((s.heap.push (seqObj "list" #[] 0)).update s.heap.objs.size (dr (· ++ vs.toArray))).push (seqObj "list" vs.toArray 0)}
 rw[a]
 refine bM (cR (df lV ⟨_,b,rfl⟩ lx (list_sort_treeK strKind_oneLt b (StrsAre.keysOf hI) (λf k rest e=>keyKind_strs (by rw[<-e];exact hI)) h64 λo hp d=>⟨_,rfl,?_⟩) (lW _)))
 obtain⟨ss',c,j,n⟩:=sorted_out_str hI hp d
 exact bO ⟨_,rfl,h _ ss' c j n⟩
theorem tY:FW X (.builtin "sorted") (λxs H Q=>∃(p:bV) (ss:List Str),xs=[.ref p]/\(SqL X.K H p (ss.map V.str)\/SqT X.K H p (ss.map V.str))/\ss.length<64/\∀(l:bV) (ss':List Str),H l=none->ss'.Perm ss->sortedS ss'=true->Q (.ref l) (upd H l (.lst (ss'.map V.str)))):=by
 intro g s y H xs C Q I r h;obtain⟨p,ss,rfl,f,B,q⟩:=h;obtain⟨u,rfl,x⟩:=F7 r
 cases(show u=b5 p from x);have fin:∀(a:List bQ),Vals (ss.map V.str) a->∀(c:Array bQ) (ss':List Str),StrsAre c.toList ss'->ss'.Perm ss->sortedS ss'=true->EP X g y Q (.ref (s.heap.objs.size+1)) {s with heap:=sortedAll s.heap a c}:=λa d c ss' z m A=>by
  obtain⟨e,v⟩:=ql s.heap a c;refine⟨.ref (s.heap.objs.size+1),_,I.laid (t':=s.toks) (λb o t=>pQ t) (dJ _) (show ObjOk X.prog X.w _ _ _ (.lst (ss'.map V.str))from⟨?_,c.toList,e,yb z,by rw[v]⟩),rfl,q _ ss' (I.hok.fresh (dJ _)) m A⟩;rw[bP,m.length_eq];exact cx (Fh (by omega))
 rcases f with f|f
 ·obtain⟨a,d,k,n⟩:=I.list f;have j:=d.length;rw[bP]at j;exact sorted_strs k.isList (ud d) (by omega) (fin a d)
 ·obtain⟨a,d,k,n⟩:=I.tuple f;have j:=d.length;rw[bP]at j;exact yR k (ud d) (by omega) (fin a d)
end
def N2(z:Str):It:=⟨λi _=>i<z.cps.size,λi H x H'=>H'=H/\∃c,z.cps[i]?=some c/\x = .str ⟨#[c]⟩,λi _=>z.cps.size<=i⟩
theorem CG{P:cg}{w:cC}{K:bN}{tg:Expr}(it:bV)(z:Str)(t:Tok):JY P w K tg (N2 z) [it] it (λi h=>h.IsStrIter it "str_ascii_iterator" z t i) where
 mem:=by simp
 obj:=λi h st b a=>by
  have e:b=it:=by simpa using a
  subst e
  obtain⟨o,e,c,d⟩:=st
  exact⟨o,e,λv z=>by rw[d]at z;cases z⟩
 keep:=λi h j st k=>by
  obtain⟨o,e,c,d⟩:=st
  exact⟨o,k it (by simp) o e,c,d⟩
 item:=by
  intro X n B p C i f s D H E I g st A
  subst n B p
  have l:i<z.cps.size:=A
  obtain⟨y,u,J,r,q,x⟩:=g it (by simp)
  refine wpAny_pyNext_ascii_item st (c:=z.cps[i]) (d8 l) λj m L=>?_
  have G:Inv X f D H {s with heap:=j,toks:=s.toks+1}:=I.turned (λb o a e=>(L.2 b a).trans e) y u r q x
  obtain⟨o,e,c,d⟩:=id m
  exact⟨_,rfl,C3 (s:={s with heap:=j,toks:=s.toks+1}) e c d (by decide) ⟨.str ⟨#[z.cps[i]]⟩,H,G,⟨_,rfl⟩,⟨rfl,_,d8 l,rfl⟩,m,λb a=>(g b a).1⟩⟩
 done:=by
  intro X n B p C i f s D H E I g st A
  subst n B p
  have l:z.cps.size<=i:=A
  obtain⟨y,u,J,r,q,x⟩:=g it (by simp)
  exact wpAny_pyNext_ascii_end (I.ok.hd C) st (f3 l) λj F=>⟨rfl,I.turned (t':=s.toks) (λb o a e=>F b o a e) y u r q x⟩
 self:=λ_ _ _ _ _ st h=>wpAny_pyIter_striter_ascii st h
theorem EI{X:Cx}{tg l:Expr}{tl:TE}(hl:PE X l tl):PI X tg l (λσ H R=>tl σ H λx H1=>∃z:Str,x = .str z/\(∀c∈z.cps.toList,c<128)/\R (N2 z) H1):=by
 intro d s σ H R I h;refine Fw (hl d s σ H _ I h) λv a ⟨x,H1,f,j,k⟩=>?_;obtain⟨z,e,n,q⟩:=k;subst e;obtain⟨t,rfl⟩:=j;refine wpAny_pyIter_ascii (by rw[Array.all_eq_true'];exact λc g=>decide_eq_true (n c (by simpa using g))) ?_;refine⟨a.heap.objs.size,[a.heap.objs.size],_,_,H1,rfl,f.kept (t':=a.toks) λb o e=>bU _ e,CG _ z t,⟨_,b4 _ rfl,rfl,rfl⟩,λb m=>?_,q⟩;have e:b=a.heap.objs.size:=by simpa using m
 subst e;exact f.fpOk (bX _) (f.hok.fresh (bX _))
theorem AS{z:Str}{caps:List (Option Nat)}{g:TG}{te:TE}{σ:St}{QQ:List V->Hp->Prop}{H:Hp}(Pv:Nat->List V->Hp->Prop)(h0:Pv 0 [] H)
  (hs:∀i c ys H,z.cps[i]?=some c->Pv i ys H->g (.str ⟨#[c]⟩) (Gb caps σ) H λσ2 H2=>te σ2 H2 λy H4=>ys.length<sizeLine/\Pv (i+1) (ys++[y]) H4)
  (hd:∀ys H,Pv z.cps.size ys H->QQ ys H):FT caps g Hs te σ QQ (N2 z) H:=by
 refine⟨λi m ys H=>m=z.cps.size-i/\i<=z.cps.size/\Pv i ys H,⟨z.cps.size,by simp,cM _,h0⟩,?_⟩
 rintro i m ys H ⟨rfl,j,p⟩
 by_cases a:i<z.cps.size
 ·refine .inr ⟨a,Pv (i+1),λh b d=>⟨z.cps.size-(i+1),by omega,rfl,a,d⟩,λx b y=>?_⟩
  obtain⟨e,c,f,rfl⟩:=y
  subst e
  simp only[tZ]
  exact hs i c ys _ f p
 ·have e:i=z.cps.size:=by omega
  subst e
  exact .inl ⟨bX _,hd ys H p⟩
def Gh(ws:List Str):Nat->Nat
 | 0=>0
 | i+1=>if ws.getD i fq∈ws.take i then Gh ws i else Gh ws i+1
theorem y3(ws:List Str):∀i,Gh ws i<=i
 | 0=>bX _
 | i+1=>by
  have:=y3 ws i
  unfold Gh
  split <;> omega
theorem wO{ws:List Str}(h:ws.Nodup):∀i,i<=ws.length->Gh ws i=i
 | 0,_=>rfl
 | i+1,hi=>by
  have a:=wO h i (by omega)
  unfold Gh
  rw[if_neg,a]
  intro z
  obtain⟨j,b,e⟩:=dW.mp z
  rw[cf]at b
  rw[List.getElem_take,HM.getD_lt (show i<ws.length by omega)]at e
  have:=(nH (j:=i) (show j<ws.length by omega) h).mp (by rw[bT (show j<ws.length by omega),e];exact(bT _).symm)
  omega
theorem BZ{ws:List Str}:∀{i:Nat},i<=ws.length->¬(ws.take i).Nodup->Gh ws i<i
 | 0,_,h=>absurd (by simp) h
 | i+1,hi,h=>by
  have d:i<ws.length:=by omega
  have e:ws.take (i+1)=ws.take i++[ws.getD i fq]:=by rw[cv,bT d,HM.getD_lt d];rfl
  have h1:=y3 ws i
  unfold Gh
  split
  ·omega
  ·next c=>
   have:=BZ (ws:=ws) (i:=i) (by omega) λz=>h (by
    rw[e]
    refine fO.mpr ⟨z,by simp,λa f b g=>?_⟩
    rw[bY.mp g]
    exact λq=>c (q▸f))
   omega
theorem AJ{prog:cg}{w:cC}{A:cO}{R:Result->bS->Prop}{I:bV}{fp wr:List bV}{G:Array GenState->Array GenState->Prop}{n:Nat}{P:Nat->bQ->Prop}{St:Nat->bS->Prop}
  (W:WalksS prog w A.in1 I fp wr G n P St)(S:bV)(hS:S∉fp)(ws:List Str)(hw:ws.length=n)(hv:∀i v,P i v->∃t,v=gY (ws.getD i fq) t)(hn:n+1<scanBound):
  ∀(k i:Nat) (s:bS),n-i=k->i<=n->St i s->k9 (strKind prog w) s.heap S (λx=>decide (x∈ws.take i)) (Gh ws i)->
   (∀s',Moved (S::wr) G s s'->k9 (strKind prog w) s'.heap S (λx=>decide (x∈ws.take n)) (Gh ws n)->R (.ok (.ret .none)) s')->
   codeAny (model prog w) A (.builtin "set.update.loop" ⟨[.ref S,.ref I],[]⟩) R s:=by
 have q:S∉wr:=λz=>hS (W.sub S z)
 intro k
 induction k with
 | zero=>
  intro i s hk O f d h
  have e:i=n:=by omega
  subst e
  refine dS gH ?_
  rw[fu fw _]
  unfold Builtin.«set.update.loop»
  refine bM (W.done s _ _ f λs' m=>?_)
  obtain⟨o,y,C,t,b,r⟩:=d
  exact bO (h s' ⟨λc o a=>m.heap c o λz=>a (b3 _ z),m.gens,m.drawn,m.os,m.toks⟩ ⟨o,y,C,t,m.heap S o q b,r⟩)
 | succ k N=>
  intro i s hk O f d h
  refine dS gH ?_
  rw[fu fw _]
  unfold Builtin.«set.update.loop»
  refine bM (W.item i s _ _ (by omega) f λv s' M B m=>?_)
  have j:k9 (strKind prog w) s'.heap S (λx=>decide (x∈ws.take i)) (Gh ws i):=by
   obtain⟨o,y,C,t,b,r⟩:=d
   exact⟨o,y,C,t,m.heap S o q b,r⟩
  obtain⟨t,rfl⟩:=hv i v M
  have u:i<ws.length:=by omega
  have et:ws.take (i+1)=ws.take i++[ws.getD i fq]:=by rw[cv,bT u,HM.getD_lt u];rfl
  dsimp only
  refine bM (cR ?_)
  unfold setAdd
  refine cR (bM (nL ?_))
  have a:=y3 ws i
  refine wpAny_setAddHashed_of (knd:=strKind prog w) (k:=ws.getD i fq) (show(ws.getD i fq==ws.getD i fq)=true from beq_self_eq_true _) rfl j (by omega) λD J p=>?_
  have L:(λE=>decide (E∈ws.take i)||decide (E=ws.getD i fq))=λx=>decide (x∈ws.take (i+1)):=by
   funext x
   rw[et]
   simp[cN,Bool.decide_or]
  have K:(if decide (ws.getD i fq∈ws.take i)=true then Gh ws i else Gh ws i+1)=Gh ws (i+1):=by
   conv=>rhs;unfold Gh
   simp
  rw[L,K]at p
  refine bO ⟨jf fw _,N (i+1) _ (by omega) (by omega) (W.frame (i+1) s' D (s'.toks+1) B (gc _ _) λc a o b=>by rw[J.2 c λz=>hS (z▸a)];exact b) p λH g l=>h H ?_ l⟩
  refine⟨λc o a b=>g.heap c o a ?_,W.gtrans _ _ _ m.gens g.gens,g.drawn.trans m.drawn,g.os.trans m.os,cG m.toks (cG (gc _ _) g.toks)⟩
  show D.get? c=some o
  rw[J.2 c λz=>a (by rw[z];exact b0)]
  exact m.heap c o (λz=>a (b3 _ z)) b
theorem wD{prog:cg}{w:cC}{A:cO}{E:bQ->bS->Prop}{s:bS}{l:bV}{items:Array bQ}{Q:bQ->bS->Prop}(hh:A.handled=none)(hl:s.heap.IsList l items)(ws:List Str)(hw:StrsAre items.toList ws)(hn:items.size<=60)
  (h:∀(h':Heap) (tk:Nat),k9 (pX prog w) h' s.heap.objs.size (λx=>decide (x∈ws.take ws.length)) (Gh ws ws.length)->(∀b o,s.heap.get? b=some o->h'.get? b=some o)->Q (.ref s.heap.objs.size) {s with heap:=h',toks:=tk}):
  wpAny (model prog w) A (call (.type "set") [.ref l]) Q E s:=by
 obtain⟨c,tl,B⟩:=ej.mro
 have g:=ej.made
 have C:=ej.sub
 have p:ws.length=items.size:=by
  have:∀{vs:List bQ} {ss:List Str},StrsAre vs ss->ss.length=vs.length:=λh=>by
   induction h with
   | nil=>rfl
   | cons _ _ _ J=>simp[J]
  simpa using this hw
 have H:∀{vs:List bQ} {ss:List Str},StrsAre vs ss->∀(i:Nat) (v:bQ),vs[i]?=some v->∃t,v=gY (ss.getD i fq) t:=λh=>by
  induction h with
  | nil=>intro i v j;simp at j
  | cons y t _ J=>
   intro i v j
   cases i with
   | zero=>exact⟨t,by simpa using j.symm⟩
   | succ i=>
    obtain⟨u,e⟩:=J i v (by simpa using j)
    exact⟨u,by simpa using e⟩
 refine gf (lz (bO ⟨gi _ (by decide +kernel),dS nC ?_⟩))
 rw[mQ (lG "set" [.ref l] []) rfl]
 have h1:=ej.notType
 have h2:=ej.canCreate
 have N:=nX (.ref l)
 unfold Builtin.«type.__call__»
 refine b7 (by rw[h1];rfl) (b7 (by rw[h2];rfl) (bM (eQ N (bM (eQ B (b7 rfl (bM (eQ g (bM (bO ?_))))))))))
 refine bM (cR (gf (gN (BL (E:=E) (.ref l) (Q₁:=λv s1=>v = .ref s.heap.objs.size/\s1=_) ⟨rfl,rfl⟩) λr G I=>?_)))
 cases r with
 | error e=>exact I
 | ok W=>
  cases W with
  | ret v=>
   obtain⟨rfl,rfl⟩:=(show v=_/\G=_ from I)
   have a:(s.heap.push {cls:=cX "set",data:=Data.set #[] 0 (ff 0 0 (Fs w))}).get? s.heap.objs.size=some {cls:=cX "set",data:=Data.set #[] 0 (ff 0 0 (Fs w))}:=b4 _ rfl
   refine bM (dQ (T:="set") ⟨_,a,rfl⟩ C (b7 rfl (bM (cR ?_))))
   unfold callSpecial?
   refine bM (fG (T:="set") ⟨_,a,rfl⟩ ej.init.lookup ?_)
   refine cR (bM (eQ (ej.init.bind _) (bM (gf (ik ej.init.plain nY (nZ ⟨_,a,rfl⟩ ?_))))))
   unfold Builtin.«set.__init__»
   refine bM (bO ?_)
   dsimp only[n5,ou]
   unfold typeNameOfCut
   unfold shownTypeOf
   refine bM (bM ?_)
   refine bM (gQ (T:="set") ⟨_,a,rfl⟩ (b7 rfl (bO (bO (bM (bO (bM (bO ?_))))))))
   unfold setUsed
   refine bM (bM (dg a rfl (by cases Fs w <;> rfl) (bO (b7 rfl ?_))))
   have f:=hl.push {cls:=cX "set",data:=Data.set #[] 0 (ff 0 0 (Fs w))}
   have D:kg {s with heap:=s.heap.push {cls:=cX "set",data:=Data.set #[] 0 (ff 0 0 (Fs w))}} (.ref l) "list":=by
    obtain⟨o,h1,h2,_⟩:=f
    exact⟨o,h1,h2⟩
   unfold jm jJ orM
   refine bM (bM (bM (dQ D oV (dQ D lX ?_))))
   refine b7 rfl (bM (gQ D (b7 rfl (bM (g8 f ?_)))))
   refine bM (jH ?_)
   have q:s.heap.get? s.heap.objs.size=none:=by
    cases e:s.heap.get? s.heap.objs.size with
    | none=>rfl
    | some o=>exact absurd (b6 e) (cJ _)
   have K:l≠s.heap.objs.size:=λz=>by
    obtain⟨o,h1,_⟩:=hl
    rw[z,q]at h1;cases h1
   have n:(s.heap.push {cls:=cX "set",data:=Data.set #[] 0 (ff 0 0 (Fs w))}).objs.size=s.heap.objs.size+1:=kY ..
   have M:l≠s.heap.objs.size+1:=λz=>by
    obtain⟨o,h1,_⟩:=hl
    rw[z]at h1
    exact absurd (gx (b6 h1)) (cJ _)
   dsimp only
   rw[n]
   refine AJ (rr (oO (A:=A.in1.in1.in1) hh (s.heap.objs.size+1) l M items)) s.heap.objs.size (λz=>?_) ws p (λi v Z=>?_) (by show items.size+1<4096;omega) items.size 0 _ rfl (cM _) ?_ ?_ (λO m L=>?_)
   ·rcases cj.mp z with z|z
    ·exact absurd z (cF (cV _))
    ·exact K (bY.mp z).symm
   ·exact H hw i v (by simpa using Z)
   ·exact⟨⟨_,(by rw[<-n];exact b4 _ rfl),rfl,rfl⟩,(f.push _)⟩
   ·refine⟨_,#[],0,_,bU _ a,⟨rfl,rfl,rfl⟩,rfl,?_,λk=>?_,by decide,by cases Fs w <;> rfl,rfl⟩
    ·exact λe V=>(nomatch (show e∈([]:List (Int×bQ))from V))
    ·simp
   ·refine bO (bO (bO (b7 rfl (bO ?_))))
    obtain⟨h',P,Y,t',U⟩:=O
    have S:P=s.gens:=m.gens
    have R:Y=s.drawn:=m.drawn
    have X:U=s.os:=m.os
    subst S R X
    rw[<-p]at L
    refine h h' t' L λb o d=>m.heap b o (λz=>?_) (bU _ (bU _ d))
    rcases cj.mp z with z|z
    ·rw[z,q]at d;cases d
    ·rw[bY.mp z]at d
     exact absurd (gx (b6 d)) (cJ _)
  | _=>exact I.elim
theorem Cq{prog:cg}{w:cC}{A:cO}{E:bQ->bS->Prop}{s:bS}{a:bV}{S:Str->Bool}{n:Nat}{Q:bQ->bS->Prop}(hS:k9 (pX prog w) s.heap a S n)(h:Q (.int n (s.toks+1)) {s with toks:=s.toks+1+1}):
  wpAny (model prog w) A (call (.builtin "len") [.ref a]) Q E s:=by
 obtain⟨o,p,k,t,f,e,g,_,_,j,b,c⟩:=hS
 have l:n<4096:=by rw[<-c];exact j
 have d:s.TypeIs (.ref a) "set":=⟨o,f,e.1⟩
 refine gr kind_len plain_len entry_len (args_len1 _) ?_
 unfold Builtin.«len»
 refine bM (m:=oneArg "len" _) (bO ?_)
 refine bM (m:=callSpecial? (.ref a) (b9 "__len__")) (dA (name:=b9 "__len__") d l4 (df l4 d xy ?_ (PySem.F.args_set_len_1 _)))
 unfold Builtin.«frozenset.__len__» kh setEntries
 refine bM (bO ?_)
 refine bM (bM (bM (dg f g b (bO (bO ?_)))))
 refine bM (wpAny_mkInt (bO ⟨_,rfl,?_⟩))
 refine bM (cR (bO ?_))
 refine bM (j3 ?_)
 rw[c]
 show wpAny _ _ (if((n:Nat):Int)<0 then _ else _) _ _ _
 rw[if_neg (by omega)]
 show wpAny _ _ (if((n:Nat):Int)>=2^63 then _ else _) _ _ _
 rw[if_neg (by omega)]
 exact bM (wpAny_mkInt (bO ⟨_,rfl,h⟩))
def Lp(K:bN)(te:TE):TE:=λσ H Q=>te σ H λx H1=>∃(l:bV) (ws:List Str),x = .ref l/\SqL K H1 l (ws.map V.str)/\ws.length<=60/\Q (.int (Gh ws ws.length:Nat)) H1
theorem Aq{X:Cx}{e:Expr}{te:TE}{p p2 pos pos2:Pos}(hc:X.calm=true)(h1:Gl X "len")(m1:X.mg "len"=none)(h2:Gl X "set")(m2:X.mg "set"=none)(ha:PE X e te)
  (he:cD [e] X.env=(false,eval e X.env)::cD [] X.env:=by rfl):PE X (.Call (.Name "len" p) [.Call (.Name "set" p2) [e] [] pos2] [] pos) (Lp X.K te):=by
 intro a s t H Q I h
 refine d9 (t7 I h1 m1 cU ?_)
 refine gB ?_ rfl rfl
 show wpAny _ _ (spliced ((false,eval (.Call (.Name "set" p2) [e] [] pos2) X.env)::[])) _ _ s
 refine eP ?_
 refine d9 (t7 I h2 m2 Boot.set ?_)
 refine du ?_ he rfl
 rw[he]
 show wpAny _ _ (spliced ((false,eval e X.env)::[])) _ _ s
 refine eP (Fw (ha a s t H _ I h) λu j ⟨x,o,b,k,n⟩=>?_)
 obtain⟨l,c,rfl,m,y,q⟩:=n
 cases(show u=b5 l from k)
 obtain⟨w,g,v,z⟩:=b.list m
 have f:=g.length
 rw[bP]at f
 refine bO (wD (b.ok.hd hc) v.isList c (by simpa using ud g) (by simp;omega) λr tk d hk=>bO (Cq (s:={j with heap:=r,toks:=tk}) d ?_))
 exact⟨.int (Gh c c.length:Nat),o,b.kept hk,⟨_,rfl⟩,q⟩
section
variable{X:Cx}
theorem StrsAre.len:∀{vs:List bQ} {ss:List Str},StrsAre vs ss->vs.length=ss.length
 | _,_,.nil=>rfl
 | _,_,.cons _ _ r=>by rw[cZ,cZ,StrsAre.len r]
theorem xK:∀{vs:List bQ} {ss:List Str} (hi:StrsAre vs ss) {i:Nat} (h:i<vs.length),∃t,vs[i]=gY (ss[i]'(by rw[<-StrsAre.len hi];exact h)) t
 | _,_,.cons n t r,0,_=>⟨t,rfl⟩
 | _,_,.cons n t r,i+1,h=>xK r (i:=i) (by simpa using h)
theorem wG{prog:cg}{w:cC}{A:cO}{E:bQ->bS->Prop}{s:bS}{a:bV}{vs:List bQ}{ns:List Str}{k:Str}{t:Tok}{Q:bQ->bS->Prop}(ht:IsTup s.heap a vs.toArray)(hi:StrsAre vs ns)
  (hk:k∈ns)(h:Q (.int (ns.idxOf k:Nat) s.toks) {s with toks:=s.toks+1}):wpAny (model prog w) A (call (.builtin "tuple.index") [.ref a,.str k t]) Q E s:=by
 have u:=StrsAre.len hi
 have q:ns.idxOf k<ns.length:=fJ.mpr hk
 refine fU iK ht.typeIs jT (jN _ _) (S:=λA R s=>IsTup s.heap a vs.toArray/\R (.ok (.ret (.int (ns.idxOf k:Nat) s.toks))) {s with toks:=s.toks+1}) ?_ ⟨ht,h⟩
 intro prog w A R s ⟨ht,h⟩
 show wpAny _ _ _ _ _ _
 unfold Builtin.«tuple.index»
 simp only[iu]
 wp_walk using pW ht
 have p:([:min vs.toArray.size vs.toArray.size]:og).size=vs.length:=by simp[lL]
 rw[p]
 refine kK (M:=model prog w) (A:=A.in1) _ (λl b g=>b=((none:Option PySem.Fin),())/\g=s/\∃i,l=j2 i (vs.length-i)/\i<=ns.idxOf k) _ (λx rest b g m=>?_) (λb g m=>?_) _ _ ⟨rfl,rfl,0,rfl,cM _⟩
 ·obtain⟨rfl,rfl,i,e,d⟩:=m
  have f:i<vs.length:=by omega
  rw[show vs.length-i=(vs.length-(i+1))+1 by omega,kH]at e
  injection e with o hrest
  subst o
  obtain⟨j,r⟩:∃j,vs[x]=gY (ns[x]'(by omega)) j:=xK hi f
  have n:vs.toArray[x]?=some (gY (ns[x]'(by omega)) j):=by simp[f,r]
  rw[n]
  refine bM (nN ?_)
  by_cases c:ns[x]'(by omega)=k
  ·have o:ns.idxOf k=x:=by
    have h1:ns.idxOf k<=x:=by
     refine kC λz=>?_
     exact absurd c (by simpa using i5 z)
    omega
   rw[decide_eq_true c,if_pos rfl]
   wp_walk
   rw[o]at h
   exact h
  ·rw[decide_eq_false c,if_neg (by decide)]
   refine bO ⟨rfl,rfl,x+1,hrest,?_⟩
   refine mV d λz=>c ?_
   have:=gT q
   simp only[<-z]at this
   exact this
 ·obtain⟨_,_,i,e,d⟩:=m
  have:=congrArg iM e
  simp at this
  omega
def Ny(K:bN)(to te:TE):TE:=λσ H Q=>to σ H λx H1=>∃(l:bV) (o:Obj) (xs:List V),x = .ref l/\H1 l=some (.frz o (.tup xs))/\o.dict=none/\te σ H1 λy H2=>∃(ns:List Str) (k:Str),y = .str k/\SqT K H2 l (ns.map V.str)/\k∈ns/\Q (.int (ns.idxOf k:Nat)) H2
theorem B3{K:bN}{o e:Expr}{apos cpos:Pos}{to te:TE}(hK:X.K=K)(ho:PE X o to)(he:PE X e te)(hbase:attributeBase o "index" X.env (eval o X.env)=eval o X.env:=by rfl)
  (hfew:((backTo cpos (cD [e] X.env)).all (λx=>!x.1)&&(backToKw cpos (keywordEach [] X.env)).all (λx=>x.1.isSome)&&decide (([e]:List Expr).length+([]:List Keyword).length+(if([]:List Keyword).isEmpty then 0 else 1)<30))=true:=by rfl)
  (hline:(apos.endLine==cpos.line)=true:=by rfl)(htrees:backTo cpos (cD [e] X.env)=[(false,eval e X.env)]:=by rfl):PE X (.Call (.Attribute o "index" apos) [e] [] cpos) (Ny K to te):=by
 subst hK
 intro a s m H Q I h
 refine nI hbase hfew hline PySem.F.plainAttrs_tuple iK PySem.F.type_tuple_index (Fw (ho a s m H _ I h) λu n ⟨x,g,f,C,l,j,J,G,N,q,B⟩=>?_)
 subst G
 obtain rfl:u=b5 l:=C
 obtain⟨g1,P,O,r,M⟩:=(show ObjOk X.prog X.w g n.heap l (.frz j (.tup J))from f.hok l _ N)
 refine⟨M.typeIs,λb z=>?_,?_⟩
 ·cases z
  exact⟨j,g1,q⟩
 rw[htrees]
 refine fY rfl (ic (eP (Fw (he a n m g _ f B) λR S ⟨y,E,c,L,T,k,t,A,hk,v⟩=>jY ?_)))
 subst t
 obtain⟨tk,rfl⟩:=L
 obtain⟨D,p,d,_⟩:=c.tuple A
 exact wG d (ud p) hk ⟨.int _,E,c.tok _,⟨_,rfl⟩,v⟩
theorem w6{k:Str}:∀{ns:List Str},k∈ns->ns.eraseIdx (ns.idxOf k)=ns.erase k
 | [],h=>by cases h
 | a::ns,h=>by
  by_cases c:a=k
  ·subst c;rw[List.idxOf_cons_self];simp
  ·have b:k∈ns:=by rcases cj.mp h with e|e;exact absurd e.symm c;exact e
   rw[List.idxOf_cons,show(a==k)=false from beq_false_of_ne c,List.erase_cons_tail (by simpa using c)]
   show a::ns.eraseIdx (ns.idxOf k)=_
   rw[w6 b]
theorem vh:∀(m:List Str) (j:Nat),(m.eraseIdx j).map V.str=(m.map V.str).eraseIdx j
 | [],_=>rfl
 | _::_,0=>rfl
 | a::m,j+1=>by show V.str a::(m.eraseIdx j).map V.str=_;rw[vh m j];rfl
theorem zQ:LK X "list.remove" (λx vs H Q=>∃(l:bV) (ns:List Str) (k:Str),x = .ref l/\vs=[.str k]/\H l=some (.lst (ns.map V.str))/\k∈ns/\Q .non (upd H l (.lst ((ns.erase k).map V.str)))):=by
 intro w s E H x vs v C Q I B o h;obtain⟨l,ns,k,rfl,rfl,m,hk,q⟩:=h
 cases B;obtain⟨u,rfl,tk,rfl⟩:=o.one;obtain⟨z,a,n,r,D,e⟩:=I.lstM m;have b:=ud r;have c:=StrsAre.len b;have d:ns.idxOf k<ns.length:=fJ.mpr hk;refine fU ko ⟨_,e,rfl⟩ PySem.F.entry_list_remove (PySem.F.args_list_remove_2 _ _)
  (MeetsSeq.list_remove l a.toArray n (.str k tk) (jk k) (λy A=>eq_isStrOf k tk b y (by simpa using A)) (ns.idxOf k) (by simpa [c]using d) ?_ ?_ (by rw[cc];omega)) ⟨e,?_⟩
 ·show jk k a[ns.idxOf k]=true;obtain⟨t,ev⟩:=xK b (i:=ns.idxOf k) (by omega);rw[ev];show(ns[ns.idxOf k]==k)=true;simpa using gT d
 ·intro j f g;show jk k a[j]=false;obtain⟨t,ev⟩:=xK b (i:=j) (by simpa using f);rw[ev];show(ns[j]'(by omega)==k)=false;exact beq_false_of_ne (by simpa using i5 g)
 ·have p:(ns.map V.str).eraseIdx (ns.idxOf k)=(ns.erase k).map V.str:=by rw[<-w6 hk,vh]
  rw[<-p]at q;refine⟨.non,_,I.lset (its':=a.eraseIdx (ns.idxOf k)) m e ?_ (r.eraseIdx _) ?_,rfl,q⟩
  ·simp
  ·have:=kQ (ns.map V.str) (ns.idxOf k);omega
end
def wK(R:List (Str×V)):List (G7×V):=R.map λp=>(Sum.inr p.1,p.2)
def Fu(R:List (Str×V))(x:Str):Option V:=(R.find? λp=>decide (p.1=x)).map (·.2)
def IL(R:List (Str×V))(x:Str)(v:V):List (Str×V):=if R.any (λp=>decide (p.1=x))=true then R.map (λp=>if p.1=x then(p.1,v)else p)else R++[(x,v)]
theorem wc:∀{R:List (Str×V)} {vs:List (G7×bQ)} (_:KV (wK R) vs) (x:Str),RelO (Fu R x) (valueAt vs (Sum.inr x))
 | [],[],_,_=>trivial
 | [],_::_,h,_=>nomatch h
 | _::_,[],h,_=>nomatch h
 | (a,v)::R,(k,u)::vs,h,x=>by
  obtain⟨h1,h2⟩:((Sum.inr a:G7)=k/\RelV v u)/\KV (wK R) vs:=by cases h with|cons p q=>exact⟨p,q⟩
  obtain⟨rfl,f⟩:=h1
  have b:=wc h2 x
  unfold Fu valueAt at b ⊢
  rw[jr,jr]
  by_cases c:a=x
  ·subst c
   simp
   exact f
  ·have e:decide (a=x)=false:=decide_eq_false c
   have d:decide ((Sum.inr a:G7)=Sum.inr x)=false:=decide_eq_false λz=>c (Sum.inr.inj z)
   simp only[e,d]
   exact b
theorem Ay:∀{R:List (Str×V)} {vs:List (G7×bQ)} (_:KV (wK R) vs) (x:Str),(vs.any λkv=>decide (kv.1=Sum.inr x))=R.any λp=>decide (p.1=x)
 | [],[],_,_=>rfl
 | [],_::_,h,_=>nomatch h
 | _::_,[],h,_=>nomatch h
 | (a,v)::R,(k,u)::vs,h,x=>by
  obtain⟨h1,h2⟩:((Sum.inr a:G7)=k/\RelV v u)/\KV (wK R) vs:=by cases h with|cons p q=>exact⟨p,q⟩
  obtain⟨rfl,_⟩:=h1
  rw[gz,gz,Ay h2 x]
  congr 1
  exact decide_eq_decide.mpr ⟨λz=>Sum.inr.inj z,λz=>congrArg Sum.inr z⟩
theorem AC{v:V}{u:bQ}(hv:RelV v u)(x:Str):∀{R:List (Str×V)} {vs:List (G7×bQ)} (_:KV (wK R) vs),KV (wK (R.map λp=>if p.1=x then(p.1,v)else p)) (vs.map λkv=>if kv.1=Sum.inr x then(kv.1,u)else kv)
 | [],[],_=> .nil
 | [],_::_,h=>nomatch h
 | _::_,[],h=>nomatch h
 | (a,v0)::R,(k,u0)::vs,h=>by
  obtain⟨h1,h2⟩:((Sum.inr a:G7)=k/\RelV v0 u0)/\KV (wK R) vs:=by cases h with|cons p q=>exact⟨p,q⟩
  obtain⟨rfl,h0⟩:=h1
  refine .cons ?_ (AC hv x h2)
  by_cases c:a=x
  ·subst c
   simp
   exact hv
  ·have b:¬(Sum.inr a:G7)=Sum.inr x:=λz=>c (Sum.inr.inj z)
   simp only[if_neg c,if_neg b,true_and]
   exact h0
theorem DA{R:List (Str×V)}{vs:List (G7×bQ)}{x:Str}{v:V}{u:bQ}(h:KV (wK R) vs)(hv:RelV v u):KV (wK (IL R x v)) (stored vs (Sum.inr x) u):=by
 unfold IL stored;rw[Ay h x];split
 ·exact AC hv x h
 ·unfold wK;rw[cb];exact Paired.app h (.cons ⟨rfl,hv⟩ .nil)
theorem zh(R:List (Str×V))(x:Str)(v:V):(IL R x v).length<=R.length+1:=by
 unfold IL;split
 ·rw[bP];omega
 ·rw[cr];exact bX _
theorem yx(R:List (Str×V))(x y:Str)(v:V):Fu (IL R x v) y=if y=x then some v else Fu R y:=by
 unfold IL;split
 ·next c=>
  induction R with
  | nil=>simp at c
  | cons p R b=>
   unfold Fu at b ⊢;rw[dh,jr,jr];by_cases e:p.1=x
   ·rw[if_pos e];by_cases d:y=x
    ·subst d;simp[e]
    ·have g:decide (p.1=y)=false:=decide_eq_false λz=>d (z.symm.trans e);simp only[g,if_neg d];by_cases a:R.any (λp=>decide (p.1=x))=true
     ·rw[b a,if_neg d]
     ·have:(R.map λp=>if p.1=x then(p.1,v)else p)=R:=by
       refine(eX λq f=>?_).trans (List.map_id R);rw[if_neg (λz=>a (iA.mpr ⟨q,f,decide_eq_true z⟩))];rfl
      rw[this]
   ·rw[if_neg e];have a:R.any (λp=>decide (p.1=x))=true:=by
     rw[gz,decide_eq_false e,pT]at c;exact c
    by_cases d:p.1=y
    ·have:¬y=x:=λz=>e (d.trans z);simp only[decide_eq_true d,if_neg this]
    ·simp only[decide_eq_false d];exact b a
 ·next c=>
  unfold Fu;rw[List.find?_append];by_cases d:y=x
  ·subst d;have:R.find? (λp=>decide (p.1=y))=none:=List.find?_eq_none.mpr λq f z=>c (iA.mpr ⟨q,f,z⟩);rw[this];simp
  ·rw[if_neg d]
   cases h:R.find? (λp=>decide (p.1=y))with
   | some q=>simp
   | none=>simp[Ne.symm d]
section
variable{X:Cx}
def MY:TE:=λ_ H Q=>∀p,H p=none->Q (.ref p) (upd H p (.dK (wK [])))
theorem DO{pos:Pos}:PE X (.Dict [] [] pos) MY:=λb s c H Q I h=>
 n8 ⟨.ref s.heap.objs.size,_,I.laid (a:=s.heap.objs.size) (o:= .dK []) (t':=s.toks) (λ_ _ q=>bU _ q) (bX _)
  (show ObjOk X.prog X.w _ _ _ (.dK [])from⟨cM _,beq_eq_false_iff_ne.mpr (Ne.symm (cF I.bigS)),[],.nil,rC s.heap⟩),rfl,h _ (I.hok.fresh (bX _))⟩
theorem yM(P:cg)(w:cC)(x:Str)(t:Tok):(Iq P w).is (Sum.inr x) (.str x t)=true:=show(x==x)=true from beq_self_eq_true _
def LR:R2:=λx y H Q=>∃(d:bV) (R:List (Str×V)) (z:Str),x = .str z/\y = .ref d/\H d=some (.dK (wK R))/\Q (.bl (!(Fu R z).isSome)) H
theorem Bw{a:Option V}{b:Option bQ}(h:RelO a b):b.isSome=a.isSome:=by
 cases a <;> cases b <;> first|rfl|cases h
theorem B7:Gx X (compareOp .NotIn) LR:=by
 intro e s k H x y v u Q I f g h;obtain⟨d,R,z,rfl,rfl,c,q⟩:=h;obtain⟨t,rfl⟩:=f
 cases g;obtain⟨_,a,vs,b,j⟩:=(show ObjOk X.prog X.w H s.heap d (.dK (wK R))from I.hok d _ c);refine wpAny_notIn_of (yM X.prog X.w z t) a j.mapOf ?_;rw[Bw (wc b z)];exact⟨.bl _,H,I.tok _,rfl,q⟩
def Of:R2:=λx y H Q=>∃(d:bV) (R:List (Str×V)) (z:Str) (v:V),x = .ref d/\y = .str z/\H d=some (.dK (wK R))/\Fu R z=some v/\Q v H
theorem Ff:IxR X Of:=by
 intro f e k s B H x y v u Q I n p h o;obtain⟨d,R,z,r,rfl,rfl,j,m,q⟩:=h
 cases n;obtain⟨t,rfl⟩:=p;obtain⟨_,l,vs,b,c⟩:=(show ObjOk X.prog X.w H s.heap d (.dK (wK R))from I.hok d _ j);obtain⟨g,A,a⟩:=RelO.some_of (v:=r) (by rw[<-m];exact wc b z);refine iV (x:=g) c.typeIs PySem.F.slot_dict_getitem.lookup ?_ o;exact wpAny_getItem_of (yM X.prog X.w z t) c.mapOf A ⟨rfl,r,H,I.tok _,a,q⟩
def ND:V->V->V->Hp->(Hp->Prop)->Prop:=λo i v H Q=>∃(d:bV) (R:List (Str×V)) (x:Str),o = .ref d/\i = .str x/\H d=some (.dK (wK R))/\R.length<1000/\Q (upd H d (.dK (wK (IL R x v))))
theorem E7:LG X ND:=by
 intro k s L H o i v J G u Q I B m C h;obtain⟨d,R,x,rfl,rfl,j,K,q⟩:=h
 cases B;obtain⟨t,rfl⟩:=m;obtain⟨F,g,vs,f,A⟩:=(show ObjOk X.prog X.w H s.heap d (.dK (wK R))from I.hok d _ j);have D:=Paired.len f;have E:(wK R).length=R.length:=by unfold wK;rw[bP]
 refine wpAny_setItem_pairs (hsz:=by omega) (yM X.prog X.w x t) A λp c r=>?_;have n:∃a,p.get? d=some a:=let⟨a,_,_,l,_⟩:=c;⟨a,l⟩;refine⟨_,I.write (x:=d) (e:=d) (by rw[j];trivial) (.inl rfl) (λb a y z=>(r.2 b y).trans z) n (show ObjOk X.prog X.w _ _ _ (.dK (wK (IL R x v)))from⟨?_,g,_,DA f C,c⟩),q⟩;unfold wK;rw[bP];have:=zh R x v;exact cx (Fh (by omega))
end
structure Mn(P:cg)(w:cC)(K:bN)(mg:Str->Option bQ)(base:Heap)(CX:Jp)(k:Nat)(C:bV)(m:Str)(ps:List Str)(sp:Sp):Prop where
 ex:∃f fd,FnOk P w K mg base CX k f fd ps sp/\K6 K C m f/\Binds K fd ps []
def MDef(K:bN)(C:bV)(m q:Str)(st:Stmt):Prop:=∃f fd,Fun K m q st f fd/\K6 K C m f
section
variable{X:Cx}{CX:Jp}{k j:Nat}{C:bV}{m:Str}{ps:List Str}{sp:Sp}{E:XK}{pos apos p:Pos}{o e:Expr}{es:List Expr}{ta:TE}{t:TA}
theorem zl{pl:Sem Bool}(he:PE X o ta)(c:Cls X.K C)(D:Mn X.prog X.w X.K X.mg X.base CX k C m ps sp)(hr:Room j X.A)(hk:k<=j)(hx:FS CX X E)(ha:PA X (e::es) t)
  (hst:cD (e::es) X.env=(false,eval e X.env)::cD es X.env:=by rfl)(hpl:(backTo pos (cD es X.env)).any (·.1)=false:=by rfl)
  (ht:eval (.Call (.Attribute o m apos) (e::es) [] pos) X.env=(do
   let ov<-eval o X.env
   standAt apos.atName
   let(f,first)<-holding [ov] (getMethod ov m pl)
   callWith pos f first (backTo pos (cD (e::es) X.env)) (backToKw pos (keywordEach [] X.env))):=by rfl):
  PE X (.Call (.Attribute o m apos) (e::es) [] pos) (JI C m sp [] E ta t):=by
 obtain⟨f,d,F,a,b⟩:=D.ex
 exact D3 (pl:=pl) he c a F (hr.mono hk) b .nil hx ha hst hpl ht
theorem Bv{pl:Sem Bool}(he:PE X o ta)(c:Cls X.K C)(D:Mn X.prog X.w X.K X.mg X.base CX k C m ps sp)(hr:Room j X.A)(hk:k<=j)(hx:FS CX X E)
  (ht:eval (.Call (.Attribute o m apos) [] [] pos) X.env=(do
   let ov<-eval o X.env
   standAt apos.atName
   let(f,first)<-holding [ov] (getMethod ov m pl)
   callWith pos f first (backTo pos (cD [] X.env)) (backToKw pos (keywordEach [] X.env))):=by rfl):
  PE X (.Call (.Attribute o m apos) [] [] pos) (JI C m sp [] E ta MH):=by
 obtain⟨f,d,F,a,b⟩:=D.ex
 exact CP (pl:=pl) he c a F (hr.mono hk) b .nil hx ht
theorem AV{pl:Sem Bool}(he:PE X.nox o ta)(c:Cls X.K C)(D:Mn X.prog X.w X.K X.mg X.base (GO X.prog X.w) k C m ps sp)(hr:Room j X.A)(hk:k<=j)(ha:PA X.nox (e::es) t)
  (hst:cD (e::es) X.env=(false,eval e X.env)::cD es X.env:=by rfl)(hpl:(backTo pos (cD es X.env)).any (·.1)=false:=by rfl)
  (ht:eval (.Call (.Attribute o m apos) (e::es) [] pos) X.env=(do
   let ov<-eval o X.env
   standAt apos.atName
   let(f,first)<-holding [ov] (getMethod ov m pl)
   callWith pos f first (backTo pos (cD (e::es) X.env)) (backToKw pos (keywordEach [] X.env))):=by rfl):
  Nm X (.Call (.Attribute o m apos) (e::es) [] pos) (λE=>JI C m sp [] E ta t):=by
 intro d s N H Q E xe I Z h
 obtain⟨f,fd,F,M,V⟩:=D.ex
 refine g7 (pl:=pl) (eK (he d s N H _ (I.wish _) h) (λu s1 h1=>?_) λ_ _ z=>dI z) ht
 obtain⟨x,U,B,S,a,dx,fs,Y,P,l,q⟩:=h1
 have G:=B.unwish
 subst Y
 obtain rfl:u=b5 a:=S
 refine ut G P c M l ?_
 refine gO (first:=[.ref a]) (h₀:=X.base) I.ok.mod.kin M.kp (eK (ha pos d s1 N U _ B q) (λn v h2=>?_) λ_ _ z=>dI z) hst hpl
 obtain⟨vs,y,b,r,J⟩:=h2
 have b:=b.unwish
 refine⟨b.kIn,?_⟩
 have L:sp (.ref a::vs) y Q E:=by rw[er]at J;exact J
 have R:(b5 a::n).length=ps.length:=by
  have:=F.len _ _ _ _ L
  rw[cZ]at this ⊢
  rw[<-r.length]
  exact this
 have p:=V v (.ref a::n) b.kIn (by rw[er];exact R)
 rw[er]at p
 refine gf (gN (F.run X.A X.stack v y ⟨.ref a::n,[]⟩ (.ref a::n) (.ref a::vs) Q E (hr.mono hk) b.env0 p (.cons rfl r) L) λr O g=>?_)
 cases r with
 | error e=>exact Z y v e O b g
 | ok T=>
  cases T with
  | ret u=>exact b.after g
  | next=>exact dI g
  | brk=>exact dI g
  | cont=>exact dI g
theorem Ei{f:bV}{fd:FuncData}{x:Str}(M:Mk X.K C f)(F:FnOk X.prog X.w X.K X.mg X.base (GO X.prog X.w) k f fd ps sp)(hr:Room j X.A)(hk:k+1<=j)(hg:Gl X x)(hm:X.mg x=some (.ref C))(hb:Binds X.K fd ps [])(ha:PA X.nox (e::es) t)
  (hdb:(x==("__debug__":Str))=false:=by decide)(he:cD (e::es) X.env=(false,eval e X.env)::cD es X.env:=by rfl)(hpl:(backTo pos (cD es X.env)).any (·.1)=false:=by rfl):
  Nm X (.Call (.Name x p) (e::es) [] pos) (λE=>KG C sp [] E t):=by
 intro g s0 O D Q E R l y h
 refine d9 (uH l hg hm ?_ hdb)
 refine gO (h₀:=X.base) l.ok.mod.kin M.kp (eK (ha pos g s0 O D _ (l.wish _) h) (λb s h1=>?_) λ_ _ z=>dI z) he hpl
 obtain⟨vs,H,I,r,q⟩:=h1
 have I:=I.unwish
 refine⟨I.kIn,?_⟩
 have m:=q (s.heap.objs.size+1) s.heap.objs.size (I.hok.fresh (dJ _)) (I.hok.fresh (bX _)) (cF (cV _))
 have c:=Inv.made (C:=C) I
 rw[er]at m
 have n:Vals (V.ref (s.heap.objs.size+1)::vs) (b5 (s.heap.objs.size+1)::b):= .cons rfl r
 have G:(b5 (s.heap.objs.size+1)::b).length=ps.length:=by
  have e:=n.length
  rw[F.len _ _ _ _ m]at e
  exact e.symm
 have d:=hb _ (b5 (s.heap.objs.size+1)::b) c.kIn (by rw[er];exact G)
 rw[er]at d
 refine gf (zz (f:=f) I.kIn M.makes M.init (beq_iff_eq.mp M.fn) (gN (F.run _ X.stack _ _ ⟨b5 (s.heap.objs.size+1)::b,[]⟩ (b5 (s.heap.objs.size+1)::b) _ _ E ((hr.mono hk).make C b [])
  (c.env0.make C b []) d n m) λr o a=>?_))
 cases r with
 | error e=>exact y _ _ e o c a
 | ok J=>
  cases J with
  | ret u=>
   obtain⟨v,L,B,P,ev,N⟩:=c.after a
   subst ev
   exact⟨P,⟨V.ref (s.heap.objs.size+1),L,B,rfl,N⟩⟩
  | next=>exact dI a
  | brk=>exact dI a
  | cont=>exact dI a
theorem EH{c:Expr}{a b:List Stmt}{tc:TT}{ta tb:XK->TS}(hc:PT X.nox c tc)(ha:MO X a ta)(hb:MO X b tb):MO X [.If c a b pos] (λE=>MU tc (ta E) (tb E)):=by
 intro d s g H D E l I m h;refine iw (eK (Q:=SP X d D) (wpAny_If (eK (hc d s g H _ (I.wish _) h) (λk j h1=>?_) λ_ _ z=>dI z)) (λf j q=>?_) λ_ _ z=>z)
 ·obtain⟨n,e,q⟩:=h1;have e:=e.unwish
  cases k with
  | true=>
   rw[if_pos rfl]at q ⊢;exact ha d j g n D E l e m q
  | false=>
   rw[if_neg cA]at q ⊢;exact hb d j g n D E l e m q
 ·cases f with
  | next=>exact fR q
  | ret v=>exact q
  | brk=>exact q
  | cont=>exact q
end
section
variable{P:cg}{w:cC}{K:bN}{mg:Str->Option bQ}{base:Heap}
theorem MDef.ok{C:bV}{x q:Str}{st:Stmt}{N ps:List Str}{k:Nat}{sp:Sp}(F:MDef K C x q st)(S:Fj N ps (Fg st))(len:∀vs H Q E,sp vs H Q E->vs.length=ps.length)
  (hb:∀(kV doc pm:bQ) (an:Option bV) (cdv ct:bQ) (us:List bQ),us.length=ps.length->bindArgs (fC x q (Fx st) (Fq st) (Fg st) .none kV doc pm an cdv ct) ⟨us,[]⟩=pure (ps.zip us))
  (hbody:∀(f:bV) (cdv:bQ) (A:cO) (outer:List Env) (s:bS) (H:Hp) (vs:List V) (Q:VK) (E:XK),Room k (A.deeper (envOfC q (Fg st) s.heap.objs.size f cdv))->sp vs H Q E->
   ∃t,PSs (Jh Ft P w K mg base N q (Fg st) f cdv A outer s H E).nox (Fq st) t/\t {nx:=λ_ H'=>Q .non H',rt:=Q} (start N vs) H):Mn P w K mg base Ft (k+1) C x ps sp:=by
 obtain⟨f,a,F,m⟩:=F
 exact⟨f,a,F.ok S len (hbody f),m,F.binds hb⟩
theorem MDef.okE{C:bV}{x q:Str}{st:Stmt}{N ps:List Str}{k:Nat}{sp:Sp}(F:MDef K C x q st)(S:Fj N ps (Fg st))(len:∀vs H Q E,sp vs H Q E->vs.length=ps.length)
  (hb:∀(kV doc pm:bQ) (an:Option bV) (cdv ct:bQ) (us:List bQ),us.length=ps.length->bindArgs (fC x q (Fx st) (Fq st) (Fg st) .none kV doc pm an cdv ct) ⟨us,[]⟩=pure (ps.zip us))
  (hbody:∀(f:bV) (cdv:bQ) (A:cO) (outer:List Env) (s:bS) (H:Hp) (vs:List V) (Q:VK) (E:XK),Room k (A.deeper (envOfC q (Fg st) s.heap.objs.size f cdv))->sp vs H Q E->
   ∃t,PSs (Ke P w K mg base N q (Fg st) f cdv A outer s H E) (Fq st) t/\t {nx:=λ_ H'=>Q .non H',rt:=Q} (start N vs) H):Mn P w K mg base (GO P w) (k+1) C x ps sp:=by
 obtain⟨f,g,F,m⟩:=F
 have c:=F.binds hb
 obtain⟨h,j,kV,doc,pm,an,cdv,ct,e,rfl,lk,b⟩:=F.ex
 exact⟨f,_,CJ lk b S len λA outer s H vs Q E d a=>hbody f cdv A outer s H vs Q E d a,m,c⟩
end
section
variable{X:Cx}{K:bN}
def KR(is:List Str):TA:=λ_ H Q=>Q (is.map V.str) H
def IM:List Expr->Option (List Str)
 | []=>some []
 | .Constant (.str i) _ _::r=>(IM r).map (i :: ·)
 | _=>none
theorem yL:∀{es:List Expr} {is:List Str},IM es=some is->PA X es (KR is)
 | [],is,h=>by cases h;exact λb a s c H Q I h=>(rH (X:=X)) b a s c H Q I h
 | .Constant (.str i) k po::r,is,h=>by
  have h:(IM r).map (i :: ·)=some is:=h
  cases d:IM r with
  | none=>rw[d]at h;cases h
  | some e=>
   rw[d]at h
   cases h
   exact λb a s c H Q I h=>(lg (X:=X) rY (yL d)) b a s c H Q I h
theorem pso_pickS{i:Nat}{x:Str}{es:List Expr}{is:List Str}{b:Expr}{tb:TE}{r:R2}{pos p1 p2 pos':Pos}(hN:X.N.Nodup)(hi:X.N[i]?=some x)(hx:MG X.env.scope x)(hr:IxR X r)(hI:IM es=some is)(hb:PE X b tb)(hp:Jm b)
  (hs:swapsWith (.Subscript (.List es p1) b p2) (some (.Name x pos')) pos.line X.env=pure false:=by rfl)(hf:X.fn x=true\/X.env.scope.names.lookup x=some .local:=by first|exact .inl rfl|exact .inr rfl|assumption):
  Oi X (.Assign [.Name x pos'] (.Subscript (.List es p1) b p2) pos) (LB (Mm r (Mq (KR is)) tb) (Ia i)):=
 ⟨rM hN hi hx (rS hr (sC (yL hI)) hb hp) hs hf⟩
theorem vX{e:Expr}{f:Str}{pos:Pos}{ta:TE}(h:X.K=K)(he:PE X e ta)(hb:attributeBase e f X.env (eval e X.env)=eval e X.env):PE X (.Attribute e f pos) (MV K ta f):=by subst h;exact u4 he hb
def NL(K:bN)(te:TE):TE:=λσ H Q=>te σ H λx H1=>∃a xs,x = .ref a/\SqL K H1 a xs/\∀p,H1 p=none->Q (.ref p) (upd H1 p (.lst xs.reverse))
theorem E4{e st:Expr}{te ts:TE}{pos p2:Pos}(he:PE X e te)(hs:PE X st (Oj (rU λi=> .int (-i)) (tC (.int 1)))):PE X (.Subscript e (.Slice none none (some st) p2) pos) (NL X.K te):=by
 intro c s k H Q I h;refine oK (Fw (he c s k H _ I h) λv G ⟨x,m,A,B,C⟩=>?_);obtain⟨a,f,rfl,E,q⟩:=C
 cases(show v=b5 a from B);refine wpAny_Slice ?_;rw[mn];refine bO (bO ?_);rw[pK];refine Fw (hs c G k m (λy j=>y = .int (-1)/\j=m) A ⟨1,rfl,rfl,rfl⟩) λw d ⟨y,j,u,n,z,p⟩=>?_;subst z p;obtain⟨t,rfl⟩:=n;have g:Inv X c k j {d with heap:=d.heap.push {cls:= .type "slice",data:= .fields #[.none,.none,.int (-1) t]}}:=u.kept (t':=d.toks) λb J q=>bU _ q;obtain⟨its,r,l,o⟩:=g.list E;have F:=r.length;refine qD (ops:=[.ref a,.ref d.heap.objs.size]) l.isList.typeIs jZ.lookup ?_ (by with_unfolding_all rfl);refine j8 l.isList (mF ..) .none .none (.int (-1) t) (by decide) ?_ (by rw[cc] <;> omega);rw[PySem.W.krv_pick];refine⟨.ref (d.heap.push {cls:= .type "slice",data:= .fields #[.none,.none,.int (-1) t]}).objs.size,_,g.lnew (ys:=f.reverse) (its:=its.toArray.toList.reverse) (t':=d.toks) ?_ ?_,rfl,q _ (g.hok.fresh (bX _))⟩
 ·have:∀{f:List V} {us:List bQ},Vals f us->Vals f.reverse us.reverse:=λh=>by
   induction h with
   | nil=>exact .nil
   | cons a b D=>rw[nJ,nJ];exact D.append (.cons a .nil)
  simpa using this r
 ·rw[iE];exact o
end
structure Bn(P:cg)(w:cC)(K:bN)(mg:Str->Option bQ)(base:Heap)(CX:Jp)(k:Nat)(C:bV)(x:Str)(ps:List Str)(sp:Sp):Prop where
 ex:∃f fd,FnOk P w K mg base CX k f fd ps sp/\Mk K C f/\Binds K fd ps []/\mg x=some (.ref C)
def BDef(K:bN)(mg:Str->Option bQ)(C:bV)(x q:Str)(st:Stmt):Prop:=∃f fd,Fun K "__init__" q st f fd/\Mk K C f/\mg x=some (.ref C)
section
variable{X:Cx}{CX:Jp}{k j:Nat}{C:bV}{x:Str}{ps:List Str}{sp:Sp}{E:XK}{pos p:Pos}{e:Expr}{es:List Expr}{t:TA}
theorem E9(D:Bn X.prog X.w X.K X.mg X.base CX k C x ps sp)(hr:Room j X.A)(hk:k+1<=j)(hg:Gl X x)(hx:FS CX X E)(ha:PA X (e::es) t)
  (hdb:(x==("__debug__":Str))=false:=by decide)(he:cD (e::es) X.env=(false,eval e X.env)::cD es X.env:=by rfl)(hpl:(backTo pos (cD es X.env)).any (·.1)=false:=by rfl):
  PE X (.Call (.Name x p) (e::es) [] pos) (KG C sp [] E t):=by
 obtain⟨f,a,F,M,b,m⟩:=D.ex
 exact DG M F (hr.mono hk) hg m b .nil hx ha hdb he hpl
theorem Fa(D:Bn X.prog X.w X.K X.mg X.base (GO X.prog X.w) k C x ps sp)(hr:Room j X.A)(hk:k+1<=j)(hg:Gl X x)(ha:PA X.nox (e::es) t)
  (hdb:(x==("__debug__":Str))=false:=by decide)(he:cD (e::es) X.env=(false,eval e X.env)::cD es X.env:=by rfl)(hpl:(backTo pos (cD es X.env)).any (·.1)=false:=by rfl):
  Nm X (.Call (.Name x p) (e::es) [] pos) (λE=>KG C sp [] E t):=by
 obtain⟨f,a,F,M,b,m⟩:=D.ex
 exact Ei M F hr hk hg m b ha hdb he hpl
end
section
variable{P:cg}{w:cC}{K:bN}{mg:Str->Option bQ}{base:Heap}
theorem BDef.okE{C:bV}{x q:Str}{st:Stmt}{N ps:List Str}{k:Nat}{sp:Sp}(F:BDef K mg C x q st)(S:Fj N ps (Fg st))(len:∀vs H Q E,sp vs H Q E->vs.length=ps.length)
  (hb:∀(kV doc pm:bQ) (an:Option bV) (cdv ct:bQ) (us:List bQ),us.length=ps.length->bindArgs (fC "__init__" q (Fx st) (Fq st) (Fg st) .none kV doc pm an cdv ct) ⟨us,[]⟩=pure (ps.zip us))
  (hbody:∀(f:bV) (cdv:bQ) (A:cO) (outer:List Env) (s:bS) (H:Hp) (vs:List V) (Q:VK) (E:XK),Room k (A.deeper (envOfC q (Fg st) s.heap.objs.size f cdv))->sp vs H Q E->
   ∃t,PSs (Ke P w K mg base N q (Fg st) f cdv A outer s H E) (Fq st) t/\t {nx:=λ_ H'=>Q .non H',rt:=Q} (start N vs) H):Bn P w K mg base (GO P w) (k+1) C x ps sp:=by
 obtain⟨f,g,F,M,m⟩:=F
 have c:=F.binds hb
 obtain⟨h,j,kV,doc,pm,an,cdv,ct,e,rfl,lk,b⟩:=F.ex
 exact⟨f,_,CJ lk b S len λA outer s H vs Q E d a=>hbody f cdv A outer s H vs Q E d a,M,c,m⟩
end
theorem Ap:typeLookup (.type "zip") (b9 "__len__")=pure none:=by kernel_rfl
theorem yX:typeLookup (.type "zip") (b9 "__length_hint__")=pure none:=by kernel_rfl
theorem xh{prog:cg}{w:cC}{A:cO}{R:Result->bS->Prop}{z TI TO i1 i2 d:bV}{fp1 fp2:List bV}{n:Nat}{P1 P2:Nat->bQ->Prop}{St1 St2:Nat->Heap->Prop}{res:bQ}{J:Nat->List bV->bS->Prop}
  (D1:Draws prog w A.in1.in1 i1 fp1 n P1 St1)(D2:Draws prog w A.in1.in1 i2 fp2 n P2 St2)(ap:LP z TI TO i1 i2 fp1 fp2)(hdz:d≠z)(hdTI:d≠TI)(hdTO:d≠TO)(hd1:d≠i1)(hd2:d≠i2)(hdf1:d∉fp1)(hdf2:d∉fp2)(hn:n<=1000)
  (hJ:∀i bs (s:bS) (h':Heap) tk x y,J i bs s->P1 i x->P2 i y->IsPair h' s.heap.objs.size x y->(∀c o,c≠z->c≠TO->c≠i1->c≠i2->c≠d->s.heap.get? c=some o->h'.get? c=some o)->J (i+1) (bs++[s.heap.objs.size]) {s with heap:=h',toks:=tk})
  (hE:∀bs (s:bS) (h':Heap),J n bs s->(∀c o,c≠z->c≠i1->s.heap.get? c=some o->h'.get? c=some o)->J n bs {s with heap:=h'}):
  ∀(k i:Nat) (s:bS) (T:bV) (bs:List bV) (c:Nat),n-i=k->i<=n->Nc s.heap z TI TO T->T≠z->T≠i1->T≠i2->(IsZip s.heap z TI TO .none\/T≠d)->IsPair s.heap TI (.ref i1) (.ref i2)->St1 i s.heap->St2 i s.heap->
   s.heap.get? d=some {cls:= .type "list",data:= .seq (bs.map b5).toArray c}->bs.length=i->J i bs s->
   (∀(s':bS) (bs':List bV) (c':Nat),J n bs' s'->s'.heap.get? d=some {cls:= .type "list",data:= .seq (bs'.map b5).toArray c'}->bs'.length=n->R (.ok (.ret res)) s')->
   codeAny (model prog w) A (Code.builtin "list.extend.loop" {pos:=[.ref d,.ref z,res],kw:=[]}) R s:=by
 intro k
 induction k with
 | zero=>
  intro i s T bs c hk hi M Z V P ab p I Y W N O hR
  have e:i=n:=by omega
  subst e
  have ht:s.TypeIs (.ref z) "zip":=by
   rcases M with⟨q,_⟩|⟨X,o,q,_⟩
   ·exact⟨_,q,rfl⟩
   ·exact⟨_,q,rfl⟩
  refine dS mi ?_
  rw[fu iF]
  unfold Builtin.«list.extend.loop»
  have L:wpAny (model prog w) A.in1 (pyNext (.ref z)) (λr s'=>r=none/\∃h',s'={s with heap:=h'}/\∀c o,c≠z->c≠i1->s.heap.get? c=some o->h'.get? c=some o) (λ_ _=>False) s:=by
   refine uy ht ?_
   rcases M with⟨q,a,b,S⟩|q
   ·refine AN D1 ap.i1z ap.z1 q p S I λh' e g G=>⟨?_,rfl,h',rfl,g⟩
    obtain⟨o,G,D⟩:=G
    exact⟨e,o,rfl,G,D⟩
   ·refine Db D1 ap.z1 q Z p I λh' e g G=>⟨?_,rfl,h',rfl,g⟩
    obtain⟨o,G,D⟩:=G
    exact⟨e,o,rfl,G,D⟩
  refine bM (eK L (λr s' q=>?_) (λ_ _ z=>z.elim))
  obtain⟨rfl,h',rfl,g⟩:=q
  dsimp only
  exact bO (hR _ bs c (hE bs s h' O g) (g d _ hdz hd1 W) N)
 | succ k ih=>
  intro i s T bs c hk hi M Z V P ab p I Y W N O hR
  have H:i<n:=by omega
  have ht:s.TypeIs (.ref z) "zip":=by
   rcases M with⟨q,_⟩|⟨X,o,q,_⟩
   ·exact⟨_,q,rfl⟩
   ·exact⟨_,q,rfl⟩
  have K:∀b o,s.heap.get? b=some o->b≠s.heap.objs.size:=λb o q=>cF (b6 q)
  refine dS mi ?_
  rw[fu iF]
  unfold Builtin.«list.extend.loop»
  have L:wpAny (model prog w) A.in1 (pyNext (.ref z)) (λr s'=>r=some (.ref s.heap.objs.size)/\∃h' tk C x y,s'={s with heap:=h',toks:=tk}/\P1 i x/\P2 i y/\F8 h' z TI TO C/\C≠z/\C≠i1/\C≠i2/\C≠d/\St1 (i+1) h'/\St2 (i+1) h'/\IsPair h' s.heap.objs.size x y/\
    ∀c o,c≠z->c≠TO->c≠i1->c≠i2->s.heap.get? c=some o->h'.get? c=some o) (λ_ _=>False) s:=by
   refine uy ht ?_
   rcases M with⟨q,a,b,S⟩|q
   ·refine eK (zf D1 D2 ap q p S I Y H H (E:=λ_ _=>False) (Q:=λv s'=>v = .ref s.heap.objs.size/\∃h' tk x y,s'={s with heap:=h',toks:=tk}/\P1 i x/\P2 i y/\IsZip h' z TI TO (rawInt s.heap.objs.size)/\St1 (i+1) h'/\St2 (i+1) h'/\IsPair h' s.heap.objs.size x y/\∀c o,c≠z->c≠TO->c≠i1->c≠i2->s.heap.get? c=some o->h'.get? c=some o) λx y h' tk t u j ai l h f af g=>⟨rfl,h',tk,x,y,rfl,t,u,j,l,h,f,g⟩) (λfin s' hq=>?_) (λ_ _ z=>z.elim)
    obtain⟨v,e,rfl,h',tk,x,y,rfl,t,u,j,l,h,f,g⟩:=hq
    obtain⟨o1,U⟩:=D1.live _ _ I
    obtain⟨o2,ag⟩:=D2.live _ _ Y
    exact⟨_,e,rfl,h',tk,s.heap.objs.size,x,y,rfl,t,u,⟨false,_,j,f⟩,Ne.symm (K _ _ q),Ne.symm (K _ _ U),Ne.symm (K _ _ ag),Ne.symm (K _ _ W),l,h,f,g⟩
   ·have ac:T≠d:=by
     rcases ab with z0|z0
     ·obtain⟨X,o,U,_⟩:=q
      have z1:=U.symm.trans z0
      have:=congrArg (λo=>o.map rD) z1
      simp[rawInt]at this
     ·exact z0
    refine eK (AF D1 D2 ap q Z V P p I Y H H (E:=λ_ _=>False) (Q:=λv s'=>v = .ref s.heap.objs.size/\∃h' tk x y,s'={s with heap:=h',toks:=tk}/\P1 i x/\P2 i y/\F8 h' z TI TO T/\St1 (i+1) h'/\St2 (i+1) h'/\IsPair h' s.heap.objs.size x y/\∀c o,c≠z->c≠i1->c≠i2->s.heap.get? c=some o->h'.get? c=some o) λx y h' tk t u j l h f af g=>⟨rfl,h',tk,x,y,rfl,t,u,j,l,h,f,g⟩) (λfin s' hq=>?_) (λ_ _ z=>z.elim)
    obtain⟨v,e,rfl,h',tk,x,y,rfl,t,u,j,l,h,f,g⟩:=hq
    exact⟨_,e,rfl,h',tk,T,x,y,rfl,t,u,j,Z,V,P,ac,l,h,f,λc o c1 _ c3 c4 q=>g c o c1 c3 c4 q⟩
  refine bM (eK L (λr s' q=>?_) (λ_ _ z=>z.elim))
  obtain⟨rfl,h',tk,C,x,y,rfl,t,u,j,t1,t2,t3,t4,l,h,f,g⟩:=q
  dsimp only
  have aa:h'.get? d=some {cls:= .type "list",data:= .seq (bs.map b5).toArray c}:=g d _ hdz hdTO hd1 hd2 W
  have ah:s.heap.objs.size≠d:=Ne.symm (K _ _ W)
  refine bM (gZ (s:={s with heap:=h',toks:=tk}) aa rfl ?_ (by simp;exact cx (Fh (by omega))) (by simp;have:=Fh (n:=bs.length) (by omega);omega))
  refine bO ⟨jf iF _,?_⟩
  have up:=gD (show IsL h' d (bs.map b5).toArray c from aa) (λB=>B.push (.ref s.heap.objs.size))
  have m:∀b,b≠d->(h'.update d (dr λB=>B.push (.ref s.heap.objs.size))).get? b=h'.get? b:=λb hb=>ea h' _ (Ne.symm hb)
  have ad:IsPair (h'.update d (dr λB=>B.push (.ref s.heap.objs.size))) TI (.ref i1) (.ref i2):=(m TI (Ne.symm hdTI)).trans (g TI _ ap.TIz ap.TITO ap.TIi1 ap.TIi2 p)
  obtain⟨X,oT,U,S⟩:=j
  obtain⟨c',ae⟩:∃c',(h'.update d (dr λB=>B.push (.ref s.heap.objs.size))).get? d=some {cls:= .type "list",data:= .seq ((bs++[s.heap.objs.size]).map b5).toArray c'}:=⟨_,up.trans (by rw[cb];simp only[List.push_toArray];rfl)⟩
  refine ih (i+1) {s with heap:=h'.update d (dr λB=>B.push (.ref s.heap.objs.size)),toks:=tk} C (bs++[s.heap.objs.size]) c' (by omega) (by omega) (.inr ⟨X,oT,(m z (Ne.symm hdz)).trans U,(m C t4).trans S⟩) t1 t2 t3 (.inr t4) ad (D1.frame _ _ _ l λc D o q=>(m c (λe=>hdf1 (e▸D))).trans q) (D2.frame _ _ _ h λc D o q=>(m c (λe=>hdf2 (e▸D))).trans q) ?_ (by rw[cr,N];rfl) ?_ hR
  ·exact ae
  ·exact hJ i bs s _ tk x y O t u ((m _ ah).trans f) λc o c1 c2 c3 c4 c5 q=>(m c c5).trans (g c o c1 c2 c3 c4 q)
theorem xE{prog:cg}{w:cC}{A:cO}{E:bQ->bS->Prop}{s:bS}{z TI TO i1 i2 l1 l2:bV}{t1 t2:Bool}{xs ys:Array bQ}{Q:bQ->bS->Prop}{J:Nat->List bV->bS->Prop}(hh:A.handled=none)
  (ap:ZipB z TI TO i1 i2 l1 l2)(hz:IsZip s.heap z TI TO .none)(hTI:IsPair s.heap TI (.ref i1) (.ref i2))(hTO:IsPair s.heap TO .none .none)(s1:Itx s.heap t1 i1 l1 0)(s2:Itx s.heap t2 i2 l2 0)(h1:Sqx s.heap t1 l1 xs)(h2:Sqx s.heap t2 l2 ys)(hsz:xs.size=ys.size)(hn:xs.size<=1000)
  (hJ:∀i bs (s':bS) (h':Heap) tk x y,J i bs s'->xs[i]?=some x->ys[i]?=some y->IsPair h' s'.heap.objs.size x y->(∀c o,c≠z->c≠TO->c≠i1->c≠i2->c≠s.heap.objs.size->s'.heap.get? c=some o->h'.get? c=some o)->J (i+1) (bs++[s'.heap.objs.size]) {s' with heap:=h',toks:=tk})
  (hE:∀bs (s':bS) (h':Heap),J xs.size bs s'->(∀c o,c≠z->c≠i1->s'.heap.get? c=some o->h'.get? c=some o)->J xs.size bs {s' with heap:=h'})
  (hJ0:∀(h':Heap) (tk:Nat),(∀c o,c≠s.heap.objs.size->s.heap.get? c=some o->h'.get? c=some o)->s.heap.objs.size<h'.objs.size->J 0 [] {s with heap:=h',toks:=tk})
  (hQ:∀(s':bS) (bs:List bV) (c:Nat),J xs.size bs s'->s'.heap.get? s.heap.objs.size=some {cls:= .type "list",data:= .seq (bs.map b5).toArray c}->bs.length=xs.size->Q (.ref s.heap.objs.size) s'):
  wpAny (model prog w) A (call (.type "list") [.ref z]) Q E s:=by
 refine callType_codes F.called_list (F.typeCall_list_1 _) F.entry_list_init (code_list_new (.ref z) (Q₁:=λv s1=>v = .ref s.heap.objs.size/\s1=_) ⟨rfl,rfl⟩) λM C a=>?_
 obtain⟨rfl,rfl⟩:=a
 have f:(s.heap.push {cls:=cX "list",data:=ie #[]}).get? s.heap.objs.size=some {cls:=cX "list",data:=ie #[]}:=b4 _ rfl
 have d:∀b o,s.heap.get? b=some o->b≠s.heap.objs.size:=λb o q=>cF (b6 q)
 have D:∀b o,s.heap.get? b=some o->(s.heap.push {cls:=cX "list",data:=ie #[]}).get? b=some o:=λb o q=>bU _ q
 refine⟨⟨_,f,rfl⟩,F.args_list_init_2 _ _,?_⟩
 unfold Builtin.«list.__init__»
 dsimp only
 refine b7 rfl (b7 (by simp) ?_)
 refine bM (wpAny_listItems f rfl ?_)
 refine bM (gZ f rfl ?_ (by simp) (by simp))
 have r:=gD (show IsL _ s.heap.objs.size #[] 0 from f) (λ_=> #[])
 generalize hh1:(s.heap.push {cls:=cX "list",data:=ie #[]}).update s.heap.objs.size (dr λ_=> #[])=g1 at r
 have j:∀b o,s.heap.get? b=some o->g1.get? b=some o:=λb o q=>by rw[<-hh1];exact(ea _ _ (Ne.symm (d b o q))).trans (D b o q)
 refine bM (j3 ?_)
 unfold fz
 refine bM (gQ (T:="zip") ⟨_,j _ _ hz,rfl⟩ ?_)
 refine b7 (by
  refine decide_eq_false ?_
  show ¬((s.heap.objs.size==z)||_||_)=true
  rw[beq_eq_false_iff_ne.mpr (Ne.symm (d _ _ hz))]
  decide) ?_
 refine bM (kJ (j _ _ hz) ?_)
 refine bM (cR ?_)
 unfold hU
 refine bM (fG (T:="zip") ⟨_,j _ _ hz,rfl⟩ Ap ?_)
 dsimp only
 refine b7 rfl (b7 rfl ?_)
 refine bM (fG (T:="zip") ⟨_,j _ _ hz,rfl⟩ yX ?_)
 refine bO ?_
 refine iq rfl (bM (io ?_))
 unfold k7
 refine bM (bM (gZ (s:={s with heap:=g1}) r rfl ?_ (by simp) (by simp)))
 have p:=gD r (λx=>x.push bQ.none)
 generalize hh2:g1.update s.heap.objs.size (dr λx=>x.push bQ.none)=g2 at p
 have H:∀b o,s.heap.get? b=some o->g2.get? b=some o:=λb o q=>by rw[<-hh2];exact(ea _ _ (Ne.symm (d b o q))).trans (j b o q)
 refine gZ (s:={s with heap:=g2}) p rfl ?_ (by show 1<=sizeLine;decide) (by simp)
 have t:=gD p (λx=>x.pop)
 generalize hh3:g2.update s.heap.objs.size (dr λx=>x.pop)=g3 at t
 have g:∀b o,s.heap.get? b=some o->g3.get? b=some o:=λb o q=>by rw[<-hh3];exact(ea _ _ (Ne.symm (d b o q))).trans (H b o q)
 refine bO ⟨jf iF _,?_⟩
 have B:∃o,s.heap.get? i1=some o:=by obtain⟨vs,n,e|⟨o,e,_⟩⟩:=s1.get <;> exact⟨_,e⟩
 have u:∃o,s.heap.get? i2=some o:=by obtain⟨vs,n,e|⟨o,e,_⟩⟩:=s2.get <;> exact⟨_,e⟩
 obtain⟨O,m⟩:=B
 obtain⟨N,l⟩:=u
 have k:∀b,b<s.heap.objs.size->s.heap.objs.size≠b:=λb h=>Ne.symm (cF h)
 have G:Draws prog w A.in1.in1.in1 i2 [i2,l2] xs.size (λi v=>ys[i]?=some v) (λi h=>Itx h t2 i2 l2 i/\Sqx h t2 l2 ys):=by
  rw[hsz]
  exact uq (A:=A.in1.in1.in1) hh t2 i2 l2 ap.l2j ys
 refine xh (A:=A.in1) (J:=J) (uq (A:=A.in1.in1.in1) hh t1 i1 l1 ap.l1i xs) G ap.a (Ne.symm (d _ _ hz)) (Ne.symm (d _ _ hTI)) (Ne.symm (d _ _ hTO)) (Ne.symm (d _ _ m)) (Ne.symm (d _ _ l)) (by simp[Ne.symm (d _ _ m),k _ h1.lt]) (by simp[Ne.symm (d _ _ l),k _ h2.lt]) hn hJ hE
  xs.size 0 {s with heap:=g3} (s.heap.objs.size+1) [] _ (by simp) (cM _) (.inl ⟨g _ _ hz,_,_,g _ _ hTO⟩) ?_ ?_ ?_ (.inl (g _ _ hz)) (g _ _ hTI) ⟨s1.keep λo q=>g _ _ q,h1.keep λo q=>g _ _ q⟩ ⟨s2.keep λo q=>g _ _ q,h2.keep λo q=>g _ _ q⟩ t rfl (hJ0 g3 s.toks (λc o _ q=>g c o q) (b6 t)) λs' bs c I K L=>⟨rfl,hQ s' bs c I K L⟩
 ·exact Ne.symm (cF (cS (b6 hz)))
 ·exact Ne.symm (cF (cS (b6 m)))
 ·exact Ne.symm (cF (cS (b6 l)))
structure ZJ(xs ys:Array bQ)(s1:bS)(d N:Nat)(z TO i1 i2:bV)(i:Nat)(bs:List bV)(s':bS):Prop where
 at':∀(j:Nat) (t:bV),bs[j]?=some t->∃x y,xs[j]?=some x/\ys[j]?=some y/\IsPair s'.heap t x y
 keep:∀b o,s1.heap.get? b=some o->s'.heap.get? b=some o
 ge:∀t∈bs,s1.heap.objs.size<=t
 ne:∀t∈bs,t≠z/\t≠TO/\t≠i1/\t≠i2/\t≠d
 nd:bs.Nodup
 sz:i<xs.size->N<s'.heap.objs.size
 gens:s'.gens=s1.gens
 drawn:s'.drawn=s1.drawn
 os:s'.os=s1.os
 len:bs.length=i
def IS(H:Hp)(d:bV)(bs:List bV)(xs ys:List V):Hp:=λa=>if a=d then some (.lst (bs.map V.ref))else
 if a∈bs then some (.tup [xs.getD (bs.idxOf a) .non,ys.getD (bs.idxOf a) .non])else H a
def Lm(K:bN)(ta:TA):TE:=λσ H Q=>ta σ H λvs H1=>∃(t1 t2:Bool) (a b:bV) (xs ys:List V),vs=[.ref a,.ref b]/\KL K H1 t1 a xs/\KL K H1 t2 b ys/\xs.length=ys.length/\xs.length<=1000/\
 ∀(l:bV) (ts:List bV) (H':Hp),Same H1 H'->H1 l=none->H' l=some (.lst (ts.map V.ref))->ts.length=xs.length->(∀(i:Nat) (t:bV) (x y:V),ts[i]?=some t->xs[i]?=some x->ys[i]?=some y->H' t=some (.tup [x,y]))->Q (.ref l) H'
theorem zK{X:Cx}{a b:Expr}{ta:TA}{p p2 pos pos2:Pos}(hc:X.calm=true)(h1:Gl X "list")(m1:X.mg "list"=none)(h2:Gl X "zip")(m2:X.mg "zip"=none)(ha:PA X [a,b] ta)
  (hs:cD [a,b] X.env=[(false,eval a X.env),(false,eval b X.env)]:=by rfl)(hs2:cD [b] X.env=[(false,eval b X.env)]:=by rfl):PE X (.Call (.Name "list" p) [.Call (.Name "zip" p2) [a,b] [] pos2] [] pos) (Lm X.K ta):=by
 intro ab s σ H Q I h
 refine d9 (t7 I h1 m1 Boot.list ?_)
 refine du ?_ rfl rfl
 show wpAny _ _ (spliced ((false,eval (.Call (.Name "zip" p2) [a,b] [] pos2) X.env)::[])) _ _ s
 refine eP ?_
 refine rk (t7 I h2 m2 lI (du (Fw (ha pos2 ab s σ H _ I h) λus z ⟨vs,F,O,r1,q1⟩=>?_) (by rw[hs,hs2]) (by rw[hs2];rfl)))
 obtain⟨t1,t2,l1,l2,C,E,e,hx,hy,aD,aF,q⟩:=q1
 subst e
 obtain⟨u,v,rfl,ru,rv⟩:=Kd r1
 cases ru
 cases rv
 obtain⟨D,ae,p1⟩:=O.sqx hx
 obtain⟨U,ai,p2⟩:=O.sqx hy
 have hA:X.A.handled=none:=O.ok.hd hc
 have ao:C.length=D.length:=ae.length
 have aE:E.length=U.length:=ai.length
 refine x9 p1 p2 λm hz aA ax aB aw M kk=>?_
 refine bO ?_
 refine xE (s:={z with heap:=m}) (J:=ZJ D.toArray U.toArray z m.objs.size m.objs.size (z.heap.objs.size+4) (z.heap.objs.size+3) z.heap.objs.size (z.heap.objs.size+1)) hA (zp p1.lt p2.lt) hz aA ax aB aw (p1.keep λo q=>kk _ _ q) (p2.keep λo q=>kk _ _ q) (by simp;omega) (by simp;omega)
  (λi f P h2 tk x y J px py ac r=>?_) (λf P h2 J r=>?_) (λh2 tk r az=>?_) (λP f c J hd aq=>?_)
 ·have av:∀t∈f,t<P.heap.objs.size:=λt d=>by
   obtain⟨j,g⟩:=lM.mp d
   obtain⟨_,_,_,_,e⟩:=J.at' j t g
   exact b6 e
  have ay:i<D.toArray.size:=(jP.mp px).1
  have B:=J.sz ay
  have am:P.heap.objs.size<h2.objs.size:=b6 ac
  have W:∀k,k<=5->P.heap.objs.size≠z.heap.objs.size+k:=λk hk=>gM (ec (by rw[M];exact Nat.add_le_add_left hk _) B)
  refine⟨λj t g=>?_,λb o e=>?_,λt d=>?_,λt d=>?_,?_,λ_=>qt B am,J.gens,J.drawn,J.os,by rw[cr,J.len];rfl⟩
  ·by_cases ad:j<f.length
   ·rw[gq ad]at g
    obtain⟨Y,Z,R,N,S⟩:=J.at' j t g
    have G:=J.ne t (cz g)
    exact⟨Y,Z,R,N,r t _ G.1 G.2.1 G.2.2.1 G.2.2.2.1 G.2.2.2.2 S⟩
   ·have aa:j=f.length:=by
     have:=(b8.mp g).1
     rw[cr,dB]at this
     omega
    rw[aa,d3 (bX _),gR]at g
    have e0:P.heap.objs.size=t:=Option.some.inj g
    rw[aa,J.len,<-e0]
    exact⟨x,y,px,py,ac⟩
  ·have hb:=b6 e
   have L:∀k,b≠z.heap.objs.size+k:=λk=>cF (ci hb (gc _ _))
   exact r b o (L 4) (L 3) (L 0) (L 1) (by show b≠m.objs.size;rw[M];exact L 5) (J.keep b o e)
  ·rcases cN.mp d with d|d
   ·exact J.ge t d
   ·rw[bY.mp d]
    exact cx (ec (by rw[M];exact gc _ _) B)
  ·rcases cN.mp d with d|d
   ·exact J.ne t d
   ·rw[bY.mp d]
    exact⟨W 4 (by decide),W 3 (by decide),W 0 (by decide),W 1 (by decide),gM B⟩
  ·refine fO.mpr ⟨J.nd,by simp,λa ha b hb e=>?_⟩
   rw[bY.mp hb]at e
   exact absurd e (cF (av a ha))
 ·refine⟨λj t g=>?_,λb o e=>?_,J.ge,J.ne,J.nd,λT=>absurd T (cJ _),J.gens,J.drawn,J.os,J.len⟩
  ·obtain⟨Y,Z,R,N,S⟩:=J.at' j t g
   have G:=J.ne t (cz g)
   exact⟨Y,Z,R,N,r t _ G.1 G.2.2.1 S⟩
  ·have hb:=b6 e
   have L:∀k,b≠z.heap.objs.size+k:=λk=>cF (ci hb (gc _ _))
   exact r b o (L 4) (L 0) (J.keep b o e)
 ·refine⟨λj t g=>by simp at g,λb o e=>r b o ?_ (kk b o e),(λt d=>nomatch d),(λt d=>nomatch d),.nil,(λ_=>az),rfl,rfl,rfl,rfl⟩
  show b≠m.objs.size
  rw[M]
  exact cF (ci (b6 e) (gc _ _))
 ·obtain⟨aj,g2,an,au,aC⟩:=P
  have R:g2=z.gens:=J.gens
  have N:an=z.drawn:=J.drawn
  have S:aC=z.os:=J.os
  subst R N S
  have ak:z.heap.objs.size<=m.objs.size:=by rw[M];exact gc _ _
  have ah:∀a,a<z.heap.objs.size->IS F m.objs.size f C E a=F a:=λa ha=>by
   unfold IS
   rw[if_neg (cF (ci ha ak)),if_neg (λT=>absurd (ci ha (J.ge a T)) (cJ _))]
  have trk:∀a o,F a=some o->IS F m.objs.size f C E a=some o:=λa o e=>by rw[ah a (O.hok.lt e)];exact e
  have al:f.length=D.length:=by rw[aq];simp
  have ar:m.objs.size∉f:=λT=>(J.ne _ T).2.2.2.2 rfl
  have tp:∀(i:Nat) (t:bV) (x y:V),f[i]?=some t->C[i]?=some x->E[i]?=some y->IS F m.objs.size f C E t=some (.tup [x,y]):=λi t x y d hx hy=>by
   have hm:=cz d
   have hi:i<f.length:=(b8.mp d).1
   have ei:f.idxOf t=i:=by
    have h3:=(b8.mp d).2
    rw[<-h3]
    exact J.nd.idxOf_getElem i hi
   unfold IS
   rw[if_neg (λ(T:t=m.objs.size)=>ar (by rw[<-T];exact hm)),if_pos hm,ei,bR,bR,hx,hy]
   rfl
  have vr:∀l:List bV,Vals (l.map V.ref) (l.map b5):=λl=>by
   induction l with
   | nil=>exact .nil
   | cons a l ih=>exact .cons rfl ih
  have ap:HOk X.prog X.w (IS F m.objs.size f C E) aj:=λa o e=>by
   by_cases c1:a=m.objs.size
   ·subst c1
    unfold IS at e
    rw[if_pos rfl]at e
    cases e
    exact⟨by rw[bP];exact cx (Fh (by omega)),_,c,vr f,hd⟩
   ·by_cases c2:a∈f
    ·obtain⟨j,g⟩:=lM.mp c2
     obtain⟨Y,Z,R,N,S⟩:=J.at' j a g
     have ad:j<f.length:=(b8.mp g).1
     have af:C[j]?=some C[j]:=bT (by omega)
     have ag:E[j]?=some E[j]:=bT (by omega)
     rw[tp j a _ _ g af ag]at e
     cases e
     obtain⟨u,hu,ru⟩:=ae.get af
     obtain⟨v,hv,rv⟩:=ai.get ag
     have eu:u=Y:=by
      have:D[j]?=some Y:=by simpa using R
      rw[hu]at this
      exact Option.some.inj this
     have ev:v=Z:=by
      have:U[j]?=some Z:=by simpa using N
      rw[hv]at this
      exact Option.some.inj this
     subst eu ev
     exact⟨by show 2<=sizeLine;decide,[u,v],.cons ru (.cons rv .nil),⟨_,S,rfl,_,rfl⟩⟩
    ·have e':F a=some o:=by
      unfold IS at e
      rw[if_neg c1,if_neg c2]at e
      exact e
     exact(O.hok a o e').stay (λb u _ q=>J.keep b u q) (λb q=>trk b _ q) λb C q=>trk b _ q
  have I2:Inv X ab σ (IS F m.objs.size f C E) {z with heap:=aj,toks:=au}:=O.un ⟨λb o e n _ _=>J.keep b o e,λb o e n _ _=>⟨o.slots,J.keep b o e⟩,λb o e n _=>by rw[ah b (b6 e)];exact n,λb o e _=>⟨o,J.keep b o e⟩,λb C e=>trk b _ e,λb o u e=>trk b _ e,λb ps e=>⟨#[],by rw[trk b _ e];simp⟩⟩ ap
  refine⟨.ref m.objs.size,_,I2,rfl,q m.objs.size f _ (λb o e=>trk b o e) (O.hok.fresh ak) ?_ (by rw[al,ao]) tp⟩
  unfold IS
  rw[if_pos rfl]
structure Wd(z:Str):Prop where
 lo:1<=z.length
 hi:z.length<=12
 cs:∀c∈z.cps.toList,97<=c/\c<=122
structure Roll(ws:List Str):Prop where
 lo:1<=ws.length
 hi:ws.length<=6
 wd:∀w∈ws,Wd w
 nd:ws.Nodup
def FM(z:Str):Prop:=∀c∈z.cps.toList,c<128
def FF(z:Str):Bool:=decide (1<=z.length/\z.length<=12)&&z.cps.toList.all λc=>decide (97<=c)&&decide (c<=122)
def F4(ws:List Str):Bool:=decide (1<=ws.length/\ws.length<=6)&&ws.all FF&&decide ws.Nodup
theorem wJ{z:Str}:FF z=true↔Wd z:=by
 unfold FF;rw[cH,decide_eq_true_iff,de];exact⟨λ⟨⟨a,b⟩,c⟩=>⟨a,b,λx d=>by simpa using c x d⟩,λw=>⟨⟨w.lo,w.hi⟩,λx d=>by have:=w.cs x d;simp[this]⟩⟩
theorem uA{ws:List Str}:F4 ws=true↔Roll ws:=by
 unfold F4;rw[cH,cH,decide_eq_true_iff,decide_eq_true_iff,de];exact⟨λ⟨⟨⟨a,b⟩,c⟩,d⟩=>⟨a,b,λx e=>wJ.mp (c x e),d⟩,λr=>⟨⟨⟨r.lo,r.hi⟩,λx e=>wJ.mpr (r.wd x e)⟩,r.nd⟩⟩
def JZ:Sp:=λvs H Q _=>∃z:Str,vs=[.str z]/\z.length<=1000/\FM z/\∀H',Same H H'->Q (.bl (FF z)) H'
def JB(K:bN):Sp:=λvs H Q _=>∃(a:bV) (ws:List Str),vs=[.ref a]/\SqL K H a (ws.map V.str)/\ws.length<=60/\(∀w∈ws,w.length<=1000/\FM w)/\∀H',Same H H'->Q (.bl (F4 ws)) H'
theorem wL{z:Str}(h:¬(1<=z.length/\z.length<=12)):FF z=false:=by
 unfold FF;rw[decide_eq_false h,iT]
theorem z7{z:Str}(h:1<=z.length/\z.length<=12):FF z=z.cps.toList.all λc=>decide (97<=c)&&decide (c<=122):=by
 unfold FF;rw[decide_eq_true h,pY]
theorem Al{ws:List Str}(h:¬(1<=ws.length/\ws.length<=6)):F4 ws=false:=by
 unfold F4;rw[decide_eq_false h,iT,iT]
theorem xS{ws:List Str}(h:ws.all FF=false):F4 ws=false:=by
 unfold F4;rw[h,jB,iT]
theorem z5{ws:List Str}(h1:1<=ws.length/\ws.length<=6)(h:ws.all FF=true):F4 ws=decide (V.int (Gh ws ws.length:Nat)=V.int (ws.length:Nat)):=by
 unfold F4;rw[h,decide_eq_true h1,Bool.and_true,pY,decide_eq_decide];constructor
 ·intro r;rw[wO r _ (bX _)]
 ·intro e;have a:Gh ws ws.length=ws.length:=by injection e with e1;omega
  refine da λz=>?_;have:=BZ (ws:=ws) (i:=ws.length) (bX _) (by rw[cI];exact z);omega
theorem uk(t:Str):∀G:List Str,Jv (.str t) (G.map V.str)=decide (t∈G)
 | []=>by simp[Jv]
 | x::G=>by
  have a:=uk t G
  unfold Jv at a ⊢
  rw[dh,gz,a]
  by_cases h1:x=t
  ·subst h1
   simp[K4]
  ·have:K4 (.str x) (.str t)=false:=beq_eq_false_iff_ne.mpr h1
   simp[K4,h1,Ne.symm h1]
theorem ur(G:List Str):(G.map V.str).all GS=true:=by
 rw[de];intro v a;obtain⟨i,_,rfl⟩:=cP.mp a;rfl
theorem Reps.strs{K:bN}{H:Hp}:∀ns:List Str,Reps K H (ns.map V.str) (ns.map d4)
 | []=> .nil
 | n::ns=> .cons (.str n) (Reps.strs ns)
theorem wm:∀a b:List Str,f9 (a.map d4) (b.map d4)=decide (a=b)
 | [],[]=>by simp[f9]
 | [],_::_=>by simp[f9]
 | _::_,[]=>by simp[f9]
 | x::a,y::b=>by
  simp only[dh,f9,eh,wm a b]
  by_cases h1:x=y <;> by_cases h2:a=b <;> simp[h1,h2]
theorem sF(a b:List Str):eh (.list (a.map d4)) (.list (b.map d4))=decide (a=b):=by
 rw[eh,wm]
theorem Dt{x:Str}(h:FM x)(n:Nat):GQ n (.str x)=true:=by
 have h2:eg (.str x)=true:=by
  unfold eg il;simp[iy,PyData.strOk];intro i a;have:=h x.cps[i] (by simp);omega
 cases n <;> simpa [GQ]using h2
theorem tI{l:List Str}(h:∀w∈l,FM w):GQ 1 (.list (l.map d4))=true:=by
 show(l.map d4).all (GQ 0)=true;rw[de];intro d b;obtain⟨i,a,rfl⟩:=cP.mp b;exact Dt (h i a) 0
theorem xM{t y:Str}(h:FM t):∀w∈Txt.split t y,FM w:=λw b c a=>h c (by
 rw[<-mW t y];exact(mem_join y c _).mpr (.inl ⟨w,b,a⟩))
structure BookAt(C:bV)(H:Hp)(x d:bV)(ps ts:List Str)(R:List (Str×V)):Prop where
 ex:∃(dx pp pt:bV) (op ot:Obj),H x=some (.ins C dx [("people",.ref pp),("things",.ref pt),("wishes_told",.ref d)])/\H pp=some (.frz op (.tup (ps.map V.str)))/\op.dict=none/\
  H pt=some (.frz ot (.tup (ts.map V.str)))/\ot.dict=none/\H d=some (.dK (wK R))
theorem BookAt.mono{C:bV}{H H':Hp}{x d:bV}{ps ts:List Str}{R:List (Str×V)}(e:Same H H')(h:BookAt C H x d ps ts R):BookAt C H' x d ps ts R:=by
 obtain⟨a,c,f,g,b,h1,h2,h3,h4,h5,h6⟩:=h.ex;exact⟨a,c,f,g,b,e _ _ h1,e _ _ h2,h3,e _ _ h4,h5,e _ _ h6⟩
def SameBut1(x:bV)(H H':Hp):Prop:=∀b o,b≠x->H b=some o->H' b=some o
theorem SqL.overI{K:bN}{H:Hp}{a p C dx:bV}{fs:List (Str×V)}{o:HO}{xs:List V}(h:SqL K H a xs)(hp:H p=some (.ins C dx fs)):SqL K (upd H p o) a xs:=by
 rcases h with(h|⟨u,h⟩)|h
 ·exact .inl (.inl (by rw[rR (λz=>by rw[z,hp]at h;cases h)];exact h))
 ·exact .inl (.inr ⟨u,by rw[rR (λz=>by rw[z,hp]at h;cases h)];exact h⟩)
 ·exact .inr h
theorem J0{c A B:Prop}[Decidable c](hc:¬c)(h:A):if(!decide c)=true then A else B:=by
 rw[decide_eq_false hc];exact FH h
theorem SameBut1.of{x:bV}{H H':Hp}(h:Same H H'):SameBut1 x H H':=λb o _ e=>h b o e
theorem SameBut1.trans{x:bV}{H H1 H2:Hp}(h:SameBut1 x H H1)(h':SameBut1 x H1 H2):SameBut1 x H H2:=λb o a e=>h' b o a (h b o a e)
theorem SameBut1.upd{x:bV}{H:Hp}{o:HO}:SameBut1 x H (upd H x o):=λb u a e=>by rw[rR a];exact e
def Kp(K:bN)(C:bV)(x:Xs):Sp:=λvs H Q E=>∃(s a b dx:bV) (ps ts:List Str),vs=[.ref s,.ref a,.ref b]/\H s=some (.ins C dx [])/\SqL K H a (ps.map V.str)/\SqL K H b (ts.map V.str)/\ps.length<=60/\ts.length<=60/\
 (∀w∈ps,w.length<=1000/\FM w)/\(∀w∈ts,w.length<=1000/\FM w)/\(¬(Roll ps/\Roll ts/\ps.length=ts.length)->∀H',Same H H'->E (.ref x.NoRoll) none H')/\
 (Roll ps->Roll ts->ps.length=ts.length->∀d H',SameBut1 s H H'->H d=none->BookAt C H' s d ps ts []->Q .non H')
def Ji(C:bV)(x:Xs):Sp:=λvs H Q E=>∃(s d:bV) (ps ts:List Str) (R:List (Str×V)) (p:Str),vs=[.ref s,.str p]/\BookAt C H s d ps ts R/\(p∉ps->E (.ref x.NoPerson) none H)/\(p∈ps->Q .non H)
def HN(C:bV):Sp:=λvs H Q _=>∃(s d:bV) (ps ts:List Str) (R:List (Str×V)),vs=[.ref s]/\BookAt C H s d ps ts R/\ps.length<=60/\
 ∀l H',Same H H'->H l=none->H' l=some (.lst ((ps.filter λp=>!(Fu R p).isSome).map V.str))->Q (.ref l) H'
def wordsOf(t:Str):List Str:=Txt.split t " "
def Hg(ts ws:List Str):List Int:=ws.map λw=>(ts.idxOf w:Int)
def Le(K:bN)(C:bV)(x:Xs):Sp:=λvs H Q E=>∃(s d:bV) (ps ts:List Str) (R:List (Str×V)) (p t:Str),vs=[.ref s,.str p,.str t]/\BookAt C H s d ps ts R/\ts.length<=60/\(∀w∈ts,FM w)/\t.length<=500/\FM t/\(wordsOf t).length<64/\R.length<1000/\
 (p∉ps->∀H',Same H H'->E (.ref x.NoPerson) none H')/\(p∈ps->¬(wordsOf t).Perm ts->∀H',Same H H'->E (.ref x.NoWishes) none H')/\
 (p∈ps->(wordsOf t).Perm ts->∀r H',SameBut1 d H H'->H r=none->H' r=some (.tup ((Hg ts (wordsOf t)).map V.int))->BookAt C H' s d ps ts (IL R p (.ref r))->Q .non H')
def TabBy(n:Nat)(W:List (List Int))(way:Str)(Z:List (List Int))(T:Int):Prop:=
 (way="eaten"/\∃N,EM.Stops W n N/\Z=FO W n N/\T=(EM.st W n N).D)\/(way="turns"/\Z=Ii n (GM n W)/\T=TM.fct n)
theorem TabBy.tb{n:Nat}{W:List (List Int)}{way:Str}{Z:List (List Int)}{T:Int}(hw:GA n W)(h:TabBy n W way Z T):K2 n T Z:=by
 rcases h with⟨_,N,a,rfl,rfl⟩|⟨_,rfl,rfl⟩
 ·exact Ew ⟨hw.lo,hw.hi,hw.len,hw.pm⟩ a
 ·exact Eb hw
def JQ(K:bN)(H:Hp)(R:List (Str×V))(ps:List Str)(W:List (List Int)):Prop:=cT (λp row=>∃v,Fu R p=some v/\IsR K H v row) ps W
def HL(K:bN)(C:bV)(x:Xs):Sp:=λvs H Q E=>∃(s d:bV) (ps ts:List Str) (R:List (Str×V)) (way:Str),vs=[.ref s,.str way]/\BookAt C H s d ps ts R/\ps.length<=60/\
 ((∃p∈ps,Fu R p=none)->∀H',Same H H'->E (.ref x.Unready) none H')/\
 ((∀p∈ps,Fu R p≠none)->∃W,JQ K H R ps W/\GA ps.length W/\(way≠"eaten"->way≠"turns"->∀H',Same H H'->E (.ref x.NoWay) none H')/\
  ∀Z T q us H',TabBy ps.length W way Z T->Same H H'->H q=none->H' q=some (.lst us)->cT (RwFT K H' T) us Z->Q (.ref q) H')
theorem xz{R:List (Str×V)}{ps:List Str}:(ps.filter λp=>!(Fu R p).isSome)=[]↔∀p∈ps,Fu R p≠none:=by
 rw[List.filter_eq_nil_iff];refine forall_congr' λp=>forall_congr' λ_=>?_
 cases Fu R p <;> simp
def HH(ts:List Str)(row z:List Int):List (Str×Int):=(row.filter λt=>decide (EM.at0 z t≠0)).map λt=>(ts.getD t.toNat fq,EM.at0 z t)
def IsShr(K:bN)(H:Hp)(T:Int)(v:V)(x:Str×Int):Prop:=∃a g,v = .ref a/\SqT K H a [.str x.1,.ref g]/\IsF K H (.ref g) (FQ.red x.2 T)
theorem IsShr.mono{K:bN}{H H':Hp}{T:Int}{v:V}{x:Str×Int}(e:Same H H')(h:IsShr K H T v x):IsShr K H' T v x:=by
 obtain⟨a,g,rfl,h1,h2⟩:=h;exact⟨a,g,rfl,e.tup h1,h2.mono e⟩
def IH(K:bN)(C:bV)(x:Xs):Sp:=λvs H Q E=>∃(s d:bV) (ps ts:List Str) (R:List (Str×V)) (p way:Str),vs=[.ref s,.str p,.str way]/\BookAt C H s d ps ts R/\ps.length<=60/\ts.length=ps.length/\
 (p∉ps->∀H',Same H H'->E (.ref x.NoPerson) none H')/\(p∈ps->(∃p∈ps,Fu R p=none)->∀H',Same H H'->E (.ref x.Unready) none H')/\
 (p∈ps->(∀p∈ps,Fu R p≠none)->∃W,JQ K H R ps W/\GA ps.length W/\(way≠"eaten"->way≠"turns"->∀H',Same H H'->E (.ref x.NoWay) none H')/\
  ∀Z T l xs H',TabBy ps.length W way Z T->Same H H'->H l=none->H' l=some (.lst xs)->cT (IsShr K H' T) xs (HH ts (W.getD (ps.idxOf p) []) (Z.getD (ps.idxOf p) []))->Q (.ref l) H')
theorem cw_lots(Z:List (List Int))(T:Int)(k:Nat):∀i,i<=k->cw (HM.lotsL Z T k) i=HM.sm i λj=>(HM.lotAt Z T j).1
 | 0,_=>rfl
 | i+1,hi=>by
  have e:(HM.lotsL Z T k)[i]?=some (HM.lotAt Z T i):=by
   unfold HM.lotsL
   rw[bZ,dy (show i<k by omega)]
   rfl
  rw[cw_succ e,cw_lots Z T k i (by omega)]
  rfl
theorem TabBy.le{n:Nat}{W:List (List Int)}{way:Str}{Z:List (List Int)}{T:Int}(hw:GA n W)(h:TabBy n W way Z T):T<=262144:=by
 rcases h with⟨_,N,b,rfl,rfl⟩|⟨_,rfl,rfl⟩
 ·have a:EM.Ws n W:=⟨hw.lo,hw.hi,hw.len,hw.pm⟩;exact EM.D_le (EM.st_ok a N b.up).1 a.n6
 ·have h:=zg hw.hi;omega
theorem Dy{n k:Nat}{T:Int}{Z:List (List Int)}(tb:K2 n T Z)(hT:T<=262144)(hf:HM.Fin Z T k):LotsOk n (HM.lotsL Z T k) T:=by
 have I:=HM.it_ok tb.reg tb.t0 tb.lo k hf.2;have b:(HM.lotsL Z T k).length=k:=by unfold HM.lotsL;rw[bP,eI]
 have c:∀l∈HM.lotsL Z T k,∃j,j<k/\l=HM.lotAt Z T j:=λl h=>by
  unfold HM.lotsL at h;obtain⟨j,a,rfl⟩:=cP.mp h;exact⟨j,dq.mp a,rfl⟩
 refine⟨?_,λl h=>?_,λl h=>?_,?_,?_,λl h=>?_⟩
 ·rw[b,cw_lots Z T k k (bX _),I.wts,hf.1];omega
 ·obtain⟨j,a,rfl⟩:=c l h;exact(I.lots j a).w1
 ·obtain⟨j,a,rfl⟩:=c l h;have h1:=(I.lots j a).wR;have h2:=(HM.it_ok tb.reg tb.t0 tb.lo j λi d=>hf.2 i (by omega)).rT;show HM.wOf (HM.it Z T j).1<=_;omega
 ·rw[b]
  cases k with
  | zero=>
   have:T=0:=hf.1;have:=tb.t0;omega
  | succ k=>omega
 ·rw[b];have h1:=I.last hf.1;have h2:=HM.pn_le tb.hi Z;omega
 ·obtain⟨j,a,rfl⟩:=c l h;exact(I.lots j a).pm.len
def Oc(K:bN)(H:Hp)(v:V)(x:Str×Str):Prop:=∃a,v = .ref a/\SqT K H a [.str x.1,.str x.2]
def Fz(ts:List Str)(d:List Int):List Str:=d.map λt=>ts.getD t.toNat fq
def JN(K:bN)(C:bV)(x:Xs):Sp:=λvs H Q E=>∃(s d m:bV) (ps ts:List Str) (R:List (Str×V)) (way:Str) (num:Int×Int),vs=[.ref s,.str way,.ref m]/\BookAt C H s d ps ts R/\ps.length<=60/\ts.length=ps.length/\IsF K H (.ref m) num/\Sz 2000 num/\0<num.2/\
 ((∃p∈ps,Fu R p=none)->∀H',Same H H'->E (.ref x.Unready) none H')/\
 ((∀p∈ps,Fu R p≠none)->∃W,JQ K H R ps W/\GA ps.length W/\(way≠"eaten"->way≠"turns"->∀H',Same H H'->E (.ref x.NoWay) none H')/\
  (way="eaten"\/way="turns"->Gn num->∀H',Same H H'->E (.ref x.NoPick) none H')/\
  (¬Gn num->∀Z T k i l xs H',TabBy ps.length W way Z T->HM.Fin Z T k->Mc (HM.lotsL Z T k) T num i->Same H H'->H l=none->H' l=some (.lst xs)->cT (Oc K H') xs (ps.zip (Fz ts ((HM.lotsL Z T k).getD i (0,[])).2))->Q (.ref l) H'))
theorem TabBy.way{n:Nat}{W:List (List Int)}{way:Str}{Z:List (List Int)}{T:Int}(h:TabBy n W way Z T):way="eaten"\/way="turns":=by
 rcases h with⟨h,_⟩|⟨h,_⟩
 ·exact .inl h
 ·exact .inr h
def Ltr(z:Str):Prop:=∀c∈z.cps.toList,97<=c/\c<=122
def Lx:Str:="abcdefghijklmnopqrstuvwxyz"
theorem Ec:Lx.cps.toList=(cp 26).map λi=>97+i:=by decide +kernel
theorem Dq{i:Int}(h0:0<=i)(h1:i<26):HQ Lx.cps.toList i=some (97+i.toNat):=by
 refine tL h0 ?_;rw[Ec,bZ,dy (by omega)];rfl
theorem sK(a b:Str):(a++b).cps.toList=a.cps.toList++b.cps.toList:=by
 show(a.cps++b.cps).toList=_;simp
theorem tj(a:Str):a.length=a.cps.toList.length:=by simp[jA]
theorem sI(a b:Str):(a++b).length=a.length+b.length:=by rw[tj,tj,tj,sK,cr]
theorem Ltr.app{a b:Str}(h1:Ltr a)(h2:Ltr b):Ltr (a++b):=λc d=>by
 rw[sK]at d;rcases cN.mp d with h|h
 ·exact h1 c h
 ·exact h2 c h
theorem Ltr.one{n:Nat}(h:n<26):Ltr ⟨#[97+n]⟩:=λc a=>by
 have:c=97+n:=by simpa using a
 omega
def LD:Sp:=λvs H Q _=>∃(c:Int) (n:Nat),vs=[.int c,.int n]/\n<=60/\∀z:Str,z.length=n->Ltr z->Q (.str z) H
theorem Cc{i:Nat}(h:i<26):qM Lx ⟨#[97+i]⟩=(i:Int):=by
 have:∀i,i<26->qM Lx ⟨#[97+i]⟩=(i:Int):=by decide +kernel
 exact this i h
def F5(b:List Nat)(p sz k:Nat):List Nat:=b.take p++([97+(b.getD p 97-97+3*k)%26]++(b.drop (p+1)).take (sz-(p+1)))
def JE:Sp:=λvs H Q _=>∃(b:Str) (p sz k:Nat),vs=[.str b,.int p,.int sz,.int k]/\b.length=12/\Ltr b/\p<sz/\sz<=12/\k<=60/\Q (.str ⟨(F5 b.cps.toList p sz k).toArray⟩) H
theorem vF{b:Str}{p:Nat}(h:p<=b.cps.toList.length):gb b none (some (p:Int))=⟨(b.cps.toList.take p).toArray⟩:=by
 rw[eq_of_beq (slice_closes_to (x:=b) (j:=(p:Int)) ⟨by omega,by omega⟩)];rw[show((p:Int)-0).toNat=p by omega,show rA 0=0 from rfl,o0]
theorem Av{b:Str}{i j:Nat}(h1:i<=j)(h2:j<=b.cps.toList.length):gb b (some (i:Int)) (some (j:Int))=⟨((b.cps.toList.drop i).take (j-i)).toArray⟩:=by
 rw[eq_of_beq (slice_closes (x:=b) (i:=(i:Int)) (j:=(j:Int)) ⟨by omega,by omega,by omega⟩)];rw[show((j:Int)-(i:Int)).toNat=j-i by omega,show(i:Int).toNat=i by omega]
theorem ug(l:List Nat):(⟨l.toArray⟩:Str).length=l.length:=by rw[tj]
theorem yC{b:List Nat}{p sz k:Nat}(hb:b.length=12)(hp:p<sz)(hs:sz<=12):(F5 b p sz k).length=sz:=by
 unfold F5;rw[cr,cr,cf,cf,dP,dB,hb];omega
theorem Cw{b:List Nat}{p sz k:Nat}(hb:b.length=12)(hp:p<12):(F5 b p sz k)[p]?=some (97+(b.getD p 97-97+3*k)%26):=by
 unfold F5;have a:(b.take p).length=p:=by rw[cf,hb];omega
 rw[d3 (by omega),a,gR];rfl
theorem AU{b:List Nat}{p sz k k':Nat}(hb:b.length=12)(hp:p<12)(hk:k<6)(hk':k'<6)(h:F5 b p sz k=F5 b p sz k'):k=k':=by
 have e:=congrArg (λl:List Nat=>l[p]?) h;simp only[Cw hb hp]at e;have:=Option.some.inj e;omega
theorem B8{b:List Nat}{p sz k:Nat}(hb:∀c∈b,97<=c/\c<=122):∀c∈F5 b p sz k,97<=c/\c<=122:=λc a=>by
 unfold F5 at a;rcases cN.mp a with h|h
 ·exact hb c (dO h)
 ·rcases cN.mp h with h|h
  ·rw[bY.mp h];omega
  ·exact hb c (fN (dO h))
theorem Bz{n:Nat}(h1:1<=n)(h6:n<=6){f:Nat->Str}(hw:∀k,k<n->Wd (f k))(hi:∀k k',k<n->k'<n->f k=f k'->k=k'):Roll ((cp n).map f):=by
 refine⟨by simpa using h1,by simpa using h6,λw h=>?_,?_⟩
 ·obtain⟨k,hk,rfl⟩:=cP.mp h;exact hw k (dq.mp hk)
 ·refine iW.mpr (pZ (λ {i j} b a c e=>c ?_) n7);exact hi i j (dq.mp b) (dq.mp a) e
theorem yP{b:Str}{p sz n:Nat}(hb:b.length=12)(hl:Ltr b)(hp:p<sz)(hs:sz<=12)(h1:1<=n)(h6:n<=6):Roll ((cp n).map λk=>(⟨(F5 b.cps.toList p sz k).toArray⟩:Str)):=by
 have a:b.cps.toList.length=12:=by rw[<-tj];exact hb
 refine Bz h1 h6 (λk _=>⟨?_,?_,λc d=>B8 hl c (by simpa using d)⟩) λk g hk f e=>?_
 ·rw[ug,yC a hp hs];omega
 ·rw[ug,yC a hp hs];exact hs
 ·refine AU (sz:=sz) a (show p<12 by omega) (by omega) (by omega) ?_;have:=congrArg (λz:Str=>z.cps.toList) e;simpa using this
theorem Ah{b:Str}{n:Nat}(hb:b.length=12)(hl:Ltr b)(h1:1<=n)(h6:n<=6):Roll ((cp n).map λk=>(⟨(b.cps.toList.take (k+1)).toArray⟩:Str)):=by
 have a:b.cps.toList.length=12:=by rw[<-tj];exact hb
 refine Bz h1 h6 (λk hk=>⟨?_,?_,λc d=>hl c (dO (by simpa using d))⟩) λk g hk f e=>?_
 ·rw[ug,cf,a];omega
 ·rw[ug,cf,a];omega
 ·have:=congrArg jA e;simp only[ug,cf,a]at this;omega
def IW(K:bN):Sp:=λvs H Q _=>∃(a:bV) (ns:List Int) (at' n:Nat),vs=[.ref a,.int at',.int n]/\SqL K H a (ns.map V.int)/\1<=n/\n<=6/\∀p ws H',Same H H'->H p=none->H' p=some (.lst (ws.map V.str))->Roll ws->ws.length=n->Q (.ref p) H'
def MK(x:Xs)(C:bV)(nm:Str):Prop:=(C=x.NoWishes/\nm="NoWishes")\/(C=x.NoPick/\nm="NoPick")\/(C=x.NoRoll/\nm="NoRoll")\/(C=x.NoPerson/\nm="NoPerson")\/(C=x.Unready/\nm="Unready")\/(C=x.NoWay/\nm="NoWay")
def HJ(x:Xs):Sp:=λvs H Q _=>∃(a C:bV) (nm:Str),vs=[.ref a]/\H a=some (Kv C a)/\MK x C nm/\∀p H',Same H H'->H p=none->H' p=some (.lst [.str nm])->Q (.ref p) H'
theorem Af{b:Str}{p sz n:Nat}{c:Prop}[Decidable c](hb:b.length=12)(hl:Ltr b)(hp:p<sz)(hs:sz<=12)(h1:1<=n)(h6:n<=6):Roll ((cp n).map λk=>if c then(⟨(b.cps.toList.take (k+1)).toArray⟩:Str)else⟨(F5 b.cps.toList p sz k).toArray⟩):=by
 by_cases h:c
 ·simp only[if_pos h];exact Ah hb hl h1 h6
 ·simp only[if_neg h];exact yP hb hl hp hs h1 h6
theorem Ltr.asc{z:Str}(h:Ltr z):FM z:=λc a=>by have:=h c a;omega
theorem Wd.asc{z:Str}(h:Wd z):FM z:=λc a=>by have:=h.cs c a;omega
def Go(ws us:List Str):Prop:=us.length<=60/\(∀w∈us,w.length<=1000/\FM w)/\¬(Roll us/\us.length=ws.length)
def Jc:Sp:=λvs H Q _=>∃(a:bV) (ws:List Str) (c:Int),vs=[.ref a,.int c]/\H a=some (.lst (ws.map V.str))/\Roll ws/\∀p us H',Same H H'->H' p=some (.lst (us.map V.str))->Go ws us->Q (.ref p) H'
theorem Roll.okw{ws:List Str}(h:Roll ws):∀w∈ws,w.length<=1000/\FM w:=λw a=>⟨by have:=(h.wd w a).hi;omega,(h.wd w a).asc⟩
theorem Ej{ws:List Str}:Go ws []:=⟨by decide,(λw h=>nomatch h),λh=>by have:=h.1.lo;simp at this⟩
theorem uI{z:Str}(h:(z.cps.toList.all λc=>decide (c<128))=true):FM z:=λc a=>by simpa using de.mp h c a
def LA:List Str:=["a","b","c","d","e","f","g"]
theorem Br{ws:List Str}:Go ws LA:=by
 refine⟨by decide,λw h=>?_,λh=>by have:=h.1.hi;revert this;decide⟩;have e:(LA.all λw=>decide (w.length<=1000)&&w.cps.toList.all λc=>decide (c<128))=true:=by decide +kernel
 have:=de.mp e w h;rw[cH,decide_eq_true_iff]at this;exact⟨this.1,uI this.2⟩
theorem C4{ws:List Str}(h:Roll ws):Go ws (ws.drop 1):=by
 have h1:=h.lo;have h6:=h.hi;refine⟨by rw[dP];omega,λw a=>h.okw w (fN a),λz=>?_⟩;have:=z.2;rw[dP]at this;omega
theorem CS{ws:List Str}{o:Str}(h:Roll ws)(ho:o.length<=1000/\FM o):Go ws (ws++[o]):=by
 have h6:=h.hi;refine⟨by rw[cr,dB];omega,λw a=>?_,λz=>?_⟩
 ·rcases cN.mp a with h1|h1
  ·exact h.okw w h1
  ·rw[bY.mp h1];exact ho
 ·have:=z.2;rw[cr,dB]at this;omega
theorem AY{ws:List Str}{o:Str}{k:Nat}(h:Roll ws)(ho:o.length<=1000/\FM o)(hb:¬Roll (ws.take k++[o]++ws.drop (k+1))):Go ws (ws.take k++[o]++ws.drop (k+1)):=by
 have h6:=h.hi;refine⟨?_,λw a=>?_,λz=>hb z.1⟩
 ·rw[cr,cr,cf,dP,dB];omega
 ·rcases cN.mp a with h1|h1
  ·rcases cN.mp h1 with h1|h1
   ·exact h.okw w (dO h1)
   ·rw[bY.mp h1];exact ho
  ·exact h.okw w (fN h1)
theorem xp{ws:List Str}{o:Str}{k:Nat}(h:Roll ws)(ho:o.length<=1000/\FM o)(hw:¬Wd o):Go ws (ws.take k++[o]++ws.drop (k+1)):=
 AY h ho λz=>hw (z.wd o (gu _ (dc _ (bY.mpr rfl))))
theorem By{ws:List Str}{v:Str}{k j:Nat}(h:Roll ws)(hk:k<ws.length)(hj:ws[j]?=some v)(hne:j≠k):Go ws (ws.take k++[v]++ws.drop (k+1)):=by
 refine AY h (h.okw v (cz hj)) λz=>?_;have e:ws.take k++[v]++ws.drop (k+1)=ws.set k v:=by
  rw[List.set_eq_take_append_cons_drop,if_pos hk,nD];rfl
 rw[e]at z;have g:=z.nd;have a:j<ws.length:=(b8.mp hj).1;have d:(ws.set k v)[j]'(by rw[fT];exact a)=v:=by
  rw[List.getElem_set_ne (Ne.symm hne)];exact(b8.mp hj).2
 have b:(ws.set k v)[k]'(by rw[fT];exact hk)=v:=List.getElem_set_self ..;have f:=jU.mp g;rcases Nat.lt_or_gt_of_ne hne with c|c
 ·exact f j k (by rw[fT];exact a) (by rw[fT];exact hk) c (by rw[d,b])
 ·exact f k j (by rw[fT];exact hk) (by rw[fT];exact a) c (by rw[d,b])
theorem zE(c:Array Nat)(x:Nat):∀(k:Nat) (acc:Array Nat),x∈((fB k c).foldl (· ++ ·) acc).toList->x∈acc.toList\/x∈c.toList
 | 0,acc,h=> .inl h
 | k+1,acc,h=>by
  rw[mf,List.foldl_cons]at h
  rcases zE c x k _ h with h1|h1
  ·rw[Array.toList_append]at h1
   exact cN.mp h1
  ·exact .inr h1
theorem En{z:Str}{n:Int}(h:FM z):FM (i6 z n):=λc a=>by
 unfold i6 at a;split at a
 ·exact nomatch (show c∈([]:List Nat)from a)
 ·split at a
  ·exact h c a
  ·rcases zE z.cps c _ _ a with h1|h1
   ·exact nomatch h1
   ·exact h c h1
theorem Bc{z:Str}(h:Wd z):(gb (i6 z 13) none (some 13)).length=13/\FM (gb (i6 z 13) none (some 13)):=by
 have f:((i6 z 13).length:Int)=(z.length:Int)*13:=by rw[len_mul];rfl
 have h1:=h.lo;have e:=vF (b:=i6 z 13) (p:=13) (by rw[<-tj];omega);have a:gb (i6 z 13) none (some 13)=⟨((i6 z 13).cps.toList.take 13).toArray⟩:=e;rw[a];refine⟨?_,λc d=>En h.asc c (dO (by simpa using d))⟩;rw[ug,cf,<-tj];omega
def FN:Str:=" !\"#$&'()*+,-./0123456789:;<=>?@ABCDEFGHIJKLMNOPQRSTUVWXYZ[\\]^_`{|}~"
theorem BC:∀c∈FN.cps.toList,c<128/\¬(97<=c/\c<=122):=by
 have e:(FN.cps.toList.all λc=>decide (c<128) && !(decide (97<=c)&&decide (c<=122)))=true:=by decide +kernel
 intro c a;have:=de.mp e c a;simp at this;omega
theorem uZ:FN.length=68:=by decide +kernel
theorem An{b:Str}{i:Nat}(h:i<=b.cps.toList.length):gb b (some (i:Int)) none=⟨(b.cps.toList.drop i).toArray⟩:=by
 rw[slice_from_eq (by omega) (by rw[tj];omega) (rfl:((b.length:Nat):Int)=_)];refine wq ?_;show List.take _ _=List.drop _ _;rw[show(i:Int).toNat=i by omega,dz (by rw[dP,tj];omega)]
theorem CN{z:Str}{p s:Nat}(h:Wd z)(hs:s∈FN.cps.toList):((⟨(z.cps.toList.take p).toArray⟩++⟨#[s]⟩++⟨(z.cps.toList.drop (p+1)).toArray⟩:Str)).length<=1000/\FM (⟨(z.cps.toList.take p).toArray⟩++⟨#[s]⟩++⟨(z.cps.toList.drop (p+1)).toArray⟩:Str)/\¬Wd (⟨(z.cps.toList.take p).toArray⟩++⟨#[s]⟩++⟨(z.cps.toList.drop (p+1)).toArray⟩:Str):=by
 have d:=h.hi;rw[tj]at d;have e:(⟨(z.cps.toList.take p).toArray⟩++⟨#[s]⟩++⟨(z.cps.toList.drop (p+1)).toArray⟩:Str).cps.toList=z.cps.toList.take p++[s]++z.cps.toList.drop (p+1):=by
  rw[sK,sK]
 have b:=BC s hs;refine⟨?_,λc a=>?_,λw=>?_⟩
 ·rw[tj,e,cr,cr,cf,dP,dB];omega
 ·rw[e]at a;rcases cN.mp a with h1|h1
  ·rcases cN.mp h1 with h1|h1
   ·exact h.asc c (dO h1)
   ·rw[bY.mp h1];exact b.1
  ·exact h.asc c (fN h1)
 ·exact b.2 (w.cs s (by rw[e];exact gu _ (dc _ (bY.mpr rfl))))
theorem Bl:¬Wd "":=λw=>by have:=w.lo;revert this;decide
theorem zw{α:Type}{xs:List α}{k:Nat}{v:α}(hk:k<xs.length)(h:xs[if k=0 then xs.length-1 else k-1]?=some v):HQ xs ((k:Int)-1)=some v:=by
 unfold HQ K5;by_cases h0:k=0
 ·subst h0;rw[if_neg (by omega),if_pos (by omega)];rw[if_pos rfl]at h;show xs[_]?=_;rw[show(((0:Nat):Int)-1+xs.length).toNat=xs.length-1 by omega];exact h
 ·rw[if_neg h0]at h;rw[if_pos (by omega),if_pos (by omega)];show xs[_]?=_;rw[show((k:Int)-1).toNat=k-1 by omega];exact h
theorem A3{ws:List Str}{k:Nat}(h:k<=ws.length):Gz (ws.map V.str) none (some (k:Int))=(ws.take k).map V.str:=by
 rw[EX (by rw[bP];exact h),kd]
theorem vU{ws:List Str}{k:Nat}(h:k<=ws.length):Gz (ws.map V.str) (some (k:Int)) none=(ws.drop k).map V.str:=by
 rw[CV (by rw[bP];exact h),kf]
end L2
namespace L2
theorem M9{p:Prop}[Decidable p]{X B:Prop}(hB:B)(h:p->B->X):if decide p=true then X else B:=by
 by_cases c:p
 ·rw[decide_eq_true c];exact FH (h c hB)
 ·rw[decide_eq_false c];exact Fv hB
end L2
namespace L2
open PySem PySem.Spec PyProof.Rows
def JO:Sp:=λvs H Q _=>∃(a b:bV) (ps ts:List Str) (c:Int),vs=[.ref a,.ref b,.int c]/\H a=some (.lst (ps.map V.str))/\H b=some (.lst (ts.map V.str))/\Roll ps/\Roll ts/\ps.length=ts.length/\∀H',Same H H'->Q (.bl true) H'
def Iv(K:bN):Sp:=λvs H Q _=>∃(a m:bV) (ps:List Str) (ns:List Int),vs=[.ref a,.ref m]/\SqL K H a (ps.map V.str)/\Roll ps/\SqL K H m (ns.map V.int)/\ns.length=8/\∀p H',Same H H'->p.length<=100->FM p->Q (.str p) H'
theorem yl{ns:List Int}{i:Nat}(h:i<ns.length):HQ (ns.map V.int) (i:Int)=some (.int (ns.getD i 0)):=sO (tV h)
theorem w9{z:Str}(h:1<=z.length):gb z none (some (-1))=⟨(z.cps.toList.take (z.length-1)).toArray⟩:=by
 rw[eq_of_beq (slice_closes_to_neg (x:=z) (j:= -1) (k:= -1+z.length) (by decide) (by omega) rfl)];rw[show(-1+(z.length:Int)-0).toNat=z.length-1 by omega,show rA 0=0 from rfl,o0]
theorem yD{a b:Str}(h1:FM a)(h2:FM b):FM (a++b):=λc d=>by
 rw[sK]at d;rcases cN.mp d with h|h
 ·exact h1 c h
 ·exact h2 c h
theorem DZ:(" ":Str)=⟨#[32]⟩:=by decide +kernel
def MC(w:Str):Prop:=32∉w.cps.toList
theorem zk:∀{a b r s:List Nat},32∉a->32∉b->a++32::r=b++32::s->a=b/\r=s
 | [],[],r,s,_,_,h=>by simpa using h
 | [],y::b,r,s,_,hb,h=>by
  have:32=y:=(List.cons.inj h).1
  exact absurd (this▸b0) hb
 | x::a,[],r,s,ha,_,h=>by
  have:x=32:=(List.cons.inj h).1
  exact absurd (this▸b0) ha
 | x::a,y::b,r,s,ha,hb,h=>by
  have h1:=List.cons.inj h
  have c:=zk (λz=>ha (b3 _ z)) (λz=>hb (b3 _ z)) h1.2
  exact⟨by rw[h1.1,c.1],c.2⟩
theorem KZ(x y:Str)(r:List Str):(jQ " " (x::y::r)).cps.toList=x.cps.toList++32::(jQ " " (y::r)).cps.toList:=by
 show(x++" "++jQ " " (y::r)).cps.toList=_;rw[sK,sK,DZ];simp
theorem zv:∀{a b:List Str},a≠[]->b≠[]->(∀w∈a,MC w)->(∀w∈b,MC w)->jQ " " a=jQ " " b->a=b
 | [],_,h,_,_,_,_=>absurd rfl h
 | _::_,[],_,h,_,_,_=>absurd rfl h
 | [x],[y],_,_,_,_,h=>by rw[show x=y from h]
 | [x],y::z::b,_,_,ha,_,h=>by
  have e:=congrArg (λs:Str=>s.cps.toList) h
  rw[KZ]at e
  refine absurd ?_ (ha x b0)
  show 32∈(jQ " " [x]).cps.toList
  rw[e]
  simp
 | x::z::a,[y],_,_,_,hb,h=>by
  have e:=congrArg (λs:Str=>s.cps.toList) h
  rw[KZ]at e
  refine absurd ?_ (hb y b0)
  show 32∈(jQ " " [y]).cps.toList
  rw[<-e]
  simp
 | x::u::a,y::v::b,_,_,ha,hb,h=>by
  have e:=congrArg (λs:Str=>s.cps.toList) h
  rw[KZ,KZ]at e
  have c:=zk (ha x b0) (hb y b0) e
  have f:=zv (a:=u::a) (b:=v::b) (eV _ _) (eV _ _) (λw d=>ha w (b3 _ d)) (λw d=>hb w (b3 _ d)) (wq c.2)
  rw[f,wq c.1]
theorem Ar{ws:List Str}(h0:ws≠[])(h:∀w∈ws,MC w):wordsOf (kO " " ws)=ws:=by
 unfold wordsOf;refine zv ?_ h0 ?_ h ?_
 ·have:=split_pos (kO " " ws) " ";intro z;rw[z]at this;exact absurd this (by decide)
 ·rw[DZ];exact StrLaws.split_free _ 32
 ·rw[mW];exact lN " " ws
structure TxtOk(ws:List Str):Prop where
 len:ws.length<=7
 wd:∀w∈ws,w.length<=13
 cs:∀w∈ws,∀c∈w.cps.toList,c<128/\c≠32
theorem xk:∀{ws:List Str},(∀w∈ws,w.length<=13)->(ws.map (·.length)).sum<=13*ws.length
 | [],_=>bX _
 | x::ws,h=>by
  have b:=xk (ws:=ws) λw a=>h w (b3 _ a)
  have:=h x b0
  simp only[dh,eR,cZ]
  omega
theorem TxtOk.out{ws:List Str}(h:TxtOk ws):(kO " " ws).length<=500/\FM (kO " " ws)/\(wordsOf (kO " " ws)).length<64:=by
 have d:=h.len;have f:=xk h.wd;have e:kO " " ws=jQ " " ws:=lN " " ws;refine⟨?_,?_,?_⟩
 ·have:=StrLaws.join_length_le " " ws;rw[show(" ":Str).length=1 by decide +kernel]at this;rw[e];omega
 ·rw[e];intro c a;rcases(mem_join " " c ws).mp a with⟨w,b,a⟩|⟨_,a⟩
  ·exact(h.cs w b c a).1
  ·rw[DZ]at a;have:c=32:=by simpa using a
   omega
 ·by_cases h0:ws=[]
  ·subst h0;decide +kernel
  ·rw[Ar h0 λw b a=>(h.cs w b 32 a).2 rfl];omega
theorem TxtOk.sumk{ws:List Str}(h:TxtOk ws):(ws.map jA).sum+ws.length<=1048576:=by
 have a:=h.len;have b:(ws.map jA).sum<=13*ws.length:=xk h.wd;omega
def JX(K:bN):Sp:=λvs H Q _=>∃(a m:bV) (ts:List Str) (ns:List Int),vs=[.ref a,.ref m]/\SqL K H a (ts.map V.str)/\Roll ts/\SqL K H m (ns.map V.int)/\ns.length=8/\∀t H',Same H H'->t.length<=500->FM t->(wordsOf t).length<64->Q (.str t) H'
theorem Aj{ts:List Str}{d:List Int}(h:∀t∈d,t.toNat<ts.length):∀w∈Fz ts d,w∈ts:=λw a=>by
 unfold Fz at a;obtain⟨t,b,rfl⟩:=cP.mp a;rw[bR,bT (h t b)];exact cm _
theorem Az{num:Int}{n:Nat}:∀t∈LM.perm num n,0<=t/\t.toNat<n:=λt a=>by
 have:=(LM.perm_succ_perm num n).mem_iff.mp a;obtain⟨i,b,rfl⟩:=cP.mp this;have:=dq.mp b;show 0<=(i:Int)/\(i:Int).toNat<n;omega
theorem CM{ts:List Str}{num:Int}(h:Roll ts):TxtOk (Fz ts (LM.perm num ts.length))/\(∀w∈Fz ts (LM.perm num ts.length),w∈ts)/\(Fz ts (LM.perm num ts.length)).length=ts.length:=by
 have b:=Aj (ts:=ts) (d:=LM.perm num ts.length) λt f=>(Az t f).2;have e:(Fz ts (LM.perm num ts.length)).length=ts.length:=by unfold Fz;rw[bP,LM.perm_len]
 refine⟨⟨by rw[e];have:=h.hi;omega,λw a=>by have:=(h.wd w (b w a)).hi;omega,λw a c g=>?_⟩,b,e⟩;have:=(h.wd w (b w a)).cs c g;omega
theorem TxtOk.set{ws:List Str}{k:Nat}{o:Str}(h:TxtOk ws)(h1:o.length<=13)(h2:∀c∈o.cps.toList,c<128/\c≠32):TxtOk (ws.set k o):=by
 refine⟨by rw[fT];exact h.len,λw a=>?_,λw a=>?_⟩
 ·rcases jV a with z|z
  ·exact h.wd w z
  ·rw[z];exact h1
 ·rcases jV a with z|z
  ·exact h.cs w z
  ·rw[z];exact h2
theorem TxtOk.erase{ws:List Str}{k:Nat}(h:TxtOk ws):TxtOk (ws.eraseIdx k):=
 ⟨cG (kQ ..) h.len,λw a=>h.wd w (kq a),λw a=>h.cs w (kq a)⟩
theorem TxtOk.more{ws:List Str}{o:Str}{k:Nat}(h:TxtOk ws)(h6:ws.length<=6)(h1:o.length<=13)(h2:∀c∈o.cps.toList,c<128/\c≠32):TxtOk (ws.take k++o::ws.drop k):=by
 have b:∀w∈ws.take k++o::ws.drop k,w∈ws\/w=o:=λw a=>by
  rcases cN.mp a with z|z
  ·exact .inl (dO z)
  ·rcases cj.mp z with z|z
   ·exact .inr z
   ·exact .inl (fN z)
 refine⟨?_,λw a=>?_,λw a=>?_⟩
 ·rw[cr,cZ,cf,dP];omega
 ·rcases b w a with z|z
  ·exact h.wd w z
  ·rw[z];exact h1
 ·rcases b w a with z|z
  ·exact h.cs w z
  ·rw[z];exact h2
theorem Dm{a b:Str}(h1:∀c∈a.cps.toList,c<128/\c≠32)(h2:∀c∈b.cps.toList,c<128/\c≠32):∀c∈(a++b).cps.toList,c<128/\c≠32:=λc d=>by
 rw[sK]at d;rcases cN.mp d with h|h
 ·exact h1 c h
 ·exact h2 c h
theorem Ba{z:Str}(h:(z.cps.toList.all λc=>decide (c<128/\c≠32))=true):∀c∈z.cps.toList,c<128/\c≠32:=λc a=>of_decide_eq_true (de.mp h c a)
inductive Hr where
 | wish (p t:Str):Hr
 | shares (p way:Str):Hr
 | deal (way:Str) (num:Int×Int):Hr
def IsDeed(K:bN)(H:Hp)(v:V):Hr->Prop
 | .wish p t=>∃a,v = .ref a/\SqT K H a [.str "wish",.str p,.str t]/\t.length<=500/\FM t/\(wordsOf t).length<64
 | .shares p way=>∃a,v = .ref a/\SqT K H a [.str "shares",.str p,.str way]
 | .deal way num=>∃a g,v = .ref a/\SqT K H a [.str "deal",.str way,.ref g]/\SqT K H g [.int num.1,.int num.2]/\Sz 2000 num/\0<num.2
def Fy(ps ts lacks:List Str):Hr->List Str
 | .wish p t=>if p∈ps then(if(wordsOf t).Perm ts then[]else[b9 "NoWishes"])else[b9 "NoPerson"]
 | .shares p way=>if p∈ps then(if lacks=[]then(if way∈[b9 "eaten",b9 "turns"]then[]else[b9 "NoWay"])else[b9 "Unready"])else[b9 "NoPerson"]
 | .deal way num=>if lacks=[]then(if way∈[b9 "eaten",b9 "turns"]then(if 0<=num.1/\num.1<num.2 then[]else[b9 "NoPick"])else[b9 "NoWay"])else[b9 "Unready"]
def JH(K:bN):Sp:=λvs H Q _=>∃(a b m:bV) (ps ts:List Str) (ns:List Int),vs=[.ref a,.ref b,.ref m]/\SqL K H a (ps.map V.str)/\Roll ps/\SqL K H b (ts.map V.str)/\Roll ts/\SqL K H m (ns.map V.int)/\ns.length=8/\∀v D H',Same H H'->IsDeed K H' v D->Q v H'
def K1(K:bN):Sp:=λvs H Q _=>∃(a b l:bV) (v:V) (ps ts ls:List Str) (D:Hr),vs=[.ref a,.ref b,.ref l,v]/\SqL K H a (ps.map V.str)/\SqL K H b (ts.map V.str)/\ts.length<64/\(∀w∈ts,FM w)/\SqL K H l (ls.map V.str)/\(∀w∈ls,FM w)/\ls.length<=60/\IsDeed K H v D/\∀p H',Same H H'->H p=none->H' p=some (.lst ((Fy ps ts ls D).map V.str))->Q (.ref p) H'
def HV:List Str:=["eaten","turns","eaten","turns","eaten","Turns","","eaten "]
theorem Ef{i:Int}(h0:0<=i)(h8:i<8):∃w,HQ (HV.map V.str) i=some (.str w):=by
 have a:i.toNat<HV.length:=by show _<8;omega
 exact⟨HV[i.toNat],tL h0 (by rw[bZ,bT a];rfl)⟩
theorem Nf{t b:Int}(hb:0<b)(h1:t.natAbs<4000)(h2:b.natAbs<4000):Sz 2000 (FQ.red t b)/\0<(FQ.red t b).2:=by
 refine⟨uc (by omega) (ci h1 ?_) (ci h2 ?_),(FQ.red_low (by omega)).pos⟩
 ·exact cG (show 4000<=2^12 by decide) (dM (by decide) (by decide))
 ·exact cG (show 4000<=2^12 by decide) (dM (by decide) (by decide))
theorem wy{num:Int×Int}:¬Gn num↔0<=num.1/\num.1<num.2:=by
 unfold Gn FK;simp
def Fo(ps:List Str)(R:List (Str×V)):List Str:=ps.filter λp=>!(Fu R p).isSome
def ToldOk(K:bN)(H:Hp)(R:List (Str×V))(n:Nat):Prop:=∀p v,Fu R p=some v->∃row,IsR K H v row/\LN.Pm n row
theorem y7{K:bN}{H:Hp}{R:List (Str×V)}{n:Nat}(h:ToldOk K H R n):∀ps:List Str,(∀p∈ps,Fu R p≠none)->∃W:List (List Int),JQ K H R ps W/\∀w∈W,LN.Pm n w
 | [],_=>⟨[],.nil,λw a=>nomatch a⟩
 | p::ps,hp=>by
  obtain⟨W,h1,h2⟩:=y7 h ps λq d=>hp q (b3 _ d)
  cases e:Fu R p with
  | none=>exact absurd e (hp p b0)
  | some v=>
   obtain⟨c,f,b⟩:=h p v e
   exact⟨c::W,.cons ⟨v,e,f⟩ h1,λw a=>by rcases cj.mp a with z|z;exact z▸b;exact h2 w z⟩
theorem AE{K:bN}{H:Hp}{R:List (Str×V)}{ps:List Str}(rp:Roll ps)(h:ToldOk K H R ps.length)(hp:∀p∈ps,Fu R p≠none):∃W,JQ K H R ps W/\GA ps.length W:=by
 obtain⟨W,h1,h2⟩:=y7 h ps hp;exact⟨W,h1,rp.lo,rp.hi,(Paired.len h1).symm,h2⟩
def After(K:bN)(H':Hp)(ps ts:List Str)(R R':List (Str×V))(tv:V)(D:Hr):Prop:=
 (Fy ps ts (Fo ps R) D≠[]/\R'=R)\/(Fy ps ts (Fo ps R) D=[]/\match D with
  | .wish p t=>tv = .non/\∃r,R'=IL R p (.ref r)/\H' r=some (.tup ((Hg ts (wordsOf t)).map V.int))
  | _=>R'=R/\∃l xs,tv = .ref l/\H' l=some (.lst xs))
def JL(K:bN)(C:bV):Sp:=λvs H Q _=>∃(s d:bV) (v:V) (ps ts:List Str) (R:List (Str×V)) (D:Hr),vs=[.ref s,v]/\BookAt C H s d ps ts R/\Roll ps/\Roll ts/\ts.length=ps.length/\R.length<900/\ToldOk K H R ps.length/\IsDeed K H v D/\
 ∀pt q tv R' H',SameBut1 d H H'->H' pt=some (.tup [tv,.ref q])->H q=none->H' q=some (.lst ((Fy ps ts (Fo ps R) D).map V.str))->BookAt C H' s d ps ts R'->After K H' ps ts R R' tv D->Q (.ref pt) H'
theorem tS{R:List (Str×V)}{ps:List Str}:Fo ps R=[]↔∀p∈ps,Fu R p≠none:=xz
theorem x3{R:List (Str×V)}{ps:List Str}(h:∃p∈ps,Fu R p=none):Fo ps R≠[]:=λz=>by
 obtain⟨p,hp,e⟩:=h;exact tS.mp z p hp e
theorem Dp{way:Str}(h1:way≠"eaten")(h2:way≠"turns"):way∉[b9 "eaten",b9 "turns"]:=λz=>by
 rcases cj.mp z with e|e
 ·exact h1 e
 ·exact h2 (bY.mp e)
theorem y2{way:Str}(h:way="eaten"\/way="turns"):way∈[b9 "eaten",b9 "turns"]:=by
 rcases h with rfl|rfl
 ·exact b0
 ·exact b3 _ b0
def HR(K:bN)(C:bV):Sp:=λvs H Q _=>∃(s d l:bV) (ps ts:List Str) (R:List (Str×V)),vs=[.ref s,.ref l]/\BookAt C H s d ps ts R/\ps.length<=60/\(∀w∈ps,FM w)/\SqL K H l ((Fo ps R).map V.str)/\∀H',Same H H'->Q (.bl true) H'
theorem wM(ps:List Str)(R:List (Str×V)):(Fo ps R).length<=ps.length:=dC ..
theorem w8{ps:List Str}{R:List (Str×V)}{p:Str}:p∈Fo ps R↔p∈ps/\Fu R p=none:=by
 unfold Fo;rw[dw]
 cases Fu R p <;> simp
theorem Ae{ps:List Str}{R:List (Str×V)}{p:Str}{v:V}(nd:ps.Nodup):Fo ps (IL R p v)=(Fo ps R).erase p:=by
 unfold Fo;rw[o3 (qO _ nd)];rw[List.filter_filter];refine fP λq _=>?_;rw[yx];by_cases h:q=p
 ·subst h;simp
 ·simp[h]
theorem SameBut1.sqT{K:bN}{H H':Hp}{d a:bV}{kvs:List (G7×V)}{xs:List V}(hd:H d=some (.dK kvs))(s:SameBut1 d H H')(h:SqT K H a xs):SqT K H' a xs:=by
 rcases h with(h|⟨u,h⟩)|h
 ·exact .inl (.inl (s _ _ (um h hd (λz=>nomatch z)) h))
 ·exact .inl (.inr ⟨u,s _ _ (um h hd (λz=>nomatch z)) h⟩)
 ·exact .inr h
theorem ToldOk.but{K:bN}{H H':Hp}{d:bV}{kvs:List (G7×V)}{R:List (Str×V)}{n:Nat}(hd:H d=some (.dK kvs))(s:SameBut1 d H H')(h:ToldOk K H R n):ToldOk K H' R n:=λp v e=>by
 obtain⟨b,⟨a,rfl,c⟩,hp⟩:=h p v e;exact⟨b,⟨a,rfl,s.sqT hd c⟩,hp⟩
theorem E6{ts:List Str}(nd:ts.Nodup){i:Nat}(hi:i<ts.length):ts.idxOf ts[i]=i:=by
 have a:ts.idxOf ts[i]<ts.length:=fJ.mpr (cm hi);have e:=gT a;have b:=jU.mp nd;rcases ny (ts.idxOf ts[i]) i with c|c|c
 ·exact absurd e (b _ _ a hi c)
 ·exact c
 ·exact absurd e.symm (b _ _ hi a c)
theorem Df{ts ws:List Str}(rt:Roll ts)(h:ws.Perm ts):LN.Pm ts.length (Hg ts ws):=by
 unfold LN.Pm Hg;refine(h.map _).trans ?_;have e:ts.map (λw=>(ts.idxOf w:Int))=LM.rng ts.length:=by
  unfold LM.rng;refine kE (by simp) λi h1 h2=>?_;rw[bP]at h1;rw[List.getElem_map];have a:=E6 rt.nd h1;rw[a];simp
 rw[e]
theorem Roll.rev{ws:List Str}(h:Roll ws):Roll ws.reverse:=by
 refine⟨?_,?_,λw a=>h.wd w (jc.mp a),List.pairwise_reverse.mpr (j1 (λz=>Ne.symm z) h.nd)⟩
 ·rw[iE];exact h.lo
 ·rw[iE];exact h.hi
theorem Roll.ok{ws:List Str}(h:Roll ws):∀w∈ws,w.length<=1000/\FM w:=λw a=>⟨cG (h.wd w a).hi (by decide),(h.wd w a).asc⟩
theorem M1{c:Prop}{_:Decidable c}{A:Prop}{G:bV->Hp->Prop}(P:bV->Hp->Prop)(t:bV)(H:Hp)(hx:P t H)(h:∀t H,P t H->G t H)(hA:(∀t H,P t H->G t H)->A):if decide c=true then A else G t H:=by
 by_cases e:c
 ·exact FD e (hA h)
 ·exact Fp e (h t H hx)
theorem SqT.overL{K:bN}{H:Hp}{l a:bV}{ys:List V}{o:HO}{xs:List V}(hl:H l=some (.lst ys))(h:SqT K H a xs):SqT K (upd H l o) a xs:=by
 rcases h with(h|⟨u,h⟩)|h
 ·exact .inl (.inl (by rw[rR (um h hl (λz=>nomatch z))];exact h))
 ·exact .inl (.inr ⟨u,by rw[rR (um h hl (λz=>nomatch z))];exact h⟩)
 ·exact .inr h
theorem BookAt.overL{C:bV}{H:Hp}{x d l:bV}{ps ts:List Str}{R:List (Str×V)}{ys:List V}{o:HO}(hl:H l=some (.lst ys))(h:BookAt C H x d ps ts R):BookAt C (upd H l o) x d ps ts R:=by
 obtain⟨a,c,e,f,b,h1,h2,h3,h4,h5,h6⟩:=h.ex;refine⟨a,c,e,f,b,?_,?_,h3,?_,h5,?_⟩
 ·rw[rR (um h1 hl (λz=>nomatch z))];exact h1
 ·rw[rR (um h2 hl (λz=>nomatch z))];exact h2
 ·rw[rR (um h4 hl (λz=>nomatch z))];exact h4
 ·rw[rR (um h6 hl (λz=>nomatch z))];exact h6
theorem IsDeed.but{K:bN}{H H':Hp}{d:bV}{kvs:List (G7×V)}{v:V}{D:Hr}(hd:H d=some (.dK kvs))(s:SameBut1 d H H')(h:IsDeed K H v D):IsDeed K H' v D:=by
 cases D with
 | wish p t=>
  obtain⟨a,rfl,h1,h2⟩:=h;exact⟨a,rfl,s.sqT hd h1,h2⟩
 | shares p b=>
  obtain⟨a,rfl,h1⟩:=h;exact⟨a,rfl,s.sqT hd h1⟩
 | deal b c=>
  obtain⟨a,g,rfl,h1,h2,h3⟩:=h;exact⟨a,g,rfl,s.sqT hd h1,s.sqT hd h2,h3⟩
theorem IsDeed.mono{K:bN}{H H':Hp}{v:V}{D:Hr}(s:Same H H')(h:IsDeed K H v D):IsDeed K H' v D:=by
 cases D with
 | wish p t=>
  obtain⟨a,rfl,h1,h2⟩:=h;exact⟨a,rfl,s.tup h1,h2⟩
 | shares p b=>
  obtain⟨a,rfl,h1⟩:=h;exact⟨a,rfl,s.tup h1⟩
 | deal b c=>
  obtain⟨a,g,rfl,h1,h2,h3⟩:=h;exact⟨a,g,rfl,s.tup h1,s.tup h2,h3⟩
structure At51(K:bN)(C:bV)(H:Hp)(pl tl c l s d:bV)(ps ts:List Str)(xs:List V)(L:List Str)(R:List (Str×V)):Prop where
 pe:H pl=some (.lst (ps.map V.str))
 th:H tl=some (.lst (ts.map V.str))
 ce:H c=some (.lst xs)
 la:H l=some (.lst (L.map V.str))
 bk:BookAt C H s d ps ts R
 ok:ToldOk K H R ps.length
theorem ToldOk.mono{K:bN}{H H':Hp}{R:List (Str×V)}{n:Nat}(s:Same H H')(h:ToldOk K H R n):ToldOk K H' R n:=λp v e=>by
 obtain⟨a,b,hp⟩:=h p v e;exact⟨a,b.mono s,hp⟩
section
variable{K:bN}{C:bV}{H H':Hp}{pl tl c l s d:bV}{ps ts:List Str}{xs:List V}{L L':List Str}{R R':List (Str×V)}
theorem At51.mono(e:Same H H')(h:At51 K C H pl tl c l s d ps ts xs L R):At51 K C H' pl tl c l s d ps ts xs L R:=
 ⟨e _ _ h.pe,e _ _ h.th,e _ _ h.ce,e _ _ h.la,h.bk.mono e,h.ok.mono e⟩
theorem At51.dk(h:At51 K C H pl tl c l s d ps ts xs L R):H d=some (.dK (wK R)):=by
 obtain⟨a,e,f,g,b,h1,h2,h3,h4,h5,h6⟩:=h.bk.ex;exact h6
theorem At51.told(h:At51 K C H pl tl c l s d ps ts xs L R)(U:SameBut1 d H H')(hb:BookAt C H' s d ps ts R')(ok:ToldOk K H' R' ps.length):At51 K C H' pl tl c l s d ps ts xs L R':=
 ⟨U _ _ (um h.pe h.dk (λz=>nomatch z)) h.pe,U _ _ (um h.th h.dk (λz=>nomatch z)) h.th,U _ _ (um h.ce h.dk (λz=>nomatch z)) h.ce,U _ _ (um h.la h.dk (λz=>nomatch z)) h.la,hb,ok⟩
theorem At51.rem(h:At51 K C H pl tl c l s d ps ts xs L R)(n1:pl≠l)(n2:tl≠l)(n3:c≠l):At51 K C (upd H l (.lst (L'.map V.str))) pl tl c l s d ps ts xs L' R:=
 ⟨by rw[rR n1];exact h.pe,by rw[rR n2];exact h.th,by rw[rR n3];exact h.ce,rF,h.bk.overL h.la,λp v e=>by
  obtain⟨b,⟨a,rfl,f⟩,hp⟩:=h.ok p v e
  exact⟨b,⟨a,rfl,f.overL h.la⟩,hp⟩⟩
theorem CB{p t:Str}(h:Fy ps ts L (.wish p t)=[]):(wordsOf t).Perm ts:=by
 have a:(if p∈ps then(if(wordsOf t).Perm ts then[]else[b9 "NoWishes"])else[b9 "NoPerson"])=[]:=h;by_cases c:p∈ps
 ·rw[if_pos c]at a;by_cases b:(wordsOf t).Perm ts
  ·exact b
  ·rw[if_neg b]at a
   cases a
 ·rw[if_neg c]at a
  cases a
theorem After.ok{tv:V}{D:Hr}{kvs:List (G7×V)}(ok:ToldOk K H R ps.length)(hd:H d=some (.dK kvs))(U:SameBut1 d H H')(rt:Roll ts)(hlen:ts.length=ps.length)(h:After K H' ps ts R R' tv D):ToldOk K H' R' ps.length:=by
 rcases h with⟨_,rfl⟩|⟨a,h⟩
 ·exact ok.but hd U
 cases D with
 | wish p t=>
  obtain⟨_,r,rfl,c⟩:=h;intro q v e;rw[yx]at e;split at e
  ·cases e;exact⟨_,⟨r,rfl,SqT.of c⟩,hlen▸Df rt (CB a)⟩
  ·exact ok.but hd U q v e
 | shares p b=>
  obtain⟨rfl,_⟩:=h;exact ok.but hd U
 | deal b f=>
  obtain⟨rfl,_⟩:=h;exact ok.but hd U
theorem After.len{tv:V}{D:Hr}(h:After K H' ps ts R R' tv D):R'.length<=R.length+1:=by
 rcases h with⟨_,rfl⟩|⟨b,h⟩
 ·omega
 cases D with
 | wish p t=>
  obtain⟨_,r,rfl,d⟩:=h;exact zh ..
 | shares p a=>
  obtain⟨rfl,_⟩:=h;omega
 | deal a c=>
  obtain⟨rfl,_⟩:=h;omega
theorem sZ{P:List Str->Prop}{c:Prop}[Decidable c]{a b:List Str}(ha:P a)(hb:P b):P (if c then a else b):=by
 by_cases h:c
 ·rw[if_pos h];exact ha
 ·rw[if_neg h];exact hb
theorem DD(D:Hr):∀w∈Fy ps ts L D,FM w:=by
 have k:FM (b9 "NoWishes"):=by unfold FM;decide +kernel
 have f:FM (b9 "NoPerson"):=by unfold FM;decide +kernel
 have g:FM (b9 "NoWay"):=by unfold FM;decide +kernel
 have e:FM (b9 "Unready"):=by unfold FM;decide +kernel
 have j:FM (b9 "NoPick"):=by unfold FM;decide +kernel
 have a:∀{z:Str},FM z->∀w∈[z],FM w:=λh w c=>by rw[bY.mp c];exact h
 have b:∀w∈([]:List Str),FM w:=λw c=>nomatch c
 cases D with
 | wish p t=>exact sZ (P:=λl=>∀w∈l,FM w) (sZ (P:=λl=>∀w∈l,FM w) b (a k)) (a f)
 | shares p d=>exact sZ (P:=λl=>∀w∈l,FM w) (sZ (P:=λl=>∀w∈l,FM w) (sZ (P:=λl=>∀w∈l,FM w) b (a g)) (a e)) (a f)
 | deal d m=>exact sZ (P:=λl=>∀w∈l,FM w) (sZ (P:=λl=>∀w∈l,FM w) (sZ (P:=λl=>∀w∈l,FM w) b (a j)) (a g)) (a e)
theorem Eh(D:Hr):(Fy ps ts L D).length<=1:=by
 have a:∀{z:Str},[z].length<=1:=bX _;have b:([]:List Str).length<=1:=cM _
 cases D with
 | wish p t=>exact sZ (P:=λl=>l.length<=1) (sZ (P:=λl=>l.length<=1) b a) a
 | shares p c=>exact sZ (P:=λl=>l.length<=1) (sZ (P:=λl=>l.length<=1) (sZ (P:=λl=>l.length<=1) b a) a) a
 | deal c d=>exact sZ (P:=λl=>l.length<=1) (sZ (P:=λl=>l.length<=1) (sZ (P:=λl=>l.length<=1) b a) a) a
theorem Gq{q p:bV}(hq:H q=some (.lst (L.map V.str)))(ha:∀w∈L,FM w)(hl:L.length<=60)(hp:H p=none):Rep K (upd H p (.lst [])) (.ref q) (.list (L.map d4))/\Rep K (upd H p (.lst [])) (.ref p) (.list (([]:List Str).map d4))/\eg (.list (L.map d4))=true/\eg (.list (([]:List Str).map d4))=true:=
 ⟨.lst (SqL.of (mH hp _ _ _ hq)) (Reps.strs L) (by rw[bP];omega),.lst (SqL.of rF) (Reps.strs []) (by simp),sy (tI ha) (by decide),sy (tI (λw a=>nomatch a)) (by decide)⟩
theorem Ao(ps:List Str):Fo ps []=ps:=List.filter_eq_self.mpr λ_ _=>rfl
theorem DQ{ns:List Int}{lo hi:Option Int}{i:Nat}{v:V}(h:(Gz (ns.map V.int) lo hi)[i]?=some v):∃c:Int,v=V.int c:=by
 have h1:=cz h;unfold Gz at h1;obtain⟨c,_,rfl⟩:=cP.mp (fN (dO h1));exact⟨c,rfl⟩
end
def Ld(x:Xs):Nat->bV
 | 0=>x.NoFraction
 | 1=>x.NoWishes
 | 2=>x.NoTable
 | 3=>x.NoPick
 | 4=>x.NoOrder
 | 5=>x.NoRoll
 | 6=>x.NoPerson
 | 7=>x.Unready
 | _=>x.NoWay
def Nt:Nat->Str
 | 1=>"NoWishes"
 | 3=>"NoPick"
 | 5=>"NoRoll"
 | 6=>"NoPerson"
 | 7=>"Unready"
 | 8=>"NoWay"
 | 0=>"NoFraction"
 | 2=>"NoTable"
 | _=>"NoOrder"
structure KK(K:bN)(x:Xs)(C:bV)(i:Nat):Prop where
 is:L6 K C
 one:∀j,j<9->fb K (.ref C) (.ref (Ld x j))=some (decide (i=j))
 val:fb K (.ref C) (.type "ValueError")=some true
theorem No{α:Type}{f g:Nat->α}(h:(cp 9).map f=(cp 9).map g)(j:Nat)(hj:j<9):f j=g j:=by
 have e:=congrArg (λl:List α=>l[j]?) h;simp only[bZ,dy hj]at e;exact Option.some.inj e
theorem Au{K:bN}{x:Xs}{C:bV}{i:Nat}(h:L6 K C)(he:(cp 9).map (λj=>f7 K (Ld x j) MN "ValueError.__new__")=(cp 9).map λ_=>true)(hm:(cp 9).map (λj=>d6 K C (.ref (Ld x j)))=(cp 9).map λj=>some (decide (i=j)))(hv:d6 K C (.type "ValueError")=some true):KK K x C i:=
 ⟨h,λj a=>EA (No he j a) (No hm j a),Eg hv⟩
theorem Ht{c:Prop}{_:Decidable c}{A:Prop}{G:Hp->Prop}(P:Hp->Prop)(H:Hp)(hx:¬c->P H)(h:∀H,P H->G H)(hA:c->(∀H,P H->G H)->A):if decide c=true then A else G H:=by
 by_cases e:c
 ·exact FD e (hA e h)
 ·exact Fp e (h H (hx e))
def kL(i j:Nat):List V:=if i<j then[.str (Nt i)]else[]
theorem xm{i j:Nat}(h:¬i=j):kL i (j+1)=kL i j:=by
 unfold kL;by_cases c:i<j
 ·rw[if_pos c,if_pos (by omega)]
 ·rw[if_neg c,if_neg (by omega)]
theorem ET{i j:Nat}(h:i=j):kL i j++[.str (Nt j)]=kL i (j+1):=by
 unfold kL;rw[if_neg (by omega),if_pos (by omega),h];rfl
theorem uX(i j:Nat):(kL i j).length<sizeLine:=by
 unfold kL;by_cases c:i<j
 ·rw[if_pos c];exact Fh (show 1<=1000 by decide)
 ·rw[if_neg c];exact Fh (show 0<=1000 by decide)
def KP(H:Hp)(C a p:bV)(i j:Nat)(H':Hp):Prop:=H' a=some (Kv C a)/\Same H H'/\H' p=some (.lst (kL i j))
theorem KP.put{H H1:Hp}{C a p:bV}{i j:Nat}(h1:H1 a=some (Kv C a))(h2:Same H H1)(ne:a≠p)(hp:H p=none)(e:i=j):KP H C a p i (j+1) (upd H1 p (.lst (kL i j++[.str (Nt j)]))):=
 ⟨by rw[rR ne];exact h1,h2.over hp _,by rw[rF,ET e]⟩
theorem G6{x a b:Int}(e:x=a)(h:a≠b):¬V.int x=V.int b:=λz=>h (e.symm.trans (Kz z))
theorem xB{x:Int}{n:Nat}(h:1<=n):∃k:Nat,x%(n:Int)=(k:Int)/\k<n:=by
 have h0:=cY x (show(n:Int)≠0 by omega);have h1:=cQ x (show(0:Int)<n by omega);exact⟨(x%(n:Int)).toNat,by omega,by omega⟩
theorem y0{α:Type}{ws:List α}{f:α->V}(h:1<=ws.length):(0:Int)<((ws.map f).length:Int):=by
 rw[bP];exact oD.mpr h
theorem D5{k n:Nat}(h:k<n):K5 n (k:Int)=some k:=by
 unfold K5;rw[if_pos (by omega),if_pos (by omega)];exact congrArg some (by omega)
theorem LO(x:Int):x=1\/x=3\/x=5\/x=7\/x=9\/x=11\/(x≠1/\x≠3/\x≠5/\x≠7/\x≠9/\x≠11):=by omega
section
variable{X:Cx}
def KH:Expr->Option Str
 | .Constant (.str z) _ _=>some z
 | _=>none
theorem Cj{e:Expr}{z:Str}(h:KH e=some z):∃k p,e = .Constant (.str z) k p:=by
 cases e with
 | Constant c k p=>
  cases c with
  | str y=>exact⟨k,p,by rw[show y=z from Option.some.inj h]⟩
  | _=>cases h
 | _=>cases h
def Kf:List Expr->Option (List Str)
 | []=>some []
 | e::es=>(KH e).bind λz=>(Kf es).map (z :: ·)
theorem zH:∀(es:List Expr) {is:List Str},Kf es=some is->PA X es (KR is)
 | [],is,h=>by
  cases h
  exact λb a s d H Q I h=>(rH (X:=X)) b a s d H Q I h
 | e::es,is,h=>by
  have h:(KH e).bind (λz=>(Kf es).map (z :: ·))=some is:=h
  cases c:KH e with
  | none=>rw[c]at h;cases h
  | some z=>
   cases f:Kf es with
   | none=>rw[c,f]at h;cases h
   | some g=>
    rw[c,f]at h
    cases h
    obtain⟨k,p,rfl⟩:=Cj c
    exact λb a s d H Q I h=>(lg (X:=X) rY (zH es f)) b a s d H Q I h
theorem BN{i:Nat}{x:Str}{es:List Expr}{is:List Str}{b:Expr}{tb:TE}{r:R2}{pos p1 p2 pos':Pos}(hN:X.N.Nodup)(hi:X.N[i]?=some x)(hx:MG X.env.scope x)(hr:IxR X r)(hI:Kf es=some is)(hb:PE X b tb)(hp:Jm b)
  (hs:swapsWith (.Subscript (.List es p1) b p2) (some (.Name x pos')) pos.line X.env=pure false:=by rfl)(hf:X.fn x=true\/X.env.scope.names.lookup x=some .local:=by first|exact .inl rfl|exact .inr rfl|assumption):
  Oi X (.Assign [.Name x pos'] (.Subscript (.List es p1) b p2) pos) (LB (Mm r (Mq (KR is)) tb) (Ia i)):=
 ⟨rM hN hi hx (rS hr (sC (zH es hI)) hb hp) hs hf⟩
end
@[elab_as_elim] theorem KB {P:List bQ->Prop} (h:∀a0,P [a0]) (us:List bQ) (e:us.length=1):P us:=match us,e with|[a0],_=>h a0
@[elab_as_elim] theorem HZ {P:List bQ->Prop} (h:∀a0 a1,P [a0,a1]) (us:List bQ) (e:us.length=2):P us:=match us,e with|[a0,a1],_=>h a0 a1
@[elab_as_elim] theorem Lc {P:List bQ->Prop} (h:∀a0 a1 a2,P [a0,a1,a2]) (us:List bQ) (e:us.length=3):P us:=match us,e with|[a0,a1,a2],_=>h a0 a1 a2
@[elab_as_elim] theorem Os {P:List bQ->Prop} (h:∀a0 a1 a2 a3,P [a0,a1,a2,a3]) (us:List bQ) (e:us.length=4):P us:=match us,e with|[a0,a1,a2,a3],_=>h a0 a1 a2 a3
@[elab_as_elim] theorem us5 {P:List bQ->Prop} (h:∀a0 a1 a2 a3 a4,P [a0,a1,a2,a3,a4]) (us:List bQ) (e:us.length=5):P us:=match us,e with|[a0,a1,a2,a3,a4],_=>h a0 a1 a2 a3 a4
@[elab_as_elim] theorem us6 {P:List bQ->Prop} (h:∀a0 a1 a2 a3 a4 a5,P [a0,a1,a2,a3,a4,a5]) (us:List bQ) (e:us.length=6):P us:=match us,e with|[a0,a1,a2,a3,a4,a5],_=>h a0 a1 a2 a3 a4 a5
@[elab_as_elim] theorem us7 {P:List bQ->Prop} (h:∀a0 a1 a2 a3 a4 a5 a6,P [a0,a1,a2,a3,a4,a5,a6]) (us:List bQ) (e:us.length=7):P us:=match us,e with|[a0,a1,a2,a3,a4,a5,a6],_=>h a0 a1 a2 a3 a4 a5 a6
end L2
namespace Nk51
open PySem PySem.Spec PyProof.Rows L2
def Fm(i:Nat):Stmt:=bW.main.body.getD i (.Pass ⟨0,0,0,0⟩)
def Jd(i j:Nat):Stmt:=match Fm i with | .ClassDef _ _ _ b _ _ _ _ _ _ _=>b.getD j (.Pass ⟨0,0,0,0⟩)|s=>s
structure Md(K:bN)(mg:Str->Option bQ)(x:Xs)(cB:bV):Prop where
 f_is_whole:Def K mg "is_whole" (Fm 14)
 f_common_divisor:Def K mg "common_divisor" (Fm 15)
 f_fraction:Def K mg "fraction" (Fm 16)
 f_plus:Def K mg "plus" (Fm 17)
 f_minus:Def K mg "minus" (Fm 18)
 f_times:Def K mg "times" (Fm 19)
 f_before:Def K mg "before" (Fm 20)
 f_total:Def K mg "total" (Fm 21)
 f_least:Def K mg "least" (Fm 22)
 f_best_left:Def K mg "best_left" (Fm 24)
 f_time_to_stop:Def K mg "time_to_stop" (Fm 25)
 f_left_behind:Def K mg "left_behind" (Fm 26)
 f_courses_of:Def K mg "courses_of" (Fm 27)
 f_eaten_of:Def K mg "eaten_of" (Fm 28)
 f_eaten_by:Def K mg "eaten_by" (Fm 29)
 f_eaten:Def K mg "eaten" (Fm 30)
 f_deal_within:Def K mg "deal_within" (Fm 32)
 f_row_without:Def K mg "row_without" (Fm 33)
 f_lots_of:Def K mg "lots_of" (Fm 34)
 f_picked:Def K mg "picked" (Fm 35)
 f_is_listing:Def K mg "is_listing" (Fm 38)
 f_has_people:Def K mg "has_people" (Fm 39)
 f_best_free:Def K mg "best_free" (Fm 41)
 f_with_one:Def K mg "with_one" (Fm 42)
 f_turns_from:Def K mg "turns_from" (Fm 43)
 f_orders_of:Def K mg "orders_of" (Fm 44)
 f_counts_of:Def K mg "counts_of" (Fm 45)
 f_shares_by_turns:Def K mg "shares_by_turns" (Fm 46)
 f_by_turns:Def K mg "by_turns" (Fm 47)
 f_is_word:Def K mg "is_word" (Fm 50)
 f_is_roll:Def K mg "is_roll" (Fm 51)
 k_Book:BDef K mg cB "Book" "Book.__init__" (Jd 52 0)
 cl:Cls K cB
 na_people:NoAttr K cB "people"
 na_things:NoAttr K cB "things"
 na_wishes_told:NoAttr K cB "wishes_told"
 m_check_person:MDef K cB "check_person" "Book.check_person" (Jd 52 1)
 m_wish:MDef K cB "wish" "Book.wish" (Jd 52 2)
 m_lacking:MDef K cB "lacking" "Book.lacking" (Jd 52 3)
 m_table_by:MDef K cB "table_by" "Book.table_by" (Jd 52 4)
 m_shares:MDef K cB "shares" "Book.shares" (Jd 52 5)
 m_deal:MDef K cB "deal" "Book.deal" (Jd 52 6)
 f__law_cell_at:Def K mg "_law_cell_at" (Fm 54)
 f__law_mixed:Def K mg "_law_mixed" (Fm 55)
 f__law_perm:Def K mg "_law_perm" (Fm 56)
 f__law_base:Def K mg "_law_base" (Fm 59)
 f__law_word:Def K mg "_law_word" (Fm 60)
 f__law_words:Def K mg "_law_words" (Fm 61)
 f__law_divisor:Def K mg "_law_divisor" (Fm 57)
 f__law_lowest:Def K mg "_law_lowest" (Fm 58)
 f__law_same:Def K mg "_law_same" (Fm 62)
 f__law_kinds:Def K mg "_law_kinds" (Fm 63)
 f__law_bad_roll:Def K mg "_law_bad_roll" (Fm 64)
 f__law_no_roll:Def K mg "_law_no_roll" (Fm 65)
 f__law_person:Def K mg "_law_person" (Fm 66)
 f__law_text:Def K mg "_law_text" (Fm 67)
 f__law_deed:Def K mg "_law_deed" (Fm 68)
 f__law_due:Def K mg "_law_due" (Fm 69)
 f__law_told:Def K mg "_law_told" (Fm 70)
 f__law_lacks_well:Def K mg "_law_lacks_well" (Fm 71)
 b_isinstance:mg "isinstance"=none
 b_int:mg "int"=none
 b_bool:mg "bool"=none
 b_str:mg "str"=none
 b_list:mg "list"=none
 b_tuple:mg "tuple"=none
 b_abs:mg "abs"=none
 b_len:mg "len"=none
 b_range:mg "range"=none
 b_sorted:mg "sorted"=none
 b_set:mg "set"=none
 b_enumerate:mg "enumerate"=none
 b_zip:mg "zip"=none
 b_any:mg "any"=none
 b_all:mg "all"=none
 b_min:mg "min"=none
 b_max:mg "max"=none
 b_sum:mg "sum"=none
 b_ValueError:mg "ValueError"=none
 c_NOTHING:LT K mg "NOTHING" [.int 0,.int 1]
 c_WHOLE:LT K mg "WHOLE" [.int 1,.int 1]
 c_MOST_PEOPLE:∃t,mg "MOST_PEOPLE"=some (.int 6 t)
 c_MOST_SIGNS:∃t,mg "MOST_SIGNS"=some (.int 12 t)
 x_WishError:HK K mg "WishError" x.WishError
 x_NoFraction:HK K mg "NoFraction" x.NoFraction
 x_NoWishes:HK K mg "NoWishes" x.NoWishes
 x_NoTable:HK K mg "NoTable" x.NoTable
 x_NoPick:HK K mg "NoPick" x.NoPick
 x_NoOrder:HK K mg "NoOrder" x.NoOrder
 x_NoRoll:HK K mg "NoRoll" x.NoRoll
 x_NoPerson:HK K mg "NoPerson" x.NoPerson
 x_Unready:HK K mg "Unready" x.Unready
 x_NoWay:HK K mg "NoWay" x.NoWay
 s_NoWishes:d6 K x.NoWishes (.ref x.WishError)=some true
 q_NoWishes:KK K x x.NoWishes 1
 s_NoPick:d6 K x.NoPick (.ref x.WishError)=some true
 q_NoPick:KK K x x.NoPick 3
 s_NoRoll:d6 K x.NoRoll (.ref x.WishError)=some true
 q_NoRoll:KK K x x.NoRoll 5
 s_NoPerson:d6 K x.NoPerson (.ref x.WishError)=some true
 q_NoPerson:KK K x x.NoPerson 6
 s_Unready:d6 K x.Unready (.ref x.WishError)=some true
 q_Unready:KK K x x.Unready 7
 s_NoWay:d6 K x.NoWay (.ref x.WishError)=some true
 q_NoWay:KK K x x.NoWay 8
section
variable{P:cg}{w:cC}{K:bN}{mg:Str->Option bQ}{base:Heap}{x:Xs}{cB:bV}
theorem HS:Fj ["value"] ["value"] (Fg (Fm 14)):=⟨rfl,rfl,rfl,by decide +kernel,rfl,by decide +kernel,by decide +kernel⟩
set_option maxHeartbeats 4000000
theorem Kx(M:Md K mg x cB):Dn P w K mg base Ft 1 "is_whole" ["value"] (KT):=by
 have g:=(HS).nd;refine M.f_is_whole.ok HS (λvs H Q E h=>?_) (λ_ _ _ _ _ _ c b=>KB (λ_=>rfl) c b) (λf d A a s H vs Q E e h=>?_)
 ·obtain⟨i,rfl,q⟩:=h;rfl
 obtain⟨i,rfl,q⟩:=h;refine⟨_,(rK (rQ (uM (rL sE rfl M.b_isinstance Boot.«isinstance» (lg (pv 0) (lg (t6 rfl M.b_int Boot.«int») rH))) (wg (Do (rL sE rfl M.b_isinstance Boot.«isinstance» (lg (pv 0) (lg (t6 rfl M.b_bool Boot.«bool») rH)))))))),?_⟩;refine⟨_,rfl,.int i,"int","int",rfl,by decide,rfl,_,rfl,?_⟩;refine FH ⟨_,rfl,.int i,"bool","int",rfl,by decide,rfl,_,rfl,q⟩
theorem F9:Fj ["one","two","greater","smaller","rest"] ["one","two"] (Fg (Fm 15)):=⟨rfl,rfl,rfl,by decide +kernel,rfl,by decide +kernel,by decide +kernel⟩
theorem Hz(M:Md K mg x cB):Dn P w K mg base Ft 1 "common_divisor" ["one","two"] (L3):=by
 have g:=(F9).nd;refine M.f_common_divisor.ok F9 (λvs H Q E h=>?_) (λ_ _ _ _ _ _ y B=>HZ (λ_ _=>rfl) y B) (λf G A p s H vs Q E J h=>?_)
 ·obtain⟨i,j,rfl,q⟩:=h;rfl
 obtain⟨i,j,rfl,q⟩:=h;refine⟨_,(rG (rM (i:=2) g rfl (Or.inl rfl) (rL xv rfl M.b_abs Boot.«abs» (lg (pv 0) rH)))
   (rG (rM (i:=3) g rfl (Or.inl rfl) (rL xv rfl M.b_abs Boot.«abs» (lg (pv 1) rH)))
   (rG (ux db (rN yw (pv 3) rJ (Fk _)) (rG (rM (i:=4) g rfl (Or.inl rfl) (rP sj (pv 2) (pv 3)))
   (rG (rM (i:=2) g rfl (Or.inl rfl) (pv 3))
   (rK (rM (i:=3) g rfl (Or.inl rfl) (pv 4))))))
   (rK (rQ (pv 2)))))),?_⟩
 refine⟨_,rfl,i,rfl,_,rfl,j,rfl,?_⟩;refine xJ (λm n l=>l=H/\∃(a b:Int) (r:Option V),n=[some (.int i),some (.int j),some (.int a),some (.int b),r]/\0<=a/\0<=b/\Int.gcd a b=Int.gcd i j/\m=b.toNat)
  ⟨_,rfl,_,_,_,rfl,?_,?_,?_,rfl⟩ (λm n l u=>?_) (λn l I N D h=>?_)
 ·split <;> omega
 ·split <;> omega
 ·split <;> split <;> simp
 ·obtain⟨rfl,a,b,r,rfl,L,C,o,rfl⟩:=u;refine⟨_,rfl,rfl,_,rfl,?_⟩;refine Lb (λc=>?_) (λc=>?_)
  ·have d:b≠0:=λz=>by subst z;simp at c
   refine⟨_,rfl,_,rfl,a,b,rfl,rfl,by show(0:Int)<b;omega,_,rfl,_,rfl,?_⟩;refine⟨(a%b).toNat,?_,rfl,b,a%b,_,rfl,C,cY _ d,?_,rfl⟩
   ·have:=cQ a (show 0<b by omega);have:=cY a d;omega
   ·rw[FQ.gcd_turn,o]
  ·have d:b=0:=by
    by_cases z:b=0
    ·exact z
    ·exact absurd (by simpa using z) c
   subst d;refine⟨_,rfl,?_⟩;have e:(a:Int)=(Int.gcd i j:Int):=by rw[<-o];simp;omega
   rw[e];exact q
 ·obtain⟨v,e,F,k,t,q⟩:=h;exact⟨v,e,F,k,t,D _ _ q⟩
theorem HX:Fj ["top","bottom","divisor"] ["top","bottom"] (Fg (Fm 16)):=⟨rfl,rfl,rfl,by decide +kernel,rfl,by decide +kernel,by decide +kernel⟩
theorem Kq(M:Md K mg x cB)
  (Gis_whole:Dn P w K mg base Ft 1 "is_whole" ["value"] (KT))
  (Gcommon_divisor:Dn P w K mg base Ft 1 "common_divisor" ["one","two"] (L3)):Dn P w K mg base (GO P w) 2 "fraction" ["top","bottom"] (FV x):=by
 have j:=(HX).nd
 refine M.f_fraction.okE HX (λvs H Q E h=>?_) (λ_ _ _ _ _ _ r u=>HZ (λ_ _=>rfl) r u) (λf v A n s H vs Q E d h=>?_)
 ·obtain⟨t,b,rfl,k,q⟩:=h
  rfl
 obtain⟨t,b,rfl,k,q⟩:=h
 refine⟨_,(rG (sk (PW.pt (xV (tU (sD (sh Gis_whole d (by decide) rfl Fn (lg (pv 0) rH)))) (xV (tU (sD (sh Gis_whole d (by decide) rfl Fn (lg (pv 1) rH)))) (wQ (rN s9 (pv 1) rJ (Fk _)))))) (rK (uf M.x_NoFraction rfl (lg rY rH))) rO)
   (rG (rM (i:=2) j rfl (Or.inl rfl) (sh Gcommon_divisor d (by decide) rfl Fn (lg (pv 0) (lg (pv 1) rH))))
   (rG (sk (rN zM (pv 1) rJ (Fk _)) (rK (rM (i:=2) j rfl (Or.inl rfl) (Bo yk (pv 2)))) rO)
   (rK (rQ (sx (lg (rP BB (pv 0) (pv 2)) (lg (rP BB (pv 1) (pv 2)) rH)))))))),?_⟩
 refine⟨_,rfl,t,rfl,_,rfl,Fv ⟨_,rfl,b,rfl,_,rfl,Fv ⟨_,rfl,rfl,_,rfl,FE (λc=>?_) (λc=>?_)⟩⟩⟩
 ·exact⟨by show 1<=sizeLine;decide,k (Kz c)⟩
 have m:b≠0:=λz=>c (by rw[z])
 obtain⟨o,q⟩:=q m
 refine⟨_,rfl,_,rfl,t,b,rfl,?_⟩
 refine⟨_,rfl,b,0,rfl,rfl,_,rfl,?_⟩
 have l:=vz (t:=t) m o
 refine Lb (λc=>?_) (λc=>?_)
 ·have a:b<0:=of_decide_eq_true c
  have e:=l.1 a
  refine⟨_,rfl,_,rfl,?_⟩
  refine⟨_,rfl,_,rfl,t,_,rfl,rfl,e.1,_,rfl,_,rfl,b,_,rfl,rfl,e.1,by show 2<=sizeLine;decide,λp hp=>q p _ (mH hp _) ?_⟩
  rw[rF]
  show some (HO.tup [V.int (t.fdiv _),V.int (b.fdiv _)])=_
  rw[e.2.1,e.2.2]
  rfl
 ·have g:¬b<0:=of_decide_eq_false (nr.mpr c)
  have e:=l.2 g
  refine⟨_,rfl,_,rfl,t,_,rfl,rfl,e.1,_,rfl,_,rfl,b,_,rfl,rfl,e.1,by show 2<=sizeLine;decide,λp hp=>q p _ (mH hp _) ?_⟩
  rw[rF]
  show some (HO.tup [V.int (t.fdiv _),V.int (b.fdiv _)])=_
  rw[e.2.1,e.2.2]
  rfl
theorem KS:Fj ["one","two"] ["one","two"] (Fg (Fm 17)):=⟨rfl,rfl,rfl,by decide +kernel,rfl,by decide +kernel,by decide +kernel⟩
theorem Mp(M:Md K mg x cB)
  (Gfraction:Dn P w K mg base (GO P w) 2 "fraction" ["top","bottom"] (FV x)):Dn P w K mg base Ft 3 "plus" ["one","two"] (IU GZ K):=by
 have B:=(KS).nd
 refine M.f_plus.ok KS (λvs H Q E h=>?_) (λ_ _ _ _ _ _ o t=>HZ (λ_ _=>rfl) o t) (λf v A l s H vs Q E p h=>?_)
 ·obtain⟨a,b,x,y,rfl,d,c,k,e,q⟩:=h
  rfl
 obtain⟨a,b,x,y,rfl,d,c,k,e,q⟩:=h
 refine⟨_,(rK (rQ (sh Gfraction p (by decide) rfl JM (lg (rP sL (rP sM (rS sd (pv 0) rJ (λ_ _=>rfl)) (rS sd (pv 1) rJ (λ_ _=>rfl))) (rP sM (rS sd (pv 1) rJ (λ_ _=>rfl)) (rS sd (pv 0) rJ (λ_ _=>rfl)))) (lg (rP sM (rS sd (pv 0) rJ (λ_ _=>rfl)) (rS sd (pv 1) rJ (λ_ _=>rfl))) rH))))),?_⟩
 obtain⟨m,j,n⟩:=k
 obtain⟨u,g,r⟩:=e
 refine⟨_,rfl,a,_,0,_,rfl,rfl,d,rfl,?_⟩
 refine⟨_,rfl,b,_,1,_,rfl,rfl,c,rfl,?_⟩
 refine⟨_,_,rfl,rfl,IN m g,?_⟩
 refine⟨_,rfl,b,_,0,_,rfl,rfl,c,rfl,?_⟩
 refine⟨_,rfl,a,_,1,_,rfl,rfl,d,rfl,?_⟩
 refine⟨_,_,rfl,rfl,IN u j,?_⟩
 refine⟨_,_,rfl,rfl,?_⟩
 refine⟨_,rfl,a,_,1,_,rfl,rfl,d,rfl,?_⟩
 refine⟨_,rfl,b,_,1,_,rfl,rfl,c,rfl,?_⟩
 refine⟨_,_,rfl,rfl,IN j g,?_⟩
 exact⟨_,_,rfl,λz=>absurd z (cW n r),λ_=>⟨Mi j g,q⟩⟩
theorem Jx:Fj ["one","two"] ["one","two"] (Fg (Fm 18)):=⟨rfl,rfl,rfl,by decide +kernel,rfl,by decide +kernel,by decide +kernel⟩
theorem LX(M:Md K mg x cB)
  (Gfraction:Dn P w K mg base (GO P w) 2 "fraction" ["top","bottom"] (FV x)):Dn P w K mg base Ft 3 "minus" ["one","two"] (IU Kg K):=by
 have B:=(Jx).nd
 refine M.f_minus.ok Jx (λvs H Q E h=>?_) (λ_ _ _ _ _ _ o t=>HZ (λ_ _=>rfl) o t) (λf v A l s H vs Q E p h=>?_)
 ·obtain⟨a,b,x,y,rfl,d,c,k,e,q⟩:=h
  rfl
 obtain⟨a,b,x,y,rfl,d,c,k,e,q⟩:=h
 refine⟨_,(rK (rQ (sh Gfraction p (by decide) rfl JM (lg (rP wP (rP sM (rS sd (pv 0) rJ (λ_ _=>rfl)) (rS sd (pv 1) rJ (λ_ _=>rfl))) (rP sM (rS sd (pv 1) rJ (λ_ _=>rfl)) (rS sd (pv 0) rJ (λ_ _=>rfl)))) (lg (rP sM (rS sd (pv 0) rJ (λ_ _=>rfl)) (rS sd (pv 1) rJ (λ_ _=>rfl))) rH))))),?_⟩
 obtain⟨m,j,n⟩:=k
 obtain⟨u,g,r⟩:=e
 refine⟨_,rfl,a,_,0,_,rfl,rfl,d,rfl,?_⟩
 refine⟨_,rfl,b,_,1,_,rfl,rfl,c,rfl,?_⟩
 refine⟨_,_,rfl,rfl,IN m g,?_⟩
 refine⟨_,rfl,b,_,0,_,rfl,rfl,c,rfl,?_⟩
 refine⟨_,rfl,a,_,1,_,rfl,rfl,d,rfl,?_⟩
 refine⟨_,_,rfl,rfl,IN u j,?_⟩
 refine⟨_,_,rfl,rfl,?_⟩
 refine⟨_,rfl,a,_,1,_,rfl,rfl,d,rfl,?_⟩
 refine⟨_,rfl,b,_,1,_,rfl,rfl,c,rfl,?_⟩
 refine⟨_,_,rfl,rfl,IN j g,?_⟩
 exact⟨_,_,rfl,λz=>absurd z (cW n r),λ_=>⟨Mi j g,q⟩⟩
theorem JK:Fj ["one","two"] ["one","two"] (Fg (Fm 19)):=⟨rfl,rfl,rfl,by decide +kernel,rfl,by decide +kernel,by decide +kernel⟩
theorem LJ(M:Md K mg x cB)
  (Gfraction:Dn P w K mg base (GO P w) 2 "fraction" ["top","bottom"] (FV x)):Dn P w K mg base Ft 3 "times" ["one","two"] (IU KA K):=by
 have B:=(JK).nd
 refine M.f_times.ok JK (λvs H Q E h=>?_) (λ_ _ _ _ _ _ o t=>HZ (λ_ _=>rfl) o t) (λf v A l s H vs Q E p h=>?_)
 ·obtain⟨a,b,x,y,rfl,e,d,k,c,q⟩:=h
  rfl
 obtain⟨a,b,x,y,rfl,e,d,k,c,q⟩:=h
 refine⟨_,(rK (rQ (sh Gfraction p (by decide) rfl JM (lg (rP sM (rS sd (pv 0) rJ (λ_ _=>rfl)) (rS sd (pv 1) rJ (λ_ _=>rfl))) (lg (rP sM (rS sd (pv 0) rJ (λ_ _=>rfl)) (rS sd (pv 1) rJ (λ_ _=>rfl))) rH))))),?_⟩
 obtain⟨m,j,n⟩:=k
 obtain⟨u,g,r⟩:=c
 refine⟨_,rfl,a,_,0,_,rfl,rfl,e,rfl,?_⟩
 refine⟨_,rfl,b,_,0,_,rfl,rfl,d,rfl,?_⟩
 refine⟨_,_,rfl,rfl,IN m u,?_⟩
 refine⟨_,rfl,a,_,1,_,rfl,rfl,e,rfl,?_⟩
 refine⟨_,rfl,b,_,1,_,rfl,rfl,d,rfl,?_⟩
 refine⟨_,_,rfl,rfl,IN j g,?_⟩
 exact⟨_,_,rfl,λz=>absurd z (cW n r),λ_=>⟨Mi j g,q⟩⟩
theorem Ja:Fj ["one","two"] ["one","two"] (Fg (Fm 20)):=⟨rfl,rfl,rfl,by decide +kernel,rfl,by decide +kernel,by decide +kernel⟩
theorem Li(M:Md K mg x cB):Dn P w K mg base Ft 1 "before" ["one","two"] (Iw K):=by
 have u:=(Ja).nd;refine M.f_before.ok Ja (λvs H Q E h=>?_) (λ_ _ _ _ _ _ m o=>HZ (λ_ _=>rfl) m o) (λf r A j s H vs Q E v h=>?_)
 ·obtain⟨a,b,x,y,rfl,e,d,g,c,q⟩:=h;rfl
 obtain⟨a,b,x,y,rfl,e,d,g,c,q⟩:=h;refine⟨_,(rK (rQ (ua zM (rP sM (rS sd (pv 0) rJ (λ_ _=>rfl)) (rS sd (pv 1) rJ (λ_ _=>rfl))) (rP sM (rS sd (pv 1) rJ (λ_ _=>rfl)) (rS sd (pv 0) rJ (λ_ _=>rfl))) (Fk _)))),?_⟩;obtain⟨l,n,t⟩:=g;obtain⟨p,k,z⟩:=c;refine⟨_,rfl,a,_,0,_,rfl,rfl,e,rfl,?_⟩;refine⟨_,rfl,b,_,1,_,rfl,rfl,d,rfl,?_⟩;refine⟨_,_,rfl,rfl,IN l k,?_⟩;refine⟨_,rfl,b,_,0,_,rfl,rfl,d,rfl,?_⟩;refine⟨_,rfl,a,_,1,_,rfl,rfl,e,rfl,?_⟩;exact⟨_,_,rfl,rfl,IN p n,_,_,rfl,rfl,q⟩
theorem J1:Fj ["parts","so_far","part"] ["parts"] (Fg (Fm 21)):=⟨rfl,rfl,rfl,by decide +kernel,rfl,by decide +kernel,by decide +kernel⟩
theorem LU(M:Md K mg x cB)
  (Gplus:Dn P w K mg base Ft 3 "plus" ["one","two"] (IU GZ K)):Dn P w K mg base Ft 4 "total" ["parts"] (Lr K):=by
 have G:=(J1).nd
 refine M.f_total.ok J1 (λvs H Q E h=>?_) (λ_ _ _ _ _ _ R T=>KB (λ_=>rfl) R T) (λf U A O s H vs Q E S h=>?_)
 ·obtain⟨a,I,k,rfl,l,u,D,n,q⟩:=h
  rfl
 obtain⟨a,I,k,rfl,l,u,D,n,q⟩:=h
 refine⟨_,(rG (rM (i:=1) G rfl (Or.inl rfl) (uo M.c_NOTHING))
   (rG (tP db rfl (ES (pv 0)) (rV (i:=2) G rfl (Or.inl rfl)) (rK (rM (i:=1) G rfl (Or.inl rfl) (sh Gplus S (by decide) rfl Fn (lg (pv 1) (lg (pv 2) rH))))))
   (rK (rQ (pv 1))))),?_⟩
 refine λB C=>?_
 rcases l with l|l
 ·refine .inl ⟨_,rfl,a,rfl,⟨_,l⟩,?_⟩
  refine vD (xs:=I) (λi j c=>Same H c/\∃e r,j=[some (.ref a),some e,r]/\IsF K c e (Gw (k.take i)))
   ⟨Same.refl _,.ref B,_,rfl,B,rfl,C _⟩ (λi j c _ d=>d.1.seq l) (λi v j c N d=>?_) (λj c d=>?_)
  ·obtain⟨g,e,r,rfl,b⟩:=d
   obtain⟨y,o,m⟩:=Paired.get' u N
   obtain⟨z,rfl,b⟩:=b
   obtain⟨F,rfl,m⟩:=m
   refine⟨_,rfl,_,rfl,z,F,Gw (k.take i),y,rfl,b,g.tup m,D i,n y (cz o),λp L J hp=>?_⟩
   refine⟨g.trans J,.ref p,_,rfl,p,rfl,?_⟩
   rw[cv,o]
   show SqT K L p [.int (Gw (k.take i++[y])).1,.int (Gw (k.take i++[y])).2]
   rw[uV]
   exact SqT.of hp
  ·obtain⟨g,e,r,rfl,b⟩:=d
   have t:=Paired.len u
   rw[t,cI]at b
   exact⟨_,rfl,q e c g b⟩
 ·refine .inr ⟨_,rfl,a,rfl,⟨_,l⟩,?_⟩
  refine DY (xs:=I) (λi j c=>Same H c/\∃e r,j=[some (.ref a),some e,r]/\IsF K c e (Gw (k.take i)))
   ⟨Same.refl _,.ref B,_,rfl,B,rfl,C _⟩ (λi j c _ d=>d.1.tup l) (λi v j c N d=>?_) (λj c d=>?_)
  ·obtain⟨g,e,r,rfl,b⟩:=d
   obtain⟨y,o,m⟩:=Paired.get' u N
   obtain⟨z,rfl,b⟩:=b
   obtain⟨F,rfl,m⟩:=m
   refine⟨_,rfl,_,rfl,z,F,Gw (k.take i),y,rfl,b,g.tup m,D i,n y (cz o),λp L J hp=>?_⟩
   refine⟨g.trans J,.ref p,_,rfl,p,rfl,?_⟩
   rw[cv,o]
   show SqT K L p [.int (Gw (k.take i++[y])).1,.int (Gw (k.take i++[y])).2]
   rw[uV]
   exact SqT.of hp
  ·obtain⟨g,e,r,rfl,b⟩:=d
   have t:=Paired.len u
   rw[t,cI]at b
   exact⟨_,rfl,q e c g b⟩
theorem JW:Fj ["parts","smallest","part"] ["parts"] (Fg (Fm 22)):=⟨rfl,rfl,rfl,by decide +kernel,rfl,by decide +kernel,by decide +kernel⟩
theorem LS(M:Md K mg x cB)
  (Gbefore:Dn P w K mg base Ft 1 "before" ["one","two"] (Iw K)):Dn P w K mg base Ft 2 "least" ["parts"] (Jt K):=by
 have G:=(JW).nd
 refine M.f_least.ok JW (λvs H Q E h=>?_) (λ_ _ _ _ _ _ Z j=>KB (λ_=>rfl) Z j) (λf aa A X s H vs Q E hr h=>?_)
 ·obtain⟨a,I,b,rfl,u,C,n,j,t,q⟩:=h
  rfl
 obtain⟨a,I,b,rfl,u,C,n,j,t,q⟩:=h
 refine⟨_,(rG (rM (i:=1) G rfl (Or.inl rfl) (rS rZ (pv 0) rJ (λ_ _=>rfl)))
   (rG (tP db rfl (tD (pv 0)) (rV (i:=2) G rfl (Or.inl rfl)) (rK (sk (sD (sh Gbefore hr (by decide) rfl Fn (lg (pv 2) (lg (pv 1) rH)))) (rK (rM (i:=1) G rfl (Or.inl rfl) (pv 2))) rO)))
   (rK (rQ (pv 1))))),?_⟩
 obtain⟨d,o⟩:∃p,b[0]?=some p:=by
  cases b with
  | nil=>exact absurd rfl n
  | cons p r=>exact⟨p,rfl⟩
 have U:b.headD (0,1)=d:=by
  cases b with
  | nil=>exact absurd rfl n
  | cons p r=>exact Option.some.inj o
 have Y:∀i,Sz 4000 (FG d (b.take i)):=λi=>by
  have:∀(l:List (Int×Int)) (s:Int×Int),Sz 4000 s->(∀p∈l,Sz 4000 p)->Sz 4000 (FG s l):=by
   intro l
   induction l with
   | nil=>intro s J _;exact J
   | cons x r ih=>
    intro s J j
    refine ih _ ?_ λp hp=>j p (b3 _ hp)
    show Sz 4000 (if FK x s=true then x else s)
    split
    ·exact j x b0
    ·exact J
  exact this _ _ (t _ (cz o)) λp hp=>t p (dO hp)
 obtain⟨R,N,L⟩:=Paired.get C o
 refine⟨_,rfl,a,I,0,R,rfl,rfl,u,sO N,?_⟩
 refine⟨_,rfl,a,rfl,⟨_,u⟩,?_⟩
 refine vD (xs:=I) (λi B z=>z=H/\∃m r,B=[some (.ref a),some m,r]/\IsF K H m (FG d (b.take i)))
  ⟨rfl,R,_,rfl,L⟩ (λi B z _ k=>by rw[k.1];exact u) (λi v B z hx k=>?_) (λB z k=>?_)
 ·obtain⟨rfl,m,r,rfl,g⟩:=k
  obtain⟨y,S,W⟩:=Paired.get' C hx
  have e:FG d (b.take (i+1))=if FK y (FG d (b.take i))=true then y else FG d (b.take i):=by
   rw[cv,S]
   unfold FG
   rw[nE]
   rfl
  obtain⟨D,rfl,F⟩:=id g
  obtain⟨O,rfl,V⟩:=id W
  refine⟨_,rfl,_,rfl,O,D,y,FG d (b.take i),rfl,V,F,t y (cz S),Y i,_,rfl,?_⟩
  rw[e]
  show if FK y (FG d (b.take i))=true then _ else _
  refine Lb (λc=>?_) (λc=>?_)
  ·refine⟨_,rfl,rfl,.ref O,_,rfl,?_⟩
   rw[if_pos c]
   exact W
  ·refine⟨rfl,.ref D,_,rfl,?_⟩
   rw[if_neg c]
   exact g
 ·obtain⟨rfl,m,r,rfl,g⟩:=k
  have T:=Paired.len C
  rw[T,cI]at g
  refine⟨_,rfl,q m ?_⟩
  unfold Iz
  rw[U]
  exact g
theorem Ha:Fj ["wish","left"] ["wish","left"] (Fg (Fm 24)):=⟨rfl,rfl,rfl,by decide +kernel,rfl,by decide +kernel,by decide +kernel⟩
theorem J8(M:Md K mg x cB):Dn P w K mg base Ft 1 "best_left" ["wish","left"] (KY K):=by
 have nd:=(Ha).nd;refine M.f_best_left.ok Ha (λvs H Q E h=>?_) (λ_ _ _ _ _ _ X n=>HZ (λ_ _=>rfl) X n) (λf aa A U s H vs Q E hr h=>?_)
 ·obtain⟨w,l,b,d,D,I,rfl,y,n,R,hD,j,F,u,q⟩:=h;rfl
 obtain⟨w,l,b,d,D,I,rfl,y,n,R,hD,j,F,u,q⟩:=h;refine⟨_,(rK (rQ (rS rZ (sU rfl (N:=["thing","left"]) (caps:=[none,some 1]) (CompOk.of (by kernel_rfl)) (sq rfl) (v6 (pv 0)) (λ_ _ _ _=>(rV (i:=0) (show(["thing","left"]:List Str).Nodup by decide +kernel) rfl (Or.inl rfl) (Or.inr rfl))) (λ_ _ _ _=>(uK (rN (B4 (K:=K) rfl hr) (rS (t9 (K:=K) rfl) (pv 1) (pv 0) (λ_ _=>rfl)) (vH (K:=K) rfl M.c_NOTHING) (Fk _)))) (λ_ _ _ _=>(pv 0))) rJ (λ_ _=>rfl)))),?_⟩;refine⟨_,rfl,w,rfl,⟨_,y⟩,?_⟩;refine vc (xs:=b.map V.int) (λi p o=>o=H/\p=((b.take i).filter λt=>decide (EM.at0 d t≠0)).map V.int)
  ⟨rfl,rfl⟩ (λi p o _ g=>by rw[g.1];exact y) (λi x p o m g=>?_) (λp o g W L=>?_)
 ·obtain⟨rfl,rfl⟩:=g;rw[bZ]at m
  cases e:b[i]? with
  | none=>rw[e]at m;cases m
  | some t=>
   rw[e]at m;have G:V.int t=x:=Option.some.inj m;subst G;have C:=j t (cz e);have J:t.toNat<d.length:=by omega
   have S:(fr D d)[t.toNat]?=some (FQ.red (EM.at0 d t) D):=by
    unfold fr EM.at0;rw[bZ,bR,bT J];rfl
   obtain⟨v,hv,hF⟩:=Paired.get R S;refine⟨_,rfl,_,rfl,l,I,t,v,rfl,rfl,n,tL C.1 hv,λc0 T=>?_⟩;refine⟨dF (FQ.red (EM.at0 d t) D),dF (0,1),hF.rep,IsF.rep ⟨c0,rfl,T _⟩,sP _,sP _,_,rfl,?_⟩;rw[vn,cv,e,gm,cb];have B:(((b.take i).filter λt=>decide (EM.at0 d t≠0)).map V.int).length<sizeLine:=by
    rw[bP];have h1:=dC (λt=>decide (EM.at0 d t≠0)) (b.take i);rw[cf]at h1;exact Fh (by omega)
   refine II (λc=>?_) (λc=>?_)
   ·have k:EM.at0 d t≠0:=λz=>c ((sJ (by omega)).mpr z);refine⟨_,rfl,B,rfl,?_⟩;simp[k]
   ·have k:EM.at0 d t=0:=(sJ (by omega)).mp c;refine⟨rfl,?_⟩;simp[k]
 ·obtain⟨rfl,rfl⟩:=g;rw[bP,cI];obtain⟨t,Z,k⟩:=u;have O:t∈b.filter λt=>decide (EM.at0 d t≠0):=dw.mpr ⟨Z,decide_eq_true k⟩;have hh:(b.filter λt=>decide (EM.at0 d t≠0))[0]?=some (EM.best d b):=by
   unfold EM.best
   cases Y:b.filter λt=>decide (EM.at0 d t≠0)with
   | nil=>rw[Y]at O;cases O
   | cons a r=>rfl
  refine⟨W,_,0,_,rfl,rfl,SqL.of rF,sO (by rw[bZ,hh];rfl),q _ (mH L _)⟩
theorem Gs:Fj ["dishes","left"] ["dishes","left"] (Fg (Fm 25)):=⟨rfl,rfl,rfl,by decide +kernel,rfl,by decide +kernel,by decide +kernel⟩
theorem IE(M:Md K mg x cB)
  (Gtimes:Dn P w K mg base Ft 3 "times" ["one","two"] (IU KA K))
  (Gleast:Dn P w K mg base Ft 2 "least" ["parts"] (Jt K)):Dn P w K mg base Ft 4 "time_to_stop" ["dishes","left"] (KU K):=by
 have nd:=(Gs).nd
 refine M.f_time_to_stop.ok Gs (λvs H Q E h=>?_) (λ_ _ _ _ _ _ us L=>HZ (λ_ _=>rfl) us L) (λf ai A ah s H vs Q E hr h=>?_)
 ·obtain⟨d,l,b,ms,D,gs,rfl,z,L,hg,X,U,G,aa,o,I,q⟩:=h
  rfl
 obtain⟨d,l,b,ms,D,gs,rfl,z,L,hg,X,U,G,aa,o,I,q⟩:=h
 refine⟨_,(rK (rQ (sh Gleast hr (by decide) rfl Fn (lg (sU rfl (N:=["thing","dishes","left"]) (caps:=[none,some 0,some 1]) (CompOk.of (by kernel_rfl)) (sq rfl) (tD (pv 0)) (λ_ _ _ _=>(rV (i:=0) (show(["thing","dishes","left"]:List Str).Nodup by decide +kernel) rfl (Or.inl rfl) (Or.inr rfl))) (λ_ _ _ _=>sS) (λ_ _ _ _=>(sh Gtimes hr (by decide) rfl Fn (lg (rS (t9 (K:=K) rfl) (pv 2) (pv 0) (λ_ _=>rfl)) (lg (sx (lg rJ (lg (Dv (K:=K) rfl cu kR kS (xW (K:=K) rfl) (pv 1) (lg (pv 0) rH)) rH))) rH))))) rH)))),?_⟩
 refine⟨_,rfl,d,rfl,⟨_,z⟩,?_⟩
 refine tz (xs:=b.map V.int) (λi y c=>Same H c/\cT (IsF K c) y ((b.take i).map (FR D b ms)))
  ⟨Same.refl _,.nil⟩ (λi y c _ B=>B.1.seq z) (λi x y c J B=>?_) (λy c B Y ae=>?_)
 ·obtain⟨k,j⟩:=B
  rw[bZ]at J
  cases u:b[i]? with
  | none=>rw[u]at J;cases J
  | some t=>
   rw[u]at J
   have ab:V.int t=x:=Option.some.inj J
   subst ab
   have R:=cz u
   have g:=o t R
   have ad:t.toNat<ms.length:=by omega
   have ag:(fr D ms)[t.toNat]?=some (FQ.red (EM.at0 ms t) D):=by
    unfold fr EM.at0
    rw[bZ,bR,bT ad]
    rfl
   have af:=I _ (EM.at0_mem (ms:=ms) g.1 g.2)
   have W:=EM.cnt_pos R
   have ac:=EM.cnt_le b t
   obtain⟨v,O,va,rfl,hF⟩:=Paired.get hg ag
   refine⟨_,rfl,_,rfl,l,gs,t,_,rfl,rfl,k.seq L,tL g.1 O,?_⟩
   refine⟨_,rfl,.inl ⟨rfl,_,k.seq z⟩,_,rfl,d,b,t,rfl,rfl,k.seq z,by show 2<=sizeLine;decide,λp hp=>?_⟩
   have r:Same c (upd c p (.tup [.int 1,.int (b.count t:Nat)])):=mH hp _
   have S:upd c p (.tup [.int 1,.int (b.count t:Nat)]) p=some (.tup [.int 1,.int (b.count t:Nat)]):=rF
   generalize upd c p (.tup [.int 1,.int (b.count t:Nat)])=H2 at r S ⊢
   have C:=Paired.len j
   rw[bP,cf]at C
   have T:D≠0:=by omega
   have aj:EM.cnt b t=(b.count t:Nat):=rfl
   refine⟨va,p,FQ.red (EM.at0 ms t) D,(1,EM.cnt b t),rfl,(k.trans r).tup hF,SqT.of S,(uc (n:=30) T (by omega) (by omega)).up (by decide),Sz.up (m:=30) ⟨by show(1:Int).natAbs<2^30;decide,by show(EM.cnt b t).natAbs<2^30;omega,by show EM.cnt b t≠0;omega⟩ (by decide),λpf H3 S3 Z=>⟨Fh (by omega),k.trans (r.trans S3),?_⟩⟩
   rw[cv,u,cb]
   refine Paired.app (rX (r.trans S3) j) (.cons ⟨pf,rfl,?_⟩ .nil)
   have e:FR D b ms t=KA (FQ.red (EM.at0 ms t) D) (1,EM.cnt b t):=by
    unfold FR
    rw[AL (vx T) (AQ (a:=1) (D:=EM.cnt b t) (by omega)),gJ]
   rw[e]
   exact SqT.of Z
 ·obtain⟨k,j⟩:=B
  rw[bP,cI]at j
  have C:=Paired.len j
  rw[bP]at C
  have r:Same c (upd c Y (.lst y)):=mH ae _
  refine⟨Y,y,b.map (FR D b ms),rfl,SqL.of rF,rX r j,by simpa using G,by rw[bP];omega,λp hp=>?_,λv O=>?_⟩
  ·obtain⟨t,ht,rfl⟩:=cP.mp hp
   have g:=o t ht
   have af:=I _ (EM.at0_mem (ms:=ms) g.1 g.2)
   have W:=EM.cnt_pos ht
   have ac:=EM.cnt_le b t
   have h1:0<D*EM.cnt b t:=im X W
   have h2:D*EM.cnt b t<=262144*6:=iY U (by omega) (by omega) (by decide)
   exact(uc (n:=30) (by omega) (by omega) (by omega)).up (by decide)
  ·rw[Ac X G]at O
   exact q v _ (k.trans r) O
theorem GH:Fj ["dishes","left","length"] ["dishes","left","length"] (Fg (Fm 26)):=⟨rfl,rfl,rfl,by decide +kernel,rfl,by decide +kernel,by decide +kernel⟩
theorem IP(M:Md K mg x cB)
  (Gminus:Dn P w K mg base Ft 3 "minus" ["one","two"] (IU Kg K))
  (Gtimes:Dn P w K mg base Ft 3 "times" ["one","two"] (IU KA K)):Dn P w K mg base Ft 4 "left_behind" ["dishes","left","length"] (KQ K):=by
 have nd:=(GH).nd
 refine M.f_left_behind.ok GH (λvs H Q E h=>?_) (λ_ _ _ _ _ _ us r=>Lc (λ_ _ _=>rfl) us r) (λf ap A aj s H vs Q E hr h=>?_)
 ·obtain⟨d,l,p,b,ms,D,c,m,gs,rfl,hd,r,hg,hp,hD,Z,Y,ae,u,ag,ad,ac,W,q⟩:=h
  rfl
 obtain⟨d,l,p,b,ms,D,c,m,gs,rfl,hd,r,hg,hp,hD,Z,Y,ae,u,ag,ad,ac,W,q⟩:=h
 refine⟨_,(rK (rQ (sU rfl (N:=["thing","part","dishes","length"]) (caps:=[none,none,some 0,some 2]) (CompOk.of (by kernel_rfl)) (zF (tQ sW (sq rfl) (tQ sW (sq rfl) xA))) (BK rfl M.b_enumerate (lg (pv 1) rH)) (λ_ _ _ _=>(xb (K:=K) rfl 2 rfl (sG (rV (i:=0) (show(["thing","part","dishes","length"]:List Str).Nodup by decide +kernel) rfl (Or.inl rfl) (Or.inr rfl)) (sG (rV (i:=1) (show(["thing","part","dishes","length"]:List Str).Nodup by decide +kernel) rfl (Or.inl rfl) (Or.inr rfl)) uh)))) (λ_ _ _ _=>sS) (λ_ _ _ _=>(sh Gminus hr (by decide) rfl Fn (lg (pv 1) (lg (sh Gtimes hr (by decide) rfl Fn (lg (sx (lg (Dv (K:=K) rfl cu kR kS (xW (K:=K) rfl) (pv 2) (lg (pv 0) rH)) (lg rJ rH))) (lg (pv 3) rH))) rH))))))),?_⟩
 have I:=Paired.len hg
 unfold fr at I
 rw[bP]at I
 have X:D≠0:=by omega
 have ar:0<D*c:=im hD Y
 have an:D*c<=262144*6:=iY Z (by omega) (by omega) (by decide)
 refine⟨_,rfl,l,rfl,⟨_,r⟩,?_⟩
 refine zN (xs:=gs) (λi J e=>Same H e/\cT (IsF K e) J (fr (D*c) (((LM.rng ms.length).take i).map λj=>EM.at0 ms j*c-EM.cnt b j*m)))
  ⟨Same.refl _,.nil⟩ (λi J e _ o=>o.1.seq r) (λi x J e t hx ht o=>?_) (λJ e o Dd z=>?_)
 ·obtain⟨L,g⟩:=o
  have ao:i<gs.length:=(b8.mp hx).1
  obtain⟨y,hy,C,rfl,hF⟩:=Paired.get' hg hx
  have af:=EM.rng_get (n:=ms.length) (k:=i) (by omega)
  have ai:(fr D ms)[i]?=some (FQ.red (EM.at0 ms (i:Int)) D):=by
   unfold fr EM.at0
   rw[bZ,bR,eZ,bT (by omega)]
   rfl
  rw[ai]at hy
  cases hy
  have aq:=W _ (EM.at0_mem (ms:=ms) (t:=(i:Int)) (by omega) (by omega))
  have ah:=EM.cnt_nn b (i:Int)
  have al:=EM.cnt_le b (i:Int)
  have S2:Same e (upd e t (.tup [.int i,.ref C])):=mH ht _
  have R:upd e t (.tup [.int i,.ref C]) t=some (.tup [.int i,.ref C]):=rF
  generalize upd e t (.tup [.int i,.ref C])=O at S2 R ⊢
  have B:=L.trans S2
  refine⟨t,_,rfl,SqT.of R,rfl,_,_,rfl,_,_,rfl,rfl,?_⟩
  refine⟨_,rfl,_,rfl,.inl ⟨rfl,_,B.seq hd⟩,_,rfl,d,b,(i:Int),rfl,rfl,B.seq hd,by show 2<=sizeLine;decide,λv aa=>?_⟩
  have S3:Same O (upd O v (.tup [.int (b.count (i:Int):Nat),.int 1])):=mH aa _
  have U:upd O v (.tup [.int (b.count (i:Int):Nat),.int 1]) v=some (.tup [.int (b.count (i:Int):Nat),.int 1]):=rF
  generalize upd O v (.tup [.int (b.count (i:Int):Nat),.int 1])=H3 at S3 U ⊢
  have G:=B.trans S3
  obtain⟨_,e0,ab⟩:=hp
  cases e0
  refine⟨_,rfl,v,p,(EM.cnt b (i:Int),1),FQ.red m (D*c),rfl,SqT.of U,G.tup ab,Sz.up (m:=30) ⟨by show(EM.cnt b (i:Int)).natAbs<2^30;omega,by show(1:Int).natAbs<2^30;decide,by show(1:Int)≠0;decide⟩ (by decide),(uc (n:=30) (by omega) (by omega) (by omega)).up (by decide),λpm H4 S4 T=>?_⟩
  have em:KA (EM.cnt b (i:Int),1) (FQ.red m (D*c))=FQ.red (EM.cnt b (i:Int)*m) (D*c):=by
   rw[AL (AQ (a:=EM.cnt b (i:Int)) (D:=1) (by decide)) (vx (by omega)),jj]
  rw[em]at T
  have ak:0<=EM.cnt b (i:Int)*m:=iX ah u
  have am:EM.cnt b (i:Int)*m<=6*262144:=iY (by omega) (by omega) u (by decide)
  have V:=Paired.len g
  unfold fr at V
  rw[bP,bP,cf,LM.rng_len]at V
  refine⟨C,pm,FQ.red (EM.at0 ms (i:Int)) D,FQ.red (EM.cnt b (i:Int)*m) (D*c),rfl,(G.trans S4).tup hF,SqT.of T,(uc (n:=30) X (by omega) (by omega)).up (by decide),(uc (n:=30) (by omega) (by omega) (by omega)).up (by decide),λpf H5 S5 S=>⟨Fh (by omega),G.trans (S4.trans S5),?_⟩⟩
  rw[xQ X (by omega)]at S
  rw[cv,af]
  unfold fr
  rw[cb,cb]
  exact Paired.app (rX (S2.trans (S3.trans (S4.trans S5))) g) (.cons ⟨pf,rfl,SqT.of S⟩ .nil)
 ·obtain⟨L,g⟩:=o
  rw[I,dz (by rw[LM.rng_len];exact bX _)]at g
  exact q Dd J _ (L.trans (mH z _)) (L.free z) rF (rX (mH z _) g)
theorem GV:Fj ["wishes","left","courses","dishes","length","gone"] ["wishes"] (Fg (Fm 27)):=⟨rfl,rfl,rfl,by decide +kernel,rfl,by decide +kernel,by decide +kernel⟩
theorem Jk(M:Md K mg x cB)
  (Gtotal:Dn P w K mg base Ft 4 "total" ["parts"] (Ku K))
  (Gbest_left:Dn P w K mg base Ft 1 "best_left" ["wish","left"] (KY K))
  (Gtime_to_stop:Dn P w K mg base Ft 4 "time_to_stop" ["dishes","left"] (KU K))
  (Gleft_behind:Dn P w K mg base Ft 4 "left_behind" ["dishes","left","length"] (KQ K)):Dn P w K mg base Ft 5 "courses_of" ["wishes"] (IZ K):=by
 have nd:=(GV).nd
 refine M.f_courses_of.ok GV (λvs H Q E h=>?_) (λ_ _ _ _ _ _ us hl=>KB (λ_=>rfl) us hl) (λf bv A bn s H vs Q E y h=>?_)
 ·obtain⟨a,ws,W,n,rfl,hA,hW,G,q⟩:=h
  rfl
 obtain⟨a,ws,W,n,rfl,hA,hW,G,q⟩:=h
 refine⟨_,(rG (rM (i:=1) nd rfl (Or.inr rfl) (sU rfl (N:=["wish"]) (caps:=[none]) (CompOk.of (by kernel_rfl)) (sq rfl) (tD (pv 0)) (λ_ _ _ _=>(rV (i:=0) (show(["wish"]:List Str).Nodup by decide +kernel) rfl (Or.inl rfl) (Or.inr rfl))) (λ_ _ _ _=>sS) (λ_ _ _ _=>(vH (K:=K) rfl M.c_WHOLE))))
   (rG (rM (i:=2) nd rfl (Or.inl rfl) (sC rH))
   (rG (ux db (rN (v4 y) (sh Gtotal y (by decide) rfl Fn (lg (pv 1) rH)) (uo M.c_NOTHING) (Fk _)) (rG (tw (i:=3) nd rfl rfl rfl rfl (N:=["wish","left"]) (caps:=[none,some 1]) (CompOk.of (by kernel_rfl)) (sq rfl) (tD (pv 0)) (λ_ _ _ _=>(rV (i:=0) (show(["wish","left"]:List Str).Nodup by decide +kernel) rfl (Or.inl rfl) (Or.inr rfl))) (λ_ _ _ _=>sS) (λ_ _ _ _=>(sh Gbest_left y (by decide) rfl Fn (lg (pv 0) (lg (pv 1) rH)))))
   (rG (rM (i:=4) nd rfl (Or.inl rfl) (sh Gtime_to_stop y (by decide) rfl Fn (lg (pv 3) (lg (pv 1) rH))))
   (rG (rM (i:=1) nd rfl (Or.inr rfl) (sh Gleft_behind y (by decide) rfl Fn (lg (pv 3) (lg (pv 1) (lg (pv 4) rH)))))
   (rG (tw (i:=5) nd rfl rfl rfl rfl (N:=["thing","left"]) (caps:=[none,some 1]) (CompOk.of (by kernel_rfl)) (sq rfl) (tD (xP rfl rfl M.b_sorted rfl M.b_set (pv 3))) (λ_ _ _ _=>(rV (i:=0) (show(["thing","left"]:List Str).Nodup by decide +kernel) rfl (Or.inl rfl) (Or.inr rfl))) (λ_ _ _ _=>(uK (rN (DV (K:=K) rfl y) (rS (t9 (K:=K) rfl) (pv 1) (pv 0) (λ_ _=>rfl)) (vH (K:=K) rfl M.c_NOTHING) (Fk _)))) (λ_ _ _ _=>(pv 0)))
   (rK (sw (tO cu cK cL su (pv 2) (lg (sx (lg (pv 4) (lg (pv 3) (lg (sA tG rfl M.b_tuple Boot.«tuple» (lg (pv 5) rH)) rH)))) rH)))))))))
   (rK (rQ (pv 2)))))),?_⟩
 have aW:=Paired.len hW
 have hn:=G.len
 have bx:=G.n1
 have a9:=G.n6
 have aH:(0:Nat)<=sizeLine:=by decide
 refine⟨_,rfl,a,rfl,⟨_,hA⟩,?_⟩
 refine tz (xs:=ws) (λi e H'=>H'=H/\cT (IsF K H) e (fr 1 (fB i 1)))
  ⟨rfl,.nil⟩ (λi e H' _ b=>by rw[b.1];exact hA) (λi x e H' k b=>?_) (λe H' b l0 aq=>?_)
 ·obtain⟨rfl,L⟩:=b
  have br:i<ws.length:=(b8.mp k).1
  have aU:=Paired.len L
  unfold fr at aU
  rw[bP,gn]at aU
  refine λc hc=>⟨Fh (by omega),rfl,?_⟩
  rw[List.replicate_succ']
  unfold fr
  rw[cb]
  exact Paired.app L (.cons ⟨c,rfl,hc _⟩ .nil)
 obtain⟨rfl,L⟩:=b
 rw[aW,hn]at L
 refine⟨aH,λr B=>?_⟩
 have aG:H' r=none:=(mH aq _).free B
 refine⟨λm σ Y=>∃(i:Nat) (l:bV) (X cs:List V) (r3 r4 r5:Option V),m=n-i/\σ=[some (.ref a),some (.ref l),some (.ref r),r3,r4,r5]/\Same H' Y/\EM.Upto W n i/\Y l=some (.lst X)/\cT (IsF K Y) X (fr (EM.st W n i).D (EM.st W n i).ms)/\l≠r/\
   Y r=some (.lst cs)/\cT (IsC K r Y) cs (F0 W n i),
  ⟨_,0,l0,e,[],_,_,_,rfl,rfl,(mH aq _).trans (mH B _),(λi hi=>absurd hi (fW _)),mH B _ _ _ rF,rX ((mH aq _).trans (mH B _)) L,(λz=>by rw[z,rF]at B;cases B),rF,.nil⟩,λm σ Y b=>?_⟩
 obtain⟨i,l,X,cs,r3,r4,r5,rfl,rfl,S1,up,hl,hg,bp,hc,ag⟩:=b
 obtain⟨St,_⟩:=EM.st_ok G i up
 have hD:=St.pos
 have aY:=EM.D_le St a9
 have ai:(EM.st W n i).D≠0:=by omega
 have aR:=St.len
 have ay:∀m∈(EM.st W n i).ms,0<=m/\m<=(EM.st W n i).D:=λm hm=>⟨St.nn m hm,St.le m hm⟩
 have aX:=Paired.len hg
 unfold fr at aX
 rw[bP]at aX
 have aM:=Paired.len ag
 unfold F0 at aM
 rw[bP,eI]at aM
 have bu:=EM.upto_le G up
 refine⟨_,rfl,l,X,fr (EM.st W n i).D (EM.st W n i).ms,rfl,SqL.of hl,hg,λp hp=>?_,by unfold fr;rw[bP];omega,λv H2 R hv=>λc0 bg=>?_⟩
 ·unfold fr at hp
  obtain⟨x,k,rfl⟩:=cP.mp hp
  have:=ay x k
  exact uc ai (by omega) (by omega)
 refine⟨_,_,hv.rep,IsF.rep (p:=(0,1)) ⟨c0,rfl,bg _⟩,sP _,sP _,_,rfl,?_⟩
 rw[vn,Ea ai]
 by_cases hs:(EM.st W n i).ms.sum=0
 ·rw[decide_eq_true ((sJ ai).mpr hs)]
  exact⟨_,rfl,q r cs i H2 (S1.trans R) aG (R _ _ hc) ⟨up,hs⟩ (Paired.mapP ag λ_ _ h=>h.mono R)⟩
 rw[decide_eq_false (λz=>hs ((sJ ai).mp z))]
 refine⟨_,(λbq H' z=>z),?_⟩
 have T:=EM.step_of G up hs
 have ah:=S1.trans R
 have aD:=R _ _ hl
 have au:=rX R hg
 have aj:=R _ _ hc
 have a2:=Paired.mapP ag λ_ _ (h:IsC K r Y _ _)=>h.mono R
 clear hl hg hc ag hv
 have eC:EM.cs W (EM.st W n i)=⟨EM.at0 (EM.st W n i).ms (EM.pick (EM.dishes W (EM.st W n i).ms) (EM.st W n i).ms),(EM.st W n i).D*EM.cnt (EM.dishes W (EM.st W n i).ms) (EM.pick (EM.dishes W (EM.st W n i).ms) (EM.st W n i).ms),EM.dishes W (EM.st W n i).ms,EM.goneOf (EM.dishes W (EM.st W n i).ms) (EM.nextMs (EM.dishes W (EM.st W n i).ms) (EM.st W n i).ms)⟩:=rfl
 have eN:EM.st W n (i+1)=EM.nxt W (EM.st W n i):=rfl
 -- the dishes
 refine⟨_,rfl,a,rfl,⟨_,ah.seq hA⟩,?_⟩
 refine tz (xs:=ws) (λj e Z=>Same H2 Z/\e=((W.take j).map (EM.best (EM.st W n i).ms)).map V.int)
  ⟨Same.refl _,rfl⟩ (λj e Z _ b=>(ah.trans b.1).seq hA) (λj x e Z k b=>?_) (λe Z b g az=>?_)
 ·obtain⟨S,rfl⟩:=b
  obtain⟨aK,y,wa,rfl,ba⟩:=Paired.get' hW k
  have bf:=cz y
  have ax:=G.pm aK bf
  have bs:j<W.length:=(b8.mp y).1
  obtain⟨t,a7,bz,an⟩:=EM.some_left hs
  refine⟨_,rfl,_,rfl,wa,l,aK,(EM.st W n i).ms,(EM.st W n i).D,X,rfl,(ah.trans S).tup ba,SqL.of (S _ _ aD),rX S au,hD,λt U=>by rw[aR];exact LM.mem_rng.mp (ax.mem_iff.mp U),by rw[ax.length_eq,LM.rng_len];omega,⟨t,ax.mem_iff.mpr (LM.mem_rng.mpr ⟨a7,by omega⟩),an⟩,λH4 S4=>⟨Fh (by rw[bP,bP,cf];omega),S.trans S4,?_⟩⟩
  rw[cv,y,cb,cb]
  rfl
 obtain⟨S,rfl⟩:=b
 rw[aW,cI]
 have eD:W.map (EM.best (EM.st W n i).ms)=EM.dishes W (EM.st W n i).ms:=rfl
 rw[eD]
 have aZ:g≠r:=λz=>by rw[z,S _ _ aj]at az;cases az
 have ae:Same H2 (upd Z g (.lst ((EM.dishes W (EM.st W n i).ms).map V.int))):=S.trans (mH az _)
 have ac:upd Z g (.lst ((EM.dishes W (EM.st W n i).ms).map V.int)) g=some (.lst ((EM.dishes W (EM.st W n i).ms).map V.int)):=rF
 generalize upd Z g (.lst ((EM.dishes W (EM.st W n i).ms).map V.int))=H4 at ae ac ⊢
 have aL:=T.dl
 have J:=T.dm
 have a5:0<EM.at0 (EM.st W n i).ms (EM.pick (EM.dishes W (EM.st W n i).ms) (EM.st W n i).ms):=T.m0
 have bk:EM.at0 (EM.st W n i).ms (EM.pick (EM.dishes W (EM.st W n i).ms) (EM.st W n i).ms)<=(EM.st W n i).D:=T.mD
 have a3:0<EM.cnt (EM.dishes W (EM.st W n i).ms) (EM.pick (EM.dishes W (EM.st W n i).ms) (EM.st W n i).ms):=T.c0
 have a1:EM.cnt (EM.dishes W (EM.st W n i).ms) (EM.pick (EM.dishes W (EM.st W n i).ms) (EM.st W n i).ms)<=6:=T.c6
 have bj:EM.dishes W (EM.st W n i).ms≠[]:=λz=>by rw[z]at aL;simp at aL;omega
 -- the time
 refine⟨_,rfl,_,rfl,g,l,EM.dishes W (EM.st W n i).ms,(EM.st W n i).ms,(EM.st W n i).D,X,rfl,SqL.of ac,SqL.of (ae _ _ aD),rX ae au,hD,aY,bj,by omega,λt U=>by rw[aR];exact(J t U).1,ay,λv5 H5 S5 bl=>?_⟩
 obtain⟨C,rfl,aP⟩:=bl
 have ad:=ae.trans S5
 -- what is left
 refine⟨_,rfl,_,rfl,_,rfl,g,l,C,EM.dishes W (EM.st W n i).ms,(EM.st W n i).ms,(EM.st W n i).D,_,_,X,rfl,SqL.of (S5 _ _ ac),SqL.of (ad _ _ aD),rX ad au,⟨C,rfl,aP⟩,hD,aY,a3,a1,ef a5,bk,by omega,by omega,ay,λl6 aE H6 S6 ar aO al=>?_⟩
 have a6:=ad.trans S6
 have ap:l6≠r:=λz=>by rw[z,ad _ _ aj]at ar;cases ar
 change cT (IsF K H6) aE (fr (EM.st W n (i+1)).D (EM.st W n (i+1)).ms)at al
 have aF:=T.S'
 rw[<-eN]at aF
 have a0:(EM.st W n (i+1)).ms.length=n:=aF.len
 have aS:(EM.st W n (i+1)).D≠0:=by have:=aF.pos;omega
 have aT:=S6 _ _ (S5 _ _ ac)
 -- what is gone
 refine⟨_,rfl,g,EM.dishes W (EM.st W n i).ms,rfl,SqL.of aT,λt U=>by have:=(J t U).1;omega,λls u be aa aQ aI=>⟨ls,rfl,⟨_,SqL.of rF⟩,?_⟩⟩
 have I:Same H6 (upd H6 ls (.lst (u.map V.int))):=mH be _
 have aB:upd H6 ls (.lst (u.map V.int)) ls=some (.lst (u.map V.int)):=rF
 generalize upd H6 ls (.lst (u.map V.int))=H7 at I aB ⊢
 have bw:u.length<=6:=EM.nodup_len 6 aQ λt U=>by have:=(J t ((aa t).mp U)).1;omega
 refine wh (xs:=u.map V.int) (λj e O=>O=H7/\e=((u.take j).filter λt=>decide (EM.at0 (EM.st W n (i+1)).ms t=0)).map V.int)
  ⟨rfl,rfl⟩ (λj e O _ b=>by rw[b.1];exact SqL.of aB) (λj x e O k b=>?_) (λe O b pg bi=>?_)
 ·obtain⟨rfl,rfl⟩:=b
  rw[bZ]at k
  cases ak:u[j]? with
  | none=>rw[ak]at k;cases k
  | some t=>
   rw[ak]at k
   have a8:V.int t=x:=Option.some.inj k
   subst a8
   have bh:=(J t ((aa t).mp (cz ak))).1
   have an:t.toNat<(EM.st W n (i+1)).ms.length:=by omega
   have bm:(fr (EM.st W n (i+1)).D (EM.st W n (i+1)).ms)[t.toNat]?=some (FQ.red (EM.at0 (EM.st W n (i+1)).ms t) (EM.st W n (i+1)).D):=by
    unfold fr EM.at0
    rw[bZ,bR,bT an]
    rfl
   obtain⟨v,hv,hF⟩:=Paired.get al bm
   refine⟨_,rfl,_,rfl,l6,aE,t,v,rfl,rfl,SqL.of (I _ _ aO),tL bh.1 hv,λc1 bc=>?_⟩
   refine⟨_,_,(hF.mono I).rep,IsF.rep (p:=(0,1)) ⟨c1,rfl,bc _⟩,sP _,sP _,_,rfl,?_⟩
   rw[vn,cv,ak,gm,cb]
   have a4:(((u.take j).filter λt=>decide (EM.at0 (EM.st W n (i+1)).ms t=0)).map V.int).length<sizeLine:=by
    rw[bP]
    have h1:=dC (λt=>decide (EM.at0 (EM.st W n (i+1)).ms t=0)) (u.take j)
    rw[cf]at h1
    exact Fh (by omega)
   refine FE (λc=>?_) (λc=>?_)
   ·have hz:EM.at0 (EM.st W n (i+1)).ms t=0:=(sJ aS).mp c
    refine⟨_,rfl,a4,rfl,?_⟩
    simp[hz]
   ·have hz:EM.at0 (EM.st W n (i+1)).ms t≠0:=λz=>c ((sJ aS).mpr z)
    refine⟨rfl,?_⟩
    simp[hz]
 obtain⟨rfl,rfl⟩:=b
 rw[bP,cI,EM.gone_eq aa aQ aI (λd hd=>by rw[a0];exact(J d hd).1)]
 have eG:EM.goneOf (EM.dishes W (EM.st W n i).ms) (EM.st W n (i+1)).ms=(EM.cs W (EM.st W n i)).gone:=rfl
 rw[eG]
 have am:Same O (upd O pg (.lst ((EM.cs W (EM.st W n i)).gone.map V.int))):=mH bi _
 have ao:upd O pg (.lst ((EM.cs W (EM.st W n i)).gone.map V.int)) pg=some (.lst ((EM.cs W (EM.st W n i)).gone.map V.int)):=rF
 generalize upd O pg (.lst ((EM.cs W (EM.st W n i)).gone.map V.int))=H9 at am ao ⊢
 have aN:=a6.trans (I.trans am)
 refine⟨_,rfl,.inl ⟨rfl,_,SqL.of (aN _ _ aj)⟩,_,rfl,_,rfl,_,rfl,pg,_,rfl,.inl ⟨SqL.of ao,λo bb=>?_⟩⟩
 refine⟨by show 3<=sizeLine;decide,λpr aV=>?_⟩
 have av:Same H9 (upd (upd H9 o (.tup ((EM.cs W (EM.st W n i)).gone.map V.int))) pr (.tup [.ref C,.ref g,.ref o])):=(mH bb _).trans (mH aV _)
 have aA:upd (upd H9 o (.tup ((EM.cs W (EM.st W n i)).gone.map V.int))) pr (.tup [.ref C,.ref g,.ref o]) o=some (.tup ((EM.cs W (EM.st W n i)).gone.map V.int)):=mH aV _ _ _ rF
 have aC:upd (upd H9 o (.tup ((EM.cs W (EM.st W n i)).gone.map V.int))) pr (.tup [.ref C,.ref g,.ref o]) pr=some (.tup [.ref C,.ref g,.ref o]):=rF
 generalize upd (upd H9 o (.tup ((EM.cs W (EM.st W n i)).gone.map V.int))) pr (.tup [.ref C,.ref g,.ref o])=HB at av aA aC ⊢
 have aw:=aN.trans av
 have ab:Same H6 HB:=I.trans (am.trans av)
 have af:=aw _ _ aj
 refine⟨r,cs,_,rfl,rfl,af,Fh (by omega),?_⟩
 have aJ:=up.snoc hs
 have bo:=EM.upto_le G aJ
 refine⟨n-(i+1),by omega,i+1,l6,aE,cs++[.ref pr],_,_,_,rfl,rfl,(ah.trans aw).over aG _,aJ,by rw[rR ap];exact ab _ _ aO,Paired.mapP al (λ_ _ h=>(h.mono ab).over af),ap,rF,?_⟩
 unfold F0
 rw[fF,cb]
 refine Paired.app (Paired.mapP a2 λ_ _ h=>(h.mono aw).over af) (.cons (IsC.over ?_ af) .nil)
 refine⟨pr,C,g,o,rfl,SqT.of aC,⟨C,rfl,(S6.trans ab).tup aP⟩,ab _ _ aT,SqT.of aA,aZ⟩
theorem Ib:Fj ["courses","person","thing"] ["courses","person","thing"] (Fg (Fm 28)):=⟨rfl,rfl,rfl,by decide +kernel,rfl,by decide +kernel,by decide +kernel⟩
theorem Ky(M:Md K mg x cB)
  (Gtotal:Dn P w K mg base Ft 4 "total" ["parts"] (Ku K)):Dn P w K mg base Ft 5 "eaten_of" ["courses","person","thing"] (Jf K):=by
 have nd:=(Ib).nd
 refine M.f_eaten_of.ok Ib (λvs H Q E h=>?_) (λ_ _ _ _ _ _ us hl=>Lc (λ_ _ _=>rfl) us hl) (λf al A ae s H vs Q E hr h=>?_)
 ·obtain⟨c,cs,W,n,N,p,t,rfl,T,F,G,u,hp,q⟩:=h
  rfl
 obtain⟨c,cs,W,n,N,p,t,rfl,T,F,G,u,hp,q⟩:=h
 refine⟨_,(rK (rQ (sh Gtotal hr (by decide) rfl Fn (lg (sU rfl (N:=["length","dishes","gone","person","thing"]) (caps:=[none,none,none,some 1,some 2]) (CompOk.of (by kernel_rfl)) (zF (tQ sW (sq rfl) (tQ sW (sq rfl) (tQ sW (sq rfl) xA)))) (tD (pv 0)) (λ_ _ _ _=>(xb (K:=K) rfl 3 rfl (sG (rV (i:=0) (show(["length","dishes","gone","person","thing"]:List Str).Nodup by decide +kernel) rfl (Or.inl rfl) (Or.inr rfl)) (sG (rV (i:=1) (show(["length","dishes","gone","person","thing"]:List Str).Nodup by decide +kernel) rfl (Or.inl rfl) (Or.inr rfl)) (sG (rV (i:=2) (show(["length","dishes","gone","person","thing"]:List Str).Nodup by decide +kernel) rfl (Or.inl rfl) (Or.inr rfl)) uh))))) (λ_ _ _ _=>(uK (rN s9 (rS (t9 (K:=K) rfl) (pv 1) (pv 3) (λ_ _=>rfl)) (pv 4) (Fk _)))) (λ_ _ _ _=>(pv 0))) rH)))),?_⟩
 have r:=Paired.len u
 unfold F0 at r
 rw[bP,eI]at r
 have ag:=EM.upto_le F G
 have aa:=F.n6
 refine⟨_,rfl,c,rfl,⟨_,SqL.of T⟩,?_⟩
 refine wh (xs:=cs) (λi B I=>I=H/\i<=N/\∃b,cT (IsF K H) B b/\(∀p∈b,Sz 30 p)/\b.length<=i/\Gw b=FQ.red (EM.et W n i p t) (EM.st W n i).D)
  ⟨rfl,cM _,[],.nil,(λ_ z=>nomatch z),cM _,by show((0:Int),(1:Int))=FQ.red 0 1;exact(vJ (by decide)).symm⟩ (λi B I _ o=>by rw[o.1];exact SqL.of T) (λi x B I hx o=>?_) (λB I o Dd L=>?_)
 ·obtain⟨rfl,_,b,j,k,J,a⟩:=o
  obtain⟨co,Y,Z⟩:=Paired.get' u hx
  obtain⟨C,rfl⟩:=z6 Y
  obtain⟨xa,l,d,g,rfl,h1,h2,h3,h4,_⟩:=Z
  have s:=EM.step_of F (G.mono (cx C)) (G i C)
  have hD:=s.S.pos
  have ad:=EM.D_le s.S aa
  have R:(EM.st W n i).D≠0:=by omega
  have ac:=s.c0
  have ab:=s.c6
  have an:0<(EM.st W n i).D*EM.cn W (EM.st W n i):=im hD ac
  have aj:(EM.st W n i).D*EM.cn W (EM.st W n i)<=262144*6:=iY ad ab (by omega) (by decide)
  have ah:=s.m0
  have am:=s.mD
  have af:(EM.cs W (EM.st W n i)).ds.length=n:=s.dl
  have O:(EM.cs W (EM.st W n i)).D=(EM.st W n i).D*EM.cn W (EM.st W n i):=rfl
  have ai:(EM.cs W (EM.st W n i)).ds=EM.dishes W (EM.st W n i).ms:=rfl
  have X:EM.et W n (i+1) p t=EM.et W n i p t*EM.cn W (EM.st W n i)+if(EM.dishes W (EM.st W n i).ms).getD p 0=t then(EM.cs W (EM.st W n i)).m else 0:=rfl
  have eD:(EM.st W n (i+1)).D=(EM.st W n i).D*EM.cn W (EM.st W n i):=rfl
  have ak:=Paired.len j
  refine⟨xa,_,rfl,h1,rfl,_,_,rfl,_,_,rfl,_,_,rfl,rfl,?_⟩
  refine⟨_,rfl,_,rfl,d,_,_,_,rfl,rfl,SqL.of h3,sO (tV (by omega)),_,rfl,rfl,_,rfl,FE (λe=>?_) (λe=>?_)⟩
  ·have U:(EM.dishes W (EM.st W n i).ms).getD p 0=t:=Kz e
   refine⟨_,rfl,Fh (by omega),rfl,C,b++[FQ.red (EM.cs W (EM.st W n i)).m (EM.cs W (EM.st W n i)).D],Paired.app j (.cons h2 .nil),λz hz=>?_,by rw[cr];simp;omega,?_⟩
   ·rcases cN.mp hz with y|y
    ·exact k z y
    ·rw[bY.mp y,O]
     exact uc (by omega) (by omega) (by omega)
   ·rw[uV,a,O,AR R (by omega),X,if_pos U,eD]
  ·have U:¬(EM.dishes W (EM.st W n i).ms).getD p 0=t:=λz=>e (by show V.int ((EM.dishes W (EM.st W n i).ms).getD p 0)=V.int t;rw[z])
   refine⟨rfl,C,b,j,k,by omega,?_⟩
   rw[a,X,if_neg U,f5,eD,Bf R (by omega)]
 ·obtain⟨rfl,_,b,j,k,J,a⟩:=o
  rw[r]at J a
  refine⟨Dd,B,b,rfl,SqL.of rF,rX (mH L _) j,k,by omega,λv H2 S2 hv=>q v H2 ((mH L _).trans S2) ?_⟩
  rw[<-a]
  exact hv
theorem HU:Fj ["courses","person","count"] ["courses","person","count"] (Fg (Fm 29)):=⟨rfl,rfl,rfl,by decide +kernel,rfl,by decide +kernel,by decide +kernel⟩
theorem KC(M:Md K mg x cB)
  (Geaten_of:Dn P w K mg base Ft 5 "eaten_of" ["courses","person","thing"] (Jf K)):Dn P w K mg base Ft 6 "eaten_by" ["courses","person","count"] (IX K):=by
 have S:=(HU).nd
 refine M.f_eaten_by.ok HU (λvs H Q E h=>?_) (λ_ _ _ _ _ _ G J=>Lc (λ_ _ _=>rfl) G J) (λf O A B s H vs Q E I h=>?_)
 ·obtain⟨c,cs,W,n,N,p,rfl,t,r,y,g,hp,q⟩:=h
  rfl
 obtain⟨c,cs,W,n,N,p,rfl,t,r,y,g,hp,q⟩:=h
 refine⟨_,(rK (rQ (sA tG rfl M.b_tuple Boot.«tuple» (lg (sU rfl (N:=["thing","courses","person"]) (caps:=[none,some 0,some 1]) (CompOk.of (by kernel_rfl)) (sq rfl) (sH rfl M.b_range (lg (pv 2) rH)) (λ_ _ _ _=>(rV (i:=0) (show(["thing","courses","person"]:List Str).Nodup by decide +kernel) rfl (Or.inl rfl) (Or.inr rfl))) (λ_ _ _ _=>sS) (λ_ _ _ _=>(sh Geaten_of I (by decide) rfl Fn (lg (pv 1) (lg (pv 2) (lg (pv 0) rH)))))) rH)))),?_⟩
 have R:=r.n6
 refine⟨_,rfl,(n:Int),rfl,by omega,by omega,?_⟩
 refine ue (n:=n) (λj d e=>Same H e/\cT (IsF K e) d (fr (EM.st W n N).D (((LM.rng n).take j).map (EM.et W n N p))))
  ⟨Same.refl _,.nil⟩ (λj d e F o=>?_) (λd e o C m=>?_)
 ·obtain⟨b,a⟩:=o
  have l:=Paired.len a
  unfold fr at l
  rw[bP,bP,cf,LM.rng_len]at l
  refine⟨_,rfl,_,rfl,_,rfl,c,cs,W,n,N,p,(j:Int),by rw[d2];rfl,b _ _ t,r,y,Paired.mapP g (λ_ _ h=>h.mono b),hp,λv T z L=>⟨Fh (by omega),b.trans z,?_⟩⟩
  rw[cv,EM.rng_get F]
  unfold fr
  rw[cb,cb]
  exact Paired.app (rX z a) (.cons L .nil)
 ·obtain⟨b,a⟩:=o
  rw[dz (by rw[LM.rng_len];exact bX _)]at a
  refine⟨C,d,rfl,.inl ⟨SqL.of rF,λu k=>q (.ref u) _ (b.trans ((mH m _).trans (mH k _))) ⟨u,d,rfl,SqT.of rF,?_⟩⟩⟩
  exact rX ((mH m _).trans (mH k _)) a
theorem JT:Fj ["wishes","courses"] ["wishes"] (Fg (Fm 30)):=⟨rfl,rfl,rfl,by decide +kernel,rfl,by decide +kernel,by decide +kernel⟩
theorem LW(M:Md K mg x cB)
  (Gcourses_of:Dn P w K mg base Ft 5 "courses_of" ["wishes"] (IZ K))
  (Geaten_by:Dn P w K mg base Ft 6 "eaten_by" ["courses","person","count"] (IX K)):Dn P w K mg base Ft 7 "eaten" ["wishes"] (KM K):=by
 have O:=(JT).nd
 refine M.f_eaten.ok JT (λvs H Q E h=>?_) (λ_ _ _ _ _ _ J R=>KB (λ_=>rfl) J R) (λf V A C s H vs Q E y h=>?_)
 ·obtain⟨a,g,W,n,rfl,hA,r,e,q⟩:=h
  rfl
 obtain⟨a,g,W,n,rfl,hA,r,e,q⟩:=h
 refine⟨_,(rG (rM (i:=1) O rfl (Or.inr rfl) (sh Gcourses_of y (by decide) rfl Fn (lg (pv 0) rH)))
   (rK (rQ (sU rfl (N:=["person","wishes","courses"]) (caps:=[none,some 0,some 1]) (CompOk.of (by kernel_rfl)) (sq rfl) (sH rfl M.b_range (lg (rL rW rfl M.b_len cU (lg (pv 0) rH)) rH)) (λ_ _ _ _=>(rV (i:=0) (show(["person","wishes","courses"]:List Str).Nodup by decide +kernel) rfl (Or.inl rfl) (Or.inr rfl))) (λ_ _ _ _=>sS) (λ_ _ _ _=>(sh Geaten_by y (by decide) rfl Fn (lg (pv 2) (lg (pv 0) (lg (rL (vb (K:=K) rfl) rfl M.b_len cU (lg (pv 1) rH)) rH))))))))),?_⟩
 have X:=e.n6
 have U:=Paired.len r
 have Z:=e.len
 refine⟨_,rfl,a,g,W,n,rfl,hA,r,e,λc cs N S l Y G z t=>?_⟩
 refine⟨_,rfl,a,_,rfl,.inl (l.seq hA),(g.length:Int),rfl,by omega,by omega,?_⟩
 have L:((g.length:Nat):Int).toNat=n:=by omega
 rw[L]
 refine ue (n:=n) (λj o m=>Same S m/\cT (RwFT K m (EM.st W n N).D) o ((cp j).map (Gm W n N)))
  ⟨Same.refl _,.nil⟩ (λj o m I p=>?_) (λo m p F k=>?_)
 ·obtain⟨b,d⟩:=p
  have u:=Paired.len d
  rw[bP,eI]at u
  refine⟨_,rfl,_,rfl,_,rfl,a,_,rfl,.inl ((l.trans b).seq hA),c,cs,W,n,N,j,by rw[d2,show g.length=n by omega];rfl,b _ _ G,e,z.up,Paired.mapP t (λ_ _ h=>h.mono b),I,λv H3 B T=>⟨Fh (by omega),b.trans B,?_⟩⟩
  rw[fF,cb]
  exact Paired.app (Paired.mapP d λ_ _ h=>h.mono B) (.cons T .nil)
 ·obtain⟨b,d⟩:=p
  exact q F o N _ (l.trans (b.trans (mH k _))) ((l.trans b).free k) rF z (Paired.mapP d λ_ _ h=>h.mono (mH k _))
theorem GE:Fj ["left","begun","person","thing","part","deal"] ["left","begun"] (Fg (Fm 32)):=⟨rfl,rfl,rfl,by decide +kernel,rfl,by decide +kernel,by decide +kernel⟩
theorem FB{m:Nat}(M:Md K mg x cB)
  (Gdeal_within:Dn P w K mg base Ft m "deal_within" ["left","begun"] (Lw (IJ K) m)):Dn P w K mg base Ft (m+1) "deal_within" ["left","begun"] (IJ K m):=by
 have L:=(GE).nd
 refine M.f_deal_within.ok GE (λvs H Q E h=>?_) (λ_ _ _ _ _ _ us hl=>HZ (λ_ _=>rfl) us hl) (λf al A ai s H vs Q E hr h=>?_)
 ·obtain⟨l,b,r,e,T,n,k,a,rfl,I,J,u,F,ad,ag,q0,q1⟩:=h
  rfl
 obtain⟨l,b,r,e,T,n,k,a,rfl,I,J,u,F,ad,ag,q0,q1⟩:=h
 refine⟨_,(rG (rM (i:=2) L rfl (Or.inl rfl) (rL rW rfl M.b_len cU (lg (pv 1) rH)))
   (rG (sk (rN s9 (pv 2) (rL rW rfl M.b_len cU (lg (pv 0) rH)) (Fk _)) (rK (rQ (pv 1))) rO)
   (rG (tP db rfl (BK rfl M.b_enumerate (lg (rS rZ (pv 0) (pv 2) (λ_ _=>rfl)) rH)) (xO rfl (sG (rV (i:=3) L rfl (Or.inl rfl)) (sG (rV (i:=4) L rfl (Or.inl rfl)) uh))) (rK (sk (PW.pt (uD (rN (v4 hr) (pv 4) (uo M.c_NOTHING) (Fk _)) (uF (rN tK (pv 3) (pv 1) (by with_unfolding_all rfl))))) (rG (rM (i:=5) L rfl (Or.inl rfl) (sh Gdeal_within hr (bX _) rfl Fn (lg (pv 0) (lg (rP Bq (pv 1) (sx (lg (pv 3) rH))) rH))))
   (rK (sk (rN Ca (pv 5) uE (Fk _)) (rK (rQ (pv 5))) rO))) rO)))
   (rK (rQ uE))))),?_⟩
 have am:=Paired.len J
 have ak:=u.hi
 have aj:=u.len
 have hT:=u.t0
 have W:(a.map V.int).length=a.length:=bP _
 refine⟨_,rfl,b,_,rfl,.inr F,?_⟩
 refine⟨_,rfl,_,rfl,l,r,rfl,.inl I,rfl,_,rfl,FE (λc=>?_) (λc=>?_)⟩
 ·have c':(a.map V.int).length=r.length:=by have:=Kz c;omega
  have ac:k=0:=by omega
  subst ac
  exact⟨_,rfl,q1 a rfl b H (Same.refl _) F⟩
 have c':a.length≠r.length:=λz=>c (by show V.int _=V.int _;rw[W,z])
 obtain⟨k,rfl⟩:∃k',k=k'+1:=⟨k-1,by omega⟩
 obtain⟨m,rfl⟩:∃m',m=m'+1:=⟨m-1,by omega⟩
 have D:a.length<e.length:=by omega
 obtain⟨rv,aa,ra,gs,rfl,Y,C⟩:=Paired.get J (bT D)
 have ab:=u.cols _ (cm D)
 have eM:e.getD a.length []=e[a.length]:=HM.getD_lt D
 have Z:∀t,HM.ent e a.length t=(e[a.length]).getD t 0:=λt=>by unfold HM.ent;rw[eM]
 generalize e[a.length]=o at C ab Z
 have af:=Paired.len C
 rw[zB]at af
 refine⟨_,rfl,_,rfl,l,r,_,_,rfl,rfl,I,by rw[W];exact sO aa,ra,rfl,⟨_,Y⟩,?_⟩
 refine CL (xs:=gs) (λi O j=>Same H j/\(cp i).findSome? (λt=>if HM.ent e a.length t≠0/\(t:Int)∉a then HM.within e k (a++[(t:Int)])else none)=none/\∃r3 r4 r5,O=[some (.ref l),some (.ref b),some (.int (a.map V.int).length),r3,r4,r5])
  ⟨Same.refl _,rfl,_,_,_,rfl⟩ (λi O j _ B=>B.1.seq Y) (λi v O j t hv ht B=>?_) (λO j B=>?_)
 ·obtain⟨S1,g,r3,r4,r5,rfl⟩:=B
  have hi:i<o.length:=by
   have:=(b8.mp hv).1
   omega
  obtain⟨p,hp,hF⟩:=Paired.get' C hv
  rw[Bh hi]at hp
  cases hp
  have y:Same H (upd j t (.tup [.int i,v])):=S1.trans (mH ht _)
  have X:upd j t (.tup [.int i,v]) t=some (.tup [.int i,v]):=rF
  generalize upd j t (.tup [.int i,v])=N at y X ⊢
  refine⟨t,_,rfl,SqT.of X,rfl,_,_,rfl,_,_,rfl,rfl,?_⟩
  refine⟨_,rfl,λc0 ae=>⟨dF (FQ.red (o.getD i 0) T),dF (0,1),(hF.mono y).rep,IsF.rep ⟨c0,rfl,ae _⟩,sP _,sP _,_,rfl,?_⟩⟩
  rw[vn]
  refine II (λc1=>?_) (λc1=>?_)
  case refine_2=>
   have hz:o.getD i 0=0:=(sJ (by omega)).mp c1
   refine⟨y,?_,_,_,_,rfl⟩
   rw[LN.findSome_snoc g,if_neg (λz=>z.1 (by rw[Z];exact hz))]
  have hz:o.getD i 0≠0:=λz=>c1 ((sJ (by omega)).mpr z)
  refine⟨_,rfl,_,rfl,b,_,rfl,.inr (y.tup F),rfl,vO _,_,rfl,?_⟩
  show if(!Jv (.int (i:Int)) (a.map V.int))=true then _ else _
  rw[xH]
  refine II (λc2=>?_) (λc2=>?_)
  case refine_2=>
   refine⟨y,?_,_,_,_,rfl⟩
   rw[LN.findSome_snoc g,if_neg (λz=>z.2 c2)]
  have R:HM.ent e a.length i≠0/\(i:Int)∉a:=⟨by rw[Z];exact hz,c2⟩
  refine⟨_,rfl,_,rfl,_,rfl,by show 1<=sizeLine;decide,λG ah=>?_⟩
  have S3:Same N (upd N G (.tup [.int i])):=mH ah _
  have S:SqT K (upd N G (.tup [.int i])) G (([(i:Int)]:List Int).map V.int):=SqT.of rF
  generalize upd N G (.tup [.int i])=H3 at S3 S ⊢
  have U:=y.trans S3
  refine EJ (U.tup F) S (by simp;omega) λp4 H4 S4 h4=>?_
  have q:=U.trans S4
  refine⟨l,p4,r,e,T,n,k,a++[(i:Int)],rfl,q.seq I,Paired.mapP J (λ_ _ h=>h.mono q),u,h4,by rw[cr];simp;omega,by omega,λe5 H5 S5=>?_,λd e5 p5 H5 S5 h5=>?_⟩
  ·refine⟨_,rfl,rfl,_,rfl,Fv ?_⟩
   refine⟨q.trans S5,?_,_,_,_,rfl⟩
   rw[LN.findSome_snoc g,if_pos R]
   exact e5
  ·refine⟨_,rfl,rfl,_,rfl,FH ?_⟩
   refine⟨_,rfl,q1 d ?_ p5 H5 (q.trans S5) h5⟩
   show(cp e.length).findSome? _=some d
   exact LN.findSome_up (i:=i+1) (by rw[LN.findSome_snoc g,if_pos R];exact e5) (by omega)
 ·obtain⟨S1,g,r3,r4,r5,rfl⟩:=B
  refine q0 ?_ _ S1
  show(cp e.length).findSome? _=none
  rw[show e.length=gs.length by omega]
  exact g
theorem GI:Fj ["row","thing","weight","rest"] ["row","thing","weight"] (Fg (Fm 33)):=⟨rfl,rfl,rfl,by decide +kernel,rfl,by decide +kernel,by decide +kernel⟩
theorem IR(M:Md K mg x cB)
  (Gminus:Dn P w K mg base Ft 3 "minus" ["one","two"] (IU Kg K)):Dn P w K mg base Ft 4 "row_without" ["row","thing","weight"] (LF K):=by
 have Y:=(GI).nd
 refine M.f_row_without.ok GI (λvs H Q E h=>?_) (λ_ _ _ _ _ _ U hl=>Lc (λ_ _ _=>rfl) U hl) (λf aa A S s H vs Q E Z h=>?_)
 ·obtain⟨r,w,a,m,t,T,x,rfl,d,j,R,⟨hT,y⟩,⟨c,O⟩,G,⟨B,u⟩,⟨L,J⟩,q⟩:=h
  rfl
 obtain⟨r,w,a,m,t,T,x,rfl,d,j,R,⟨hT,y⟩,⟨c,O⟩,G,⟨B,u⟩,⟨L,J⟩,q⟩:=h
 refine⟨_,(rG (rM (i:=3) Y rfl (Or.inl rfl) (sA sV rfl M.b_list Boot.«list» (lg (pv 0) rH)))
   (rG (vv (sh Gminus Z (by decide) rfl Fn (lg (rS rZ (pv 0) (pv 1) (λ_ _=>rfl)) (lg (pv 2) rH))) (wz (pv 3) (pv 1) vE))
   (rK (rQ (pv 3))))),?_⟩
 have g:T≠0:=by omega
 have C:=Paired.len j
 rw[zB]at C
 obtain⟨_,W,z⟩:=id R
 cases W
 have F:t.toNat<m.length:=by omega
 refine⟨_,rfl,r,a,rfl,.inl d,λp hp=>?_⟩
 have b:Same H (upd H p (.lst a)):=mH hp _
 have l:upd H p (.lst a) p=some (.lst a):=rF
 generalize upd H p (.lst a)=H1 at b l ⊢
 obtain⟨v,hv,X,rfl,I⟩:=Paired.get j (Bh (D:=T) F)
 refine⟨_,rfl,_,rfl,r,a,t,_,rfl,rfl,b.seq d,tL c hv,_,rfl,X,w,_,_,rfl,b.tup I,b.tup z,v9 g (by omega) (by omega),v9 g (by omega) (by omega),λV H2 o k=>?_⟩
 rw[Ct g]at k
 have n:=o _ _ l
 have N:K5 a.length t=some t.toNat:=by
  unfold K5
  rw[if_pos c,if_pos (by omega)]
 refine⟨_,rfl,_,rfl,p,_,_,_,rfl,rfl,n,N,?_⟩
 refine⟨_,rfl,q p _ _ ((b.trans o).over hp _) hp rF ?_⟩
 have e:fr T (LM.addOne m t (-x))=(fr T m).set t.toNat (FQ.red (m.getD t.toNat 0-x) T):=by
  unfold fr LM.addOne
  rw[lb,mS]
 rw[e]
 exact Paired.mapP (wY (rX (b.trans o) j) ⟨V,rfl,SqT.of k⟩) λ_ _ h=>h.over n
theorem Ir:Fj ["table","left","spent","lots","deal","weight"] ["table"] (Fg (Fm 34)):=⟨rfl,rfl,rfl,by decide +kernel,rfl,by decide +kernel,by decide +kernel⟩
theorem K3(M:Md K mg x cB)
  (Gdeal_within:Dn P w K mg base Ft 7 "deal_within" ["left","begun"] (IJ K 6))
  (Gleast:Dn P w K mg base Ft 2 "least" ["parts"] (Jt K))
  (Grow_without:Dn P w K mg base Ft 4 "row_without" ["row","thing","weight"] (LF K))
  (Gplus:Dn P w K mg base Ft 3 "plus" ["one","two"] (IU GZ K)):Dn P w K mg base Ft 8 "lots_of" ["table"] (JG K):=by
 have nd:=(Ir).nd
 refine M.f_lots_of.ok Ir (λvs H Q E h=>?_) (λ_ _ _ _ _ _ us hl=>KB (λ_=>rfl) us hl) (λf bm A bh s H vs Q E hr h=>?_)
 ·obtain⟨a,us,Z,T,n,rfl,hA,hZ,ok,q⟩:=h
  rfl
 obtain⟨a,us,Z,T,n,rfl,hA,hZ,ok,q⟩:=h
 refine⟨_,(rG (tw (i:=1) nd rfl rfl rfl rfl (N:=["row"]) (caps:=[none]) (CompOk.of (by kernel_rfl)) (sq rfl) (tD (pv 0)) (λ_ _ _ _=>(rV (i:=0) (show(["row"]:List Str).Nodup by decide +kernel) rfl (Or.inl rfl) (Or.inr rfl))) (λ_ _ _ _=>sS) (λ_ _ _ _=>(sA (xx (K:=K) rfl) rfl M.b_list Boot.«list» (lg (pv 0) rH))))
   (rG (rM (i:=2) nd rfl (Or.inl rfl) (uo M.c_NOTHING))
   (rG (rM (i:=3) nd rfl (Or.inl rfl) (sC rH))
   (rG (ux db (rN (v4 hr) (pv 2) (uo M.c_WHOLE) (Fk _)) (rG (rM (i:=4) nd rfl (Or.inl rfl) (sh Gdeal_within hr (by decide) rfl Fn (lg (pv 1) (lg (sx rH) rH))))
   (rG (rM (i:=5) nd rfl (Or.inr rfl) (sh Gleast hr (by decide) rfl Fn (lg (sU rfl (N:=["row","thing"]) (caps:=[none,none]) (CompOk.of (by kernel_rfl)) (zF (tQ sW (sq rfl) (tQ sW (sq rfl) xA))) (Dl rfl M.b_zip (lg (pv 1) (lg (pv 4) rH))) (λ_ _ _ _=>(xb (K:=K) rfl 2 rfl (sG (rV (i:=0) (show(["row","thing"]:List Str).Nodup by decide +kernel) rfl (Or.inl rfl) (Or.inr rfl)) (sG (rV (i:=1) (show(["row","thing"]:List Str).Nodup by decide +kernel) rfl (Or.inl rfl) (Or.inr rfl)) uh)))) (λ_ _ _ _=>sS) (λ_ _ _ _=>(rS (t9 (K:=K) rfl) (pv 0) (pv 1) (λ_ _=>rfl)))) rH)))
   (rG (tw (i:=1) nd rfl rfl rfl rfl (N:=["row","thing","weight"]) (caps:=[none,none,some 5]) (CompOk.of (by kernel_rfl)) (zF (tQ sW (sq rfl) (tQ sW (sq rfl) xA))) (Dl rfl M.b_zip (lg (pv 1) (lg (pv 4) rH))) (λ_ _ _ _=>(xb (K:=K) rfl 2 rfl (sG (rV (i:=0) (show(["row","thing","weight"]:List Str).Nodup by decide +kernel) rfl (Or.inl rfl) (Or.inr rfl)) (sG (rV (i:=1) (show(["row","thing","weight"]:List Str).Nodup by decide +kernel) rfl (Or.inl rfl) (Or.inr rfl)) uh)))) (λ_ _ _ _=>sS) (λ_ _ _ _=>(sh Grow_without hr (by decide) rfl Fn (lg (pv 0) (lg (pv 1) (lg (pv 2) rH))))))
   (rG (rM (i:=2) nd rfl (Or.inl rfl) (sh Gplus hr (by decide) rfl Fn (lg (pv 2) (lg (pv 5) rH))))
   (rK (sw (tO cu cK cL su (pv 3) (lg (sx (lg (pv 5) (lg (pv 4) rH))) rH)))))))))
   (rK (rQ (pv 3))))))),?_⟩
 have a3:=Paired.len hZ
 have aG:=ok.lo
 have ay:=ok.hi
 have hT:=ok.t0
 have aU:=ok.t1
 have X:T≠0:=by omega
 have bl:=ok.reg.len
 have ai:(0:Nat)<=sizeLine:=by decide
 refine⟨_,rfl,a,rfl,⟨_,hA⟩,?_⟩
 refine tz (xs:=us) (λi ys G=>Same H G/\cT (λv (m:List Int)=>∃a C,v = .ref a/\G a=some (.lst C)/\cT (IsF K G) C (fr T m)) ys (Z.take i)) ⟨Same.refl _,by rw[dX];exact .nil⟩ (λi ys G _ c=>c.1.seq hA) (λi x ys G W c=>?_) (λys G c l0 aQ=>?_)
 ·obtain⟨S1,af⟩:=c
  obtain⟨r,bf,ta,C,rfl,a7,a4⟩:=Paired.get' hZ W
  have be:=Paired.len af
  rw[cf]at be
  refine⟨_,rfl,ta,C,rfl,.inr (S1.tup a7),λp hp=>⟨Fh (by omega),S1.trans (mH hp _),?_⟩⟩
  rw[cv,bf]
  exact Paired.app (Paired.mapP af λ_ _ ⟨a',ag,e1,e2,e3⟩=>⟨a',ag,e1,mH hp _ _ _ e2,rX (mH hp _) e3⟩) (.cons ⟨p,C,rfl,rF,rX (S1.trans (mH hp _)) a4⟩ .nil)
 obtain⟨S1,af⟩:=c
 rw[a3,cI]at af
 refine λc0 bg=>?_
 refine⟨ai,λL aH=>?_⟩
 have Sl:Same G (upd (upd G l0 (.lst ys)) L (.lst [])):=(mH aQ _).trans (mH aH _)
 have aK:upd (upd G l0 (.lst ys)) L (.lst []) l0=some (.lst ys):=mH aH _ _ _ rF
 have aj:upd (upd G l0 (.lst ys)) L (.lst []) L=some (.lst []):=rF
 have al:G L=none:=(mH aQ _).free aH
 have a1:H L=none:=S1.free al
 generalize upd (upd G l0 (.lst ys)) L (.lst [])=H1 at Sl aK aj ⊢
 refine⟨λm σ J=>∃(i:Nat) (lf sp:bV) (rs ls:List V) (r4 r5:Option V),m=(HM.it Z T i).2.toNat/\σ=[some (.ref a),some (.ref lf),some (.ref sp),some (.ref L),r4,r5]/\Same G J/\(∀j,j<i->(HM.it Z T j).2≠0)/\SqL K J lf rs/\cT (RwFX K J T L) rs (HM.it Z T i).1/\
   IsF K J (.ref sp) (FQ.red (T-(HM.it Z T i).2) T)/\J L=some (.lst ls)/\cT (IsLot K J T) ls (HM.lotsL Z T i),
  ⟨_,0,l0,c0,ys,[],_,_,rfl,rfl,Sl,(λj k=>absurd k (fW _)),SqL.of aK,Paired.mapP af (λ_ _ ⟨a',ag,e1,e2,e3⟩=>⟨a',ag,e1,(λz=>by rw[z,al]at e2;cases e2),Sl _ _ e2,rX Sl e3⟩),⟨c0,rfl,by rw[show T-(HM.it Z T 0).2=0 from Int.sub_self T,vJ X];exact bg _⟩,aj,.nil⟩,λm σ J c=>?_⟩
 clear Sl aK aj
 obtain⟨i,lf,sp,rs,ls,r4,r5,rfl,rfl,S2,aJ,ad,ao,aF,U,aE⟩:=c
 obtain⟨_,e0,ar⟩:=id aF
 cases e0
 have I:=HM.it_ok ok.reg hT aG i aJ
 have a8:=I.r0
 have a9:=I.rT
 refine⟨_,rfl,λc1 bc=>⟨_,_,aF.rep,IsF.rep (p:=(1,1)) ⟨c1,rfl,bc _⟩,sP _,sP _,_,rfl,?_⟩⟩
 rw[vn]
 by_cases hz:(HM.it Z T i).2=0
 ·rw[decide_eq_true (by rw[hz,qo];exact yW X)]
  exact⟨_,rfl,q i L ls J ⟨hz,aJ⟩ (S1.trans S2) a1 U aE⟩
 rw[decide_eq_false (λz=>hz (by have:=(Bi X).mp z;omega))]
 refine⟨_,(λbk G z=>z),?_⟩
 have S:=I.reg.step (by omega) aG
 have eN:(HM.it Z T (i+1))=(LM.addDeal (HM.it Z T i).1 (HM.dealOf (HM.it Z T i).1) (-HM.wOf (HM.it Z T i).1),(HM.it Z T i).2-HM.wOf (HM.it Z T i).1):=rfl
 have eL:HM.lotsL Z T (i+1)=HM.lotsL Z T i++[(HM.wOf (HM.it Z T i).1,HM.dealOf (HM.it Z T i).1)]:=by
  unfold HM.lotsL
  rw[fF,cb]
  rfl
 have aZ:∀j,j<i+1->(HM.it Z T j).2≠0:=λj k=>by
  rcases fe.mp k with z|z
  ·exact aJ j z
  ·rw[z];exact hz
 have bi:i<=60:=by
  have h1:=I.few hz
  have h2:=HM.pn_le ay Z
  have h3:0<=HM.pn n (HM.it Z T i).1:=by
   have:=HM.sm_le (n:=n) (f:=λ_=>0) (g:=λp=>(HM.cnt n λt=>decide (HM.ent (HM.it Z T i).1 p t≠0):Nat)) λp _=>Int.natCast_nonneg _
   rw[HM.sm_zero]at this
   exact this
  omega
 have u:=I.reg
 clear I
 generalize HM.it Z T i=MR at *
 obtain⟨M,R⟩:=MR
 dsimp only at hz S eN eL u a8 a9 ao aF ar ⊢
 have am:=u.len
 have bo:=Paired.len ao
 have aA:=S.pm
 have aq:=aA.len
 have bn:=S.w1
 have bj:=S.wR
 have a0:Nr n T M:=⟨aG,ay,hT,aU,am,u.cols⟩
 -- the deal
 refine⟨_,rfl,ai,λpe a5=>?_⟩
 have S3:Same J (upd J pe (.tup [])):=mH a5 _
 have ax:SqT K (upd J pe (.tup [])) pe (([]:List Int).map V.int):=SqT.of rF
 generalize upd J pe (.tup [])=H3 at S3 ax ⊢
 refine⟨lf,pe,rs,M,T,n,n,[],rfl,S3.seq ad,Paired.mapP ao (λ_ _ h=>(h.mono S3).fl),a0,ax,by simp,by omega,λz=>absurd (S.some.symm.trans z) (by simp),λd ed pd H4 S4 ah=>?_⟩
 rw[S.some]at ed
 cases ed
 have ap:=S3.trans S4
 -- the weight
 have aO:∀p,p<n->HM.ent M p ((HM.dealOf M).getD p 0).toNat<=T:=λp hp=>by
  have hb:=aA.mem.mp (show(HM.dealOf M).getD p 0∈HM.dealOf M by rw[HM.getD_lt (by omega)];exact cm _)
  have h1:=HM.sm_one_le (n:=n) (λi=>u.nn p i) (show((HM.dealOf M).getD p 0).toNat<n by omega)
  rw[u.row p hp]at h1
  omega
 have vl:(HM.valsM M (HM.dealOf M)).length=n:=by unfold HM.valsM;simp[am,aq]
 have av:∀j,j<n->∃B C,rs[j]?=some (.ref B)/\SqL K J B C/\cT (IsF K J) C (fr T (M.getD j [])):=λj k=>by
  obtain⟨rv,ac,B,C,rfl,_,h1,h2⟩:=Paired.get ao (bT (show j<M.length by omega))
  exact⟨B,C,ac,SqL.of h1,by rw[HM.getD_lt (by omega)];exact h2⟩
 have ak:∀j,j<n->(M.getD j []).length=n:=λj k=>by rw[HM.getD_lt (by omega)];exact u.cols _ (cm _)
 have aR:∀j,j<n->0<=(HM.dealOf M).getD j 0/\(HM.dealOf M).getD j 0<n:=λj k=>aA.mem.mp (by rw[HM.getD_lt (by omega)];exact cm _)
 have aL:rs.length=((HM.dealOf M).map V.int).length:=by rw[bP];omega
 refine⟨_,rfl,_,rfl,false,true,lf,pd,rfl,⟨_,ap.seq ad⟩,⟨_,ah⟩,?_⟩
 refine x0 (xs:=rs) (ys:=(HM.dealOf M).map V.int) (λj l b=>Same H4 b/\cT (IsF K b) l (fr T ((HM.valsM M (HM.dealOf M)).take j))) aL ⟨Same.refl _,by rw[dX];exact .nil⟩ (λj l b _ c=>⟨(ap.trans c.1).seq ad,c.1.tup ah⟩) (λj x y l b t W hy ht c=>?_) (λl b c Dd ba=>?_)
 ·obtain⟨S5,o⟩:=c
  have k:j<n:=by have:=(b8.mp W).1;omega
  obtain⟨B,C,ac,h1,h2⟩:=av j k
  rw[ac]at W
  cases W
  rw[tV (by omega)]at hy
  cases hy
  have hb:=aR j k
  have a6:((HM.dealOf M).getD j 0).toNat<(M.getD j []).length:=by rw[ak j k];omega
  have Y:Same b (upd b t (.tup [.ref B,.int ((HM.dealOf M).getD j 0)])):=mH ht _
  have ae:upd b t (.tup [.ref B,.int ((HM.dealOf M).getD j 0)]) t=some (.tup [.ref B,.int ((HM.dealOf M).getD j 0)]):=rF
  generalize upd b t (.tup [.ref B,.int ((HM.dealOf M).getD j 0)])=Hy at Y ae ⊢
  obtain⟨v,hv,hF⟩:=Paired.get h2 (Bh (D:=T) a6)
  have O:=ap.trans (S5.trans Y)
  have au:=Paired.len o
  rw[zB,cf]at au
  refine⟨t,_,rfl,SqT.of ae,rfl,_,_,rfl,_,_,rfl,rfl,?_⟩
  refine⟨_,rfl,_,rfl,B,C,_,v,rfl,rfl,O.seq h1,tL hb.1 hv,Fh (by omega),S5.trans Y,?_⟩
  rw[cv,HM.valsM_get am aq k]
  unfold fr
  rw[cb]
  exact Paired.app (rX Y o) (.cons (hF.mono O) .nil)
 obtain⟨S5,o⟩:=c
 rw[show rs.length=(HM.valsM M (HM.dealOf M)).length by omega,cI]at o
 have Y:Same b (upd b Dd (.lst l)):=mH ba _
 have aT:SqL K (upd b Dd (.lst l)) Dd l:=SqL.of rF
 generalize upd b Dd (.lst l)=H6 at Y aT ⊢
 have aW:HM.valsM M (HM.dealOf M)≠[]:=λz=>by rw[z]at vl;simp at vl;omega
 refine⟨Dd,l,fr T (HM.valsM M (HM.dealOf M)),rfl,aT,rX Y o,(λz=>aW (by unfold fr at z;exact List.map_eq_nil_iff.mp z)),by rw[zB];omega,λp hp=>?_,λv hv=>?_⟩
 ·unfold fr at hp
  obtain⟨x,W,rfl⟩:=cP.mp hp
  obtain⟨j,k,e⟩:=dW.mp W
  have aV:j<n:=by omega
  have e2:=HM.valsM_get am aq aV
  rw[bT k,e]at e2
  have e3:x=HM.ent M j ((HM.dealOf M).getD j 0).toNat:=Option.some.inj e2
  have h1:=aO j aV
  have h2:=u.nn j ((HM.dealOf M).getD j 0).toNat
  rw[<-e3]at h1 h2
  exact v9 X (by omega) (by omega)
 have ew:Iz (fr T (HM.valsM M (HM.dealOf M)))=FQ.red (HM.wOf M) T:=by
  unfold fr HM.wOf
  exact Ad hT aW
 rw[ew]at hv
 obtain⟨wa,rfl,aB⟩:=hv
 have O:=ap.trans (S5.trans Y)
 -- what is left
 refine⟨_,rfl,_,rfl,false,true,lf,pd,rfl,⟨_,O.seq ad⟩,⟨_,(S5.trans Y).tup ah⟩,?_⟩
 refine x0 (xs:=rs) (ys:=(HM.dealOf M).map V.int) (λj l b=>Same H6 b/\cT (RwFX K b T L) l ((LM.addDeal M (HM.dealOf M) (-HM.wOf M)).take j)) aL ⟨Same.refl _,by rw[dX];exact .nil⟩ (λj l b _ c=>⟨(O.trans c.1).seq ad,(S5.trans (Y.trans c.1)).tup ah⟩) (λj x y l b t W hy ht c=>?_) (λl H7 c l7 an=>?_)
 ·obtain⟨S7,o⟩:=c
  have k:j<n:=by have:=(b8.mp W).1;omega
  obtain⟨B,C,ac,h1,h2⟩:=av j k
  rw[ac]at W
  cases W
  rw[tV (by omega)]at hy
  cases hy
  have hb:=aR j k
  have S8:Same b (upd b t (.tup [.ref B,.int ((HM.dealOf M).getD j 0)])):=mH ht _
  have ae:upd b t (.tup [.ref B,.int ((HM.dealOf M).getD j 0)]) t=some (.tup [.ref B,.int ((HM.dealOf M).getD j 0)]):=rF
  generalize upd b t (.tup [.ref B,.int ((HM.dealOf M).getD j 0)])=Hy at S8 ae ⊢
  have ab:=O.trans (S7.trans S8)
  have au:=Paired.len o
  rw[cf,HM.addDeal_len (by omega)]at au
  have h3:=aO j k
  have h4:=u.nn j ((HM.dealOf M).getD j 0).toNat
  refine⟨t,_,rfl,SqT.of ae,rfl,_,_,rfl,_,_,rfl,rfl,?_⟩
  refine⟨_,rfl,_,rfl,_,rfl,B,wa,C,M.getD j [],_,T,HM.wOf M,rfl,ab.seq h1,rX ab h2,⟨wa,rfl,(S7.trans S8).tup aB⟩,⟨hT,aU⟩,⟨hb.1,by rw[ak j k];exact hb.2⟩,by rw[ak j k];exact ay,⟨h4,h3⟩,⟨by omega,by omega⟩,λp ag Hw Sw aX hp aY=>⟨Fh (by omega),S7.trans (S8.trans Sw),?_⟩⟩
  rw[cv,HM.addDeal_get (by omega) (by omega)]
  exact Paired.app (Paired.mapP o λ_ _ h=>h.mono (S8.trans Sw)) (.cons ⟨p,ag,rfl,(λz=>by rw[z,ab _ _ U]at aX;cases aX),hp,aY⟩ .nil)
 obtain⟨S7,o⟩:=c
 rw[dz (by rw[HM.addDeal_len (by omega)];omega)]at o
 have S8:Same H7 (upd H7 l7 (.lst l)):=mH an _
 have aP:upd H7 l7 (.lst l) l7=some (.lst l):=rF
 generalize upd H7 l7 (.lst l)=H8 at S8 aP ⊢
 have aC:=S7.trans S8
 have ab:=O.trans aC
 -- spent
 refine⟨_,rfl,_,rfl,sp,wa,_,_,rfl,ab.tup ar,aC.tup aB,v9 X (by omega) (by omega),v9 X (by omega) (by omega),λpf H9 S9 aS=>?_⟩
 rw[xI X]at aS
 have aM:=ab.trans S9
 -- the lot
 have a2:=aM _ _ U
 have aD:=Paired.len aE
 unfold HM.lotsL at aD
 rw[bP,eI]at aD
 refine⟨_,rfl,.inl ⟨rfl,_,SqL.of a2⟩,_,rfl,_,rfl,by show 2<=sizeLine;decide,λpt bb=>?_⟩
 have SA:Same H9 (upd H9 pt (.tup [.ref wa,.ref pd])):=mH bb _
 have aw:upd H9 pt (.tup [.ref wa,.ref pd]) pt=some (.tup [.ref wa,.ref pd]):=rF
 generalize upd H9 pt (.tup [.ref wa,.ref pd])=HA at SA aw ⊢
 have az:=aM.trans SA
 have aa:=az _ _ U
 refine⟨L,ls,_,rfl,rfl,aa,Fh (by omega),?_⟩
 have aI:=S9.trans SA
 have aN:=aC.trans aI
 refine⟨(R-HM.wOf M).toNat,by omega,i+1,l7,pf,l,ls++[.ref pt],_,_,by rw[eN],rfl,(S2.trans az).over al _,aZ,?_,?_,?_,rF,?_⟩
 ·exact SqL.over (SqL.of (aI _ _ aP)) (λz=>by rw[z]at an;rw[(O.trans S7) _ _ U]at an;cases an)
 ·rw[eN]
  exact Paired.mapP o λ_ _ h=>(h.mono (S8.trans aI)).over aa
 ·rw[eN]
  refine IsF.over ⟨pf,rfl,SqT.of (SA _ _ ?_)⟩ aa
  rw[aS]
  show some (Lq (FQ.red (T-R+HM.wOf M) T))=some (Lq (FQ.red (T-(R-HM.wOf M)) T))
  rw[show T-R+HM.wOf M=T-(R-HM.wOf M)by omega]
 ·rw[eL]
  refine Paired.app (Paired.mapP aE λ_ _ h=>(h.mono az).over aa) (.cons (IsLot.over ⟨pt,wa,pd,rfl,SqT.of aw,⟨wa,rfl,aN.tup aB⟩,((S5.trans Y).trans aN).tup ah⟩ aa) .nil)
theorem I8:Fj ["lots","number","place","so_far"] ["lots","number"] (Fg (Fm 35)):=⟨rfl,rfl,rfl,by decide +kernel,rfl,by decide +kernel,by decide +kernel⟩
theorem Lg(M:Md K mg x cB)
  (Gbefore:Dn P w K mg base Ft 1 "before" ["one","two"] (Iw K))
  (Gplus:Dn P w K mg base Ft 3 "plus" ["one","two"] (IU GZ K)):Dn P w K mg base (GO P w) 4 "picked" ["lots","number"] (JC K x):=by
 have F:=(I8).nd
 refine M.f_picked.okE I8 (λvs H Q E h=>?_) (λ_ _ _ _ _ _ us hl=>HZ (λ_ _=>rfl) us hl) (λf am A ai s H vs Q E G h=>?_)
 ·obtain⟨L,m,B,a,T,n,p,rfl,C,g,l,hm,hz,hp,R,q⟩:=h
  rfl
 obtain⟨L,m,B,a,T,n,p,rfl,C,g,l,hm,hz,hp,R,q⟩:=h
 refine⟨_,(rG (sk (PW.pt (xV (sD (sh Gbefore G (by decide) rfl Fn (lg (pv 1) (lg (uo M.c_NOTHING) rH)))) (wQ (tU (sD (sh Gbefore G (by decide) rfl Fn (lg (pv 1) (lg (uo M.c_WHOLE) rH)))))))) (rK (uf M.x_NoPick rfl (lg rY rH))) rO)
   (rG (rM (i:=2) F rfl (Or.inl rfl) rJ)
   (rG (rM (i:=3) F rfl (Or.inl rfl) (rS sd (rS rZ (pv 0) rJ (λ_ _=>rfl)) rJ (λ_ _=>rfl)))
   (rG (ux rn (tU (sD (sh Gbefore G (by decide) rfl Fn (lg (pv 1) (lg (pv 3) rH))))) (rG (rM (i:=2) F rfl (Or.inl rfl) (rP sL (pv 2) rJ))
   (rK (rM (i:=3) F rfl (Or.inl rfl) (sh Gplus G (by decide) rfl Fn (lg (pv 3) (lg (rS sd (rS rZ (pv 0) (pv 2) (λ_ _=>rfl)) rJ (λ_ _=>rfl)) rH)))))))
   (rK (rQ (rS sd (rS rZ (pv 0) (pv 2) (λ_ _=>rfl)) rJ (λ_ _=>rfl)))))))),?_⟩
 obtain⟨_,W,t⟩:=id hm
 cases W
 have hT:=l.T0
 have o:T≠0:=by omega
 have u:Sz 4000 p:=hz.up (by decide)
 have aa:Sz 4000 ((0,1):Int×Int):=Sz.up (m:=30) ⟨by decide,by decide,by decide⟩ (by decide)
 have ab:Sz 4000 ((1,1):Int×Int):=Sz.up (m:=30) ⟨by decide,by decide,by decide⟩ (by decide)
 refine⟨_,rfl,λc0 ag=>⟨m,c0,p,(0,1),rfl,t,ag _,u,aa,_,rfl,?_⟩⟩
 show if FK p (0,1)=true then _ else _
 refine Lb (λc=>⟨by show 1<=sizeLine;decide,R (.inl c)⟩) (λn0=>?_)
 refine⟨_,rfl,λc1 ad=>⟨m,c1,p,(1,1),rfl,t,ad _,u,ab,_,rfl,?_⟩⟩
 show if(!FK p (1,1))=true then _ else _
 refine Lb (λc=>⟨by show 1<=sizeLine;decide,R (.inr (by simpa using c))⟩) (λX=>?_)
 have af:¬Gn p:=λz=>by
  rcases z with z|z
  ·exact n0 z
  ·rw[z]at X;exact X rfl
 have q:=q af
 have y1:FK p (1,1)=true:=by simpa using X
 have aj:=Paired.len g
 have an:=l.ne
 obtain⟨v0,ac,a0,f0,g0,rfl,h1,h2,h3⟩:=Paired.get g (bT (show 0<a.length by omega))
 refine⟨_,rfl,L,B,0,_,rfl,rfl,C,sO ac,a0,_,0,_,rfl,rfl,h1,rfl,?_⟩
 have e1:cw a 1=(a[0]).1:=by
  have:=cw_succ (bT (show 0<a.length by omega))
  rw[cw_zero,d2]at this
  exact this
 refine⟨λk σ y=>∃(i:Nat) (O:V),k=a.length-i/\i<a.length/\Same H y/\σ=[some (.ref L),some (.ref m),some (.int i),some O]/\IsF K y O (FQ.red (cw a (i+1)) T)/\∀j,j<i->FK p (FQ.red (cw a (j+1)) T)=false,
  ⟨_,0,.ref f0,rfl,by omega,Same.refl _,rfl,by rw[nF,e1];exact h2,λj U=>absurd U (fW _)⟩,λk σ y hP=>?_⟩
 obtain⟨i,O,rfl,D,b,rfl,ae,J⟩:=hP
 obtain⟨N,rfl,r⟩:=ae
 have bd:=l.bd (i:=i+1) D
 have zc:Sz 4000 (FQ.red (cw a (i+1)) T):=v9 o (by omega) (by omega)
 refine⟨_,rfl,_,rfl,m,N,p,FQ.red (cw a (i+1)) T,rfl,b.tup t,r,u,zc,_,rfl,?_⟩
 show if(!FK p (FQ.red (cw a (i+1)) T))=true then _ else _
 refine Lb (λc=>?_) (λc=>?_)
 ·have cn:FK p (FQ.red (cw a (i+1)) T)=false:=by simpa using c
  have d:i+1<a.length:=by
   refine da λz=>?_
   have e:i+1=a.length:=by omega
   rw[e,l.tot,yW o,y1]at cn
   cases cn
  obtain⟨v1,v,S,f1,g1,rfl,Y,k2,k3⟩:=Paired.get g (bT d)
  obtain⟨_,W,ah⟩:=id k2
  cases W
  have wb:=l.w1 _ (cm d)
  have al:=l.w2 _ (cm d)
  refine⟨_,(λak y z=>z),?_⟩
  refine⟨_,rfl,_,_,rfl,rfl,?_⟩
  refine⟨_,rfl,_,rfl,_,rfl,L,B,_,_,rfl,rfl,b.seq C,by show HQ B ((i:Int)+1)=_;exact tL (by omega) (by rw[show((i:Int)+1).toNat=i+1 by omega];exact v),S,_,0,_,rfl,rfl,b.tup Y,rfl,N,f1,_,_,rfl,r,b.tup ah,zc,v9 o (by omega) (by omega),λZ H2 S2 I=>?_⟩
  rw[xI o,<-cw_succ (bT d)]at I
  exact⟨a.length-(i+1),by omega,i+1,.ref Z,rfl,d,b.trans S2,rfl,⟨Z,rfl,SqT.of I⟩,λj U=>by
   rcases fe.mp U with z|z
   ·exact J j z
   ·rw[z];exact cn⟩
 ·have cy:FK p (FQ.red (cw a (i+1)) T)=true:=by simpa using c
  obtain⟨v1,v,S,f1,g1,rfl,Y,k2,k3⟩:=Paired.get g (bT D)
  refine⟨_,rfl,_,rfl,L,B,_,_,rfl,rfl,b.seq C,sO v,S,_,1,_,rfl,rfl,b.tup Y,rfl,?_⟩
  refine q i (.ref g1) y ⟨D,cy,J⟩ b ⟨g1,rfl,?_⟩
  rw[bR,bT D]
  exact b.tup k3
theorem GR:Fj ["value"] ["value"] (Fg (Fm 38)):=⟨rfl,rfl,rfl,by decide +kernel,rfl,by decide +kernel,by decide +kernel⟩
theorem Jn(M:Md K mg x cB):Dn P w K mg base Ft 1 "is_listing" ["value"] (IV K):=by
 have k:=(GR).nd;refine M.f_is_listing.ok GR (λvs H Q E h=>?_) (λ_ _ _ _ _ _ d g=>KB (λ_=>rfl) d g) (λf j A c s H vs Q E l h=>?_)
 ·obtain⟨v,t,rfl,b,q⟩:=h;rfl
 obtain⟨v,t,rfl,b,q⟩:=h;refine⟨_,(rK (rQ (rL AT rfl M.b_isinstance Boot.«isinstance» (lg (pv 0) (lg (sx (lg (t6 rfl M.b_list Boot.«list») (lg (t6 rfl M.b_tuple Boot.«tuple») rH))) rH))))),?_⟩;refine⟨_,rfl,by show 2<=sizeLine;decide,λe a=>?_⟩;exact⟨v,e,t,rfl,SqT.of rF,b.mono (mH a _),q _ (mH a _)⟩
theorem GP:Fj ["rows"] ["rows"] (Fg (Fm 39)):=⟨rfl,rfl,rfl,by decide +kernel,rfl,by decide +kernel,by decide +kernel⟩
theorem Jl(M:Md K mg x cB)
  (Gis_listing:Dn P w K mg base Ft 1 "is_listing" ["value"] (IV K)):Dn P w K mg base Ft 2 "has_people" ["rows"] (J3 K):=by
 have y:=(GP).nd
 refine M.f_has_people.ok GP (λvs H Q E h=>?_) (λ_ _ _ _ _ _ b u=>KB (λ_=>rfl) b u) (λf v A n s H vs Q E r h=>?_)
 ·obtain⟨a,b,rfl,d,q⟩:=h
  rfl
 obtain⟨a,b,rfl,d,q⟩:=h
 refine⟨_,(rK (rQ (uM (sh Gis_listing r (by decide) rfl Fn (lg (pv 0) rH)) (wg (zm A5 A5 rJ (rL rW rfl M.b_len cU (lg (pv 0) rH)) (B9 M.c_MOST_PEOPLE)))))),?_⟩
 have l:∃t,tyOf K H (.ref a) t/\(Ik t "list"||Ik t "tuple")=true:=by
  rcases d with d|d
  ·exact⟨"list",.inl ⟨rfl,_,d⟩,rfl⟩
  ·exact⟨"tuple",.inr ⟨rfl,_,d⟩,rfl⟩
 obtain⟨t,p,o⟩:=l
 refine⟨_,rfl,.ref a,t,rfl,p,λk g=>⟨_,rfl,?_⟩⟩
 rw[o]
 refine FH ?_
 have m:SqL K k a b\/SqT K k a b:=d.imp g.seq g.tup
 refine⟨_,rfl,a,b,rfl,m,_,_,rfl,rfl,_,rfl,?_⟩
 have j:=q k g
 refine FE (λc=>?_) (λc=>?_)
 ·refine⟨_,_,rfl,rfl,?_⟩
  have e:decide ((b.length:Int)<=6)=decide (1<=b.length/\b.length<=6):=by
   apply fS.mpr;simp only[decide_eq_true_eq];omega
  dsimp only
  rw[e]
  exact j
 ·have e:decide (1<=b.length/\b.length<=6)=false:=decide_eq_false (by omega)
  rw[e]at j
  exact j
theorem Ho:Fj ["wish","taken"] ["wish","taken"] (Fg (Fm 41)):=⟨rfl,rfl,rfl,by decide +kernel,rfl,by decide +kernel,by decide +kernel⟩
theorem Kc(M:Md K mg x cB):Dn P w K mg base Ft 1 "best_free" ["wish","taken"] (Jy K):=by
 have I:=(Ho).nd;refine M.f_best_free.ok Ho (λvs H Q E h=>?_) (λ_ _ _ _ _ _ D m=>HZ (λ_ _=>rfl) D m) (λf G A C s H vs Q E J h=>?_)
 ·obtain⟨w,l,a,b,rfl,r,m,v,p,q⟩:=h;rfl
 obtain⟨w,l,a,b,rfl,r,m,v,p,q⟩:=h;refine⟨_,(rK (rQ (rS rZ (sU rfl (N:=["thing","taken"]) (caps:=[none,some 1]) (CompOk.of (by kernel_rfl)) (sq rfl) (v6 (pv 0)) (λ_ _ _ _=>(rV (i:=0) (show(["thing","taken"]:List Str).Nodup by decide +kernel) rfl (Or.inl rfl) (Or.inr rfl))) (λ_ _ _ _=>(uK (rN (uY (K:=K) rfl) (pv 0) (pv 1) (by with_unfolding_all rfl)))) (λ_ _ _ _=>(pv 0))) rJ (λ_ _=>rfl)))),?_⟩;refine⟨_,rfl,w,rfl,⟨_,r⟩,?_⟩;refine vc (xs:=a.map V.int) (λj o n=>n=H/\o=(Gc (a.take j) b).map V.int)
  ⟨rfl,rfl⟩ (λj o n _ d=>by rw[d.1];exact r) (λj y o n e d=>?_) (λo n d F B=>?_)
 ·obtain⟨rfl,rfl⟩:=d;rw[bZ]at e
  cases g:a[j]? with
  | none=>rw[g]at e;cases e
  | some u=>
   rw[g]at e;have z:V.int u=y:=Option.some.inj e;subst z;refine⟨_,rfl,_,rfl,l,_,rfl,m,rfl,vO _,_,rfl,?_⟩;have k:((Gc (a.take j) b).map V.int).length<sizeLine:=by
    rw[bP];have h1:=dC (λt=>!decide (t∈b)) (a.take j);rw[cf]at h1;exact Fh (by unfold Gc;omega)
   show if(!Jv (.int u) (b.map V.int))=true then _ else _
   unfold Gc at k ⊢;rw[xH,cv,g,gm,cb];refine II (λc=>?_) (λc=>?_)
   ·refine⟨_,rfl,k,rfl,?_⟩;simp[c]
   ·refine⟨rfl,?_⟩;simp[c]
 ·obtain⟨rfl,rfl⟩:=d;rw[bP,cI];exact⟨F,_,0,_,rfl,rfl,SqL.of rF,tL (by decide) (by show _=_;rw[show(0:Int).toNat=0 from rfl];rw[bZ,(x6 p).1];rfl),q _ (mH B _)⟩
theorem HW:Fj ["numbers","number"] ["numbers","number"] (Fg (Fm 42)):=⟨rfl,rfl,rfl,by decide +kernel,rfl,by decide +kernel,by decide +kernel⟩
theorem Kk(M:Md K mg x cB):Dn P w K mg base Ft 1 "with_one" ["numbers","number"] (IY K):=by
 have y:=(HW).nd;refine M.f_with_one.ok HW (λvs H Q E h=>?_) (λ_ _ _ _ _ _ n d=>HZ (λ_ _=>rfl) n d) (λf u A m s H vs Q E z h=>?_)
 ·obtain⟨a,k,x,rfl,hA,e,q⟩:=h;rfl
 obtain⟨a,k,x,rfl,hA,e,q⟩:=h;refine⟨_,(rK (rQ (sA tG rfl M.b_tuple Boot.«tuple» (lg (rL (yQ) rfl M.b_sorted Boot.«sorted» (lg (rP Bq (pv 0) (sx (lg (pv 1) rH))) rH)) rH)))),?_⟩;refine⟨_,rfl,_,rfl,by show 1<=sizeLine;decide,λb j=>?_⟩;have c:Same H (upd H b (.tup [.int x])):=mH j _;have h1:SqT K (upd H b (.tup [.int x])) b (([x]:List Int).map V.int):=SqT.of rF;generalize upd H b (.tup [.int x])=B at c h1 ⊢;refine EJ (c.tup hA) h1 (by simp;omega) λo C r h2=>?_;refine⟨o,k++[x],rfl,.inr h2,by simp;omega,λl v d hp t=>?_⟩;refine⟨l,_,rfl,.inl ⟨SqL.of rF,λp g=>q p _ (c.trans (r.trans ((mH d _).trans (mH g _)))) ?_⟩⟩;rw[TM.srt_eq hp t];exact SqT.of rF
theorem GX:Fj ["wishes","gone","taken","people"] ["wishes","gone","taken"] (Fg (Fm 43)):=⟨rfl,rfl,rfl,by decide +kernel,rfl,by decide +kernel,by decide +kernel⟩
theorem Jr(M:Md K mg x cB)
  (Gbest_free:Dn P w K mg base Ft 1 "best_free" ["wish","taken"] (Jy K)):Dn P w K mg base Ft 2 "turns_from" ["wishes","gone","taken"] (J4 K):=by
 have nd:=(GX).nd
 refine M.f_turns_from.ok GX (λvs H Q E h=>?_) (λ_ _ _ _ _ _ us hl=>Lc (λ_ _ _=>rfl) us hl) (λf ai A ad s H vs Q E hr h=>?_)
 ·obtain⟨a,g,t,v,W,n,b,rfl,hA,O,B,Z,Y,I,q⟩:=h
  rfl
 obtain⟨a,g,t,v,W,n,b,rfl,hA,O,B,Z,Y,I,q⟩:=h
 refine⟨_,(rG (tw (i:=3) nd rfl rfl rfl rfl (N:=["person","gone"]) (caps:=[none,some 1]) (CompOk.of (by kernel_rfl)) (sq rfl) (sH rfl M.b_range (lg (rL rW rfl M.b_len cU (lg (pv 0) rH)) rH)) (λ_ _ _ _=>(rV (i:=0) (show(["person","gone"]:List Str).Nodup by decide +kernel) rfl (Or.inl rfl) (Or.inr rfl))) (λ_ _ _ _=>(uK (rN (uY (K:=K) rfl) (pv 0) (pv 1) (by with_unfolding_all rfl)))) (λ_ _ _ _=>(pv 0)))
   (rK (rQ (sU rfl (N:=["person","wishes","taken"]) (caps:=[none,some 0,some 2]) (CompOk.of (by kernel_rfl)) (sq rfl) (tD (pv 3)) (λ_ _ _ _=>(rV (i:=0) (show(["person","wishes","taken"]:List Str).Nodup by decide +kernel) rfl (Or.inl rfl) (Or.inr rfl))) (λ_ _ _ _=>sS) (λ_ _ _ _=>(sx (lg (pv 0) (lg (sh Gbest_free hr (by decide) rfl Fn (lg (rS (t9 (K:=K) rfl) (pv 1) (pv 0) (λ_ _=>rfl)) (lg (pv 2) rH))) rH)))))))),?_⟩
 have ak:=Paired.len O
 have aj:=B.lo
 have ah:=B.hi
 have af:=B.len
 have ae:v.length=n:=by omega
 refine⟨_,rfl,a,v,rfl,.inl hA,_,rfl,by omega,by omega,?_⟩
 refine wV (n:=v.length) (λi e o=>o=H/\e=(((LM.rng n).take i).filter λp=>!decide (p∈b.1)).map V.int) ⟨rfl,rfl⟩ (λi e o hi d=>?_) (λe o d D hD=>?_)
 ·obtain⟨rfl,rfl⟩:=d
  have ac:(LM.rng n)[i]?=some (i:Int):=by unfold LM.rng;rw[bZ,dy (by omega)];rfl
  have S:((((LM.rng n).take i).filter λp=>!decide (p∈b.1)).map V.int).length<sizeLine:=by
   rw[bP]
   have h1:=dC (λp=>!decide (p∈b.1)) ((LM.rng n).take i)
   rw[cf]at h1
   exact Fh (by omega)
  refine⟨_,rfl,_,rfl,g,_,rfl,.inr Z,rfl,vO _,_,rfl,?_⟩
  show if(!Jv (.int (0+(i:Int))) (b.1.map V.int))=true then _ else _
  rw[d2,xH,cv,ac,gm,cb]
  refine II (λc=>?_) (λc=>?_)
  ·refine⟨_,rfl,S,rfl,?_⟩
   simp[c]
  ·refine⟨rfl,?_⟩
   simp[c]
 obtain⟨rfl,rfl⟩:=d
 rw[dz (by rw[LM.rng_len];omega),show qI (λp=>!decide (p∈b.1)) (LM.rng n)=TM.freeP n b.1 from rfl]
 have r:Same o (upd o D (.lst ((TM.freeP n b.1).map V.int))):=mH hD _
 have F:SqL K (upd o D (.lst ((TM.freeP n b.1).map V.int))) D ((TM.freeP n b.1).map V.int):=SqL.of rF
 generalize upd o D (.lst ((TM.freeP n b.1).map V.int))=H2 at r F ⊢
 refine⟨_,rfl,D,rfl,⟨_,F⟩,?_⟩
 refine tz (xs:=(TM.freeP n b.1).map V.int) (λj e z=>Same H2 z/\cT (IsF K z) e ((FJ n W b).take j)) ⟨Same.refl _,by rw[dX];exact .nil⟩ (λj e z _ d=>d.1.seq F) (λj y e z R d=>?_) (λe z d De C=>?_)
 ·obtain⟨m,k⟩:=d
  have hj:j<(TM.freeP n b.1).length:=by have:=(b8.mp R).1;rw[bP]at this;exact this
  obtain⟨p,hp⟩:∃p,(TM.freeP n b.1)[j]?=some p:=⟨_,bT hj⟩
  rw[bZ,hp]at R
  cases R
  have aa:=LM.mem_rng.mp (dw.mp (cz hp)).1
  have u:p.toNat<W.length:=by omega
  have l:=B.pm _ (cm u)
  have eW:W.getD p.toNat []=W[p.toNat]:=HM.getD_lt u
  obtain⟨wv,X,U⟩:=Paired.get O (bT u)
  obtain⟨wa,rfl,J⟩:=U.mono (r.trans m)
  have ab:=Paired.len k
  rw[cf]at ab
  have ag:(TM.freeP n b.1).length<=n:=by
   have h1:=dC (λp=>!decide (p∈b.1)) (LM.rng n)
   rw[LM.rng_len]at h1
   exact h1
  have et:(FJ n W b)[j]?=some (p,Gg W[p.toNat] b.2):=by
   unfold FJ
   rw[bZ,hp]
   show some (p,Gi W p b.2)=_
   unfold Gi
   rw[eW]
  have G:=l.len
  generalize W[p.toNat]=T at J l et G
  refine⟨_,rfl,_,rfl,_,rfl,a,v,_,_,rfl,rfl,(r.trans m).seq hA,tL aa.1 X,_,rfl,wa,t,T,b.2,rfl,J,.inr ((r.trans m).tup Y),by omega,AB l I,λH4 S4=>⟨by show 2<=sizeLine;decide,λpt L=>⟨Fh (by omega),m.trans (S4.trans (mH L _)),?_⟩⟩⟩
  rw[cv,et]
  exact Paired.app (rX (S4.trans (mH L _)) k) (.cons ⟨pt,rfl,SqT.of rF⟩ .nil)
 ·obtain⟨m,k⟩:=d
  rw[dz (by unfold FJ;rw[bP,bP];exact bX _)]at k
  exact q De e _ (r.trans (m.trans (mH C _))) ((r.trans m).free C) rF (rX (mH C _) k)
theorem Hd:Fj ["count","orders","number"] ["count"] (Fg (Fm 44)):=⟨rfl,rfl,rfl,by decide +kernel,rfl,by decide +kernel,by decide +kernel⟩
theorem J7(M:Md K mg x cB):Dn P w K mg base Ft 1 "orders_of" ["count"] (G5):=by
 have b:=(Hd).nd;refine M.f_orders_of.ok Hd (λvs H Q E h=>?_) (λ_ _ _ _ _ _ j l=>KB (λ_=>rfl) j l) (λf m A g s H vs Q E o h=>?_)
 ·obtain⟨k,rfl,hk,q⟩:=h;rfl
 obtain⟨k,rfl,hk,q⟩:=h;refine⟨_,(rG (rM (i:=1) b rfl (Or.inl rfl) rJ)
   (rG (tP db rfl (Bd rfl M.b_range (lg rJ (lg (rP sL (pv 0) rJ) rH))) (rV (i:=2) b rfl (Or.inl rfl)) (rK (rM (i:=1) b rfl (Or.inl rfl) (rP sM (pv 1) (pv 2)))))
   (rK (rQ (pv 1))))),?_⟩
 refine⟨_,rfl,_,_,rfl,rfl,_,_,rfl,⟨by omega,by omega,by omega,by omega⟩,?_⟩;have e:((k:Int)+1-1).toNat=k:=by omega
 show ∃_,_;rw[e];refine sQ (n:=k) (λi d c=>c=H/\∃r,d=[some (.int k),some (.int (TM.fct i)),r]) ⟨rfl,_,rfl⟩ (λi d c p a=>?_) (λd c a=>?_)
 ·obtain⟨rfl,r,rfl⟩:=a;refine⟨_,rfl,_,rfl,_,_,rfl,rfl,LQ (by omega),rfl,some (.int (1+(i:Int))),?_⟩;rw[show TM.fct (i+1)=TM.fct i*(1+(i:Int))by show TM.fct i*((i:Int)+1)=_;rw[qu (i:Int) 1]];rfl
 ·obtain⟨rfl,r,rfl⟩:=a;exact⟨_,rfl,q⟩
theorem Hv:Fj ["wishes","counts","beginnings","turn","endings","longer","beginning","number","person","thing","state"] ["wishes"] (Fg (Fm 45)):=⟨rfl,rfl,rfl,by decide +kernel,rfl,by decide +kernel,by decide +kernel⟩
theorem JR(M:Md K mg x cB)
  (Gorders_of:Dn P w K mg base Ft 1 "orders_of" ["count"] (G5))
  (Gturns_from:Dn P w K mg base Ft 2 "turns_from" ["wishes","gone","taken"] (J4 K))
  (Gwith_one:Dn P w K mg base Ft 1 "with_one" ["numbers","number"] (IY K)):Dn P w K mg base Ft 3 "counts_of" ["wishes"] (Kb P w K):=by
 have R:=(Hv).nd
 refine M.f_counts_of.ok Hv (λvs H Q E h=>?_) (λ_ _ _ _ _ _ us hl=>KB (λ_=>rfl) us hl) (λf bF A bz s H vs Q E hr h=>?_)
 ·obtain⟨a,ws,W,n,rfl,hA,hW,ok,q⟩:=h
  rfl
 obtain⟨a,ws,W,n,rfl,hA,hW,ok,q⟩:=h
 refine⟨_,(rG (rM (i:=1) R rfl (Or.inl rfl) (AA (W:=Ij) (P:=P) (w:=w) (K:=K) rfl rfl rfl))
   (rG (rM (i:=2) R rfl (Or.inl rfl) (Cr (W:=Ih) (P:=P) (w:=w) (K:=K) rfl rfl rfl hr (sx (lg (sx rH) (lg (sx rH) rH))) rJ))
   (rG (tP db rfl (sH rfl M.b_range (lg (rL rW rfl M.b_len cU (lg (pv 0) rH)) rH)) (rV (i:=3) R rfl (Or.inl rfl)) (rG (rM (i:=4) R rfl (Or.inl rfl) (sh Gorders_of hr (by decide) rfl Fn (lg (rP wP (rP wP (rL rW rfl M.b_len cU (lg (pv 0) rH)) (pv 3)) rJ) rH)))
   (rG (rM (i:=5) R rfl (Or.inl rfl) (AA (W:=Ih) (P:=P) (w:=w) (K:=K) rfl rfl rfl))
   (rG (tP db rfl (C1 (W:=Ih) (P:=P) (w:=w) (K:=K) rfl rfl rfl (pv 2)) (xO rfl (sG (rV (i:=6) R rfl (Or.inl rfl)) (sG (rV (i:=7) R rfl (Or.inl rfl)) uh))) (rK (tP db rfl (tD (sh Gturns_from hr (by decide) rfl Fn (lg (pv 0) (lg (rS sd (pv 6) rJ (λ_ _=>rfl)) (lg (rS sd (pv 6) rJ (λ_ _=>rfl)) rH))))) (xO rfl (sG (rV (i:=8) R rfl (Or.inl rfl)) (sG (rV (i:=9) R rfl (Or.inl rfl)) uh))) (rG (vv (rP sL (yZ (W:=Ij) (P:=P) (w:=w) (K:=K) rfl rfl rfl hr (pv 1) (sx (lg (pv 8) (lg (pv 9) rH))) rJ) (rP sM (pv 7) (pv 4))) (wz (pv 1) (sx (lg (pv 8) (lg (pv 9) rH))) (Ez (W:=Ij) (P:=P) (w:=w) (K:=K) rfl rfl rfl hr)))
   (rG (rM (i:=10) R rfl (Or.inl rfl) (sx (lg (sh Gwith_one hr (by decide) rfl Fn (lg (rS sd (pv 6) rJ (λ_ _=>rfl)) (lg (pv 8) rH))) (lg (sh Gwith_one hr (by decide) rfl Fn (lg (rS sd (pv 6) rJ (λ_ _=>rfl)) (lg (pv 9) rH))) rH))))
   (rK (vv (rP sL (yZ (W:=Ih) (P:=P) (w:=w) (K:=K) rfl rfl rfl hr (pv 5) (pv 10) rJ) (pv 7)) (wz (pv 5) (pv 10) (Ez (W:=Ih) (P:=P) (w:=w) (K:=K) rfl rfl rfl hr)))))))))
   (rK (rM (i:=2) R rfl (Or.inl rfl) (pv 5)))))))
   (rK (rQ (pv 1)))))),?_⟩
 have bJ:=Paired.len hW
 have bI:=ok.lo
 have bD:=ok.hi
 have bB:=ok.len
 have bi:ws.length=n:=by omega
 have ad:(0:Nat)<=sizeLine:=by decide
 have u:(2:Nat)<=sizeLine:=by decide
 refine λc H1 a5 aF aK=>?_
 have S1:Same H H1:=by obtain⟨φ,rfl⟩:=aF;exact mH a5 _
 clear aF
 refine λm H2 U aP aJ=>?_
 have ah:H m=none:=S1.free U
 have S2:Same H1 H2:=by obtain⟨φ,rfl⟩:=aP;exact mH U _
 have T:c≠m:=λz=>by obtain⟨φ,e⟩:=aK.ext;rw[z,U]at e;cases e
 clear aP
 refine⟨ad,λD aZ=>⟨ad,λF aM=>⟨u,λp3 am=>?_⟩⟩⟩
 have S3:Same H2 (upd (upd (upd H2 D (.tup [])) F (.tup [])) p3 (.tup [.ref D,.ref F])):=(mH aZ _).trans ((mH aM _).trans (mH am _))
 have aA:SqT K (upd (upd (upd H2 D (.tup [])) F (.tup [])) p3 (.tup [.ref D,.ref F])) p3 [.ref D,.ref F]:=SqT.of rF
 have aE:SqT K (upd (upd (upd H2 D (.tup [])) F (.tup [])) p3 (.tup [.ref D,.ref F])) D (([]:List Int).map V.int):=SqT.of (mH am _ _ _ (mH aM _ _ _ rF))
 have ax:SqT K (upd (upd (upd H2 D (.tup [])) F (.tup [])) p3 (.tup [.ref D,.ref F])) F (([]:List Int).map V.int):=SqT.of (mH am _ _ _ rF)
 generalize upd (upd (upd H2 D (.tup [])) F (.tup [])) p3 (.tup [.ref D,.ref F])=H3 at S3 aA aE ax ⊢
 refine⟨p3,([],[]),1,rfl,rfl,⟨D,F,aA,aE,ax⟩,aJ.mono S3,λH4 ay aQ=>?_⟩
 have a2:=(aJ.mono S3).ext
 have X4:KX [m] H3 H4:=KX.put (λb hb=>by rw[bY.mp hb];exact a2) (bY.mpr rfl) ay
 have av:Same H H4:=X4.same (S1.trans (S2.trans S3)) λb hb=>by rw[bY.mp hb];exact ah
 have aY:DictI Ij P w K H4 c []:=by
  obtain⟨ep,hC⟩:=aK
  exact⟨ep,X4.dict (hC.mono (S2.trans S3)) (λz=>T (bY.mp z))⟩
 clear X4 ay a2 S3 aA aE ax aJ aK S1 S2 aZ aM am U
 refine⟨_,rfl,a,ws,rfl,.inl (av.seq hA),_,rfl,by omega,by omega,?_⟩
 refine sQ (n:=ws.length) (λk G H5=>Same H H5/\∃(m:bV) (C:List (List Int×Int)) (B:List (FL×Int)) (r3 r4 r5 r6 r7 r8 r9 S:Option V),G=[some (.ref a),some (.ref c),some (.ref m),r3,r4,r5,r6,r7,r8,r9,S]/\H m=none/\c≠m/\
   DictI Ij P w K H5 c C/\CI n W k C/\DictI Ih P w K H5 m B/\BI n W k B)
  ⟨av,m,[],_,_,_,_,_,_,_,_,_,rfl,ah,T,aY,CI.zero,aQ,BI.zero⟩ (λk G H5 hk r=>?_) (λG H5 r=>?_)
 ·clear av aY aQ T ah
  obtain⟨S5,m,C,B,r3,r4,r5,r6,r7,r8,r9,S,rfl,U,T,hC,ap,hB,aq⟩:=r
  have bG:k<n:=by omega
  refine⟨_,rfl,a,ws,rfl,.inl (S5.seq hA),_,rfl,_,_,rfl,rfl,_,_,rfl,rfl,n-(k+1),by show[V.int _]=[V.int _];rw[show(ws.length:Int)-(0+(k:Int))-1=((n-(k+1):Nat):Int)by omega],by omega,?_⟩
  have bK:=zg (show n-(k+1)<=6 by omega)
  refine λl H6 an az bw=>?_
  have aS:H l=none:=S5.free an
  have S6:Same H5 H6:=by obtain⟨φ,rfl⟩:=az;exact mH an _
  have aw:c≠l:=λz=>by obtain⟨φ,e⟩:=hC.ext;rw[z,an]at e;cases e
  have bk:m≠l:=λz=>by obtain⟨φ,e⟩:=hB.ext;rw[z,an]at e;cases e
  clear az
  obtain⟨ep,aR⟩:=hB.mono S6
  have be:m∉[c,l]:=λz=>by
   rcases cj.mp z with z|z
   ·exact T z.symm
   ·exact bk (bY.mp z)
  have bx:∀b∈[c,l],H b=none:=λb hb=>by
   rcases cj.mp hb with z|z
   ·rw[z];exact a5
   ·rw[bY.mp z];exact aS
  have exts:∀{H':Hp} {C:List (List Int×Int)} {L:List (FL×Int)},DictI Ij P w K H' c C->DictI Ih P w K H' l L->∀b∈[c,l],∃φ,H' b=some (.ext φ):=λh1 h2 b hb=>by
   rcases cj.mp hb with z|z
   ·rw[z];exact h1.ext
   ·rw[bY.mp z];exact h2.ext
  refine⟨_,rfl,m,ep,B,rfl,aR,?_⟩
  refine Bs (kvs:=B) (λi G N=>Same H N/\DictE Ih P w K N m ep B/\∃(o:List (List Int×Int)) (L:List (FL×Int)) (r6 r7 r8 r9 S:Option V),G=[some (.ref a),some (.ref c),some (.ref m),some (.int (0+(k:Int))),some (.int (TM.fct (n-(k+1)))),some (.ref l),r6,r7,r8,r9,S]/\
    DictI Ij P w K N c o/\DictI Ih P w K N l L/\TI0 n W k B i o L)
   ⟨S5.trans S6,aR,C,[],_,_,_,_,_,rfl,hC.mono S6,bw,TI0.start ap⟩ (λi G N _ r=>r.2.1) (λi g J Z G N t au bo ht r=>?_) (λG N r=>?_)
  ·obtain⟨S7,aI,o,L,bq,bp,aD,aG,af,rfl,ak,al,hT⟩:=r
   obtain⟨kx,ky,aL,a4,a0⟩:=bo
   obtain⟨π,aU,aa⟩:=aq.key _ (cz au)
   have I:=TM.pre_ok aU
   have bH:g.1.length=k:=by rw[show g=FX W π from aa];show(TM.srt π).length=k;rw[B1,I.len]
   have bE:g.2.length=k:=by rw[show g=FX W π from aa];show(TM.srt (KJ W π)).length=k;rw[B1];unfold KJ;rw[BG,I.len]
   have S8:Same N (upd N t (.tup [.ref Z,.int J])):=mH ht _
   have aV:upd N t (.tup [.ref Z,.int J]) t=some (.tup [.ref Z,.int J]):=rF
   generalize upd N t (.tup [.ref Z,.int J])=H8 at S8 aV ⊢
   refine⟨t,_,rfl,SqT.of aV,rfl,_,_,rfl,_,_,rfl,rfl,?_⟩
   refine⟨_,rfl,_,rfl,Z,_,0,_,rfl,rfl,S8.tup aL,rfl,_,rfl,Z,_,1,_,rfl,rfl,S8.tup aL,rfl,a,kx,ky,ws,W,n,g,rfl,(S7.trans S8).seq hA,Paired.mapP hW (λ_ _ h=>h.mono (S7.trans S8)),ok,S8.tup a4,S8.tup a0,by omega,λtl ls H9 S9 bA aW a1=>?_⟩
   have y:=S8.trans S9
   have bj:=Paired.len a1
   have a9:(FJ n W g).length<=6:=by
    unfold FJ TM.freeP
    rw[bP]
    have h1:=dC (λp=>!decide (p∈g.1)) (LM.rng n)
    rw[LM.rng_len]at h1
    omega
   have bu:=exts (ak.mono y) (al.mono y)
   refine⟨tl,rfl,⟨_,SqL.of aW⟩,?_⟩
   refine vD (xs:=ls) (λj G O=>KX [c,l] H9 O/\∃(o:List (List Int×Int)) (L:List (FL×Int)) (r8 r9 S:Option V),G=[some (.ref a),some (.ref c),some (.ref m),some (.int (0+(k:Int))),some (.int (TM.fct (n-(k+1)))),some (.ref l),some (.ref Z),some (.int J),r8,r9,S]/\
     DictI Ij P w K O c o/\DictI Ih P w K O l L/\TJ n W k B i g J j o L)
    ⟨KX.refl bu,o,L,_,_,_,rfl,ak.mono y,al.mono y,hT g J⟩ (λj G O _ r=>SqL.of (r.1.lst aW)) (λj v G O hv r=>?_) (λG O r=>?_)
   ·obtain⟨XA,o,L,aD,aG,af,rfl,Y,ao,X⟩:=r
    obtain⟨d,aC,pa,rfl,bh⟩:=Paired.get' a1 hv
    have bL:j<6:=by have:=(b8.mp aC).1;omega
    have bC:i<=7776:=by
     have h1:=(b8.mp au).1
     have h2:6^k<=6^5:=dM (by decide) (by omega)
     have h3:=aq.len
     have h4:(6:Nat)^5=7776:=by decide
     omega
    have a7:o.length<=1000000:=by have:=X.cl;omega
    have bc:L.length<=1000000:=by have:=X.ll;omega
    refine⟨pa,_,rfl,XA.tup bh,rfl,_,_,rfl,_,_,rfl,rfl,?_⟩
    -- the count
    refine⟨_,rfl,c,rfl,⟨_,Y⟩,_,rfl,_,rfl,u,λpk aX=>?_⟩
    have SB:Same O (upd O pk (.tup [.int d.1,.int d.2])):=mH aX _
    have ai:SqT K (upd O pk (.tup [.int d.1,.int d.2])) pk (([d.1,d.2]:List Int).map V.int):=SqT.of rF
    generalize upd O pk (.tup [.int d.1,.int d.2])=HB at SB ai ⊢
    refine⟨pk,[d.1,d.2],0,o,rfl,rfl,Y.mono SB,ai,?_⟩
    refine⟨_,rfl,_,rfl,_,_,rfl,rfl,LQ (by omega),_,_,rfl,rfl,?_⟩
    refine⟨_,rfl,_,rfl,_,rfl,u,λab aH=>?_⟩
    have SC:Same HB (upd HB ab (.tup [.int d.1,.int d.2])):=mH aH _
    have ag:SqT K (upd HB ab (.tup [.int d.1,.int d.2])) ab (([d.1,d.2]:List Int).map V.int):=SqT.of rF
    generalize upd HB ab (.tup [.int d.1,.int d.2])=HC at SC ag ⊢
    refine⟨c,ab,[d.1,d.2],_,o,rfl,rfl,rfl,Y.mono (SB.trans SC),ag,a7,λHD ae bf=>?_⟩
    have ac:=SB.trans SC
    have aT:=exts (Y.mono ac) (ao.mono ac)
    have XD:KX [c,l] O HD:=(KX.of ac XA.is).trans (KX.put aT b0 ae)
    have bl:DictI Ih P w K HD l L:=by
     obtain⟨e2,hL⟩:=ao.mono ac
     obtain⟨φ,bm,h1,rfl⟩:=ae
     exact⟨e2,hL.overX h1 (Ne.symm aw)⟩
    clear ae aT ag ai SB SC ac aX aH
    -- the state
    have aj:=XA.trans XD
    have a3:=aj.tup ((y).tup aL)
    refine⟨_,rfl,Z,_,0,_,rfl,rfl,a3,rfl,_,rfl,kx,g.1,d.1,rfl,aj.tup (y.tup a4),by omega,λq1 HE SE bv=>?_⟩
    refine⟨_,rfl,Z,_,1,_,rfl,rfl,SE.tup a3,rfl,_,rfl,ky,g.2,d.2,rfl,SE.tup (aj.tup (y.tup a0)),by omega,λq2 HF SF br=>?_⟩
    refine⟨u,λqs aN=>?_⟩
    have SG:Same HD (upd HF qs (.tup [.ref q1,.ref q2])):=SE.trans (SF.trans (mH aN _))
    have aO:Ih.at' K (upd HF qs (.tup [.ref q1,.ref q2])) (GF g d) qs:=⟨q1,q2,SqT.of rF,(SF.trans (mH aN _)).tup bv,(mH aN _).tup br⟩
    generalize upd HF qs (.tup [.ref q1,.ref q2])=HG at SG aO ⊢
    have ar:=bl.mono SG
    refine⟨_,rfl,l,rfl,⟨_,ar⟩,_,rfl,qs,GF g d,0,L,rfl,rfl,ar,aO,?_⟩
    refine⟨_,rfl,_,_,rfl,rfl,?_⟩
    refine⟨_,rfl,_,rfl,l,qs,GF g d,_,L,rfl,rfl,rfl,ar,aO,bc,λHI aB bn=>?_⟩
    have a6:=bf.mono SG
    have bs:=exts a6 ar
    have XI:KX [c,l] HD HI:=(KX.of SG XD.is).trans (KX.put bs (b3 _ (bY.mpr rfl)) aB)
    have bb:DictI Ij P w K HI c (JF o [d.1,d.2] (J*TM.fct (n-(k+1)))):=by
     obtain⟨e2,hC⟩:=a6
     obtain⟨φ,bm,h1,rfl⟩:=aB
     exact⟨e2,hC.overX h1 aw⟩
    refine⟨aj.trans XI,_,_,_,_,_,rfl,bb,bn,X.step aC ?_⟩
    rw[show g=FX W π from aa]
    exact Cl aU (by rw[<-show g=FX W π from aa];exact cz aC)
   ·obtain⟨XA,o,L,aD,aG,af,rfl,Y,ao,X⟩:=r
    rw[bj]at X
    refine⟨XA.same (S7.trans y) bx,XA.dict (aI.mono y) be,o,L,_,_,_,_,_,rfl,Y,ao,X.done au a9⟩
  ·obtain⟨S7,aI,o,L,bq,bp,aD,aG,af,rfl,ak,al,hT⟩:=r
   obtain⟨a8,ba⟩:=TI0.finish aq (by omega) hT
   exact⟨_,rfl,S7,l,o,L,_,_,_,_,_,_,_,_,rfl,aS,aw,ak,a8,al,ba⟩
 ·obtain⟨S5,m,C,B,r3,r4,r5,r6,r7,r8,r9,S,rfl,U,T,hC,ap,hB,aq⟩:=r
  rw[bi]at ap
  exact⟨_,rfl,q c C H5 S5 hC ap⟩
theorem F2:Fj ["counts","person","count","orders"] ["counts","person","count"] (Fg (Fm 46)):=⟨rfl,rfl,rfl,by decide +kernel,rfl,by decide +kernel,by decide +kernel⟩
theorem Hc(M:Md K mg x cB)
  (Gorders_of:Dn P w K mg base Ft 1 "orders_of" ["count"] (G5))
  (Gfraction:Dn P w K mg base (GO P w) 2 "fraction" ["top","bottom"] (FV x)):Dn P w K mg base Ft 3 "shares_by_turns" ["counts","person","count"] (J2 P w K):=by
 have T:=(F2).nd
 refine M.f_shares_by_turns.ok F2 (λvs H Q E h=>?_) (λ_ _ _ _ _ _ O U=>Lc (λ_ _ _=>rfl) O U) (λf Z A L s H vs Q E B h=>?_)
 ·obtain⟨d,C,W,n,p,rfl,F,j,k,q⟩:=h
  rfl
 obtain⟨d,C,W,n,p,rfl,F,j,k,q⟩:=h
 refine⟨_,(rG (rM (i:=3) T rfl (Or.inr rfl) (sh Gorders_of B (by decide) rfl Fn (lg (pv 2) rH)))
   (rK (rQ (sA tG rfl M.b_tuple Boot.«tuple» (lg (sU rfl (N:=["thing","counts","person","orders"]) (caps:=[none,some 0,some 1,some 3]) (CompOk.of (by kernel_rfl)) (sq rfl) (sH rfl M.b_range (lg (pv 2) rH)) (λ_ _ _ _=>(rV (i:=0) (show(["thing","counts","person","orders"]:List Str).Nodup by decide +kernel) rfl (Or.inl rfl) (Or.inr rfl))) (λ_ _ _ _=>sS) (λ_ _ _ _=>(sh Gfraction B (by decide) rfl JM (lg (yZ (W:=Ij) (P:=P) (w:=w) (K:=K) rfl rfl rfl B (pv 1) (sx (lg (pv 2) (lg (pv 0) rH))) rJ) (lg (pv 3) rH))))) rH))))),?_⟩
 have hf:=zg k
 refine⟨_,rfl,n,rfl,k,?_⟩
 refine⟨_,rfl,_,rfl,by omega,by omega,?_⟩
 refine ue (n:=n) (λi e a=>Same H a/\cT (IsF K a) e ((Ga n W p).take i)) ⟨Same.refl _,by rw[dX];exact .nil⟩ (λi e a Y u=>?_) (λe a u D X=>?_)
 ·obtain⟨c,b⟩:=u
  have G:=Paired.len b
  rw[cf]at G
  refine⟨_,rfl,d,rfl,⟨_,F.mono c⟩,_,rfl,_,rfl,by show 2<=sizeLine;decide,λg I=>?_⟩
  rw[d2]
  have r:Same a (upd a g (.tup [.int p,.int (i:Int)])):=mH I _
  have o:SqT K (upd a g (.tup [.int p,.int (i:Int)])) g (([p,(i:Int)]:List Int).map V.int):=SqT.of rF
  generalize upd a g (.tup [.int p,.int (i:Int)])=H2 at r o ⊢
  refine⟨g,[p,(i:Int)],0,C,rfl,rfl,F.mono (c.trans r),o,_,rfl,Mg C [p,(i:Int)],TM.fct n,rfl,λz=>by omega,λ_=>⟨v7 (m:=30) (by omega) (by decide),λR H3 J t=>⟨Fh (by omega),c.trans (r.trans J),?_⟩⟩⟩
  rw[Cy C j.kn n W j.sum]at t
  rw[cv,show(Ga n W p)[i]?=some (FQ.red (FY n W (λl=>Ip p i (l.getD 0 0) (l.getD 1 0)) n) (TM.fct n))by unfold Ga;rw[bZ,dy Y];rfl]
  exact Paired.app (rX (r.trans J) b) (.cons ⟨R,rfl,SqT.of t⟩ .nil)
 ·obtain⟨c,b⟩:=u
  rw[dz (by rw[zU];exact bX _)]at b
  have v:=mH X (.lst e)
  exact⟨D,e,rfl,.inl ⟨SqL.of rF,λS y=>q S e _ (c.trans (v.trans (mH y _))) (c.free (v.free y)) rF (rX (v.trans (mH y _)) b)⟩⟩
theorem HY:Fj ["wishes","counts"] ["wishes"] (Fg (Fm 47)):=⟨rfl,rfl,rfl,by decide +kernel,rfl,by decide +kernel,by decide +kernel⟩
theorem Kh(M:Md K mg x cB)
  (Gcounts_of:Dn P w K mg base Ft 3 "counts_of" ["wishes"] (Kb P w K))
  (Gshares_by_turns:Dn P w K mg base Ft 3 "shares_by_turns" ["counts","person","count"] (J2 P w K)):Dn P w K mg base Ft 4 "by_turns" ["wishes"] (Je K):=by
 have J:=(HY).nd
 refine M.f_by_turns.ok HY (λvs H Q E h=>?_) (λ_ _ _ _ _ _ G R=>KB (λ_=>rfl) G R) (λf Z A F s H vs Q E v h=>?_)
 ·obtain⟨a,c,W,n,rfl,hA,o,j,q⟩:=h
  rfl
 obtain⟨a,c,W,n,rfl,hA,o,j,q⟩:=h
 refine⟨_,(rG (rM (i:=1) J rfl (Or.inr rfl) (sh Gcounts_of v (by decide) rfl Fn (lg (pv 0) rH)))
   (rK (rQ (sU rfl (N:=["person","wishes","counts"]) (caps:=[none,some 0,some 1]) (CompOk.of (by kernel_rfl)) (sq rfl) (sH rfl M.b_range (lg (rL rW rfl M.b_len cU (lg (pv 0) rH)) rH)) (λ_ _ _ _=>(rV (i:=0) (show(["person","wishes","counts"]:List Str).Nodup by decide +kernel) rfl (Or.inl rfl) (Or.inr rfl))) (λ_ _ _ _=>sS) (λ_ _ _ _=>(sh Gshares_by_turns v (by decide) rfl Fn (lg (pv 2) (lg (pv 0) (lg (rL (vb (K:=K) rfl) rfl M.b_len cU (lg (pv 1) rH)) rH))))))))),?_⟩
 have X:=Paired.len o
 have z:=j.hi
 have Y:=j.len
 have y:c.length=n:=by omega
 refine⟨_,rfl,a,c,W,n,rfl,hA,o,j,λd C T g S r=>?_⟩
 refine⟨_,rfl,a,c,rfl,.inl (g.seq hA),_,rfl,by omega,by omega,?_⟩
 refine ue (n:=c.length) (λi l k=>Same T k/\cT (RwG K k) l ((JD n W).take i)) ⟨Same.refl _,by rw[dX];exact .nil⟩ (λi l k hi m=>?_) (λl k m D p=>?_)
 ·obtain⟨e,b⟩:=m
  have u:=Paired.len b
  rw[cf]at u
  refine⟨_,rfl,_,rfl,_,rfl,a,c,rfl,.inl ((g.trans e).seq hA),d,C,W,n,(i:Int),by show[V.ref d,V.int _,V.int _]=[V.ref d,V.int _,V.int _];rw[y,d2],S.mono e,r,z,λI L H3 B U O t=>⟨Fh (by omega),e.trans B,?_⟩⟩
  rw[cv,show(JD n W)[i]?=some (Ga n W i)by unfold JD;rw[bZ,dy (by omega)];rfl]
  exact Paired.app (Paired.mapP b λ_ _ h=>h.mono B) (.cons ⟨I,L,rfl,SqT.of O,t⟩ .nil)
 ·obtain⟨e,b⟩:=m
  rw[dz (by rw[CU];omega)]at b
  exact q D l _ (g.trans (e.trans (mH p _))) ((g.trans e).free p) rF (Paired.mapP b λ_ _ h=>h.mono (mH p _))
theorem IA:Fj ["value"] ["value"] (Fg (Fm 50)):=⟨rfl,rfl,rfl,by decide +kernel,rfl,by decide +kernel,by decide +kernel⟩
theorem K8(M:Md K mg x cB):Dn P w K mg base Ft 1 "is_word" ["value"] (JZ):=by
 have R:=(IA).nd;refine M.f_is_word.ok IA (λvs H Q E h=>?_) (λ_ _ _ _ _ _ v C=>KB (λ_=>rfl) v C) (λf O A t s H vs Q E S h=>?_)
 ·obtain⟨z,rfl,g,r,q⟩:=h;rfl
 obtain⟨z,rfl,g,r,q⟩:=h;refine⟨_,(rG (sk (PW.pt (xV (tU (sD (rL sE rfl M.b_isinstance Boot.«isinstance» (lg (pv 0) (lg (t6 rfl M.b_str Boot.«str») rH))))) (wQ (tU (zr A5 A5 rJ (rL ul rfl M.b_len cU (lg (pv 0) rH)) (B9 M.c_MOST_SIGNS)))))) (rK (rQ vj)) rO)
   (rK (rQ (rL (zy rfl) rfl M.b_all Boot.«all» (lg (sU rfl (N:=["sign"]) (caps:=[none]) (CompOk.of (by kernel_rfl)) (sq rfl) (EI (pv 0)) (λ_ _ _ _=>(rV (i:=0) (show(["sign"]:List Str).Nodup by decide +kernel) rfl (Or.inl rfl) (Or.inr rfl))) (λ_ _ _ _=>sS) (λ_ _ _ _=>(zm ya ya rY (pv 0) rY))) rH))))),?_⟩
 have o:z.length<=sizeLine:=cx (Fh g);refine⟨_,rfl,_,"str","str",rfl,by decide,rfl,_,rfl,Fv ?_⟩;refine⟨_,rfl,z,rfl,o,_,_,rfl,rfl,_,rfl,?_⟩;refine FE (λJ=>?_) (λJ=>?_);rotate_left
 ·rw[wL (by omega)]at q;exact⟨_,rfl,FH (q H (Same.refl _))⟩
 refine⟨_,_,rfl,rfl,_,rfl,?_⟩;by_cases m:(z.length:Int)<=12;rotate_left
 ·rw[wL (by omega)]at q;dsimp only;rw[decide_eq_false m];exact FH (q H (Same.refl _))
 dsimp only;rw[decide_eq_true m];refine Fv ?_;rw[z7 (by omega)]at q;refine⟨_,rfl,z,rfl,r,?_⟩;have B:(b9 "a").cps.toList=[97]:=by decide +kernel
 have y:(b9 "z").cps.toList=[122]:=by decide +kernel
 have a:z.cps.size=z.cps.toList.length:=by simp
 have L:z.cps.toList.length<=1000:=by rw[<-a];exact g
 refine AS (z:=z) (λi l k=>k=H/\l=((z.cps.toList.take i).map λc=>decide (97<=c)&&decide (c<=122)).map V.bl) ⟨rfl,rfl⟩ (λi c l k n j=>?_) (λl k j D F=>?_)
 ·obtain⟨rfl,rfl⟩:=j;have T:i<z.cps.toList.length:=by rw[<-a];exact(jP.mp n).1
  have d:(((z.cps.toList.take i).map λc=>decide (97<=c)&&decide (c<=122)).map V.bl).length<sizeLine:=Fh (by rw[bP,bP,cf];omega);have p:z.cps.toList[i]?=some c:=by rw[e9];exact n
  have e:∀b:Bool,b=(decide (97<=c)&&decide (c<=122))->(((z.cps.toList.take i).map λc=>decide (97<=c)&&decide (c<=122)).map V.bl)++[V.bl b]=(((z.cps.toList.take (i+1)).map λc=>decide (97<=c)&&decide (c<=122)).map V.bl):=λb I=>by
   rw[cv,p,cb,cb,I];rfl
  refine⟨_,rfl,_,_,rfl,rfl,_,rfl,?_⟩;show if(!decide ([c]<(b9 "a").cps.toList))=true then _ else _
  rw[B];by_cases u:c<97
  ·rw[decide_eq_true (show[c]<[97]by rw[gp];exact .inl u)];exact Fv ⟨d,rfl,e false (by rw[decide_eq_false (by omega)];rfl)⟩
  ·rw[decide_eq_false (show ¬[c]<[97]by rw[gp];simp;omega)];refine FH ⟨_,_,rfl,rfl,d,rfl,e _ ?_⟩;show(!decide ((b9 "z").cps.toList<[c]))=_;rw[y];by_cases G:122<c
   ·rw[decide_eq_true (show[122]<[c]by rw[gp];exact .inl G),decide_eq_false (show ¬c<=122 by omega),jB];rfl
   ·rw[decide_eq_false (show ¬[122]<[c]by rw[gp];simp;omega),decide_eq_true (show 97<=c by omega),decide_eq_true (show c<=122 by omega)];rfl
 ·obtain⟨rfl,rfl⟩:=j;rw[a,cI];refine⟨D,_,rfl,SqL.of rF,?_⟩;rw[qw];exact q _ (mH F _)
theorem IF:Fj ["words"] ["words"] (Fg (Fm 51)):=⟨rfl,rfl,rfl,by decide +kernel,rfl,by decide +kernel,by decide +kernel⟩
theorem La(M:Md K mg x cB)
  (Ghas_people:Dn P w K mg base Ft 2 "has_people" ["rows"] (J3 K))
  (Gis_word:Dn P w K mg base Ft 1 "is_word" ["value"] (JZ)):Dn P w K mg base Ft 3 "is_roll" ["words"] (JB K):=by
 have U:=(IF).nd
 refine M.f_is_roll.ok IF (λvs H Q E h=>?_) (λ_ _ _ _ _ _ O y=>KB (λ_=>rfl) O y) (λf T A L s H vs Q E F h=>?_)
 ·obtain⟨a,b,rfl,hA,r,t,q⟩:=h
  rfl
 obtain⟨a,b,rfl,hA,r,t,q⟩:=h
 refine⟨_,(rK (rQ (uM (sh Ghas_people F (by decide) rfl Fn (lg (pv 0) rH)) (uM (rL (zy rfl) rfl M.b_all Boot.«all» (lg (sU rfl (N:=["word"]) (caps:=[none]) (CompOk.of (by kernel_rfl)) (sq rfl) (tD (pv 0)) (λ_ _ _ _=>(rV (i:=0) (show(["word"]:List Str).Nodup by decide +kernel) rfl (Or.inl rfl) (Or.inr rfl))) (λ_ _ _ _=>sS) (λ_ _ _ _=>(sh Gis_word F (by decide) rfl Fn (lg (pv 0) rH)))) rH)) (wg (ua s9 (Aq rfl rfl M.b_len rfl M.b_set (pv 0)) (rL rW rfl M.b_len cU (lg (pv 0) rH)) (Fk _))))))),?_⟩
 refine⟨_,rfl,a,b.map V.str,rfl,.inl hA,λG u=>⟨_,rfl,?_⟩⟩
 rw[bP]
 refine FE (λc=>?_) (λc=>?_)
 rotate_left
 ·have C:=q G u
  rw[Al c]at C
  exact C
 have p:=u.seq hA
 refine⟨_,rfl,a,rfl,⟨_,p⟩,?_⟩
 refine tz (xs:=b.map V.str) (λi m d=>Same G d/\m=((b.take i).map FF).map V.bl) ⟨Same.refl _,rfl⟩ (λi m d _ e=>e.1.seq p) (λi v m d g e=>?_) (λm d e D R=>?_)
 ·obtain⟨z,rfl⟩:=e
  rw[bZ]at g
  cases j:b[i]? with
  | none=>rw[j]at g;cases g
  | some w=>
   rw[j]at g
   have J:V.str w=v:=Option.some.inj g
   subst J
   have W:i<b.length:=(b8.mp j).1
   obtain⟨y,S⟩:=t w (cz j)
   refine⟨_,rfl,w,rfl,y,S,λI n=>⟨Fh (by rw[bP,bP,cf];omega),z.trans n,?_⟩⟩
   rw[cv,j,cb,cb]
   rfl
 obtain⟨z,rfl⟩:=e
 rw[bP,cI]
 have n:Same d (upd d D (.lst ((b.map FF).map V.bl))):=mH R _
 have o:upd d D (.lst ((b.map FF).map V.bl)) D=some (.lst ((b.map FF).map V.bl)):=rF
 generalize upd d D (.lst ((b.map FF).map V.bl))=I at n o ⊢
 have k:=u.trans (z.trans n)
 have l:=q I k
 refine⟨D,b.map FF,rfl,SqL.of o,_,rfl,?_⟩
 rw[qw]
 show if b.all FF=true then _ else _
 cases B:b.all FF with
 | false=>
  rw[xS B]at l
  exact Fv l
 | true=>
  rw[z5 c B]at l
  refine FH ?_
  refine⟨_,rfl,a,b,rfl,k.seq hA,r,_,rfl,a,_,rfl,.inl (k.seq hA),rfl,?_⟩
  rw[bP]
  exact l
theorem Gj:Fj ["self","people","things"] ["self","people","things"] (Fg (Jd 52 0)):=⟨rfl,rfl,rfl,by decide +kernel,rfl,by decide +kernel,by decide +kernel⟩
theorem Io(M:Md K mg x cB)
  (Gis_roll:Dn P w K mg base Ft 3 "is_roll" ["words"] (JB K)):Bn P w K mg base (GO P w) 4 cB "Book" ["self","people","things"] (Kp K cB x):=by
 have nd:=(Gj).nd
 refine M.k_Book.okE Gj (λvs H Q E h=>?_) (λ_ _ _ _ _ _ us hl=>Lc (λ_ _ _=>rfl) us hl) (λf ag A af s H vs Q E hr h=>?_)
 ·obtain⟨s0,a,b,g,m,l,rfl,hs,hA,D,T,S,L,R,I,q⟩:=h
  rfl
 obtain⟨s0,a,b,g,m,l,rfl,hs,hA,D,T,S,L,R,I,q⟩:=h
 refine⟨_,(rG (sk (PW.pt (xV (tU (sD (sh Gis_roll hr (by decide) rfl Fn (lg (pv 1) rH)))) (xV (tU (sD (sh Gis_roll hr (by decide) rfl Fn (lg (pv 2) rH)))) (wQ (rN yw (rL rW rfl M.b_len cU (lg (pv 1) rH)) (rL rW rfl M.b_len cU (lg (pv 2) rH)) (Fk _)))))) (rK (uf M.x_NoRoll rfl (lg rY rH))) rO)
   (rG (Bu (pv 0) (sA uB rfl M.b_tuple Boot.«tuple» (lg (pv 1) rH)) rfl)
   (rG (Bu (pv 0) (sA uB rfl M.b_tuple Boot.«tuple» (lg (pv 2) rH)) rfl)
   (rK (Bu (pv 0) DO rfl))))),?_⟩
 refine⟨_,rfl,a,m,rfl,hA,T,L,λH1 X=>⟨_,rfl,?_⟩⟩
 cases Z:F4 m with
 | false=>exact FH ⟨by show 1<=sizeLine;decide,I (λz=>by rw[uA.mpr z.1]at Z;cases Z) H1 X⟩
 | true=>
 have rp:=uA.mp Z
 refine Fv ?_
 refine⟨_,rfl,b,l,rfl,X.seq D,S,R,λr S2=>⟨_,rfl,?_⟩⟩
 have k:=X.trans S2
 cases et:F4 l with
 | false=>exact FH ⟨by show 1<=sizeLine;decide,I (λz=>by rw[uA.mpr z.2.1]at et;cases et) r k⟩
 | true=>
 have rt:=uA.mp et
 refine Fv ?_
 refine⟨_,rfl,a,_,rfl,.inl (k.seq hA),_,rfl,b,_,rfl,.inl (k.seq D),rfl,_,rfl,?_⟩
 rw[bP,bP]
 by_cases el:m.length=l.length
 rotate_left
 ·refine J0 (Ol (by omega)) ⟨by show 1<=sizeLine;decide,I (λz=>el z.2.2) r k⟩
 refine Hx (by rw[el]) ?_
 have B:=k _ _ hs
 have ac:=k.seq hA
 have ae:=k.seq D
 refine⟨_,rfl,a,_,rfl,ac,λc p W ab=>?_⟩
 have J:=mH W (.frz p (.tup (m.map V.str)))
 refine⟨_,rfl,s0,cB,g,_,rfl,J _ _ B,M.cl,M.na_people,by show 0<1000;decide,?_⟩
 have Y:c≠s0:=Ne.symm (sf B W)
 have U3:SameBut1 s0 H (upd (upd r c (.frz p (.tup (m.map V.str)))) s0 (.ins cB g (FZ "people" (.ref c) []))):=(SameBut1.of (k.trans J)).trans SameBut1.upd
 have v:upd (upd r c (.frz p (.tup (m.map V.str)))) s0 (.ins cB g (FZ "people" (.ref c) [])) s0=some (.ins cB g [("people",.ref c)]):=rF
 have t:upd (upd r c (.frz p (.tup (m.map V.str)))) s0 (.ins cB g (FZ "people" (.ref c) [])) c=some (.frz p (.tup (m.map V.str))):=by rw[rR Y,rF]
 have N:=(J.seq ae).overI (o:= .ins cB g (FZ "people" (.ref c) [])) (J _ _ B)
 dsimp only
 generalize upd (upd r c (.frz p (.tup (m.map V.str)))) s0 (.ins cB g (FZ "people" (.ref c) []))=C at U3 v t N ⊢
 refine⟨_,rfl,b,_,rfl,N,λj n u aa=>?_⟩
 have T2:=mH u (.frz n (.tup (l.map V.str)))
 refine⟨_,rfl,s0,cB,g,_,rfl,T2 _ _ v,M.cl,M.na_things,by show 1<1000;decide,?_⟩
 have n2:j≠s0:=Ne.symm (sf v u)
 have n3:c≠j:=sf t u
 have U4:SameBut1 s0 H (upd (upd C j (.frz n (.tup (l.map V.str)))) s0 (.ins cB g (FZ "things" (.ref j) [("people",.ref c)]))):=(U3.trans (SameBut1.of T2)).trans SameBut1.upd
 have y:upd (upd C j (.frz n (.tup (l.map V.str)))) s0 (.ins cB g (FZ "things" (.ref j) [("people",.ref c)])) s0=some (.ins cB g [("people",.ref c),("things",.ref j)]):=rF
 have U:upd (upd C j (.frz n (.tup (l.map V.str)))) s0 (.ins cB g (FZ "things" (.ref j) [("people",.ref c)])) c=some (.frz p (.tup (m.map V.str))):=by rw[rR Y,rR n3];exact t
 have O:upd (upd C j (.frz n (.tup (l.map V.str)))) s0 (.ins cB g (FZ "things" (.ref j) [("people",.ref c)])) j=some (.frz n (.tup (l.map V.str))):=by rw[rR n2,rF]
 dsimp only
 generalize upd (upd C j (.frz n (.tup (l.map V.str)))) s0 (.ins cB g (FZ "things" (.ref j) [("people",.ref c)]))=H4 at U4 y U O ⊢
 refine λd F=>?_
 have G:=mH F (.dK (wK []))
 have n4:d≠s0:=Ne.symm (sf y F)
 have ad:H d=none:=by
  cases e:H d with
  | none=>rfl
  | some o=>rw[U4 d o n4 e]at F;cases F
 refine⟨_,rfl,s0,cB,g,_,rfl,G _ _ y,M.cl,M.na_wishes_told,by show 2<1000;decide,?_⟩
 refine q rp rt el d _ ((U4.trans (SameBut1.of G)).trans SameBut1.upd) ad ⟨g,c,j,p,n,rF,?_,ab,?_,aa,?_⟩
 ·rw[rR Y];exact G _ _ U
 ·rw[rR n2];exact G _ _ O
 ·rw[rR n4,rF]
theorem FU:Fj ["self","person"] ["self","person"] (Fg (Jd 52 1)):=⟨rfl,rfl,rfl,by decide +kernel,rfl,by decide +kernel,by decide +kernel⟩
theorem GN(M:Md K mg x cB):Mn P w K mg base (GO P w) 1 cB "check_person" ["self","person"] (Ji cB x):=by
 have t:=(FU).nd;refine M.m_check_person.okE FU (λvs H Q E h=>?_) (λ_ _ _ _ _ _ m n=>HZ (λ_ _=>rfl) m n) (λf o A g s H vs Q E u h=>?_)
 ·obtain⟨s0,d,a,l,R,p,rfl,b,e,q⟩:=h;rfl
 obtain⟨s0,d,a,l,R,p,rfl,b,e,q⟩:=h;refine⟨_,(rK (sk (rN tK (pv 1) (u4 (pv 0) rfl) (by with_unfolding_all rfl)) (rK (uf M.x_NoPerson rfl (lg rY rH))) rO)),?_⟩;obtain⟨j,k,r,y,v,h1,h2,h3,h4,h5,h6⟩:=b.ex;refine⟨_,rfl,_,rfl,s0,cB,j,_,_,rfl,h1,M.cl,M.na_people,rfl,k,_,rfl,.inr (SqT.frz h2),rfl,ur _,_,rfl,?_⟩;show if(!Jv (.str p) (a.map V.str))=true then _ else _
 rw[uk];by_cases c:p∈a
 ·rw[decide_eq_true c];exact Fv (q c)
 ·rw[decide_eq_false c];exact FH ⟨by show 1<=sizeLine;decide,e c⟩
theorem G8:Fj ["self","person","text","words"] ["self","person","text"] (Fg (Jd 52 2)):=⟨rfl,rfl,rfl,by decide +kernel,rfl,by decide +kernel,by decide +kernel⟩
theorem JJ(M:Md K mg x cB)
  (GBook_check_person:Mn P w K mg base (GO P w) 1 cB "check_person" ["self","person"] (Ji cB x)):Mn P w K mg base (GO P w) 2 cB "wish" ["self","person","text"] (Le K cB x):=by
 have nd:=(G8).nd
 refine M.m_wish.okE G8 (λvs H Q E h=>?_) (λ_ _ _ _ _ _ g hl=>Lc (λ_ _ _=>rfl) g hl) (λf aq A ap s H vs Q E o h=>?_)
 ·obtain⟨s0,d,ps,e,R,p,t,rfl,hb,al,aa,ag,I,L,hR,qP,qW,q⟩:=h
  rfl
 obtain⟨s0,d,ps,e,R,p,t,rfl,hb,al,aa,ag,I,L,hR,qP,qW,q⟩:=h
 refine⟨_,(rG (sw (zl (pl:=_) (pv 0) M.cl GBook_check_person o (by decide) (J9 (λ_ _ _ z=>z)) (lg (pv 1) rH)))
   (rG (rM (i:=3) nd rfl (Or.inl rfl) (tO gU kP lh zG (pv 2) (lg rY rH)))
   (rG (sk (rN (v4 o) (rL (tY) rfl M.b_sorted Boot.«sorted» (lg (pv 3) rH)) (rL (tY) rfl M.b_sorted Boot.«sorted» (lg (u4 (pv 0) rfl) rH)) (Fk _)) (rK (uf M.x_NoWishes rfl (lg rY rH))) rO)
   (rK (vv (sA tG rfl M.b_tuple Boot.«tuple» (lg (sU rfl (N:=["word","self"]) (caps:=[none,some 0]) (CompOk.of (by kernel_rfl)) (sq rfl) (tD (pv 3)) (λ_ _ _ _=>(rV (i:=0) (show(["word","self"]:List Str).Nodup by decide +kernel) rfl (Or.inl rfl) (Or.inr rfl))) (λ_ _ _ _=>sS) (λ_ _ _ _=>(B3 (K:=K) rfl (vX (K:=K) rfl (pv 1) rfl) (pv 0)))) rH)) (wz (u4 (pv 0) rfl) (pv 1) E7)))))),?_⟩
 obtain⟨S,pp,pt,op,ot,h1,h2,h3,h4,h5,h6⟩:=hb.ex
 have aj:∀w∈L2.wordsOf t,FM w:=xM I
 refine⟨_,rfl,s0,S,_,rfl,h1,rfl,_,rfl,s0,d,ps,e,R,p,rfl,hb,(λc=>qP c H (Same.refl _)),λhp=>?_⟩
 refine⟨_,rfl,rfl,t," ",rfl,rfl,by decide,cx (Fh (by omega)),λm ac=>?_⟩
 have S1:Same H (upd H m (.lst ((L2.wordsOf t).map V.str))):=mH ac _
 have l:upd H m (.lst ((L2.wordsOf t).map V.str)) m=some (.lst ((L2.wordsOf t).map V.str)):=rF
 change L0 _ _ _ _ (upd H m (.lst ((L2.wordsOf t).map V.str)))
 generalize upd H m (.lst ((L2.wordsOf t).map V.str))=Y at S1 l ⊢
 refine⟨_,rfl,m,L2.wordsOf t,rfl,.inl (SqL.of l),L,λU n ao y ak=>?_⟩
 have S2:Same Y (upd Y U (.lst (n.map V.str))):=mH ao _
 have O:upd Y U (.lst (n.map V.str)) U=some (.lst (n.map V.str)):=rF
 generalize upd Y U (.lst (n.map V.str))=H2 at S2 O ⊢
 have T:=S1.trans S2
 refine⟨_,rfl,s0,cB,S,_,_,rfl,T _ _ h1,M.cl,M.na_things,rfl,pt,e,rfl,.inr (SqT.frz (T _ _ h4)),by omega,λZ g an u am=>?_⟩
 have X:Same H2 (upd H2 Z (.lst (g.map V.str))):=mH an _
 have G:upd H2 Z (.lst (g.map V.str)) Z=some (.lst (g.map V.str)):=rF
 generalize upd H2 Z (.lst (g.map V.str))=H3 at X G ⊢
 have b:=T.trans X
 refine⟨.list (n.map d4),.list (g.map d4),.lst (SqL.of (X _ _ O)) (Reps.strs n) (by rw[bP,y.length_eq];omega),.lst (SqL.of G) (Reps.strs g) (by rw[bP,u.length_eq];omega),sy (tI λw j=>aj w (y.mem_iff.mp j)) (by decide),sy (tI λw j=>aa w (u.mem_iff.mp j)) (by decide),_,rfl,?_⟩
 rw[sF]
 by_cases k:(L2.wordsOf t).Perm e
 rotate_left
 ·rw[decide_eq_false (λ(z:n=g)=>k (y.symm.trans (by rw[z];exact u)))]
  exact FH ⟨by show 1<=sizeLine;decide,qW hp k H3 b⟩
 rw[decide_eq_true (vp ak am (y.trans (k.trans u.symm)))]
 refine Fv ?_
 have J:=(S2.trans X) _ _ l
 have ae:=b _ _ h1
 have ab:=b _ _ h4
 refine⟨_,rfl,m,rfl,⟨_,SqL.of J⟩,?_⟩
 refine tz (xs:=(L2.wordsOf t).map V.str) (λi ys W=>W=H3/\ys=(Hg e ((L2.wordsOf t).take i)).map V.int) ⟨rfl,rfl⟩ (λi ys W _ B=>by rw[B.1];exact SqL.of J) (λi v ys W C B=>?_) (λys W B D hD=>?_)
 ·obtain⟨rfl,rfl⟩:=B
  rw[bZ]at C
  cases j:(L2.wordsOf t)[i]? with
  | none=>rw[j]at C;cases C
  | some w=>
   rw[j]at C
   have ah:V.str w=v:=Option.some.inj C
   subst ah
   have hi:i<(L2.wordsOf t).length:=(b8.mp j).1
   have hm:w∈e:=k.mem_iff.mp (cz j)
   refine⟨_,rfl,s0,cB,S,_,_,rfl,ae,M.cl,M.na_things,rfl,pt,ot,_,rfl,ab,h5,_,rfl,e,w,rfl,SqT.frz ab,hm,Fh (by unfold Hg;rw[bP,bP,cf];omega),rfl,?_⟩
   unfold Hg
   rw[cv,j,cb,cb]
   rfl
 obtain⟨rfl,rfl⟩:=B
 rw[bP,cI]
 have S4:=mH hD (.lst ((Hg e (L2.wordsOf t)).map V.int))
 refine⟨D,_,rfl,.inl ⟨SqL.of rF,λr o=>?_⟩⟩
 have S5:=mH o (.tup ((Hg e (L2.wordsOf t)).map V.int))
 have a:=b.trans (S4.trans S5)
 have ai:=a _ _ h6
 have ad:r≠d:=λz=>by rw[z,(b.trans S4) _ _ h6]at o;cases o
 have af:H r=none:=(b.trans S4).free o
 refine⟨_,rfl,s0,cB,S,_,_,rfl,a _ _ h1,M.cl,M.na_wishes_told,rfl,_,rfl,d,R,p,rfl,rfl,ai,hR,?_⟩
 refine q hp k r _ ((SameBut1.of a).trans SameBut1.upd) af (by rw[rR ad,rF]) ⟨S,pp,pt,op,ot,?_,?_,h3,?_,h5,rF⟩
 ·rw[rR (um h1 h6 (λz=>nomatch z))];exact a _ _ h1
 ·rw[rR (um h2 h6 (λz=>nomatch z))];exact a _ _ h2
 ·rw[rR (um h4 h6 (λz=>nomatch z))];exact a _ _ h4
theorem Gu:Fj ["self"] ["self"] (Fg (Jd 52 3)):=⟨rfl,rfl,rfl,by decide +kernel,rfl,by decide +kernel,by decide +kernel⟩
theorem Iy(M:Md K mg x cB):Mn P w K mg base Ft 1 cB "lacking" ["self"] (HN cB):=by
 have I:=(Gu).nd;refine M.m_lacking.ok Gu (λvs H Q E h=>?_) (λ_ _ _ _ _ _ D g=>KB (λ_=>rfl) D g) (λf F A z s H vs Q E J h=>?_)
 ·obtain⟨s0,d,b,C,R,rfl,u,t,q⟩:=h;rfl
 obtain⟨s0,d,b,C,R,rfl,u,t,q⟩:=h;refine⟨_,(rK (rQ (sU rfl (N:=["person","self"]) (caps:=[none,some 0]) (CompOk.of (by kernel_rfl)) (sq rfl) (v6 (u4 (pv 0) rfl)) (λ_ _ _ _=>(rV (i:=0) (show(["person","self"]:List Str).Nodup by decide +kernel) rfl (Or.inl rfl) (Or.inr rfl))) (λ_ _ _ _=>(uK (rN B7 (pv 0) (vX (K:=K) rfl (pv 1) rfl) (by with_unfolding_all rfl)))) (λ_ _ _ _=>(pv 0))))),?_⟩;obtain⟨o,B,G,S,L,h1,h2,h3,h4,h5,h6⟩:=u.ex;have r:=SqT.frz (K:=K) h2;refine⟨_,rfl,s0,cB,o,_,_,rfl,h1,M.cl,M.na_people,rfl,B,rfl,⟨_,r⟩,?_⟩;refine vc (xs:=b.map V.str) (λi k j=>j=H/\k=((b.take i).filter λp=>!(Fu R p).isSome).map V.str) ⟨rfl,rfl⟩ (λi k j _ a=>by rw[a.1];exact r) (λi v k j e a=>?_) (λk j a l g=>?_)
 ·obtain⟨rfl,rfl⟩:=a;rw[bZ]at e
  cases m:b[i]? with
  | none=>rw[m]at e;cases e
  | some w=>
   rw[m]at e;have y:V.str w=v:=Option.some.inj e;subst y;have O:i<b.length:=(b8.mp m).1;have n:(((b.take i).filter λp=>!(Fu R p).isSome).map V.str).length<sizeLine:=by
    rw[bP];have h1:=dC (λp=>!(Fu R p).isSome) (b.take i);rw[cf]at h1;exact Fh (by omega)
   refine⟨_,rfl,_,rfl,s0,cB,o,_,_,rfl,h1,M.cl,M.na_wishes_told,rfl,d,R,w,rfl,rfl,h6,_,rfl,?_⟩;rw[cv,m,gm,cb]
   cases c:(!(Fu R w).isSome)with
   | true=>
    refine FH ⟨_,rfl,n,rfl,?_⟩;show _=_++List.map V.str ([w].filter _);rw[List.filter_cons_of_pos (p:=λp=>!(Fu R p).isSome) c];rfl
   | false=>
    refine Fv ⟨rfl,?_⟩;show _=_++List.map V.str ([w].filter _);rw[List.filter_cons_of_neg (p:=λp=>!(Fu R p).isSome) (by rw[c];exact cA)];exact(er _).symm
 ·obtain⟨rfl,rfl⟩:=a;rw[bP,cI];exact q l _ (mH g _) g rF
theorem Gk:Fj ["self","way","wishes"] ["self","way"] (Fg (Jd 52 4)):=⟨rfl,rfl,rfl,by decide +kernel,rfl,by decide +kernel,by decide +kernel⟩
theorem Im(M:Md K mg x cB)
  (GBook_lacking:Mn P w K mg base Ft 1 cB "lacking" ["self"] (HN cB))
  (Geaten:Dn P w K mg base Ft 7 "eaten" ["wishes"] (KM K))
  (Gby_turns:Dn P w K mg base Ft 4 "by_turns" ["wishes"] (Je K)):Mn P w K mg base (GO P w) 8 cB "table_by" ["self","way"] (HL K cB x):=by
 have nd:=(Gk).nd
 refine M.m_table_by.okE Gk (λvs H Q E h=>?_) (λ_ _ _ _ _ _ B O=>HZ (λ_ _=>rfl) B O) (λf am A aj s H vs Q E Z h=>?_)
 ·obtain⟨s0,d,a,ts,R,t,rfl,hb,L,qU,q⟩:=h
  rfl
 obtain⟨s0,d,a,ts,R,t,rfl,hb,L,qU,q⟩:=h
 refine⟨_,(rG (sk (C0 (Bv (pl:=_) (pv 0) M.cl GBook_lacking Z (by decide) Fn) (λ_=>rfl)) (rK (uf M.x_Unready rfl (lg rY rH))) rO)
   (rG (tw (i:=2) nd rfl rfl rfl rfl (N:=["person","self"]) (caps:=[none,some 0]) (CompOk.of (by kernel_rfl)) (sq rfl) (v6 (u4 (pv 0) rfl)) (λ_ _ _ _=>(rV (i:=0) (show(["person","self"]:List Str).Nodup by decide +kernel) rfl (Or.inl rfl) (Or.inr rfl))) (λ_ _ _ _=>sS) (λ_ _ _ _=>(rS Ff (vX (K:=K) rfl (pv 1) rfl) (pv 0) (λ_ _=>rfl))))
   (rG (sk (rN s9 (pv 1) rY (Fk _)) (rK (rQ (sh Geaten Z (by decide) rfl Fn (lg (pv 2) rH)))) rO)
   (rG (sk (rN s9 (pv 1) rY (Fk _)) (rK (rQ (sh Gby_turns Z (by decide) rfl Fn (lg (pv 2) rH)))) rO)
   (rK (uf M.x_NoWay rfl (lg rY rH))))))),?_⟩
 obtain⟨dx,pp,pt,op,ot,h1,h2,h3,h4,h5,h6⟩:=hb.ex
 refine⟨_,rfl,s0,dx,_,rfl,h1,rfl,s0,d,a,ts,R,rfl,hb,L,λl X n al O=>?_⟩
 refine⟨_,.inl ⟨_,SqL.of O,rfl⟩,?_⟩
 by_cases hall:∀p∈a,Fu R p≠none
 rotate_left
 ·have ae:∃p∈a,Fu R p=none:=da λz=>hall λp hp e=>z ⟨p,hp,e⟩
  have ai:¬(a.filter λp=>!(Fu R p).isSome)=[]:=λz=>hall (xz.mp z)
  have e:(!(((a.filter λp=>!(Fu R p).isSome).map V.str).isEmpty))=true:=by simpa using ai
  rw[e]
  exact FH ⟨by show 1<=sizeLine;decide,qU ae X n⟩
 have e:(!(((a.filter λp=>!(Fu R p).isSome).map V.str).isEmpty))=false:=by rw[xz.mpr hall];rfl
 rw[e]
 refine Fv ?_
 obtain⟨W,hT,F,qN,q⟩:=q hall
 have ah:=Paired.len hT
 have J:=n _ _ h1
 have hP:=SqT.frz (K:=K) (n _ _ h2)
 have ac:=n _ _ h6
 refine⟨_,rfl,s0,cB,dx,_,_,rfl,J,M.cl,M.na_people,rfl,pp,rfl,⟨_,hP⟩,?_⟩
 refine x5 (xs:=a.map V.str) (λi b g=>g=X/\cT (IsR K X) b (W.take i)) ⟨rfl,by rw[dX];exact .nil⟩ (λi b g _ k=>by rw[k.1];exact hP) (λi v b g y k=>?_) (λb g k o af=>?_)
 ·obtain⟨rfl,j⟩:=k
  rw[bZ]at y
  cases hw:a[i]? with
  | none=>rw[hw]at y;cases y
  | some w=>
   rw[hw]at y
   have ab:V.str w=v:=Option.some.inj y
   subst ab
   obtain⟨ak,U,u,aa,ag⟩:=Paired.get' hT hw
   have ad:=Paired.len j
   rw[cf]at ad
   refine⟨_,rfl,s0,cB,dx,_,_,rfl,J,M.cl,M.na_wishes_told,rfl,_,rfl,d,R,w,u,rfl,rfl,ac,aa,Fh (by omega),rfl,?_⟩
   rw[cv,U]
   exact Paired.app j (.cons (ag.mono n) .nil)
 obtain⟨rfl,j⟩:=k
 rw[bP,ah,cI]at j
 have T:Same g (upd g o (.lst b)):=mH af _
 have r:upd g o (.lst b) o=some (.lst b):=rF
 generalize upd g o (.lst b)=H3 at T r ⊢
 have C:=Paired.mapP j λ_ _ (h:IsR K g _ _)=>h.mono T
 have m:=n.trans T
 refine⟨_,rfl,rfl,_,rfl,?_⟩
 refine FE (λc=>?_) (λc=>?_)
 ·have ew:t="eaten":=by injection c
  refine⟨_,rfl,o,b,W,a.length,rfl,SqL.of r,C,⟨F.lo,F.hi,F.len,F.pm⟩,λY B N S S4 D G hN I=>?_⟩
  exact q _ _ Y B S (.inl ⟨ew,N,hN,rfl,rfl⟩) (m.trans S4) (m.free D) G I
 refine⟨_,rfl,rfl,_,rfl,?_⟩
 refine FE (λc2=>?_) (λc2=>?_)
 ·have ew:t="turns":=by injection c2
  refine⟨_,rfl,o,b,W,a.length,rfl,SqL.of r,C,F,λY B S S4 D G I=>?_⟩
  rw[DE]at I
  exact q _ _ Y B S (.inr ⟨ew,rfl,rfl⟩) (m.trans S4) (m.free D) G (uN I)
 ·exact⟨by show 1<=sizeLine;decide,qN (λz=>c (by rw[z])) (λz=>c2 (by rw[z])) H3 m⟩
theorem GJ:Fj ["self","person","way","table","row"] ["self","person","way"] (Fg (Jd 52 5)):=⟨rfl,rfl,rfl,by decide +kernel,rfl,by decide +kernel,by decide +kernel⟩
theorem IT(M:Md K mg x cB)
  (GBook_check_person:Mn P w K mg base (GO P w) 1 cB "check_person" ["self","person"] (Ji cB x))
  (GBook_table_by:Mn P w K mg base (GO P w) 8 cB "table_by" ["self","way"] (HL K cB x)):Mn P w K mg base (GO P w) 9 cB "shares" ["self","person","way"] (IH K cB x):=by
 have nd:=(GJ).nd
 refine M.m_shares.okE GJ (λvs H Q E h=>?_) (λ_ _ _ _ _ _ us Y=>Lc (λ_ _ _=>rfl) us Y) (λf aD A az s H vs Q E hr h=>?_)
 ·obtain⟨s0,d,a,e,R,p,ab,rfl,hb,ae,av,qP,qU,q⟩:=h
  rfl
 obtain⟨s0,d,a,e,R,p,ab,rfl,hb,ae,av,qP,qU,q⟩:=h
 refine⟨_,(rG (sw (zl (pl:=_) (pv 0) M.cl GBook_check_person hr (by decide) (J9 (λ_ _ _ z=>z)) (lg (pv 1) rH)))
   (rG (rM (i:=3) nd rfl (Or.inl rfl) (zl (pl:=_) (pv 0) M.cl GBook_table_by hr (by decide) (J9 (λ_ _ _ z=>z)) (lg (pv 2) rH)))
   (rG (rM (i:=4) nd rfl (Or.inr rfl) (rS rZ (pv 3) (B3 (K:=K) rfl (u4 (pv 0) rfl) (pv 1)) (λ_ _=>rfl)))
   (rK (rQ (sU rfl (N:=["thing","self","row"]) (caps:=[none,some 0,some 4]) (CompOk.of (by kernel_rfl)) (sq rfl) (v6 (rS Ff (u4 (pv 0) rfl) (pv 1) (λ_ _=>rfl))) (λ_ _ _ _=>(rV (i:=0) (show(["thing","self","row"]:List Str).Nodup by decide +kernel) rfl (Or.inl rfl) (Or.inr rfl))) (λ_ _ _ _=>(uK (rN (B4 (K:=K) rfl hr) (rS (xL (K:=K) rfl) (pv 2) (pv 0) (λ_ _=>rfl)) (vH (K:=K) rfl M.c_NOTHING) (Fk _)))) (λ_ _ _ _=>(sx (lg (rS (xL (K:=K) rfl) (vX (K:=K) rfl (pv 1) rfl) (pv 0) (λ_ _=>rfl)) (lg (rS (xL (K:=K) rfl) (pv 2) (pv 0) (λ_ _=>rfl)) rH)))))))))),?_⟩
 obtain⟨U,pp,pt,op,ot,h1,h2,h3,h4,h5,h6⟩:=hb.ex
 have L:(2:Nat)<=sizeLine:=by decide
 refine⟨_,rfl,s0,U,_,rfl,h1,rfl,_,rfl,s0,d,a,e,R,p,rfl,hb,(λc=>qP c H (Same.refl _)),λhp=>?_⟩
 refine⟨_,rfl,s0,U,_,rfl,h1,rfl,_,rfl,s0,d,a,e,R,ab,rfl,hb,ae,qU hp,λhall=>?_⟩
 obtain⟨W,hT,hW,qN,q⟩:=q hp hall
 refine⟨W,hT,hW,qN,λZ T tb us H1 af n aA r hZ=>?_⟩
 have F:=af.tb hW
 have hi:a.idxOf p<a.length:=fJ.mpr hp
 have aB:=F.reg.len
 have aG:=hW.len
 have aC:=F.t0
 obtain⟨uv,aw,ra,gs,rfl,ar,D⟩:=Paired.get hZ (bT (show a.idxOf p<Z.length by omega))
 obtain⟨b,ad,v,aj,X⟩:=Paired.get hT (bT (show a.idxOf p<W.length by omega))
 have ep:b=p:=by
  have:=gT hi
  rw[bT hi]at ad
  rw[<-Option.some.inj ad]
  exact this
 subst ep
 have m:=hW.pm _ (cm (show a.idxOf b<W.length by omega))
 have aa:=F.reg.cols _ (cm (show a.idxOf b<Z.length by omega))
 have q2:=λl xs H'=>q Z T l xs H' af
 rw[show W[a.idxOf b]=W.getD (a.idxOf b) []from(HM.getD_lt (show a.idxOf b<W.length by omega)).symm]at X m
 rw[show Z[a.idxOf b]=Z.getD (a.idxOf b) []from(HM.getD_lt (show a.idxOf b<Z.length by omega)).symm]at D aa
 generalize W.getD (a.idxOf b) []=j at X m q2
 generalize Z.getD (a.idxOf b) []=z at D aa q2
 have I:=n _ _ h1
 refine⟨_,rfl,_,rfl,s0,cB,U,_,_,rfl,I,M.cl,M.na_people,rfl,pp,op,_,rfl,n _ _ h2,h3,_,rfl,a,b,rfl,SqT.frz (n _ _ h2),hp,tb,_,_,_,rfl,rfl,SqL.of r,sO aw,?_⟩
 obtain⟨wa,rfl,an⟩:=X
 have G:=n.tup an
 have ak:=n _ _ h6
 have au:=n _ _ h4
 have aE:=m.len
 refine⟨_,rfl,s0,cB,U,_,_,rfl,I,M.cl,M.na_wishes_told,rfl,_,rfl,d,R,b,_,rfl,rfl,ak,aj,wa,rfl,⟨_,G⟩,?_⟩
 refine vc (xs:=j.map V.int) (λi u S=>Same H1 S/\cT (IsShr K S T) u (HH e (j.take i) z)) ⟨Same.refl _,.nil⟩ (λi u S _ o=>o.1.tup G) (λi y u S O o=>?_) (λu S o l Y=>?_)
 ·obtain⟨g,k⟩:=o
  rw[bZ]at O
  cases B:j[i]? with
  | none=>rw[B]at O;cases O
  | some t=>
   rw[B]at O
   have ai:V.int t=y:=Option.some.inj O
   subst ai
   have r:=m.mem.mp (cz B)
   have ah:t.toNat<z.length:=by omega
   have ay:(fr T z)[t.toNat]?=some (FQ.red (EM.at0 z t) T):=by
    unfold fr EM.at0
    rw[bZ,bR,bT ah]
    rfl
   obtain⟨fv,ac,hF⟩:=Paired.get D ay
   have ao:=Paired.len k
   have ag:u.length<sizeLine:=by
    rw[ao]
    unfold HH
    rw[bP]
    have h1:=dC (λt=>decide (EM.at0 z t≠0)) (j.take i)
    rw[cf]at h1
    exact Fh (by omega)
   have am:HH e (j.take (i+1)) z=HH e (j.take i) z++if EM.at0 z t≠0 then[(e.getD t.toNat fq,EM.at0 z t)]else[]:=by
    unfold HH
    rw[cv,B,gm,cb]
    by_cases c:EM.at0 z t=0
    ·simp[c]
    ·simp[c]
   have J:=g.tup ar
   refine⟨_,rfl,_,rfl,ra,gs,t,fv,rfl,rfl,J,tL r.1 ac,λc0 aq=>?_⟩
   refine⟨dF (FQ.red (EM.at0 z t) T),dF (0,1),(hF.mono g).rep,IsF.rep ⟨c0,rfl,aq _⟩,sP _,sP _,_,rfl,?_⟩
   rw[vn,am]
   refine II (λc=>?_) (λc=>?_)
   ·have hn:EM.at0 z t≠0:=λe0=>c ((sJ (by omega)).mpr e0)
    have al:t.toNat<e.length:=by omega
    have ax:(e.map V.str)[t.toNat]?=some (.str (e.getD t.toNat fq)):=by rw[bZ,bR,bT al];rfl
    obtain⟨fg,rfl,aF⟩:=id hF
    refine⟨_,rfl,s0,cB,U,_,_,rfl,g _ _ I,M.cl,M.na_things,rfl,_,rfl,pt,_,t,_,rfl,rfl,SqT.frz (g _ _ au),tL r.1 ax,_,rfl,_,rfl,ra,gs,t,_,rfl,rfl,J,tL r.1 ac,L,λtp ap=>?_⟩
    have C:=mH ap (.tup [.str (e.getD t.toNat fq),.ref fg])
    refine⟨ag,g.trans C,?_⟩
    rw[if_pos hn]
    exact Paired.app (Paired.mapP k λ_ _ h=>h.mono C) (.cons ⟨tp,fg,rfl,SqT.of rF,hF.mono (g.trans C)⟩ .nil)
   ·have hn:EM.at0 z t=0:=(sJ (by omega)).mp c
    refine⟨g,?_⟩
    rw[if_neg (λe0=>e0 hn),er]
    exact k
 ·obtain⟨g,k⟩:=o
  rw[bP,cI]at k
  have C:=mH Y (.lst u)
  exact q2 l u _ (n.trans (g.trans C)) ((n.trans g).free Y) rF (Paired.mapP k λ_ _ h=>h.mono C)
theorem Hq:Fj ["self","way","number","lots","words"] ["self","way","number"] (Fg (Jd 52 6)):=⟨rfl,rfl,rfl,by decide +kernel,rfl,by decide +kernel,by decide +kernel⟩
theorem JU(M:Md K mg x cB)
  (Glots_of:Dn P w K mg base Ft 8 "lots_of" ["table"] (JG K))
  (GBook_table_by:Mn P w K mg base (GO P w) 8 cB "table_by" ["self","way"] (HL K cB x))
  (Gpicked:Dn P w K mg base (GO P w) 4 "picked" ["lots","number"] (JC K x)):Mn P w K mg base (GO P w) 9 cB "deal" ["self","way","number"] (JN K cB x):=by
 have nd:=(Hq).nd
 refine M.m_deal.okE Hq (λvs H Q E h=>?_) (λ_ _ _ _ _ _ us hl=>Lc (λ_ _ _=>rfl) us hl) (λf ax A av s H vs Q E G h=>?_)
 ·obtain⟨s0,d,m,r,a,R,U,ad,rfl,hb,ac,ar,hm,aa,Y,qU,q⟩:=h
  rfl
 obtain⟨s0,d,m,r,a,R,U,ad,rfl,hb,ac,ar,hm,aa,Y,qU,q⟩:=h
 refine⟨_,(rG (rM (i:=3) nd rfl (Or.inl rfl) (sh Glots_of G (by decide) rfl Fn (lg (zl (pl:=_) (pv 0) M.cl GBook_table_by G (by decide) (J9 (λ_ _ _ z=>z)) (lg (pv 1) rH)) rH)))
   (rG (tw (i:=4) nd rfl rfl rfl rfl (N:=["thing","self"]) (caps:=[none,some 0]) (CompOk.of (by kernel_rfl)) (sq rfl) (v6 (sh Gpicked G (by decide) rfl (J9 (λ_ _ _ z=>z)) (lg (pv 3) (lg (pv 2) rH)))) (λ_ _ _ _=>(rV (i:=0) (show(["thing","self"]:List Str).Nodup by decide +kernel) rfl (Or.inl rfl) (Or.inr rfl))) (λ_ _ _ _=>sS) (λ_ _ _ _=>(rS (xL (K:=K) rfl) (vX (K:=K) rfl (pv 1) rfl) (pv 0) (λ_ _=>rfl))))
   (rK (rQ (zK rfl rfl M.b_list rfl M.b_zip (lg (u4 (pv 0) rfl) (lg (pv 4) rH))))))),?_⟩
 obtain⟨dx,pp,pt,op,ot,h1,h2,h3,h4,h5,h6⟩:=hb.ex
 refine⟨_,rfl,s0,dx,_,rfl,h1,rfl,_,rfl,s0,d,r,a,R,U,rfl,hb,ac,qU,λhall=>?_⟩
 obtain⟨W,hT,hW,qN,qR,q⟩:=q hall
 refine⟨W,hT,hW,qN,λZ T tb us H1 n S1 aw J hZ=>?_⟩
 have B:=n.tb hW
 refine⟨tb,us,Z,T,r.length,rfl,SqL.of J,hZ,B,λk pL ls H2 c S2 ay hL af=>?_⟩
 have L:=S1.trans S2
 have ap:=Dy B (n.le hW) c
 refine⟨_,rfl,_,rfl,pL,m,ls,_,T,r.length,ad,rfl,SqL.of hL,af,ap,hm.mono L,aa,Y,(λG=>qR n.way G H2 L),λao i v H3 b S3 aq=>?_⟩
 obtain⟨va,rfl,g⟩:=aq
 have q2:=λl xs H'=>q ao Z T k i l xs H' n c b
 have ab:i<k:=by
  have:=b.lt
  unfold HM.lotsL at this
  rwa[bP,eI]at this
 have ed:(HM.lotsL Z T k).getD i (0,[])=HM.lotAt Z T i:=by
  unfold HM.lotsL
  rw[bR,bZ,dy ab]
  rfl
 have C:=(DI B c ab).1
 rw[ed]at q2 g
 generalize(HM.lotAt Z T i).2=p at g C q2
 have ah:=C.len
 have F:=L.trans S3
 refine⟨va,rfl,⟨_,g⟩,?_⟩
 refine x5 (xs:=p.map V.int) (λj S O=>O=H3/\S=(Fz a (p.take j)).map V.str) ⟨rfl,rfl⟩ (λj S O _ u=>by rw[u.1];exact g) (λj y S O I u=>?_) (λS O u pw ai=>?_)
 ·obtain⟨rfl,rfl⟩:=u
  rw[bZ]at I
  cases o:p[j]? with
  | none=>rw[o]at I;cases I
  | some t=>
   rw[o]at I
   have aj:V.int t=y:=Option.some.inj I
   subst aj
   have J:=C.mem.mp (cz o)
   have al:t.toNat<a.length:=by omega
   have au:(a.map V.str)[t.toNat]?=some (.str (a.getD t.toNat fq)):=by rw[bZ,bR,bT al];rfl
   refine⟨_,rfl,s0,cB,dx,_,_,rfl,F _ _ h1,M.cl,M.na_things,rfl,_,rfl,pt,_,t,_,rfl,rfl,SqT.frz (F _ _ h4),tL J.1 au,Fh (by unfold Fz;rw[bP,bP,cf];omega),rfl,?_⟩
   unfold Fz
   rw[cv,o,cb,cb]
   rfl
 obtain⟨rfl,rfl⟩:=u
 rw[bP,cI]
 have ae:(Fz a p).length=r.length:=by unfold Fz;rw[bP,ah]
 have S4:=mH ai (.lst ((Fz a p).map V.str))
 have e:=F.trans S4
 refine⟨_,rfl,s0,cB,dx,_,_,rfl,e _ _ h1,M.cl,M.na_people,rfl,_,rfl,true,false,pp,pw,r.map V.str,(Fz a p).map V.str,rfl,SqT.frz (e _ _ h2),SqL.of rF,by rw[bP,bP,ae],by rw[bP];omega,λl ag H5 S5 ak hl X an=>?_⟩
 refine q2 l _ H5 (e.trans S5) (e.free ak) hl ?_
 rw[bP]at X
 refine uW (by rw[bP,List.length_zip,ae,X];simp) λj v x D hx=>?_
 rw[bZ]at D
 cases ht:ag[j]? with
 | none=>rw[ht]at D;cases D
 | some t=>
  rw[ht]at D
  have am:V.ref t=v:=Option.some.inj D
  subst am
  obtain⟨x1,x2⟩:=x
  obtain⟨e1,e2⟩:=jR.mp hx
  exact⟨t,rfl,SqT.of (an j t (.str x1) (.str x2) ht (by rw[bZ,e1];rfl) (by rw[bZ,e2];rfl))⟩
theorem Gr:Fj ["_law_script","_law_k"] ["_law_script","_law_k"] (Fg (Fm 54)):=⟨rfl,rfl,rfl,by decide +kernel,rfl,by decide +kernel,by decide +kernel⟩
theorem IG(M:Md K mg x cB):Dn P w K mg base Ft 1 "_law_cell_at" ["_law_script","_law_k"] (Kr K):=by
 have n:=(Gr).nd;refine M.f__law_cell_at.ok Gr (λvs H Q E h=>?_) (λ_ _ _ _ _ _ l d=>HZ (λ_ _=>rfl) l d) (λf m A j s H vs Q E o h=>?_)
 ·obtain⟨a,b,k,rfl,g,h0,q⟩:=h;rfl
 obtain⟨a,b,k,rfl,g,h0,q⟩:=h;refine⟨_,(rG (sk (rN zM (pv 1) (rL rW rfl M.b_len cU (lg (pv 0) rH)) (Fk _)) (rK (rQ (rS rZ (pv 0) (pv 1) (λ_ _=>rfl)))) rO)
   (rK (rQ rJ))),?_⟩
 have d:(b.map V.int).length=b.length:=bP _;refine⟨_,rfl,_,rfl,a,_,rfl,.inl g,_,_,rfl,rfl,_,rfl,?_⟩;refine FE (λc=>?_) (λc=>?_)
 ·rw[d]at c;refine⟨_,rfl,_,rfl,a,_,k,_,rfl,rfl,g,tL h0 (tV (by omega)),?_⟩;have e:LM.cellAt b k=b.getD k.toNat 0:=by unfold LM.cellAt;rw[if_pos c]
  rw[<-e];exact q
 ·rw[d]at c;have e:LM.cellAt b k=0:=by unfold LM.cellAt;rw[if_neg c]
  rw[e]at q;exact q
theorem GT:Fj ["_law_cell","_law_many","_law_found","_law_number","_law_k"] ["_law_cell","_law_many"] (Fg (Fm 55)):=⟨rfl,rfl,rfl,by decide +kernel,rfl,by decide +kernel,by decide +kernel⟩
theorem Jj(M:Md K mg x cB):Dn P w K mg base Ft 1 "_law_mixed" ["_law_cell","_law_many"] (KE):=by
 have g:=(GT).nd;refine M.f__law_mixed.ok GT (λvs H Q E h=>?_) (λ_ _ _ _ _ _ v a=>HZ (λ_ _=>rfl) v a) (λf I A u s H vs Q E J h=>?_)
 ·obtain⟨c,m,rfl,D,q⟩:=h;rfl
 obtain⟨c,m,rfl,D,q⟩:=h;refine⟨_,(rG (rM (i:=2) g rfl (Or.inl rfl) (sC rH))
   (rG (rM (i:=3) g rfl (Or.inl rfl) (rP sX (pv 0) rJ))
   (rG (sk (rN s9 (rP sj (pv 0) rJ) rJ (Fk _)) (rG (tP db rfl (sH rfl M.b_range (lg (pv 1) rH)) (rV (i:=4) g rfl (Or.inl rfl)) (rG (sw (tO cu cK cL su (pv 2) (lg (rP sj (pv 3) rJ) rH)))
   (rK (rM (i:=3) g rfl (Or.inl rfl) (rP sX (pv 3) rJ)))))
   (rK (rQ (pv 2)))) rO)
   (rG (rM (i:=3) g rfl (Or.inl rfl) (rP sj (rP sL (rP sM (rP sj (pv 3) rJ) rJ) rJ) rJ))
   (rG (tP db rfl (sH rfl M.b_range (lg (pv 1) rH)) (rV (i:=4) g rfl (Or.inl rfl)) (rG (rM (i:=3) g rfl (Or.inl rfl) (rP sj (rP sL (rP sL (rP sL (rP sM (pv 3) (pv 3)) (rP sM rJ (pv 3))) (pv 4)) rJ) rJ))
   (rK (sw (tO cu cK cL su (pv 2) (lg (pv 3) rH))))))
   (rK (rQ (pv 2)))))))),?_⟩
 have l:(0:Nat)<=sizeLine:=by decide
 refine⟨l,λp hp=>?_⟩;refine⟨_,rfl,c,2,rfl,rfl,c9 (by decide) (by decide),?_⟩;refine⟨_,rfl,c,2,rfl,rfl,by show(0:Int)<2;decide,rfl,_,rfl,?_⟩;refine FE (λt=>?_) (λt=>?_)
 ·have o:c%2=1:=Kz t;refine⟨_,rfl,(m:Int),rfl,by omega,by omega,?_⟩;refine sQ (n:=m) (λi j b=>Same H b/\b p=some (.lst ((LM.oddGo (c/2) i).1.map V.int))/\∃r,j=[some (.int c),some (.int m),some (.ref p),some (.int (LM.oddGo (c/2) i).2),r])
   ⟨mH hp _,rF,_,rfl⟩ (λi j b G e=>?_) (λj b e=>?_)
  ·obtain⟨d,a,r,rfl⟩:=e;have k:=LM.oddGo_len (c/2) i;refine⟨_,rfl,.inl ⟨rfl,_,SqL.of a⟩,_,rfl,_,5040,rfl,rfl,by show(0:Int)<5040;decide,p,_,_,rfl,rfl,a,Fh (by rw[bP,k];omega),?_⟩;refine⟨_,rfl,_,5040,rfl,rfl,c9 (by decide) (by decide),?_⟩;refine⟨d.over hp _,?_,_,rfl⟩;rw[rF,LM.oddGo,cb];rfl
  ·obtain⟨d,a,r,rfl⟩:=e;refine⟨_,rfl,q p b d hp ?_⟩;rw[a,LM.mixed,if_pos o]
 ·have o:¬c%2=1:=λz=>t (by show V.int (c%2)=V.int 1;rw[z]);refine⟨_,rfl,_,_,rfl,rfl,by show(0:Int)<2147483647;decide,_,_,rfl,rfl,LQ (by decide),_,_,rfl,rfl,_,_,rfl,rfl,by show(0:Int)<2147483647;decide,?_⟩;refine⟨_,rfl,(m:Int),rfl,by omega,by omega,?_⟩;have C:=cY (c/2%2147483647*16807+11) (show(2147483647:Int)≠0 by decide);have B:=cQ (c/2%2147483647*16807+11) (show(0:Int)<2147483647 by decide);refine sQ (n:=m) (λi j b=>Same H b/\b p=some (.lst ((LM.evenGo ((c/2%2147483647*16807+11)%2147483647) i).1.map V.int))/\∃r,j=[some (.int c),some (.int m),some (.ref p),some (.int (LM.evenGo ((c/2%2147483647*16807+11)%2147483647) i).2),r])
   ⟨mH hp _,rF,_,rfl⟩ (λi j b G e=>?_) (λj b e=>?_)
  ·obtain⟨d,a,r,rfl⟩:=e;have k:=LM.evenGo_len ((c/2%2147483647*16807+11)%2147483647) i;have y:=LM.evenGo_num _ C B i;refine⟨_,rfl,_,rfl,_,_,rfl,rfl,LC (by omega),_,rfl,_,_,rfl,rfl,LC (by decide),_,_,rfl,rfl,_,rfl,_,_,rfl,rfl,_,_,rfl,rfl,_,_,rfl,rfl,by show(0:Int)<2147483647;decide,?_⟩;refine⟨_,rfl,.inl ⟨rfl,_,SqL.of a⟩,_,rfl,p,_,_,rfl,rfl,a,Fh (by rw[bP,k];omega),?_⟩;refine⟨d.over hp _,?_,some (.int (0+(i:Int))),?_⟩
   ·rw[rF,LM.evenGo,cb,LM.evenX,d2];rfl
   ·rw[LM.evenGo,LM.evenX,d2];rfl
  ·obtain⟨d,a,r,rfl⟩:=e;refine⟨_,rfl,q p b d hp ?_⟩;rw[a,LM.mixed,if_neg o]
theorem Hj:Fj ["_law_number","_law_count","_law_found","_law_k"] ["_law_number","_law_count"] (Fg (Fm 56)):=⟨rfl,rfl,rfl,by decide +kernel,rfl,by decide +kernel,by decide +kernel⟩
theorem J5(M:Md K mg x cB):Dn P w K mg base Ft 1 "_law_perm" ["_law_number","_law_count"] (Lk):=by
 have k:=(Hj).nd;refine M.f__law_perm.ok Hj (λvs H Q E h=>?_) (λ_ _ _ _ _ _ o b=>HZ (λ_ _=>rfl) o b) (λf v A m s H vs Q E y h=>?_)
 ·obtain⟨a,n,rfl,u,q⟩:=h;rfl
 obtain⟨a,n,rfl,u,q⟩:=h;refine⟨_,(rG (rM (i:=2) k rfl (Or.inl rfl) (sC rH))
   (rG (tP db rfl (sH rfl M.b_range (lg (pv 1) rH)) (rV (i:=3) k rfl (Or.inl rfl)) (rG (sw (tO cu kr kt yc (pv 2) (lg (rP sj (pv 0) (rP sL (pv 3) rJ)) (lg (pv 3) rH))))
   (rK (rM (i:=0) k rfl (Or.inl rfl) (rP sX (pv 0) (rP sL (pv 3) rJ))))))
   (rK (rQ (pv 2))))),?_⟩
 have d:(0:Nat)<=sizeLine:=by decide
 refine⟨d,λp hp=>?_⟩;refine⟨_,rfl,(n:Int),rfl,by omega,by omega,?_⟩;refine sQ (n:=n) (λi l c=>Same H c/\c p=some (.lst ((LM.permGo a i).1.map V.int))/\∃r,l=[some (.int (LM.permGo a i).2),some (.int n),some (.ref p),r])
  ⟨mH hp _,rF,_,rfl⟩ (λi l c z j=>?_) (λl c j=>?_)
 ·obtain⟨g,b,r,rfl⟩:=j;have e:(LM.permGo a i).1.length=i:=LM.perm_len a i;have t:=cY (LM.permGo a i).2 (show(0+(i:Int)+1)≠0 by omega);have B:=cQ (LM.permGo a i).2 (show 0<(0+(i:Int)+1)by omega);refine⟨_,rfl,.inl ⟨rfl,_,SqL.of b⟩,_,rfl,_,rfl,_,_,rfl,rfl,_,_,rfl,rfl,by show 0<(0+(i:Int)+1);omega,_,rfl,p,_,_,_,rfl,rfl,b,t,by rw[bP,e];omega,Fh (by rw[bP,e];omega),?_⟩;refine⟨_,rfl,_,rfl,_,_,rfl,rfl,_,_,rfl,rfl,c9 (by omega) (by omega),?_⟩;refine⟨g.over hp _,?_,some (.int (0+(i:Int))),?_⟩
  ·rw[rF,LM.permGo,LM.ins,d2,cb,dh,kd,kf]
  ·rw[LM.permGo,d2];rfl
 ·obtain⟨g,b,r,rfl⟩:=j;exact⟨_,rfl,q p c g hp b⟩
theorem G9:Fj ["_law_cell","_law_size","_law_found","_law_rest","_law_k"] ["_law_cell","_law_size"] (Fg (Fm 59)):=⟨rfl,rfl,rfl,by decide +kernel,rfl,by decide +kernel,by decide +kernel⟩
theorem JP(M:Md K mg x cB):Dn P w K mg base Ft 1 "_law_base" ["_law_cell","_law_size"] (LD):=by
 have j:=(G9).nd;refine M.f__law_base.ok G9 (λvs H Q E h=>?_) (λ_ _ _ _ _ _ L b=>HZ (λ_ _=>rfl) L b) (λf T A I s H vs Q E W h=>?_)
 ·obtain⟨c,n,rfl,R,q⟩:=h;rfl
 obtain⟨c,n,rfl,R,q⟩:=h;refine⟨_,(rG (rM (i:=2) j rfl (Or.inl rfl) rY)
   (rG (rM (i:=3) j rfl (Or.inl rfl) (rP sX (pv 0) rJ))
   (rG (sk (rN s9 (rP sj (pv 0) rJ) rJ (Fk _)) (rK (rM (i:=3) j rfl (Or.inl rfl) (rP sj (rP sL (rP sM (rP sj (pv 3) rJ) rJ) rJ) rJ))) rO)
   (rG (tP db rfl (sH rfl M.b_range (lg (pv 1) rH)) (rV (i:=4) j rfl (Or.inl rfl)) (rG (sk (rN s9 (rP sj (pv 0) rJ) rJ (Fk _)) (rK (rM (i:=3) j rfl (Or.inl rfl) (rP sj (rP sL (rP sL (rP sL (rP sM (pv 3) (pv 3)) (rP sM rJ (pv 3))) (pv 4)) rJ) rJ))) rO)
   (rG (rM (i:=2) j rfl (Or.inl rfl) (rP sR (pv 2) (rS yo rY (rP sj (pv 3) rJ) (λ_ _=>rfl))))
   (rK (sk (rN s9 (rP sj (pv 0) rJ) rJ (Fk _)) (rK (rM (i:=3) j rfl (Or.inl rfl) (rP sX (pv 3) rJ))) rO)))))
   (rK (rQ (pv 2))))))),?_⟩
 have O:=cY (c/2%2147483647*16807+11) (show(2147483647:Int)≠0 by decide);have N:=cQ (c/2%2147483647*16807+11) (show(0:Int)<2147483647 by decide);refine⟨_,rfl,c,2,rfl,rfl,c9 (by decide) (by decide),?_⟩;have nil:Ltr "":=λc v=>nomatch (show c∈([]:List Nat)from v);have t:Lx.length<=sizeLine:=by show 26<=sizeLine;decide
 have pick:∀r:Int,∃k:Nat,k<26/\HQ Lx.cps.toList (r%26)=some (97+k):=λr=>by
  have C:=cY r (show(26:Int)≠0 by decide);have G:=cQ r (show(0:Int)<26 by decide);exact⟨(r%26).toNat,by omega,Dq C G⟩
 have d:∀k:Nat,(⟨#[97+k]⟩:Str).length=1:=λ_=>rfl;refine⟨_,rfl,c,2,rfl,rfl,by show(0:Int)<2;decide,rfl,_,rfl,?_⟩;refine FE (λu=>?_) (λu=>?_)
 ·have v:c%2=0:=Kz u;refine⟨_,rfl,_,_,rfl,rfl,by show(0:Int)<2147483647;decide,_,_,rfl,rfl,LQ (by decide),_,_,rfl,rfl,_,_,rfl,rfl,by show(0:Int)<2147483647;decide,?_⟩;refine⟨_,rfl,(n:Int),rfl,by omega,by omega,?_⟩;refine sQ (n:=n) (λi o l=>l=H/\∃(z:Str) (r:Int) (k:Option V),o=[some (.int c),some (.int n),some (.str z),some (.int r),k]/\z.length=i/\Ltr z/\0<=r/\r<2147483647) ⟨rfl,"",_,_,rfl,rfl,nil,O,N⟩ (λi o l S g=>?_) (λo l g=>?_)
  ·obtain⟨rfl,z,r,k,rfl,a,b,X,U⟩:=g;refine⟨_,rfl,c,2,rfl,rfl,by show(0:Int)<2;decide,rfl,_,rfl,FD u ?_⟩;refine⟨_,rfl,_,rfl,_,_,rfl,rfl,LC (by omega),_,rfl,_,_,rfl,rfl,LC (by decide),_,_,rfl,rfl,_,rfl,_,_,rfl,rfl,_,_,rfl,rfl,_,_,rfl,rfl,by show(0:Int)<2147483647;decide,?_⟩;dsimp -proj only;have D:=cY (r*r+48271*r+(0+(i:Int))+1) (show(2147483647:Int)≠0 by decide);have F:=cQ (r*r+48271*r+(0+(i:Int))+1) (show(0:Int)<2147483647 by decide);generalize(r*r+48271*r+(0+(i:Int))+1)%2147483647=y at D F;obtain⟨m,B,p⟩:=pick y;refine⟨_,rfl,_,rfl,y,26,rfl,rfl,by show(0:Int)<26;decide,Lx,_,_,rfl,rfl,t,p,z,_,rfl,rfl,by rw[d,a];exact cx (Fh (by omega)),?_⟩;refine⟨_,rfl,c,2,rfl,rfl,by show(0:Int)<2;decide,rfl,_,rfl,Fp (λJ=>by have:=Kz J;omega) ?_⟩;exact⟨rfl,_,y,_,rfl,by rw[sI,d,a],b.app (Ltr.one B),D,F⟩
  ·obtain⟨rfl,z,r,k,rfl,a,b,_⟩:=g;exact⟨_,rfl,q z a b⟩
 ·refine⟨_,rfl,(n:Int),rfl,by omega,by omega,?_⟩;have v:c%2=1:=by
   have C:=cY c (show(2:Int)≠0 by decide);have G:=cQ c (show(0:Int)<2 by decide);have:¬c%2=0:=λe=>u (by show V.int (c%2)=V.int 0;rw[e]);omega
  refine sQ (n:=n) (λi o l=>l=H/\∃(z:Str) (r:Int) (k:Option V),o=[some (.int c),some (.int n),some (.str z),some (.int r),k]/\z.length=i/\Ltr z) ⟨rfl,"",_,_,rfl,rfl,nil⟩ (λi o l S g=>?_) (λo l g=>?_)
  ·obtain⟨rfl,z,r,k,rfl,a,b⟩:=g;refine⟨_,rfl,c,2,rfl,rfl,by show(0:Int)<2;decide,rfl,_,rfl,Fp u ?_⟩;obtain⟨m,B,p⟩:=pick r;refine⟨_,rfl,_,rfl,r,26,rfl,rfl,by show(0:Int)<26;decide,Lx,_,_,rfl,rfl,t,p,z,_,rfl,rfl,by rw[d,a];exact cx (Fh (by omega)),?_⟩;refine⟨_,rfl,c,2,rfl,rfl,by show(0:Int)<2;decide,rfl,_,rfl,FD (by show V.int (c%2)=V.int 1;rw[v]) ?_⟩;refine⟨_,rfl,r,26,rfl,rfl,c9 (by decide) (by decide),?_⟩;exact⟨rfl,_,_,_,rfl,by rw[sI,d,a],b.app (Ltr.one B)⟩
  ·obtain⟨rfl,z,r,k,rfl,a,b⟩:=g;exact⟨_,rfl,q z a b⟩
theorem Hf:Fj ["_law_base_here","_law_place","_law_size","_law_k","_law_letters","_law_other"] ["_law_base_here","_law_place","_law_size","_law_k"] (Fg (Fm 60)):=⟨rfl,rfl,rfl,by decide +kernel,rfl,by decide +kernel,by decide +kernel⟩
theorem Ka(M:Md K mg x cB):Dn P w K mg base Ft 1 "_law_word" ["_law_base_here","_law_place","_law_size","_law_k"] (JE):=by
 have n:=(Hf).nd;refine M.f__law_word.ok Hf (λvs H Q E h=>?_) (λ_ _ _ _ _ _ u g=>Os (λ_ _ _ _=>rfl) u g) (λf C A t s H vs Q E G h=>?_)
 ·obtain⟨b,p,a,k,rfl,r,g,hp,y,hk,q⟩:=h;rfl
 obtain⟨b,p,a,k,rfl,r,g,hp,y,hk,q⟩:=h;refine⟨_,(rG (rM (i:=4) n rfl (Or.inl rfl) rY)
   (rG (rM (i:=5) n rfl (Or.inl rfl) (rS yo (pv 4) (rP sj (rP sL (tO gU PySem.F.slot_str_find PySem.F.type_str_find Ep (pv 4) (lg (rS yo (pv 0) (pv 1) (λ_ _=>rfl)) rH)) (rP sM rJ (pv 3))) rJ) (λ_ _=>rfl)))
   (rK (rQ (rP sR (rP sR (sT vA (pv 0) tN (sY (pv 1))) (pv 5)) (sT vA (pv 0) (sY (rP sL (pv 1) rJ)) (sY (pv 2)))))))),?_⟩
 have j:Lx.length<=sizeLine:=by show 26<=sizeLine;decide
 have d:b.length<=sizeLine:=cx (Fh (by omega));have B:b.cps.toList.length=12:=by rw[<-tj];exact r
 have c:p<b.cps.toList.length:=by omega
 have D:=g _ (cm c);have m:HQ b.cps.toList (p:Int)=some b.cps.toList[p]:=sO (bT c);have l:=Cc (show b.cps.toList[p]-97<26 by omega);rw[show 97+(b.cps.toList[p]-97)=b.cps.toList[p]by omega]at l;have v:=cY (((b.cps.toList[p]-97:Nat):Int)+3*(k:Int)) (show(26:Int)≠0 by decide);have z:=cQ (((b.cps.toList[p]-97:Nat):Int)+3*(k:Int)) (show(0:Int)<26 by decide);refine⟨_,rfl,_,rfl,rfl,_,rfl,_,rfl,b,_,_,rfl,rfl,d,m,Lx,_,rfl,rfl,_,rfl,_,_,rfl,rfl,LC (by decide),_,_,rfl,rfl,_,_,rfl,rfl,by show(0:Int)<26;decide,Lx,_,_,rfl,rfl,j,by rw[l];exact Dq v z,?_⟩;refine⟨_,rfl,_,rfl,_,rfl,b,rfl,d,?_⟩;rw[vF (show p<=b.cps.toList.length by omega)];refine⟨_,rfl,_,_,rfl,rfl,by rw[ug,cf];exact cx (Fh (by show _+1<=1000;omega)),?_⟩;refine⟨_,rfl,_,rfl,_,_,rfl,rfl,_,rfl,_,rfl,_,rfl,b,rfl,d,?_⟩;rw[show((p:Int)+1)=((p+1:Nat):Int)by push_cast;rfl,Av (show p+1<=a by omega) (show a<=b.cps.toList.length by omega)];refine⟨_,_,rfl,rfl,by rw[sI,ug,ug,ug,cf,cf,dP];exact cx (Fh (by show _+1+_<=1000;omega)),?_⟩;have e:(((⟨(b.cps.toList.take p).toArray⟩:Str)++⟨#[97+((((b.cps.toList[p]-97:Nat):Int)+3*(k:Int))%26).toNat]⟩)++⟨((b.cps.toList.drop (p+1)).take (a-(p+1))).toArray⟩:Str)=⟨(F5 b.cps.toList p a k).toArray⟩:=by
  refine wq ?_;rw[sK,sK];unfold F5;rw[HM.getD_lt c,show((((b.cps.toList[p]-97:Nat):Int)+3*(k:Int))%26).toNat=(b.cps.toList[p]-97+3*k)%26 by omega];simp
 have o:=q;rw[<-e]at o;exact o
theorem GW:Fj ["_law_script","_law_at","_law_many","_law_cell","_law_size","_law_base_here","_law_words_here","_law_k","_law_word_here"] ["_law_script","_law_at","_law_many"] (Fg (Fm 61)):=⟨rfl,rfl,rfl,by decide +kernel,rfl,by decide +kernel,by decide +kernel⟩
theorem Jg(M:Md K mg x cB)
  (G_law_cell_at:Dn P w K mg base Ft 1 "_law_cell_at" ["_law_script","_law_k"] (Kr K))
  (G_law_base:Dn P w K mg base Ft 1 "_law_base" ["_law_cell","_law_size"] (LD))
  (G_law_word:Dn P w K mg base Ft 1 "_law_word" ["_law_base_here","_law_place","_law_size","_law_k"] (JE)):Dn P w K mg base Ft 2 "_law_words" ["_law_script","_law_at","_law_many"] (IW K):=by
 have j:=(GW).nd
 refine M.f__law_words.ok GW (λvs H Q E h=>?_) (λ_ _ _ _ _ _ S z=>Lc (λ_ _ _=>rfl) S z) (λf U A R s H vs Q E y h=>?_)
 ·obtain⟨a,B,r,n,rfl,D,h1,h6,q⟩:=h
  rfl
 obtain⟨a,B,r,n,rfl,D,h1,h6,q⟩:=h
 refine⟨_,(rG (rM (i:=3) j rfl (Or.inl rfl) (sh G_law_cell_at y (by decide) rfl Fn (lg (pv 0) (lg (pv 1) rH))))
   (rG (rM (i:=4) j rfl (Or.inl rfl) (rP sL rJ (rP sj (pv 3) rJ)))
   (rG (rM (i:=5) j rfl (Or.inl rfl) (sh G_law_base y (by decide) rfl Fn (lg (sh G_law_cell_at y (by decide) rfl Fn (lg (pv 0) (lg (rP sL (pv 1) rJ) rH))) (lg rJ rH))))
   (rG (rM (i:=6) j rfl (Or.inl rfl) (sC rH))
   (rG (tP db rfl (sH rfl M.b_range (lg (pv 2) rH)) (rV (i:=7) j rfl (Or.inl rfl)) (rG (rM (i:=8) j rfl (Or.inl rfl) (sh G_law_word y (by decide) rfl Fn (lg (pv 5) (lg (rP sj (rP sX (pv 3) rJ) (pv 4)) (lg (pv 4) (lg (pv 7) rH))))))
   (rG (sk (rN s9 (rP sj (rP sX (pv 3) rJ) rJ) rJ (Fk _)) (rK (rM (i:=8) j rfl (Or.inl rfl) (sT vA (pv 5) tN (sY (rP sL (pv 7) rJ))))) rO)
   (rK (sw (tO cu cK cL su (pv 6) (lg (pv 8) rH)))))))
   (rK (rQ (pv 6)))))))),?_⟩
 refine⟨_,rfl,_,rfl,a,B,_,rfl,D,by omega,?_⟩
 generalize LM.cellAt B (r:Int)=c
 have X:=cY c (show(12:Int)≠0 by decide)
 have m1:=cQ c (show(0:Int)<12 by decide)
 obtain⟨d,N⟩:∃d:Nat,1+c%12=(d:Int):=⟨(1+c%12).toNat,by omega⟩
 have Y:=cY (c/48) (show(d:Int)≠0 by omega)
 have W:=cQ (c/48) (show(0:Int)<d by omega)
 obtain⟨p,hp⟩:∃p:Nat,c/48%(d:Int)=(p:Int):=⟨(c/48%(d:Int)).toNat,by omega⟩
 refine⟨_,rfl,c,12,rfl,rfl,by show(0:Int)<12;decide,_,_,rfl,rfl,?_⟩
 dsimp only
 rw[N]
 refine⟨_,rfl,_,rfl,_,_,rfl,rfl,a,B,_,rfl,D,by omega,_,12,rfl,by decide,λb I z=>?_⟩
 have t:(0:Nat)<=sizeLine:=by decide
 have O:b.length<=sizeLine:=cx (Fh (by omega))
 have T:b.cps.toList.length=12:=by rw[<-tj];exact I
 refine⟨t,λl m=>?_⟩
 refine⟨_,rfl,(n:Int),rfl,by omega,by omega,?_⟩
 refine sQ (n:=n) (λi J o=>Same H o/\o l=some (.lst (((cp i).map λk=>if c/12%4=1 then(⟨(b.cps.toList.take (k+1)).toArray⟩:Str)else⟨(F5 b.cps.toList p d k).toArray⟩).map V.str))/\∃k w,J=[some (.ref a),some (.int r),some (.int n),some (.int c),some (.int d),some (.str b),some (.ref l),k,w]) ⟨mH m _,rF,_,_,rfl⟩ (λi J o Z G=>?_) (λJ o G=>?_)
 ·obtain⟨v,g,k,w,rfl⟩:=G
  have u:(((cp i).map λk=>if c/12%4=1 then(⟨(b.cps.toList.take (k+1)).toArray⟩:Str)else⟨(F5 b.cps.toList p d k).toArray⟩).map V.str).length<sizeLine:=Fh (by rw[bP,bP,eI];omega)
  refine⟨_,rfl,_,rfl,c,48,rfl,rfl,c9 (by decide) (by decide),_,rfl,_,_,rfl,rfl,by show(0:Int)<d;omega,_,rfl,_,rfl,b,p,d,i,by show[V.str b,V.int (c/48%(d:Int)),V.int d,V.int (0+(i:Int))]=_;rw[hp,d2],I,z,by omega,by omega,by omega,?_⟩
  refine⟨_,rfl,c,12,rfl,rfl,c9 (by decide) (by decide),_,_,rfl,rfl,by show(0:Int)<4;decide,rfl,_,rfl,?_⟩
  refine FE (λL=>?_) (λL=>?_)
  ·have C:c/12%4=1:=Kz L
   refine⟨_,rfl,_,rfl,_,_,rfl,rfl,_,rfl,b,rfl,O,?_⟩
   rw[show((0:Int)+(i:Int)+1)=((i+1:Nat):Int)by omega,vF (show i+1<=b.cps.toList.length by omega)]
   refine⟨_,rfl,.inl ⟨rfl,_,SqL.of g⟩,_,rfl,l,_,_,rfl,rfl,g,u,?_⟩
   refine⟨v.over m _,?_,_,_,rfl⟩
   rw[rF,fF,cb,cb,mX,if_pos C]
   rfl
  ·have C:¬c/12%4=1:=λe=>L (by show V.int (c/12%4)=V.int 1;rw[e])
   refine⟨_,rfl,.inl ⟨rfl,_,SqL.of g⟩,_,rfl,l,_,_,rfl,rfl,g,u,?_⟩
   refine⟨v.over m _,?_,_,_,rfl⟩
   rw[rF,fF,cb,cb,mX,if_neg C]
   rfl
 ·obtain⟨v,g,k,w,rfl⟩:=G
  exact⟨_,rfl,q l _ o v m g (Af I z (by omega) (by omega) h1 h6) (by rw[bP,eI])⟩
theorem Gp:Fj ["_law_one","_law_other","_law_rest"] ["_law_one","_law_other"] (Fg (Fm 57)):=⟨rfl,rfl,rfl,by decide +kernel,rfl,by decide +kernel,by decide +kernel⟩
theorem IB(M:Md K mg x cB):Dn P w K mg base Ft 1 "_law_divisor" ["_law_one","_law_other"] (Jb):=by
 have g:=(Gp).nd;refine M.f__law_divisor.ok Gp (λvs H Q E h=>?_) (λ_ _ _ _ _ _ B C=>HZ (λ_ _=>rfl) B C) (λf G A t s H vs Q E J h=>?_)
 ·obtain⟨i,j,rfl,o,q⟩:=h;rfl
 obtain⟨i,j,rfl,o,q⟩:=h;refine⟨_,(rG (ux db (rN yw (pv 1) rJ (Fk _)) (rG (rM (i:=2) g rfl (Or.inl rfl) (rP sj (pv 0) (pv 1)))
   (rG (rM (i:=0) g rfl (Or.inl rfl) (pv 1))
   (rK (rM (i:=1) g rfl (Or.inl rfl) (pv 2))))))
   (rK (rQ (rL xv rfl M.b_abs Boot.«abs» (lg (pv 0) rH))))),?_⟩
 refine xJ (λm n l=>l=H/\∃(a b:Int) (r:Option V),n=[some (.int a),some (.int b),r]/\0<=b/\Int.gcd a b=Int.gcd i j/\m=b.toNat)
  ⟨_,rfl,_,_,_,rfl,o,rfl,rfl⟩ (λm n l y=>?_) (λn l I N D h=>?_)
 ·obtain⟨rfl,a,b,r,rfl,L,p,rfl⟩:=y;refine⟨_,rfl,rfl,_,rfl,?_⟩;refine II (λc=>?_) (λc=>?_)
  ·have d:b≠0:=λz=>c (by rw[z]);refine⟨_,rfl,_,rfl,a,b,rfl,rfl,by show(0:Int)<b;omega,_,rfl,_,rfl,?_⟩;refine⟨(a%b).toNat,?_,rfl,b,a%b,_,rfl,cY _ d,?_,rfl⟩
   ·have:=cQ a (show 0<b by omega);have:=cY a d;omega
   ·rw[FQ.gcd_turn,p]
  ·have d:b=0:=Kz c;subst d;refine⟨_,rfl,a,rfl,?_⟩;have e:(if a<0 then -a else a)=(Int.gcd i j:Int):=by rw[<-p];simp;split <;> omega
   rw[e];exact q
 ·obtain⟨v,e,F,k,u,q⟩:=h;exact⟨v,e,F,k,u,D _ _ q⟩
theorem GG:Fj ["_law_top","_law_bottom","_law_share"] ["_law_top","_law_bottom"] (Fg (Fm 58)):=⟨rfl,rfl,rfl,by decide +kernel,rfl,by decide +kernel,by decide +kernel⟩
theorem IQ(M:Md K mg x cB)
  (G_law_divisor:Dn P w K mg base Ft 1 "_law_divisor" ["_law_one","_law_other"] (Jb)):Dn P w K mg base Ft 2 "_law_lowest" ["_law_top","_law_bottom"] (JA):=by
 have d:=(GG).nd
 refine M.f__law_lowest.ok GG (λvs H Q E h=>?_) (λ_ _ _ _ _ _ j l=>HZ (λ_ _=>rfl) j l) (λf m A g s H vs Q E k h=>?_)
 ·obtain⟨t,b,rfl,e,c,q⟩:=h
  rfl
 obtain⟨t,b,rfl,e,c,q⟩:=h
 refine⟨_,(rG (sk (rN zM (pv 1) rJ (Fk _)) A0 rO)
   (rG (sk (rN s9 (pv 1) rJ (Fk _)) (rK (rM (i:=1) d rfl (Or.inl rfl) rJ)) rO)
   (rG (rM (i:=2) d rfl (Or.inl rfl) (sh G_law_divisor k (by decide) rfl Fn (lg (pv 0) (lg (pv 1) rH))))
   (rK (rQ (sx (lg (rP sX (pv 0) (pv 2)) (lg (rP sX (pv 1) (pv 2)) rH)))))))),?_⟩
 refine⟨_,rfl,_,_,rfl,rfl,_,rfl,Fp (by omega) ?_⟩
 refine⟨_,rfl,rfl,_,rfl,Fp (Ol (by omega)) ?_⟩
 refine⟨_,rfl,_,rfl,t,b,rfl,ef e,?_⟩
 have a:=(vz (t:=t) (b:=b) (by omega) c).2 (by omega)
 have n:0<Int.gcd t b:=eA _ (by omega)
 refine⟨_,rfl,_,rfl,t,_,rfl,rfl,⟨by omega,a.1.2⟩,_,rfl,_,rfl,b,_,rfl,rfl,⟨by omega,a.1.2⟩,by show 2<=sizeLine;decide,λp hp=>q p _ (mH hp _) ?_⟩
 rw[rF]
 show some (HO.tup [V.int (t/_),V.int (b/_)])=_
 rw[<-ig t (by omega),<-ig b (by omega),a.2.1,a.2.2]
 rfl
theorem Hl:Fj ["_law_found","_law_due_here","_law_k"] ["_law_found","_law_due_here"] (Fg (Fm 62)):=⟨rfl,rfl,rfl,by decide +kernel,rfl,by decide +kernel,by decide +kernel⟩
theorem F6{n:Nat}(M:Md K mg x cB)
  (G_law_same:Dn P w K mg base Ft n "_law_same" ["_law_found","_law_due_here"] (Lw (Kj K) n)):Dn P w K mg base Ft (n+1) "_law_same" ["_law_found","_law_due_here"] (Kj K n):=by
 have R:=(Hl).nd
 refine M.f__law_same.ok Hl (λvs H Q E h=>?_) (λ_ _ _ _ _ _ O S=>HZ (λ_ _=>rfl) O S) (λf U A N s H vs Q E z h=>?_)
 ·obtain⟨v,u,d,rfl,L,k,c,q⟩:=h
  rfl
 obtain⟨v,u,d,rfl,L,k,c,q⟩:=h
 refine⟨_,(rG (sk (PW.pt (xV (sD (rL sE rfl M.b_isinstance Boot.«isinstance» (lg (pv 1) (lg (t6 rfl M.b_tuple Boot.«tuple») rH)))) (wQ (sD (rL sE rfl M.b_isinstance Boot.«isinstance» (lg (pv 1) (lg (t6 rfl M.b_list Boot.«list») rH))))))) (rG (sk (PW.pt (xV (rN yw (rL sE rfl M.b_isinstance Boot.«isinstance» (lg (pv 0) (lg (t6 rfl M.b_tuple Boot.«tuple») rH))) (rL sE rfl M.b_isinstance Boot.«isinstance» (lg (pv 1) (lg (t6 rfl M.b_tuple Boot.«tuple») rH))) (Fk _)) (wQ (rN yw (rL sE rfl M.b_isinstance Boot.«isinstance» (lg (pv 0) (lg (t6 rfl M.b_list Boot.«list») rH))) (rL sE rfl M.b_isinstance Boot.«isinstance» (lg (pv 1) (lg (t6 rfl M.b_list Boot.«list») rH))) (Fk _))))) (rK (rQ vj)) rO)
   (rG (sk (rN yw (rL rW rfl M.b_len cU (lg (pv 0) rH)) (rL rW rfl M.b_len cU (lg (pv 1) rH)) (Fk _)) (rK (rQ vj)) rO)
   (rG (tP db rfl (sH rfl M.b_range (lg (rL rW rfl M.b_len cU (lg (pv 1) rH)) rH)) (rV (i:=2) R rfl (Or.inl rfl)) (rK (sk (tU (sD (sh G_law_same z (bX _) rfl Fn (lg (rS Dx (pv 0) (pv 2) (λ_ _=>rfl)) (lg (rS Dx (pv 1) (pv 2) (λ_ _=>rfl)) rH))))) (rK (rQ vj)) rO)))
   (rK (rQ vj))))) rO)
   (rG (sk (sD (rL sE rfl M.b_isinstance Boot.«isinstance» (lg (pv 1) (lg (t6 rfl M.b_bool Boot.«bool») rH)))) (rK (rQ (uM (rL sE rfl M.b_isinstance Boot.«isinstance» (lg (pv 0) (lg (t6 rfl M.b_bool Boot.«bool») rH))) (wg (ua (u9 z) (pv 0) (pv 1) (Fk _)))))) rO)
   (rG (sk (sD (rL sE rfl M.b_isinstance Boot.«isinstance» (lg (pv 1) (lg (t6 rfl M.b_int Boot.«int») rH)))) (rK (rQ (uM (rL sE rfl M.b_isinstance Boot.«isinstance» (lg (pv 0) (lg (t6 rfl M.b_int Boot.«int») rH))) (uM (Do (rL sE rfl M.b_isinstance Boot.«isinstance» (lg (pv 0) (lg (t6 rfl M.b_bool Boot.«bool») rH)))) (wg (ua (u9 z) (pv 0) (pv 1) (Fk _))))))) rO)
   (rG (sk (sD (rL sE rfl M.b_isinstance Boot.«isinstance» (lg (pv 1) (lg (t6 rfl M.b_str Boot.«str») rH)))) (rK (rQ (uM (rL sE rfl M.b_isinstance Boot.«isinstance» (lg (pv 0) (lg (t6 rfl M.b_str Boot.«str») rH))) (wg (ua (u9 z) (pv 0) (pv 1) (Fk _)))))) rO)
   (rK (rQ (uM (ua A2 (pv 1) uE (Fk _)) (wg (ua A2 (pv 0) uE (Fk _)))))))))),?_⟩
 cases L with
 | non=>
  cases k
  refine⟨_,rfl,_,_,"NoneType",rfl,by decide,rfl,_,rfl,Fv ⟨_,rfl,_,_,"NoneType",rfl,by decide,rfl,_,rfl,Fv ?_⟩⟩
  refine⟨_,rfl,_,_,"NoneType",rfl,by decide,rfl,_,rfl,Fv ?_⟩
  refine⟨_,rfl,_,_,"NoneType",rfl,by decide,rfl,_,rfl,Fv ?_⟩
  refine⟨_,rfl,_,_,"NoneType",rfl,by decide,rfl,_,rfl,Fv ?_⟩
  exact⟨_,rfl,rfl,_,rfl,FH ⟨_,rfl,rfl,q⟩⟩
 | bl b=>
  cases k
  refine⟨_,rfl,_,_,"bool",rfl,by decide,rfl,_,rfl,Fv ⟨_,rfl,_,_,"bool",rfl,by decide,rfl,_,rfl,Fv ?_⟩⟩
  refine⟨_,rfl,_,_,"bool",rfl,by decide,rfl,_,rfl,FH ?_⟩
  refine⟨_,rfl,_,_,"bool",rfl,by decide,rfl,_,rfl,FH ?_⟩
  refine⟨_,rfl,_,rfl,_,_,.bl b,.bl b,rfl,rfl,?_⟩
  rw[show eh (.bool b) (.bool b)=true by simp[eh]]
  exact q
 | int i=>
  cases k
  refine⟨_,rfl,_,_,"int",rfl,by decide,rfl,_,rfl,Fv ⟨_,rfl,_,_,"int",rfl,by decide,rfl,_,rfl,Fv ?_⟩⟩
  refine⟨_,rfl,_,_,"int",rfl,by decide,rfl,_,rfl,Fv ?_⟩
  refine⟨_,rfl,_,_,"int",rfl,by decide,rfl,_,rfl,FH ?_⟩
  refine⟨_,rfl,_,_,"int",rfl,by decide,rfl,_,rfl,FH ⟨_,rfl,_,_,"int",rfl,by decide,rfl,_,rfl,_,rfl,FH ?_⟩⟩
  refine⟨_,rfl,_,rfl,_,_,.int i,.int i,rfl,rfl,?_⟩
  rw[show eh (.int i) (.int i)=true by simp[eh]]
  exact q
 | str x=>
  cases k
  have B:eg (.str x)=true:=by cases n <;> simpa [GQ]using c
  refine⟨_,rfl,_,_,"str",rfl,by decide,rfl,_,rfl,Fv ⟨_,rfl,_,_,"str",rfl,by decide,rfl,_,rfl,Fv ?_⟩⟩
  refine⟨_,rfl,_,_,"str",rfl,by decide,rfl,_,rfl,Fv ?_⟩
  refine⟨_,rfl,_,_,"str",rfl,by decide,rfl,_,rfl,Fv ?_⟩
  refine⟨_,rfl,_,_,"str",rfl,by decide,rfl,_,rfl,FH ?_⟩
  refine⟨_,rfl,_,_,"str",rfl,by decide,rfl,_,rfl,FH ?_⟩
  refine⟨_,rfl,_,rfl,_,_,.str x,.str x,B,B,?_⟩
  rw[show eh (.str x) (.str x)=true by simp[eh]]
  exact q
 | @lst a xs ds hv hvs hl1=>
  cases k with
  | @lst b ys _ hu hus hl2=>
  cases n with
  | zero=>cases c
  | succ n=>

  have p:=Reps.length hvs
  have t:=Reps.length hus
  refine⟨_,rfl,_,_,"list",rfl,by decide,.inl ⟨rfl,_,hu⟩,_,rfl,Fv ⟨_,rfl,_,_,"list",rfl,by decide,.inl ⟨rfl,_,hu⟩,_,rfl,FH ?_⟩⟩
  refine⟨_,rfl,_,_,"list",rfl,by decide,.inl ⟨rfl,_,hv⟩,_,rfl,_,_,"list",rfl,by decide,.inl ⟨rfl,_,hu⟩,rfl,_,rfl,Hx rfl ?_⟩
  refine⟨_,rfl,_,_,"list",rfl,by decide,.inl ⟨rfl,_,hv⟩,_,rfl,_,_,"list",rfl,by decide,.inl ⟨rfl,_,hu⟩,rfl,_,rfl,Hx rfl ?_⟩
  refine⟨_,rfl,_,_,rfl,.inl hv,_,rfl,_,_,rfl,.inl hu,rfl,_,rfl,Hx (by rw[p,t]) ?_⟩
  refine⟨_,rfl,_,_,rfl,.inl hu,_,rfl,by omega,by omega,?_⟩
  refine sQ (λi m l=>l=H/\∃r,m=[some _,some _,r]) ⟨rfl,_,rfl⟩ (λi m l T g=>?_) (λm l g=>?_)
  ·obtain⟨rfl,r,rfl⟩:=g
   have e:i<ds.length:=by omega
   have o:ds[i]?=some ds[i]:=by simp[e]
   obtain⟨x,J,F⟩:=Reps.get hvs o
   obtain⟨y,D,I⟩:=Reps.get hus o
   have j:GQ n ds[i]=true:=de.mp c _ (cm e)
   have G:HQ xs (0+(i:Int))=some x:=by rw[d2];exact sO J
   have C:HQ ys (0+(i:Int))=some y:=by rw[d2];exact sO D
   exact⟨_,rfl,_,rfl,.inl ⟨_,xs,_,x,rfl,rfl,hv,G,_,rfl,_,rfl,.inl ⟨_,ys,_,y,rfl,rfl,hu,C,x,y,ds[i],rfl,F,I,j,_,rfl,Fv ⟨rfl,_,rfl⟩⟩⟩⟩
  ·obtain⟨rfl,r,rfl⟩:=g
   exact q
 | @tup a xs ds hv hvs hl1=>
  cases k with
  | @tup b ys _ hu hus hl2=>
  cases n with
  | zero=>cases c
  | succ n=>

  have p:=Reps.length hvs
  have t:=Reps.length hus
  refine⟨_,rfl,_,_,"tuple",rfl,by decide,.inr ⟨rfl,_,hu⟩,_,rfl,FH ?_⟩
  refine⟨_,rfl,_,_,"tuple",rfl,by decide,.inr ⟨rfl,_,hv⟩,_,rfl,_,_,"tuple",rfl,by decide,.inr ⟨rfl,_,hu⟩,rfl,_,rfl,Hx rfl ?_⟩
  refine⟨_,rfl,_,_,"tuple",rfl,by decide,.inr ⟨rfl,_,hv⟩,_,rfl,_,_,"tuple",rfl,by decide,.inr ⟨rfl,_,hu⟩,rfl,_,rfl,Hx rfl ?_⟩
  refine⟨_,rfl,_,_,rfl,.inr hv,_,rfl,_,_,rfl,.inr hu,rfl,_,rfl,Hx (by rw[p,t]) ?_⟩
  refine⟨_,rfl,_,_,rfl,.inr hu,_,rfl,by omega,by omega,?_⟩
  refine sQ (λi m l=>l=H/\∃r,m=[some _,some _,r]) ⟨rfl,_,rfl⟩ (λi m l T g=>?_) (λm l g=>?_)
  ·obtain⟨rfl,r,rfl⟩:=g
   have e:i<ds.length:=by omega
   have o:ds[i]?=some ds[i]:=by simp[e]
   obtain⟨x,J,F⟩:=Reps.get hvs o
   obtain⟨y,D,I⟩:=Reps.get hus o
   have j:GQ n ds[i]=true:=de.mp c _ (cm e)
   have G:HQ xs (0+(i:Int))=some x:=by rw[d2];exact sO J
   have C:HQ ys (0+(i:Int))=some y:=by rw[d2];exact sO D
   exact⟨_,rfl,_,rfl,.inr (.inl ⟨_,xs,_,x,rfl,rfl,hv,G,_,rfl,_,rfl,.inr (.inl ⟨_,ys,_,y,rfl,rfl,hu,C,x,y,ds[i],rfl,F,I,j,_,rfl,Fv ⟨rfl,_,rfl⟩⟩)⟩)⟩
  ·obtain⟨rfl,r,rfl⟩:=g
   exact q
theorem GY:Fj ["_law_e","_law_found"] ["_law_e"] (Fg (Fm 63)):=⟨rfl,rfl,rfl,by decide +kernel,rfl,by decide +kernel,by decide +kernel⟩
theorem Js(M:Md K mg x cB):Dn P w K mg base Ft 1 "_law_kinds" ["_law_e"] (HJ x):=by
 have o:=(GY).nd;refine M.f__law_kinds.ok GY (λvs H Q E h=>?_) (λ_ _ _ _ _ _ m r=>KB (λ_=>rfl) m r) (λf u A l s H vs Q E v h=>?_)
 ·obtain⟨a,C,k,rfl,j,hk,q⟩:=h;rfl
 obtain⟨a,C,k,rfl,j,hk,q⟩:=h;refine⟨_,(rG (rM (i:=1) o rfl (Or.inl rfl) (sC rH))
   (rG (sk (sD (rL tJ rfl M.b_isinstance Boot.«isinstance» (lg (pv 0) (lg (uS M.x_NoFraction) rH)))) (rK (sw (tO cu cK cL su (pv 1) (lg rY rH)))) rO)
   (rG (sk (sD (rL tJ rfl M.b_isinstance Boot.«isinstance» (lg (pv 0) (lg (uS M.x_NoWishes) rH)))) (rK (sw (tO cu cK cL su (pv 1) (lg rY rH)))) rO)
   (rG (sk (sD (rL tJ rfl M.b_isinstance Boot.«isinstance» (lg (pv 0) (lg (uS M.x_NoTable) rH)))) (rK (sw (tO cu cK cL su (pv 1) (lg rY rH)))) rO)
   (rG (sk (sD (rL tJ rfl M.b_isinstance Boot.«isinstance» (lg (pv 0) (lg (uS M.x_NoPick) rH)))) (rK (sw (tO cu cK cL su (pv 1) (lg rY rH)))) rO)
   (rG (sk (sD (rL tJ rfl M.b_isinstance Boot.«isinstance» (lg (pv 0) (lg (uS M.x_NoOrder) rH)))) (rK (sw (tO cu cK cL su (pv 1) (lg rY rH)))) rO)
   (rG (sk (sD (rL tJ rfl M.b_isinstance Boot.«isinstance» (lg (pv 0) (lg (uS M.x_NoRoll) rH)))) (rK (sw (tO cu cK cL su (pv 1) (lg rY rH)))) rO)
   (rG (sk (sD (rL tJ rfl M.b_isinstance Boot.«isinstance» (lg (pv 0) (lg (uS M.x_NoPerson) rH)))) (rK (sw (tO cu cK cL su (pv 1) (lg rY rH)))) rO)
   (rG (sk (sD (rL tJ rfl M.b_isinstance Boot.«isinstance» (lg (pv 0) (lg (uS M.x_Unready) rH)))) (rK (sw (tO cu cK cL su (pv 1) (lg rY rH)))) rO)
   (rG (sk (sD (rL tJ rfl M.b_isinstance Boot.«isinstance» (lg (pv 0) (lg (uS M.x_NoWay) rH)))) (rK (sw (tO cu cK cL su (pv 1) (lg rY rH)))) rO)
   (rG (sk (tU (sD (rL tJ rfl M.b_isinstance Boot.«isinstance» (lg (pv 0) (lg (t6 rfl M.b_ValueError Boot.«ValueError») rH))))) (rK (sw (tO cu cK cL su (pv 1) (lg rY rH)))) rO)
   (rK (rQ (pv 1)))))))))))))),?_⟩
 obtain⟨i,c,t,rfl⟩:∃i,KK K x C i/\i<9/\k=Nt i:=by
  rcases hk with⟨rfl,rfl⟩|⟨rfl,rfl⟩|⟨rfl,rfl⟩|⟨rfl,rfl⟩|⟨rfl,rfl⟩|⟨rfl,rfl⟩
  ·exact⟨1,M.q_NoWishes,by decide,rfl⟩
  ·exact⟨3,M.q_NoPick,by decide,rfl⟩
  ·exact⟨5,M.q_NoRoll,by decide,rfl⟩
  ·exact⟨6,M.q_NoPerson,by decide,rfl⟩
  ·exact⟨7,M.q_Unready,by decide,rfl⟩
  ·exact⟨8,M.q_NoWay,by decide,rfl⟩
 refine⟨by show(0:Nat)<=sizeLine;decide,λp hp=>?_⟩;have d:a≠p:=sf j hp;have h1:upd H p (.lst []) a=some (Kv C a):=by rw[rR d];exact j
 have h2:Same H (upd H p (.lst [])):=mH hp _;have h3:upd H p (.lst []) p=some (.lst (kL i 0)):=rF;generalize upd H p (.lst [])=b at h1 h2 h3 ⊢

 refine⟨_,rfl,a,C,.ref (Ld x 0),decide (i=0),rfl,h1,c.is,.inl ⟨_,rfl,c.one 0 (by decide)⟩,_,rfl,?_⟩;show if decide (i=0)=true then _ else _
 apply Ht (KP H C a p i 1) b (λe=>⟨h1,h2,(xm e).symm▸h3⟩)
 case hA=>
  intro e g;exact⟨_,rfl,.inl ⟨rfl,_,SqL.of h3⟩,p,_,_,rfl,rfl,h3,uX i 0,g _ (KP.put h1 h2 d hp e)⟩
 clear h1 h2 h3 b;rintro b ⟨h1,h2,h3⟩

 refine⟨_,rfl,a,C,.ref (Ld x 1),decide (i=1),rfl,h1,c.is,.inl ⟨_,rfl,c.one 1 (by decide)⟩,_,rfl,?_⟩;show if decide (i=1)=true then _ else _
 apply Ht (KP H C a p i 2) b (λe=>⟨h1,h2,(xm e).symm▸h3⟩)
 case hA=>
  intro e g;exact⟨_,rfl,.inl ⟨rfl,_,SqL.of h3⟩,p,_,_,rfl,rfl,h3,uX i 1,g _ (KP.put h1 h2 d hp e)⟩
 clear h1 h2 h3 b;rintro b ⟨h1,h2,h3⟩

 refine⟨_,rfl,a,C,.ref (Ld x 2),decide (i=2),rfl,h1,c.is,.inl ⟨_,rfl,c.one 2 (by decide)⟩,_,rfl,?_⟩;show if decide (i=2)=true then _ else _
 apply Ht (KP H C a p i 3) b (λe=>⟨h1,h2,(xm e).symm▸h3⟩)
 case hA=>
  intro e g;exact⟨_,rfl,.inl ⟨rfl,_,SqL.of h3⟩,p,_,_,rfl,rfl,h3,uX i 2,g _ (KP.put h1 h2 d hp e)⟩
 clear h1 h2 h3 b;rintro b ⟨h1,h2,h3⟩

 refine⟨_,rfl,a,C,.ref (Ld x 3),decide (i=3),rfl,h1,c.is,.inl ⟨_,rfl,c.one 3 (by decide)⟩,_,rfl,?_⟩;show if decide (i=3)=true then _ else _
 apply Ht (KP H C a p i 4) b (λe=>⟨h1,h2,(xm e).symm▸h3⟩)
 case hA=>
  intro e g;exact⟨_,rfl,.inl ⟨rfl,_,SqL.of h3⟩,p,_,_,rfl,rfl,h3,uX i 3,g _ (KP.put h1 h2 d hp e)⟩
 clear h1 h2 h3 b;rintro b ⟨h1,h2,h3⟩

 refine⟨_,rfl,a,C,.ref (Ld x 4),decide (i=4),rfl,h1,c.is,.inl ⟨_,rfl,c.one 4 (by decide)⟩,_,rfl,?_⟩;show if decide (i=4)=true then _ else _
 apply Ht (KP H C a p i 5) b (λe=>⟨h1,h2,(xm e).symm▸h3⟩)
 case hA=>
  intro e g;exact⟨_,rfl,.inl ⟨rfl,_,SqL.of h3⟩,p,_,_,rfl,rfl,h3,uX i 4,g _ (KP.put h1 h2 d hp e)⟩
 clear h1 h2 h3 b;rintro b ⟨h1,h2,h3⟩

 refine⟨_,rfl,a,C,.ref (Ld x 5),decide (i=5),rfl,h1,c.is,.inl ⟨_,rfl,c.one 5 (by decide)⟩,_,rfl,?_⟩;show if decide (i=5)=true then _ else _
 apply Ht (KP H C a p i 6) b (λe=>⟨h1,h2,(xm e).symm▸h3⟩)
 case hA=>
  intro e g;exact⟨_,rfl,.inl ⟨rfl,_,SqL.of h3⟩,p,_,_,rfl,rfl,h3,uX i 5,g _ (KP.put h1 h2 d hp e)⟩
 clear h1 h2 h3 b;rintro b ⟨h1,h2,h3⟩

 refine⟨_,rfl,a,C,.ref (Ld x 6),decide (i=6),rfl,h1,c.is,.inl ⟨_,rfl,c.one 6 (by decide)⟩,_,rfl,?_⟩;show if decide (i=6)=true then _ else _
 apply Ht (KP H C a p i 7) b (λe=>⟨h1,h2,(xm e).symm▸h3⟩)
 case hA=>
  intro e g;exact⟨_,rfl,.inl ⟨rfl,_,SqL.of h3⟩,p,_,_,rfl,rfl,h3,uX i 6,g _ (KP.put h1 h2 d hp e)⟩
 clear h1 h2 h3 b;rintro b ⟨h1,h2,h3⟩

 refine⟨_,rfl,a,C,.ref (Ld x 7),decide (i=7),rfl,h1,c.is,.inl ⟨_,rfl,c.one 7 (by decide)⟩,_,rfl,?_⟩;show if decide (i=7)=true then _ else _
 apply Ht (KP H C a p i 8) b (λe=>⟨h1,h2,(xm e).symm▸h3⟩)
 case hA=>
  intro e g;exact⟨_,rfl,.inl ⟨rfl,_,SqL.of h3⟩,p,_,_,rfl,rfl,h3,uX i 7,g _ (KP.put h1 h2 d hp e)⟩
 clear h1 h2 h3 b;rintro b ⟨h1,h2,h3⟩

 refine⟨_,rfl,a,C,.ref (Ld x 8),decide (i=8),rfl,h1,c.is,.inl ⟨_,rfl,c.one 8 (by decide)⟩,_,rfl,?_⟩;show if decide (i=8)=true then _ else _
 apply Ht (KP H C a p i 9) b (λe=>⟨h1,h2,(xm e).symm▸h3⟩)
 case hA=>
  intro e g;exact⟨_,rfl,.inl ⟨rfl,_,SqL.of h3⟩,p,_,_,rfl,rfl,h3,uX i 8,g _ (KP.put h1 h2 d hp e)⟩
 clear h1 h2 h3 b;rintro b ⟨h1,h2,h3⟩

 refine⟨_,rfl,a,C,.ty "ValueError",true,rfl,h1,c.is,.inr ⟨_,rfl,c.val⟩,_,rfl,Fv ?_⟩;have n:kL i 9=[.str (Nt i)]:=if_pos t;exact⟨_,rfl,q p b h2 hp (n▸h3)⟩
theorem Gf:Fj ["_law_roll","_law_cell","_law_at","_law_place","_law_signs","_law_sign","_law_bad","_law_other"] ["_law_roll","_law_cell"] (Fg (Fm 64)):=⟨rfl,rfl,rfl,by decide +kernel,rfl,by decide +kernel,by decide +kernel⟩
theorem Ie(M:Md K mg x cB):Dn P w K mg base Ft 1 "_law_bad_roll" ["_law_roll","_law_cell"] (Jc):=by
 have Y:=(Gf).nd;refine M.f__law_bad_roll.ok Gf (λvs H Q E h=>?_) (λ_ _ _ _ _ _ us hl=>HZ (λ_ _=>rfl) us hl) (λf aC A aB s H vs Q E hr h=>?_)
 ·obtain⟨a,b,c,rfl,hA,B,q⟩:=h;rfl
 obtain⟨a,b,c,rfl,hA,B,q⟩:=h;refine⟨_,(rG (rM (i:=2) Y rfl (Or.inl rfl) (rP sj (rP sX (pv 1) rJ) (rL rW rfl M.b_len cU (lg (pv 0) rH))))
   (rG (sk (rN s9 (rP sj (pv 1) rJ) rJ (Fk _)) (rK (rQ (sC rH))) rO)
   (rG (sk (rN s9 (rP sj (pv 1) rJ) rJ (Fk _)) (rK (rQ (sC (yL (is:=["a","b","c","d","e","f","g"]) rfl)))) rO)
   (rG (sk (rN s9 (rP sj (pv 1) rJ) rJ (Fk _)) (rK (rQ (sT vi (pv 0) (sY rJ) tN))) rO)
   (rG (sk (rN s9 (rP sj (pv 1) rJ) rJ (Fk _)) (rK (rQ (rP xY (pv 0) (sC (lg rY rH))))) rO)
   (rG (sk (PW.pt (uD (rN s9 (rP sj (pv 1) rJ) rJ (Fk _)) (uF (rN EK (rL rW rfl M.b_len cU (lg (pv 0) rH)) rJ (Fk _))))) (rK (rQ (rP xY (rP xY (sT vi (pv 0) tN (sY (pv 2))) (sC (lg (rS rZ (pv 0) (rP wP (pv 2) rJ) (λ_ _=>rfl)) rH))) (sT vi (pv 0) (sY (rP sL (pv 2) rJ)) tN)))) rO)
   (rG (rM (i:=3) Y rfl (Or.inl rfl) (rP sj (rP sX (pv 1) rJ) (rL ul rfl M.b_len cU (lg (rS rZ (pv 0) (pv 2) (λ_ _=>rfl)) rH))))
   (rG (rM (i:=4) Y rfl (Or.inl rfl) rY)
   (rG (rM (i:=5) Y rfl (Or.inl rfl) (rS yo (pv 4) (rP sj (rP sX (pv 1) rJ) (rL ul rfl M.b_len cU (lg (pv 4) rH))) (λ_ _=>rfl)))
   (rG (rM (i:=6) Y rfl (Or.inl rfl) (rP sR (rP sR (sT vA (rS rZ (pv 0) (pv 2) (λ_ _=>rfl)) tN (sY (pv 3))) (pv 5)) (sT vA (rS rZ (pv 0) (pv 2) (λ_ _=>rfl)) (sY (rP sL (pv 3) rJ)) tN)))
   (rG (rM (i:=7) Y rfl (Or.inl rfl) (rS rZ (sC (lg (sT vA (rP zP (rS rZ (pv 0) (pv 2) (λ_ _=>rfl)) rJ) tN (sY rJ)) (lg rY (lg (pv 6) rH)))) (rP sj (pv 1) rJ) (λ_ _=>rfl)))
   (rK (rQ (rP xY (rP xY (sT vi (pv 0) tN (sY (pv 2))) (sC (lg (pv 7) rH))) (sT vi (pv 0) (sY (rP sL (pv 2) rJ)) tN))))))))))))))),?_⟩
 have aj:(0:Nat)<=sizeLine:=by decide
 have y:(1:Nat)<=sizeLine:=by decide
 have ag:(3:Nat)<=sizeLine:=by decide
 have h1:=B.lo;have h6:=B.hi;have O:(b.map V.str).length=b.length:=bP ..;obtain⟨k,hk,d⟩:=xB (x:=c/8) h1;refine⟨_,rfl,c,8,rfl,rfl,c9 (by decide) (by decide),_,rfl,a,_,rfl,.inl (SqL.of hA),_,_,rfl,rfl,y0 h1,?_⟩;dsimp only;rw[O,hk];have p8:(0:Int)<8:=by decide
 refine⟨_,rfl,c,8,rfl,rfl,p8,rfl,_,rfl,?_⟩;refine FE (λ_=>⟨aj,λp hp=>q p [] _ (mH hp _) rF Ej⟩) (λ_=>?_);refine⟨_,rfl,c,8,rfl,rfl,p8,rfl,_,rfl,?_⟩;refine FE (λ_=>⟨by show 7<=sizeLine;decide,λp hp=>q p LA _ (mH hp _) rF Br⟩) (λ_=>?_);refine⟨_,rfl,c,8,rfl,rfl,p8,rfl,_,rfl,?_⟩;refine FE (λ_=>?_) (λ_=>?_)
 ·refine⟨_,rfl,1,rfl,a,_,rfl,SqL.of hA,λp hp=>q p (b.drop 1) _ (mH hp _) ?_ (C4 B)⟩;rw[rF];exact congrArg (λz=>some (HO.lst z)) (vU (k:=1) h1)
 refine⟨_,rfl,c,8,rfl,rfl,p8,rfl,_,rfl,?_⟩;refine FE (λ_=>?_) (λ_=>?_)
 ·refine⟨_,rfl,y,λZ ae=>?_⟩;have X:=mH ae (.lst [V.str "aaaaaaaaaaaa"]);refine⟨a,Z,_,_,rfl,rfl,X _ _ hA,rF,by rw[O];exact cx (Fh (by show _+1<=1000;omega)),λp hp=>?_⟩;refine q p (b++[b9 "aaaaaaaaaaaa"]) _ (X.trans (mH hp _)) ?_ (CS B ⟨by decide,uI (by decide +kernel)⟩);rw[rF,cb];rfl
 have aa:(b.map V.str)[k]?=some (.str b[k]):=by rw[bZ,bT d];rfl
 have I:=B.wd _ (cm d);refine⟨_,rfl,c,8,rfl,rfl,p8,rfl,_,rfl,M9 ?_ (λ_ hB=>?_)⟩;rotate_left
 ·refine⟨_,rfl,a,_,rfl,.inl (SqL.of hA),_,_,rfl,rfl,_,rfl,FE (λc1=>?_) (λ_=>hB)⟩;rw[O]at c1;obtain⟨v,hv⟩:∃v,b[if k=0 then b.length-1 else k-1]?=some v:=⟨_,bT (by split <;> omega)⟩;have au:=By (v:=v) (k:=k) B d hv (by split <;> omega);have ay:HQ (b.map V.str) ((k:Int)-1)=some (.str v):=zw (by rw[O];exact d) (by rw[O,bZ,hv];rfl);have J:=(Same.refl H) _ _ hA;refine⟨_,rfl,_,rfl,_,rfl,a,_,rfl,SqL.of J,λm ah=>?_⟩;have U:Same H (upd H m (.lst ((b.take k).map V.str))):=mH ah _;have n:upd H m (.lst ((b.take k).map V.str)) m=some (.lst ((b.take k).map V.str)):=rF;rw[A3 (cx d)];generalize upd H m (.lst ((b.take k).map V.str))=G at U n ⊢;have W:=U _ _ J;refine⟨_,rfl,_,rfl,_,_,rfl,rfl,a,_,_,_,rfl,rfl,SqL.of W,ay,?_⟩;refine⟨y,λt ab=>?_⟩;have C:Same G (upd G t (.lst [V.str v])):=mH ab _;have u:upd G t (.lst [V.str v]) t=some (.lst [V.str v]):=rF;generalize upd G t (.lst [V.str v])=F at C u ⊢;refine⟨m,t,_,_,rfl,rfl,C _ _ n,u,cx (Fh (by rw[bP,cf];show _+1<=1000;omega)),λj af=>?_⟩;have R:Same F (upd F j (.lst ((b.take k).map V.str++[V.str v]))):=mH af _;have l:upd F j (.lst ((b.take k).map V.str++[V.str v])) j=some (.lst ((b.take k).map V.str++[V.str v])):=rF;generalize upd F j (.lst ((b.take k).map V.str++[V.str v]))=D at R l ⊢;have ai:=(C.trans R) _ _ W;refine⟨_,rfl,_,rfl,_,_,rfl,rfl,_,rfl,a,_,rfl,SqL.of ai,λr N=>?_⟩;dsimp only at N ⊢;rw[show((k:Int)+1)=((k+1:Nat):Int)from rfl,vU (show k+1<=b.length from d)];have T:Same D (upd D r (.lst ((b.drop (k+1)).map V.str))):=mH N _;have g:upd D r (.lst ((b.drop (k+1)).map V.str)) r=some (.lst ((b.drop (k+1)).map V.str)):=rF;generalize upd D r (.lst ((b.drop (k+1)).map V.str))=H5 at T g ⊢;refine⟨j,r,_,_,rfl,rfl,T _ _ l,g,cx (Fh (by rw[cr,bP,bP,cf,dP];show _+1+_<=1000;omega)),λp6 ad=>?_⟩;refine q p6 (b.take k++[v]++b.drop (k+1)) _ ((Same.refl H).trans (U.trans (C.trans (R.trans (T.trans (mH ad _)))))) ?_ au;rw[rF,cb,cb];rfl

 generalize b[k]=z at aa I;have al:=I.lo;have ar:=I.hi;have ac:z.length<=sizeLine:=cx (Fh (by omega));have am:z.cps.toList.length=z.length:=(tj z).symm;obtain⟨S,aw,an⟩:=xB (x:=c/64) al;have hg:=sO aa;refine⟨_,rfl,c,64,rfl,rfl,c9 (by decide) (by decide),_,rfl,_,rfl,a,_,_,_,rfl,rfl,SqL.of hA,hg,z,rfl,ac,_,_,rfl,rfl,oD.mpr al,?_⟩;dsimp only;rw[aw];have ap:FN.length<=sizeLine:=by rw[uZ];decide
 have r0:=cY (c/768) (show((68:Nat):Int)≠0 by decide);have r1:=cQ (c/768) (show(0:Int)<((68:Nat):Int)by decide);have az:FN.cps.toList.length=68:=by rw[<-tj,uZ]
 obtain⟨sg,ao,av⟩:∃sg,HQ FN.cps.toList (c/768%((68:Nat):Int))=some sg/\sg∈FN.cps.toList:=by
  have aq:(c/768%((68:Nat):Int)).toNat<FN.cps.toList.length:=by rw[az];omega
  exact⟨_,tL r0 (bT aq),cm aq⟩
 rw[<-uZ]at ao;refine⟨_,rfl,_,rfl,c,768,rfl,rfl,c9 (by decide) (by decide),_,rfl,FN,rfl,ap,_,_,rfl,rfl,by show(0:Int)<(FN.length:Int);rw[uZ];decide,FN,_,_,rfl,rfl,ap,ao,?_⟩;have L:=CN (p:=S) I av;refine⟨_,rfl,_,rfl,a,_,_,_,rfl,rfl,SqL.of hA,hg,_,rfl,_,rfl,z,rfl,ac,?_⟩;rw[vF (show S<=z.cps.toList.length from am.symm▸cx an)];refine⟨_,rfl,_,_,rfl,rfl,by rw[ug,cf];exact cx (Fh (by show _+1<=1000;omega)),?_⟩;refine⟨_,rfl,_,rfl,a,_,_,_,rfl,rfl,SqL.of hA,hg,_,rfl,_,_,rfl,rfl,_,rfl,z,rfl,ac,?_⟩;rw[show((S:Int)+1)=((S+1:Nat):Int)from rfl,An (show S+1<=z.cps.toList.length from am.symm▸an)];refine⟨_,_,rfl,rfl,by have:=L.1;rw[sI]at this;exact cx (Fh this),?_⟩;dsimp only;generalize(⟨(z.cps.toList.take S).toArray⟩++⟨#[sg]⟩++⟨(z.cps.toList.drop (S+1)).toArray⟩:Str)=bd at L ⊢;have ak:=Bc I;have aA:(i6 z 13).length<=sizeLine:=by
  have hl:((i6 z 13).length:Int)=(z.length:Int)*13:=by rw[len_mul];rfl
  exact cx (Fh (by omega))
 refine⟨_,rfl,_,rfl,a,_,_,_,rfl,rfl,SqL.of hA,hg,z,13,rfl,rfl,mulOk_of 12 13 ar (by decide) (by decide) (by decide) (by decide),13,rfl,_,rfl,aA,?_⟩;dsimp only;generalize gb (i6 z 13) none (some 13)=lw at ak ⊢;refine⟨_,rfl,ag,λZ ae=>?_⟩;have m0:=cY c (show(3:Int)≠0 by decide);have m1:=cQ c (show(0:Int)<3 by decide);obtain⟨o,ho,ax⟩:∃o,HQ [V.str lw,V.str "",V.str bd] (c%3)=some (.str o)/\Go b (b.take k++[o]++b.drop (k+1)):=by
  have:c%3=0\/c%3=1\/c%3=2:=by omega
  rcases this with e|e|e
  ·rw[e];exact⟨lw,rfl,xp B ⟨by omega,ak.2⟩ λw=>by have:=w.hi;omega⟩
  ·rw[e];exact⟨b9 "",rfl,xp B ⟨by decide,uI (by decide +kernel)⟩ Bl⟩
  ·rw[e];exact⟨bd,rfl,xp B ⟨L.1,L.2.1⟩ L.2.2⟩
 refine⟨_,rfl,c,3,rfl,rfl,by show(0:Int)<3;decide,Z,_,_,_,rfl,rfl,SqL.of rF,ho,?_⟩;have X:Same H (upd H Z (.lst [V.str lw,V.str "",V.str bd])):=mH ae _;generalize upd H Z (.lst [V.str lw,V.str "",V.str bd])=H1 at X ⊢;have J:=X _ _ hA;refine⟨_,rfl,_,rfl,_,rfl,a,_,rfl,SqL.of J,λm ah=>?_⟩;have U:Same H1 (upd H1 m (.lst ((b.take k).map V.str))):=mH ah _;have n:upd H1 m (.lst ((b.take k).map V.str)) m=some (.lst ((b.take k).map V.str)):=rF;rw[A3 (cx d)];generalize upd H1 m (.lst ((b.take k).map V.str))=G at U n ⊢;have W:=U _ _ J;refine⟨_,rfl,?_⟩;refine⟨y,λt ab=>?_⟩;have C:Same G (upd G t (.lst [V.str o])):=mH ab _;have u:upd G t (.lst [V.str o]) t=some (.lst [V.str o]):=rF;generalize upd G t (.lst [V.str o])=F at C u ⊢;refine⟨m,t,_,_,rfl,rfl,C _ _ n,u,cx (Fh (by rw[bP,cf];show _+1<=1000;omega)),λj af=>?_⟩;have R:Same F (upd F j (.lst ((b.take k).map V.str++[V.str o]))):=mH af _;have l:upd F j (.lst ((b.take k).map V.str++[V.str o])) j=some (.lst ((b.take k).map V.str++[V.str o])):=rF;generalize upd F j (.lst ((b.take k).map V.str++[V.str o]))=D at R l ⊢;have ai:=(C.trans R) _ _ W;refine⟨_,rfl,_,rfl,_,_,rfl,rfl,_,rfl,a,_,rfl,SqL.of ai,λr N=>?_⟩;dsimp only at N ⊢;rw[show((k:Int)+1)=((k+1:Nat):Int)from rfl,vU (show k+1<=b.length from d)];have T:Same D (upd D r (.lst ((b.drop (k+1)).map V.str))):=mH N _;have g:upd D r (.lst ((b.drop (k+1)).map V.str)) r=some (.lst ((b.drop (k+1)).map V.str)):=rF;generalize upd D r (.lst ((b.drop (k+1)).map V.str))=H5 at T g ⊢;refine⟨j,r,_,_,rfl,rfl,T _ _ l,g,cx (Fh (by rw[cr,bP,bP,cf,dP];show _+1+_<=1000;omega)),λp6 ad=>?_⟩;refine q p6 (b.take k++[o]++b.drop (k+1)) _ (X.trans (U.trans (C.trans (R.trans (T.trans (mH ad _)))))) ?_ ax;rw[rF,cb,cb];rfl
theorem Gv:Fj ["_law_people","_law_things","_law_cell","_law_caught","_law_e"] ["_law_people","_law_things","_law_cell"] (Fg (Fm 65)):=⟨rfl,rfl,rfl,by decide +kernel,rfl,by decide +kernel,by decide +kernel⟩
theorem IK(M:Md K mg x cB)
  (G_law_bad_roll:Dn P w K mg base Ft 1 "_law_bad_roll" ["_law_roll","_law_cell"] (Jc))
  (GBook___init__:Bn P w K mg base (GO P w) 4 cB "Book" ["self","people","things"] (Kp K cB x))
  (G_law_kinds:Dn P w K mg base Ft 1 "_law_kinds" ["_law_e"] (HJ x)):Dn P w K mg base Ft 7 "_law_no_roll" ["_law_people","_law_things","_law_cell"] (JO):=by
 have v:=(Gv).nd
 refine M.f__law_no_roll.ok Gv (λvs H Q E h=>?_) (λ_ _ _ _ _ _ o O=>Lc (λ_ _ _=>rfl) o O) (λf ab A W s H vs Q E y h=>?_)
 ·obtain⟨a,b,S,J,c,rfl,hA,I,F,G,O,q⟩:=h
  rfl
 obtain⟨a,b,S,J,c,rfl,hA,I,F,G,O,q⟩:=h
 refine⟨_,(rG (sk (rN s9 (rP sj (pv 2) rJ) rJ (Fk _)) (rK (rM (i:=0) v rfl (Or.inl rfl) (sh G_law_bad_roll y (by decide) rfl Fn (lg (pv 0) (lg (rP sX (pv 2) rJ) rH))))) (rK (rM (i:=1) v rfl (Or.inl rfl) (sh G_law_bad_roll y (by decide) rfl Fn (lg (pv 1) (lg (rP sX (pv 2) rJ) rH))))))
   (rG (rM (i:=3) v rfl (Or.inl rfl) uE)
   (rG (Ds (ni:=4) rfl rfl v rfl rfl M.x_WishError rfl (D7 (Fa GBook___init__ y (by decide) rfl (lg (pv 0) (lg (pv 1) rH)))) (λ_=>(rK (rM (i:=3) v rfl (Or.inl rfl) (pv 4)))))
   (rK (rQ (ua (u9 y) (sh G_law_kinds y (by decide) rfl Fn (lg (pv 3) rH)) (sC (lg rY rH)) (Fk _))))))),?_⟩
 have ac:=F.hi
 have aa:=G.hi
 refine⟨_,rfl,c,2,rfl,rfl,by show(0:Int)<2;decide,rfl,_,rfl,FE (λ_=>?_) (λ_=>?_)⟩
 ·refine⟨_,rfl,_,rfl,c,2,rfl,rfl,c9 (by decide) (by decide),a,S,_,rfl,hA,F,λp o j r hp g=>?_⟩
  refine⟨_,rfl,_,rfl,λs0 d t u B=>?_⟩
  have D:upd j d (.own s0) s0=none:=by rw[rR (Ne.symm B)];exact t
  have l:Same j (upd (upd j d (.own s0)) s0 (.ins cB d [])):=(mH u _).trans (mH D _)
  have n:upd (upd j d (.own s0)) s0 (.ins cB d []) s0=some (.ins cB d []):=rF
  generalize upd (upd j d (.own s0)) s0 (.ins cB d [])=Z at l n ⊢
  refine⟨s0,p,b,d,o,J,rfl,n,SqL.of (l _ _ hp),SqL.of (l _ _ (r _ _ I)),g.1,by omega,g.2.1,G.okw,?_⟩
  refine⟨λ_ H3 R=>?_,λU T Y=>absurd (g.2.2 ⟨U,by omega⟩) (λz=>z)⟩
  refine⟨x.NoRoll,rfl,M.s_NoRoll,λe L=>?_⟩
  refine⟨_,rfl,?_⟩
  refine⟨_,rfl,e,x.NoRoll,"NoRoll",rfl,rF,.inr (.inr (.inl ⟨rfl,rfl⟩)),λX H4 N V C=>?_⟩
  refine⟨by show 1<=sizeLine;decide,λpl m=>?_⟩
  have k:GQ 1 (.list [.str "NoRoll"])=true:=by decide +kernel
  refine⟨_,_,.lst (SqL.of (mH m _ _ _ C)) (.cons (.str _) .nil) (by simp),.lst (SqL.of rF) (.cons (.str _) .nil) (by simp),sy k (by decide),sy k (by decide),?_⟩
  rw[xi 1 _ k]
  exact q _ (r.trans (l.trans (R.trans ((mH L _).trans (N.trans (mH m _))))))

 ·refine⟨_,rfl,_,rfl,c,2,rfl,rfl,c9 (by decide) (by decide),b,J,_,rfl,I,G,λp o j r hp g=>?_⟩
  refine⟨_,rfl,_,rfl,λs0 d t u B=>?_⟩
  have D:upd j d (.own s0) s0=none:=by rw[rR (Ne.symm B)];exact t
  have l:Same j (upd (upd j d (.own s0)) s0 (.ins cB d [])):=(mH u _).trans (mH D _)
  have n:upd (upd j d (.own s0)) s0 (.ins cB d []) s0=some (.ins cB d []):=rF
  generalize upd (upd j d (.own s0)) s0 (.ins cB d [])=Z at l n ⊢
  refine⟨s0,a,p,d,S,o,rfl,n,SqL.of (l _ _ (r _ _ hA)),SqL.of (l _ _ hp),by omega,g.1,F.okw,g.2.1,?_⟩
  refine⟨λ_ H3 R=>?_,λU T Y=>absurd (g.2.2 ⟨T,by omega⟩) (λz=>z)⟩
  refine⟨x.NoRoll,rfl,M.s_NoRoll,λe L=>?_⟩
  refine⟨_,rfl,?_⟩
  refine⟨_,rfl,e,x.NoRoll,"NoRoll",rfl,rF,.inr (.inr (.inl ⟨rfl,rfl⟩)),λX H4 N V C=>?_⟩
  refine⟨by show 1<=sizeLine;decide,λpl m=>?_⟩
  have k:GQ 1 (.list [.str "NoRoll"])=true:=by decide +kernel
  refine⟨_,_,.lst (SqL.of (mH m _ _ _ C)) (.cons (.str _) .nil) (by simp),.lst (SqL.of rF) (.cons (.str _) .nil) (by simp),sy k (by decide),sy k (by decide),?_⟩
  rw[xi 1 _ k]
  exact q _ (r.trans (l.trans (R.trans ((mH L _).trans (N.trans (mH m _))))))
theorem GL:Fj ["_law_people","_law_xs","_law_person_here","_law_other"] ["_law_people","_law_xs"] (Fg (Fm 66)):=⟨rfl,rfl,rfl,by decide +kernel,rfl,by decide +kernel,by decide +kernel⟩
theorem IO(M:Md K mg x cB):Dn P w K mg base Ft 1 "_law_person" ["_law_people","_law_xs"] (Iv K):=by
 have O:=(GL).nd;refine M.f__law_person.ok GL (λvs H Q E h=>?_) (λ_ _ _ _ _ _ us hl=>HZ (λ_ _=>rfl) us hl) (λf ae A ab s H vs Q E hr h=>?_)
 ·obtain⟨a,m,n,ns,rfl,hA,l,C,R,q⟩:=h;rfl
 obtain⟨a,m,n,ns,rfl,hA,l,C,R,q⟩:=h;refine⟨_,(rG (rM (i:=2) O rfl (Or.inl rfl) (rS rZ (pv 0) (rP sj (rS rZ (pv 1) rJ (λ_ _=>rfl)) (rL rW rfl M.b_len cU (lg (pv 0) rH))) (λ_ _=>rfl)))
   (rG (sk (rN EK (rP sj (rS rZ (pv 1) rJ (λ_ _=>rfl)) rJ) rJ (Fk _)) (rK (rQ (pv 2))) rO)
   (rG (rM (i:=3) O rfl (Or.inl rfl) (rS rZ (sC (lg (rP sR (pv 2) rY) (lg (sT vA (pv 2) tN (sY (Bo yk rJ))) (lg rY (lg (rP sR (sT vA (pv 2) tN (sY (Bo yk rJ))) rY) rH))))) (rP sj (rP sX (rS rZ (pv 1) rJ (λ_ _=>rfl)) rJ) rJ) (λ_ _=>rfl)))
   (rG (ux db (rN yf (pv 3) (pv 0) (by with_unfolding_all rfl)) (rK (rM (i:=3) O rfl (Or.inl rfl) (rP sR (pv 3) rY))))
   (rK (rQ (pv 3))))))),?_⟩
 have h1:=l.lo;have h6:=l.hi;have Y:(n.map V.str).length=n.length:=bP ..;have at0:=yl (ns:=ns) (i:=0) (R.symm▸by decide);have Z:=yl (ns:=ns) (i:=1) (R.symm▸by decide);obtain⟨k,hk,G⟩:=xB (x:=ns.getD 0 0) l.lo;have t:(n.map V.str)[k]?=some (.str n[k]):=by rw[bZ,bT G];rfl
 have g:=l.wd _ (cm G);generalize n[k]=z at t g;have W:=g.lo;have ac:=g.hi;have I:z.length<=sizeLine:=cx (Fh (by omega));refine⟨_,rfl,_,rfl,m,_,_,_,rfl,rfl,C,at0,_,rfl,a,_,rfl,.inl hA,_,_,rfl,rfl,y0 l.lo,a,_,_,_,rfl,rfl,hA,(by rw[Y,hk];exact sO t),?_⟩;refine⟨_,rfl,m,_,_,_,rfl,rfl,C,Z,_,_,rfl,rfl,by show(0:Int)<7;decide,_,_,rfl,rfl,_,rfl,?_⟩;refine FE (λ_=>⟨_,rfl,q z H (Same.refl _) (by omega) g.asc⟩) (λ_=>?_);have aq:FM "q":=uI (by decide +kernel);have aQ:FM "Q":=uI (by decide +kernel);have az:FM "z":=uI (by decide +kernel);have X:(b9 "q").length=1:=by decide +kernel
 have lQ:(b9 "Q").length=1:=by decide +kernel
 have T:(b9 "z").length=1:=by decide +kernel
 obtain⟨d,N,ad,L⟩:∃d:Str,gb z none (some (-1))=d/\d.length<=12/\FM d:=⟨_,w9 W,by rw[ug,cf];omega,λc hc=>g.asc c (dO (by simpa using hc))⟩;refine⟨_,rfl,_,_,rfl,rfl,by rw[X];exact cx (Fh (by omega)),?_⟩;refine⟨_,rfl,1,rfl,_,rfl,z,rfl,I,?_⟩;refine⟨_,rfl,1,rfl,_,rfl,z,rfl,I,?_⟩;dsimp only;rw[N];refine⟨_,_,rfl,rfl,by rw[lQ];exact cx (Fh (by omega)),by show 4<=sizeLine;decide,λr aa=>?_⟩;have B:Same H (upd H r (.lst [V.str (z++"q"),V.str d,V.str "",V.str (d++"Q")])):=mH aa _;have y:upd H r (.lst [V.str (z++"q"),V.str d,V.str "",V.str (d++"Q")]) r=some (.lst [V.str (z++"q"),V.str d,V.str "",V.str (d++"Q")]):=rF;have m0:=cY (ns.getD 0 0/7) (show(4:Int)≠0 by decide);have m1:=cQ (ns.getD 0 0/7) (show(0:Int)<4 by decide);obtain⟨o,ho,F,p⟩:∃o:Str,HQ [V.str (z++"q"),V.str d,V.str "",V.str (d++"Q")] (ns.getD 0 0/7%4)=some (.str o)/\o.length<=13/\FM o:=by
  have:ns.getD 0 0/7%4=0\/ns.getD 0 0/7%4=1\/ns.getD 0 0/7%4=2\/ns.getD 0 0/7%4=3:=by omega
  rcases this with e|e|e|e
  ·rw[e];exact⟨_,rfl,by rw[sI,X];omega,yD g.asc aq⟩
  ·rw[e];exact⟨_,rfl,by omega,L⟩
  ·rw[e];exact⟨_,rfl,by decide,uI (by decide +kernel)⟩
  ·rw[e];exact⟨_,rfl,by rw[sI,lQ];omega,yD L aQ⟩
 generalize upd H r (.lst [V.str (z++"q"),V.str d,V.str "",V.str (d++"Q")])=H1 at B y ⊢;have U:=B.seq hA;refine⟨_,rfl,m,_,_,_,rfl,rfl,B.seq C,at0,_,_,rfl,rfl,c9 (by decide) (by decide),_,_,rfl,rfl,by show(0:Int)<4;decide,r,_,_,_,rfl,rfl,SqL.of y,ho,?_⟩;refine xJ (λj S D=>D=H1/\∃o:Str,S=[some (.ref a),some (.ref m),some (.str z),some (.str o)]/\o.length<=13/\FM o/\j=13-o.length) ⟨_,rfl,o,rfl,F,p,rfl⟩ (λj S D hP=>?_) (λS D Q1 Q2 hQ h=>?_)
 ·obtain⟨rfl,o,rfl,F,p,rfl⟩:=hP;refine⟨_,rfl,_,rfl,a,_,rfl,.inl U,rfl,ur _,_,rfl,?_⟩;show if Jv (.str o) (n.map V.str)=true then _ else _
  rw[uk];refine FE (λJ=>?_) (λJ=>?_)
  ·have af:=(l.wd o J).hi;refine⟨_,rfl,o,_,rfl,rfl,by rw[T];exact cx (Fh (by omega)),?_⟩;refine⟨13-(o++"z").length,by rw[sI,T];omega,rfl,o++"z",rfl,by rw[sI,T];omega,yD p az,rfl⟩
  ·exact⟨_,rfl,q o D B (by omega) p⟩
 ·obtain⟨v,e,u,e2,b,ys,e3,z1,z2,z3,k,ek,q⟩:=h;exact⟨v,e,u,e2,b,ys,e3,z1,z2,z3,k,ek,hQ _ _ q⟩
theorem Hm:Fj ["_law_things","_law_xs","_law_words_here","_law_at"] ["_law_things","_law_xs"] (Fg (Fm 67)):=⟨rfl,rfl,rfl,by decide +kernel,rfl,by decide +kernel,by decide +kernel⟩
theorem JS(M:Md K mg x cB)
  (G_law_perm:Dn P w K mg base Ft 1 "_law_perm" ["_law_number","_law_count"] (Lk)):Dn P w K mg base Ft 2 "_law_text" ["_law_things","_law_xs"] (JX K):=by
 have nd:=(Hm).nd
 refine M.f__law_text.ok Hm (λvs H Q E h=>?_) (λ_ _ _ _ _ _ us hl=>HZ (λ_ _=>rfl) us hl) (λf ap A an s H vs Q E hr h=>?_)
 ·obtain⟨a,m,B,ns,rfl,hA,rt,I,h8,q⟩:=h
  rfl
 obtain⟨a,m,B,ns,rfl,hA,rt,I,h8,q⟩:=h
 refine⟨_,(rG (tw (i:=2) nd rfl rfl rfl rfl (N:=["_law_k","_law_things"]) (caps:=[none,some 0]) (CompOk.of (by kernel_rfl)) (sq rfl) (tD (sh G_law_perm hr (by decide) rfl Fn (lg (rS rZ (pv 1) rJ (λ_ _=>rfl)) (lg (rL rW rfl M.b_len cU (lg (pv 0) rH)) rH)))) (λ_ _ _ _=>(rV (i:=0) (show(["_law_k","_law_things"]:List Str).Nodup by decide +kernel) rfl (Or.inl rfl) (Or.inr rfl))) (λ_ _ _ _=>sS) (λ_ _ _ _=>(rS (t9 (K:=K) rfl) (pv 1) (pv 0) (λ_ _=>rfl))))
   (rG (rM (i:=3) nd rfl (Or.inl rfl) (rP sj (rP sX (rS rZ (pv 1) rJ (λ_ _=>rfl)) rJ) (rL rW rfl M.b_len cU (lg (pv 2) rH))))
   (rG (sk (rN s9 (rP sj (rS rZ (pv 1) rJ (λ_ _=>rfl)) rJ) rJ (Fk _)) (rK (vv (rS rZ (pv 2) (rP wP (pv 3) rJ) (λ_ _=>rfl)) (wz (pv 2) (pv 3) vE))) rO)
   (rG (sk (rN s9 (rP sj (rS rZ (pv 1) rJ (λ_ _=>rfl)) rJ) rJ (Fk _)) (rK (sw (tO cu PySem.F.slot_list_pop PySem.F.type_list_pop Cv (pv 2) (lg (pv 3) rH)))) rO)
   (rG (sk (rN s9 (rP sj (rS rZ (pv 1) rJ (λ_ _=>rfl)) rJ) rJ (Fk _)) (rK (vv (rP sR (rS rZ (pv 2) (pv 3) (λ_ _=>rfl)) rY) (wz (pv 2) (pv 3) vE))) rO)
   (rG (sk (rN s9 (rP sj (rS rZ (pv 1) rJ (λ_ _=>rfl)) rJ) rJ (Fk _)) (rK (sw (tO cu kr kt yc (pv 2) (lg (pv 3) (lg rY rH))))) rO)
   (rG (sk (rN s9 (rP sj (rS rZ (pv 1) rJ (λ_ _=>rfl)) rJ) rJ (Fk _)) (rK (vv (rP sR (rS rZ (pv 2) (pv 3) (λ_ _=>rfl)) rY) (wz (pv 2) (pv 3) vE))) rO)
   (rG (sk (rN s9 (rP sj (rS rZ (pv 1) rJ (λ_ _=>rfl)) rJ) rJ (Fk _)) (rK (sw (tO cu cK cL su (pv 2) (lg (rS rZ (pv 2) (pv 3) (λ_ _=>rfl)) rH)))) rO)
   (rK (rQ (tO gU PySem.F.slot_str_join PySem.F.type_str_join DK rY (lg (pv 2) rH)))))))))))),?_⟩
 have al:(1:Nat)<=sizeLine:=by decide
 have h1:=rt.lo
 have h6:=rt.hi
 have aj:(B.map V.str).length=B.length:=bP ..
 have ag:=yl (ns:=ns) (i:=2) (h8.symm▸by decide)
 have b:=yl (ns:=ns) (i:=3) (h8.symm▸by decide)
 refine⟨_,rfl,m,_,_,_,rfl,rfl,I,ag,_,rfl,a,_,rfl,.inl hA,ns.getD 2 0,B.length,by rw[aj];rfl,by omega,λp0 H1 S1 aq Z=>?_⟩
 generalize ns.getD 2 0=num at Z
 obtain⟨D,ab,ae⟩:=CM (num:=num) rt
 have ah:=S1.seq hA
 refine⟨p0,rfl,⟨_,SqL.of Z⟩,?_⟩
 refine tz (xs:=(LM.perm num B.length).map V.int) (λj ys S=>S=H1/\ys=(Fz B ((LM.perm num B.length).take j)).map V.str) ⟨rfl,rfl⟩ (λj ys S _ U=>by rw[U.1];exact SqL.of Z) (λj y ys S hy U=>?_) (λys S U l hl=>?_)
 ·obtain⟨rfl,rfl⟩:=U
  rw[bZ]at hy
  cases T:(LM.perm num B.length)[j]? with
  | none=>rw[T]at hy;cases hy
  | some t=>
   rw[T]at hy
   have ai:V.int t=y:=Option.some.inj hy
   subst ai
   have ad:=Az t (cz T)
   have hj:=(b8.mp T).1
   rw[LM.perm_len]at hj
   have am:(B.map V.str)[t.toNat]?=some (.str (B.getD t.toNat fq)):=by rw[bZ,bR,bT ad.2];rfl
   refine⟨_,rfl,_,rfl,a,_,t,_,rfl,rfl,ah,tL ad.1 am,Fh (by unfold Fz;rw[bP,bP,cf];omega),rfl,?_⟩
   unfold Fz
   rw[cv,T,cb,cb]
   rfl
 obtain⟨rfl,rfl⟩:=U
 rw[bP,cI]
 have S2:Same S (upd S l (.lst ((Fz B (LM.perm num B.length)).map V.str))):=mH hl _
 have r:upd S l (.lst ((Fz B (LM.perm num B.length)).map V.str)) l=some (.lst ((Fz B (LM.perm num B.length)).map V.str)):=rF
 have L:H l=none:=S1.free hl
 generalize upd S l (.lst ((Fz B (LM.perm num B.length)).map V.str))=C at S2 r ⊢
 generalize Fz B (LM.perm num B.length)=d at D ab ae r
 have R:=S1.trans S2
 have G:(d.map V.str).length=d.length:=bP ..
 have ac:1<=d.length:=by rw[ae];exact h1
 obtain⟨k,hk,J⟩:=xB (x:=ns.getD 3 0/16) ac
 have c:(0:Int)<16:=by decide
 refine⟨_,rfl,m,_,_,_,rfl,rfl,R.seq I,b,_,_,rfl,rfl,c9 (by decide) (by decide),_,rfl,l,_,rfl,.inl (SqL.of r),_,_,rfl,rfl,y0 ac,?_⟩
 dsimp only
 rw[G,hk]
 have O:(d.map V.str)[k]?=some (.str d[k]):=by rw[bZ,bT J];rfl
 have af:=D.wd _ (cm J)
 have ao:=(rt.wd _ (ab _ (cm J))).hi
 have Y:=D.cs _ (cm J)
 have X:K5 (d.map V.str).length (k:Int)=some k:=by
  rw[G]
  exact D5 J
 have n:=R.seq I
 have lq:(b9 "q").length=1:=by decide +kernel
 have lc:(b9 ",").length=1:=by decide +kernel
 have aa:ns.getD 3 0%16=1\/ns.getD 3 0%16=3\/ns.getD 3 0%16=5\/ns.getD 3 0%16=7\/ns.getD 3 0%16=9\/ns.getD 3 0%16=11\/(ns.getD 3 0%16≠1/\ns.getD 3 0%16≠3/\ns.getD 3 0%16≠5/\ns.getD 3 0%16≠7/\ns.getD 3 0%16≠9/\ns.getD 3 0%16≠11):=LO _
 rcases aa with e|e|e|e|e|e|e
 ·refine⟨_,rfl,m,_,_,_,rfl,rfl,n,b,_,_,rfl,rfl,c,rfl,_,rfl,FD (by show V.int (ns.getD 3 0%16)=V.int 1;rw[e]) ?_⟩
  obtain⟨v,hv⟩:∃v,d[if k=0 then d.length-1 else k-1]?=some v:=⟨_,bT (by split <;> omega)⟩
  have ak:HQ (d.map V.str) ((k:Int)-1)=some (.str v):=zw (by rw[G];exact J) (by rw[G,bZ,hv];rfl)
  refine⟨_,rfl,_,rfl,_,_,rfl,rfl,l,_,_,_,rfl,rfl,SqL.of r,ak,_,rfl,_,rfl,l,_,_,_,rfl,rfl,r,X,?_⟩
  have u:Same H (upd C l (.lst ((d.map V.str).set k (.str v)))):=R.over L _
  have p:upd C l (.lst ((d.map V.str).set k (.str v))) l=some (.lst ((d.set k v).map V.str)):=by rw[rF,lb]
  generalize upd C l (.lst ((d.map V.str).set k (.str v)))=W at u p ⊢
  have g:TxtOk (d.set k v):=D.set (D.wd v (cz hv)) (D.cs v (cz hv))
  have o:=u.seq I
  refine⟨_,rfl,m,_,_,_,rfl,rfl,o,b,_,_,rfl,rfl,c,rfl,_,rfl,Fp (G6 e (by decide)) ?_⟩
  refine⟨_,rfl,m,_,_,_,rfl,rfl,o,b,_,_,rfl,rfl,c,rfl,_,rfl,Fp (G6 e (by decide)) ?_⟩
  refine⟨_,rfl,m,_,_,_,rfl,rfl,o,b,_,_,rfl,rfl,c,rfl,_,rfl,Fp (G6 e (by decide)) ?_⟩
  refine⟨_,rfl,m,_,_,_,rfl,rfl,o,b,_,_,rfl,rfl,c,rfl,_,rfl,Fp (G6 e (by decide)) ?_⟩
  refine⟨_,rfl,m,_,_,_,rfl,rfl,o,b,_,_,rfl,rfl,c,rfl,_,rfl,Fp (G6 e (by decide)) ?_⟩
  exact⟨rfl,_,rfl,_,l,_,rfl,rfl,SqL.of p,by decide,g.sumk,q _ _ u g.out.1 g.out.2.1 g.out.2.2⟩
 ·refine⟨_,rfl,m,_,_,_,rfl,rfl,n,b,_,_,rfl,rfl,c,rfl,_,rfl,Fp (G6 e (by decide)) ?_⟩
  refine⟨_,rfl,m,_,_,_,rfl,rfl,n,b,_,_,rfl,rfl,c,rfl,_,rfl,FD (by show V.int (ns.getD 3 0%16)=V.int 3;rw[e]) ?_⟩
  refine⟨_,rfl,.inl ⟨rfl,_,SqL.of r⟩,_,rfl,l,_,_,k,_,rfl,rfl,r,by omega,by omega,(by rw[G,lS (by omega) (by omega)];exact congrArg some (by omega)),O,?_⟩
  have u:Same H (upd C l (.lst ((d.map V.str).eraseIdx k))):=R.over L _
  have p:upd C l (.lst ((d.map V.str).eraseIdx k)) l=some (.lst ((d.eraseIdx k).map V.str)):=by rw[rF,vh]
  generalize upd C l (.lst ((d.map V.str).eraseIdx k))=W at u p ⊢
  have g:TxtOk (d.eraseIdx k):=D.erase
  have o:=u.seq I
  refine⟨_,rfl,m,_,_,_,rfl,rfl,o,b,_,_,rfl,rfl,c,rfl,_,rfl,Fp (G6 e (by decide)) ?_⟩
  refine⟨_,rfl,m,_,_,_,rfl,rfl,o,b,_,_,rfl,rfl,c,rfl,_,rfl,Fp (G6 e (by decide)) ?_⟩
  refine⟨_,rfl,m,_,_,_,rfl,rfl,o,b,_,_,rfl,rfl,c,rfl,_,rfl,Fp (G6 e (by decide)) ?_⟩
  refine⟨_,rfl,m,_,_,_,rfl,rfl,o,b,_,_,rfl,rfl,c,rfl,_,rfl,Fp (G6 e (by decide)) ?_⟩
  exact⟨rfl,_,rfl,_,l,_,rfl,rfl,SqL.of p,by decide,g.sumk,q _ _ u g.out.1 g.out.2.1 g.out.2.2⟩
 ·refine⟨_,rfl,m,_,_,_,rfl,rfl,n,b,_,_,rfl,rfl,c,rfl,_,rfl,Fp (G6 e (by decide)) ?_⟩
  refine⟨_,rfl,m,_,_,_,rfl,rfl,n,b,_,_,rfl,rfl,c,rfl,_,rfl,Fp (G6 e (by decide)) ?_⟩
  refine⟨_,rfl,m,_,_,_,rfl,rfl,n,b,_,_,rfl,rfl,c,rfl,_,rfl,FD (by show V.int (ns.getD 3 0%16)=V.int 5;rw[e]) ?_⟩
  refine⟨_,rfl,_,rfl,l,_,_,_,rfl,rfl,SqL.of r,sO O,_,_,rfl,rfl,by rw[lq];exact cx (Fh (by omega)),_,rfl,_,rfl,l,_,_,_,rfl,rfl,r,X,?_⟩
  have u:Same H (upd C l (.lst ((d.map V.str).set k (.str (d[k]++"q"))))):=R.over L _
  have p:upd C l (.lst ((d.map V.str).set k (.str (d[k]++"q")))) l=some (.lst ((d.set k (d[k]++"q")).map V.str)):=by rw[rF,lb]
  generalize upd C l (.lst ((d.map V.str).set k (.str (d[k]++"q"))))=W at u p ⊢
  have g:TxtOk (d.set k (d[k]++"q")):=D.set (by rw[sI,lq];omega) (Dm Y (Ba (by decide +kernel)))
  have o:=u.seq I
  refine⟨_,rfl,m,_,_,_,rfl,rfl,o,b,_,_,rfl,rfl,c,rfl,_,rfl,Fp (G6 e (by decide)) ?_⟩
  refine⟨_,rfl,m,_,_,_,rfl,rfl,o,b,_,_,rfl,rfl,c,rfl,_,rfl,Fp (G6 e (by decide)) ?_⟩
  refine⟨_,rfl,m,_,_,_,rfl,rfl,o,b,_,_,rfl,rfl,c,rfl,_,rfl,Fp (G6 e (by decide)) ?_⟩
  exact⟨rfl,_,rfl,_,l,_,rfl,rfl,SqL.of p,by decide,g.sumk,q _ _ u g.out.1 g.out.2.1 g.out.2.2⟩
 ·refine⟨_,rfl,m,_,_,_,rfl,rfl,n,b,_,_,rfl,rfl,c,rfl,_,rfl,Fp (G6 e (by decide)) ?_⟩
  refine⟨_,rfl,m,_,_,_,rfl,rfl,n,b,_,_,rfl,rfl,c,rfl,_,rfl,Fp (G6 e (by decide)) ?_⟩
  refine⟨_,rfl,m,_,_,_,rfl,rfl,n,b,_,_,rfl,rfl,c,rfl,_,rfl,Fp (G6 e (by decide)) ?_⟩
  refine⟨_,rfl,m,_,_,_,rfl,rfl,n,b,_,_,rfl,rfl,c,rfl,_,rfl,FD (by show V.int (ns.getD 3 0%16)=V.int 7;rw[e]) ?_⟩
  refine⟨_,rfl,.inl ⟨rfl,_,SqL.of r⟩,_,rfl,l,_,_,_,rfl,rfl,r,by omega,by rw[G];omega,Fh (by rw[G];omega),?_⟩
  dsimp only
  rw[show(k:Int).toNat=k by omega]
  have u:Same H (upd C l (.lst ((d.map V.str).take k++V.str ""::(d.map V.str).drop k))):=R.over L _
  have p:upd C l (.lst ((d.map V.str).take k++V.str ""::(d.map V.str).drop k)) l=some (.lst ((d.take k++b9 ""::d.drop k).map V.str)):=by rw[rF,cb,dh,kd,kf]
  generalize upd C l (.lst ((d.map V.str).take k++V.str ""::(d.map V.str).drop k))=W at u p ⊢
  have g:TxtOk (d.take k++b9 ""::d.drop k):=D.more (by omega) (by decide) (Ba (by decide +kernel))
  have o:=u.seq I
  refine⟨_,rfl,m,_,_,_,rfl,rfl,o,b,_,_,rfl,rfl,c,rfl,_,rfl,Fp (G6 e (by decide)) ?_⟩
  refine⟨_,rfl,m,_,_,_,rfl,rfl,o,b,_,_,rfl,rfl,c,rfl,_,rfl,Fp (G6 e (by decide)) ?_⟩
  exact⟨rfl,_,rfl,_,l,_,rfl,rfl,SqL.of p,by decide,g.sumk,q _ _ u g.out.1 g.out.2.1 g.out.2.2⟩
 ·refine⟨_,rfl,m,_,_,_,rfl,rfl,n,b,_,_,rfl,rfl,c,rfl,_,rfl,Fp (G6 e (by decide)) ?_⟩
  refine⟨_,rfl,m,_,_,_,rfl,rfl,n,b,_,_,rfl,rfl,c,rfl,_,rfl,Fp (G6 e (by decide)) ?_⟩
  refine⟨_,rfl,m,_,_,_,rfl,rfl,n,b,_,_,rfl,rfl,c,rfl,_,rfl,Fp (G6 e (by decide)) ?_⟩
  refine⟨_,rfl,m,_,_,_,rfl,rfl,n,b,_,_,rfl,rfl,c,rfl,_,rfl,Fp (G6 e (by decide)) ?_⟩
  refine⟨_,rfl,m,_,_,_,rfl,rfl,n,b,_,_,rfl,rfl,c,rfl,_,rfl,FD (by show V.int (ns.getD 3 0%16)=V.int 9;rw[e]) ?_⟩
  refine⟨_,rfl,_,rfl,l,_,_,_,rfl,rfl,SqL.of r,sO O,_,_,rfl,rfl,by rw[lc];exact cx (Fh (by omega)),_,rfl,_,rfl,l,_,_,_,rfl,rfl,r,X,?_⟩
  have u:Same H (upd C l (.lst ((d.map V.str).set k (.str (d[k]++","))))):=R.over L _
  have p:upd C l (.lst ((d.map V.str).set k (.str (d[k]++",")))) l=some (.lst ((d.set k (d[k]++",")).map V.str)):=by rw[rF,lb]
  generalize upd C l (.lst ((d.map V.str).set k (.str (d[k]++","))))=W at u p ⊢
  have g:TxtOk (d.set k (d[k]++",")):=D.set (by rw[sI,lc];omega) (Dm Y (Ba (by decide +kernel)))
  have o:=u.seq I
  refine⟨_,rfl,m,_,_,_,rfl,rfl,o,b,_,_,rfl,rfl,c,rfl,_,rfl,Fp (G6 e (by decide)) ?_⟩
  exact⟨rfl,_,rfl,_,l,_,rfl,rfl,SqL.of p,by decide,g.sumk,q _ _ u g.out.1 g.out.2.1 g.out.2.2⟩
 ·refine⟨_,rfl,m,_,_,_,rfl,rfl,n,b,_,_,rfl,rfl,c,rfl,_,rfl,Fp (G6 e (by decide)) ?_⟩
  refine⟨_,rfl,m,_,_,_,rfl,rfl,n,b,_,_,rfl,rfl,c,rfl,_,rfl,Fp (G6 e (by decide)) ?_⟩
  refine⟨_,rfl,m,_,_,_,rfl,rfl,n,b,_,_,rfl,rfl,c,rfl,_,rfl,Fp (G6 e (by decide)) ?_⟩
  refine⟨_,rfl,m,_,_,_,rfl,rfl,n,b,_,_,rfl,rfl,c,rfl,_,rfl,Fp (G6 e (by decide)) ?_⟩
  refine⟨_,rfl,m,_,_,_,rfl,rfl,n,b,_,_,rfl,rfl,c,rfl,_,rfl,Fp (G6 e (by decide)) ?_⟩
  refine⟨_,rfl,m,_,_,_,rfl,rfl,n,b,_,_,rfl,rfl,c,rfl,_,rfl,FD (by show V.int (ns.getD 3 0%16)=V.int 11;rw[e]) ?_⟩
  refine⟨_,rfl,.inl ⟨rfl,_,SqL.of r⟩,_,rfl,_,rfl,l,_,_,_,rfl,rfl,SqL.of r,sO O,l,_,_,rfl,rfl,r,Fh (by rw[G];omega),?_⟩
  have u:Same H (upd C l (.lst (d.map V.str++[V.str d[k]]))):=R.over L _
  have p:upd C l (.lst (d.map V.str++[V.str d[k]])) l=some (.lst ((d++[d[k]]).map V.str)):=by rw[rF,cb];rfl
  generalize upd C l (.lst (d.map V.str++[V.str d[k]]))=W at u p ⊢
  have g:TxtOk (d++[d[k]]):=(by have z:=D.more (k:=d.length) (by omega) af Y;rw[cI,List.drop_length]at z;exact z)
  have o:=u.seq I
  exact⟨rfl,_,rfl,_,l,_,rfl,rfl,SqL.of p,by decide,g.sumk,q _ _ u g.out.1 g.out.2.1 g.out.2.2⟩
 ·refine⟨_,rfl,m,_,_,_,rfl,rfl,n,b,_,_,rfl,rfl,c,rfl,_,rfl,Fp (λz=>e.1 (Kz z)) ?_⟩
  refine⟨_,rfl,m,_,_,_,rfl,rfl,n,b,_,_,rfl,rfl,c,rfl,_,rfl,Fp (λz=>e.2.1 (Kz z)) ?_⟩
  refine⟨_,rfl,m,_,_,_,rfl,rfl,n,b,_,_,rfl,rfl,c,rfl,_,rfl,Fp (λz=>e.2.2.1 (Kz z)) ?_⟩
  refine⟨_,rfl,m,_,_,_,rfl,rfl,n,b,_,_,rfl,rfl,c,rfl,_,rfl,Fp (λz=>e.2.2.2.1 (Kz z)) ?_⟩
  refine⟨_,rfl,m,_,_,_,rfl,rfl,n,b,_,_,rfl,rfl,c,rfl,_,rfl,Fp (λz=>e.2.2.2.2.1 (Kz z)) ?_⟩
  refine⟨_,rfl,m,_,_,_,rfl,rfl,n,b,_,_,rfl,rfl,c,rfl,_,rfl,Fp (λz=>e.2.2.2.2.2 (Kz z)) ?_⟩
  exact⟨rfl,_,rfl,_,l,_,rfl,rfl,SqL.of r,by decide,D.sumk,q _ _ R D.out.1 D.out.2.1 D.out.2.2⟩
theorem He:Fj ["_law_people","_law_things","_law_xs","_law_way","_law_top","_law_number"] ["_law_people","_law_things","_law_xs"] (Fg (Fm 68)):=⟨rfl,rfl,rfl,by decide +kernel,rfl,by decide +kernel,by decide +kernel⟩
theorem JV(M:Md K mg x cB)
  (G_law_person:Dn P w K mg base Ft 1 "_law_person" ["_law_people","_law_xs"] (Iv K))
  (G_law_text:Dn P w K mg base Ft 2 "_law_text" ["_law_things","_law_xs"] (JX K))
  (G_law_lowest:Dn P w K mg base Ft 2 "_law_lowest" ["_law_top","_law_bottom"] (JA)):Dn P w K mg base Ft 3 "_law_deed" ["_law_people","_law_things","_law_xs"] (JH K):=by
 have nd:=(He).nd
 refine M.f__law_deed.ok He (λvs H Q E h=>?_) (λ_ _ _ _ _ _ us hl=>Lc (λ_ _ _=>rfl) us hl) (λf aC A aB s H vs Q E Z h=>?_)
 ·obtain⟨a,b,m,ps,ts,ns,rfl,hA,rp,hB,rt,B,h8,q⟩:=h
  rfl
 obtain⟨a,b,m,ps,ts,ns,rfl,hA,rp,hB,rt,B,h8,q⟩:=h
 refine⟨_,(K7.h (AK (BN (i:=3) (is:=["eaten","turns","eaten","turns","eaten","Turns","","eaten "]) nd rfl (Or.inl rfl) rZ rfl (rP sj (rS rZ (pv 2) rJ (λ_ _=>rfl)) rJ) (λ_ _=>rfl))
   (vK (sk (rN zM (rP sj (rS rZ (pv 2) rJ (λ_ _=>rfl)) rJ) rJ (Fk _)) (rK (rQ (sx (lg rY (lg (sh G_law_person Z (by decide) rfl Fn (lg (pv 0) (lg (pv 2) rH))) (lg (sh G_law_text Z (by decide) rfl Fn (lg (pv 1) (lg (pv 2) rH))) rH)))))) rO)
   (vK (sk (rN s9 (rP sj (rS rZ (pv 2) rJ (λ_ _=>rfl)) rJ) rJ (Fk _)) (rK (rQ (sx (lg rY (lg (sh G_law_person Z (by decide) rfl Fn (lg (pv 0) (lg (pv 2) rH))) (lg (pv 3) rH)))))) rO)
   (vK (rM (i:=4) nd rfl (Or.inl rfl) (rP sj (rS rZ (pv 2) rJ (λ_ _=>rfl)) rJ))
   (vK (rM (i:=5) nd rfl (Or.inl rfl) (rS rZ (sC (lg (sx (lg (pv 4) (lg rJ rH))) (lg (sx (lg (pv 4) (lg rJ rH))) (lg (sx (lg rJ (lg rJ rH))) (lg (sx (lg rJ (lg rJ rH))) (lg (sx (lg (rP sL rJ (pv 4)) (lg rJ rH))) (lg (sx (lg (rP wP (Bo yk rJ) (pv 4)) (lg rJ rH))) rH))))))) (rP sj (rS rZ (pv 2) rJ (λ_ _=>rfl)) rJ) (λ_ _=>rfl)))
   (EC (rK (rQ (sx (lg rY (lg (pv 3) (lg (sh G_law_lowest Z (by decide) rfl Fn (lg (rS sd (pv 5) rJ (λ_ _=>rfl)) (lg (rS sd (pv 5) rJ (λ_ _=>rfl)) rH))) rH))))))))))))),?_⟩
 have c:(2:Nat)<=sizeLine:=by decide
 have l:(3:Nat)<=sizeLine:=by decide
 have av:=yl (ns:=ns) (i:=4) (by omega)
 have af:=yl (ns:=ns) (i:=5) (by omega)
 have ay:=yl (ns:=ns) (i:=6) (by omega)
 have am:=yl (ns:=ns) (i:=7) (by omega)
 have w0:=cY (ns.getD 4 0) (show(8:Int)≠0 by decide)
 have w1:=cQ (ns.getD 4 0) (show(0:Int)<8 by decide)
 obtain⟨ab,ag⟩:=Ef w0 w1
 refine⟨by show 8<=sizeLine;decide,λF aj=>?_⟩
 have k:Same H (upd H F (.lst (HV.map V.str))):=mH aj _
 have J:upd H F (.lst (HV.map V.str)) F=some (.lst (HV.map V.str)):=rF
 change Mm _ _ _ _ (upd H F (.lst (HV.map V.str))) _
 generalize upd H F (.lst (HV.map V.str))=Y at k J ⊢
 refine⟨_,rfl,m,_,_,_,rfl,rfl,k.seq B,av,_,_,rfl,rfl,by show(0:Int)<8;decide,F,_,_,_,rfl,rfl,SqL.of J,ag,?_⟩
 refine⟨_,rfl,m,_,_,_,rfl,rfl,k.seq B,af,_,_,rfl,rfl,by show(0:Int)<4;decide,_,_,rfl,rfl,_,rfl,?_⟩
 refine FE (λ_=>?_) (λ_=>?_)
 ·refine⟨_,rfl,_,rfl,a,m,ps,ns,rfl,k.seq hA,rp,k.seq B,h8,λp G S1 ao ah=>?_⟩
  have R:=k.trans S1
  refine⟨_,rfl,_,rfl,b,m,ts,ns,rfl,R.seq hB,rt,R.seq B,h8,λt O S2 ap al ak=>?_⟩
  refine⟨l,λN z=>q _ (.wish p t) _ (R.trans (S2.trans (mH z _))) ⟨N,rfl,SqT.of rF,ap,al,ak⟩⟩
 refine⟨_,rfl,m,_,_,_,rfl,rfl,k.seq B,af,_,_,rfl,rfl,by show(0:Int)<4;decide,rfl,_,rfl,?_⟩
 refine FE (λ_=>?_) (λ_=>?_)
 ·refine⟨_,rfl,_,rfl,a,m,ps,ns,rfl,k.seq hA,rp,k.seq B,h8,λp G S1 ao ah=>?_⟩
  refine⟨_,rfl,l,λN z=>q _ (.shares p ab) _ (k.trans (S1.trans (mH z _))) ⟨N,rfl,SqT.of rF⟩⟩
 refine⟨_,rfl,m,_,_,_,rfl,rfl,k.seq B,ay,_,_,rfl,rfl,by show(0:Int)<1009;decide,?_⟩
 have t0:=cY (ns.getD 6 0) (show(1009:Int)≠0 by decide)
 have t1:=cQ (ns.getD 6 0) (show(0:Int)<1009 by decide)
 dsimp only
 generalize ns.getD 6 0%1009=j at t0 t1
 refine⟨_,rfl,c,λn aw=>?_⟩
 have T1:Same Y (upd Y n (.tup [.int j,.int 1009])):=mH aw _
 have e1:upd Y n (.tup [.int j,.int 1009]) n=some (.tup [.int j,.int 1009]):=rF
 generalize upd Y n (.tup [.int j,.int 1009])=G at T1 e1 ⊢
 refine⟨_,rfl,c,λu aA=>?_⟩
 have T2:Same G (upd G u (.tup [.int j,.int 1009])):=mH aA _
 have e2:upd G u (.tup [.int j,.int 1009]) u=some (.tup [.int j,.int 1009]):=rF
 generalize upd G u (.tup [.int j,.int 1009])=O at T2 e2 ⊢
 refine⟨c,λy an=>?_⟩
 have T:Same O (upd O y (.tup [.int 0,.int 1])):=mH an _
 have e3:upd O y (.tup [.int 0,.int 1]) y=some (.tup [.int 0,.int 1]):=rF
 generalize upd O y (.tup [.int 0,.int 1])=X at T e3 ⊢
 refine⟨c,λr ax=>?_⟩
 have L:Same X (upd X r (.tup [.int 1,.int 1])):=mH ax _
 have e4:upd X r (.tup [.int 1,.int 1]) r=some (.tup [.int 1,.int 1]):=rF
 generalize upd X r (.tup [.int 1,.int 1])=U at L e4 ⊢
 refine⟨_,rfl,_,_,rfl,rfl,c,λv ar=>?_⟩
 have I:Same U (upd U v (.tup [.int (1009+j),.int 1009])):=mH ar _
 have e5:upd U v (.tup [.int (1009+j),.int 1009]) v=some (.tup [.int (1009+j),.int 1009]):=rF
 generalize upd U v (.tup [.int (1009+j),.int 1009])=W at I e5 ⊢
 refine⟨1,rfl,_,rfl,_,_,rfl,rfl,c,λo ac=>?_⟩
 dsimp only at ac ⊢
 have D:Same W (upd W o (.tup [.int (-1-j),.int 1009])):=mH ac _
 have e6:upd W o (.tup [.int (-1-j),.int 1009]) o=some (.tup [.int (-1-j),.int 1009]):=rF
 generalize upd W o (.tup [.int (-1-j),.int 1009])=H6 at D e6 ⊢
 refine⟨by show 6<=sizeLine;decide,λS ai=>?_⟩
 have C:Same H6 (upd H6 S (.lst [.ref n,.ref u,.ref y,.ref r,.ref v,.ref o])):=mH ai _
 have e7:upd H6 S (.lst [.ref n,.ref u,.ref y,.ref r,.ref v,.ref o]) S=some (.lst [.ref n,.ref u,.ref y,.ref r,.ref v,.ref o]):=rF
 generalize upd H6 S (.lst [.ref n,.ref u,.ref y,.ref r,.ref v,.ref o])=H7 at C e7 ⊢
 have ae:=k.trans (T1.trans (T2.trans (T.trans (L.trans (I.trans (D.trans C))))))
 have m0:=cY (ns.getD 7 0) (show(6:Int)≠0 by decide)
 have m1:=cQ (ns.getD 7 0) (show(0:Int)<6 by decide)
 obtain⟨pn,t,d,az,ad,hd,au,aa⟩:∃(pn:bV) (t d:Int),HQ [V.ref n,.ref u,.ref y,.ref r,.ref v,.ref o] (ns.getD 7 0%6)=some (.ref pn)/\H7 pn=some (.tup [.int t,.int d])/\0<d/\t.natAbs<4000/\d.natAbs<4000:=by
  have:ns.getD 7 0%6=0\/ns.getD 7 0%6=1\/ns.getD 7 0%6=2\/ns.getD 7 0%6=3\/ns.getD 7 0%6=4\/ns.getD 7 0%6=5:=by omega
  rcases this with e|e|e|e|e|e
  ·rw[e];exact⟨n,_,_,rfl,C _ _ (D _ _ (I _ _ (L _ _ (T _ _ (T2 _ _ e1))))),by decide,by omega,by decide⟩
  ·rw[e];exact⟨u,_,_,rfl,C _ _ (D _ _ (I _ _ (L _ _ (T _ _ e2)))),by decide,by omega,by decide⟩
  ·rw[e];exact⟨y,_,_,rfl,C _ _ (D _ _ (I _ _ (L _ _ e3))),by decide,by decide,by decide⟩
  ·rw[e];exact⟨r,_,_,rfl,C _ _ (D _ _ (I _ _ e4)),by decide,by decide,by decide⟩
  ·rw[e];exact⟨v,_,_,rfl,C _ _ (D _ _ e5),by decide,by omega,by decide⟩
  ·rw[e];exact⟨o,_,_,rfl,C _ _ e6,by decide,by omega,by decide⟩
 have aq:d.natAbs<2^9000:=ci aa (cG (show 4000<=2^12 by decide) (dM (by decide) (by decide)))
 refine⟨_,rfl,m,_,_,_,rfl,rfl,ae.seq B,am,_,_,rfl,rfl,by show(0:Int)<6;decide,S,_,_,_,rfl,rfl,SqL.of e7,az,?_⟩
 refine⟨_,rfl,_,rfl,pn,_,0,_,rfl,rfl,SqT.of ad,rfl,_,rfl,pn,_,1,_,rfl,rfl,SqT.of ad,rfl,t,d,rfl,hd,aq,λg H8 S8 hg=>?_⟩
 have hn:=Nf hd au aa
 refine⟨l,λN z=>q _ (.deal ab (FQ.red t d)) _ (ae.trans (S8.trans (mH z _))) ⟨N,g,rfl,SqT.of rF,?_,hn.1,hn.2⟩⟩
 exact SqT.of (mH z _ _ _ hg)
theorem Ic:Fj ["_law_people","_law_things","_law_lacks","_law_deed_here","_law_way"] ["_law_people","_law_things","_law_lacks","_law_deed_here"] (Fg (Fm 69)):=⟨rfl,rfl,rfl,by decide +kernel,rfl,by decide +kernel,by decide +kernel⟩
theorem Ki(M:Md K mg x cB):Dn P w K mg base Ft 1 "_law_due" ["_law_people","_law_things","_law_lacks","_law_deed_here"] (K1 K):=by
 have nd:=(Ic).nd;refine M.f__law_due.ok Ic (λvs H Q E h=>?_) (λ_ _ _ _ _ _ Y hl=>Os (λ_ _ _ _=>rfl) Y hl) (λf aC A ay s H vs Q E hr h=>?_)
 ·obtain⟨a,b,l,v,C,G,u,D,rfl,hA,hB,ae,ag,hL,ai,ak,hD,q⟩:=h;rfl
 obtain⟨a,b,l,v,C,G,u,D,rfl,hA,hB,ae,ag,hL,ai,ak,hD,q⟩:=h;refine⟨_,(rG (sk (PW.pt (uD (rN yw (rS sd (pv 3) rJ (λ_ _=>rfl)) rY (Fk _)) (uF (rN tK (rS sd (pv 3) rJ (λ_ _=>rfl)) (pv 0) (by with_unfolding_all rfl))))) (rK (rQ (sC (lg rY rH)))) rO)
   (rG (sk (rN s9 (rS sd (pv 3) rJ (λ_ _=>rfl)) rY (Fk _)) (rK (rQ (rS rZ (sC (lg (sC (lg rY rH)) (lg (sC rH) rH))) (sA BV rfl M.b_int Boot.«int» (lg (ua (u9 hr) (rL (tY) rfl M.b_sorted Boot.«sorted» (lg (tO gU kP lh zG (rS sd (pv 3) rJ (λ_ _=>rfl)) (lg rY rH)) rH)) (rL (tY) rfl M.b_sorted Boot.«sorted» (lg (pv 1) rH)) (Fk _)) rH)) (λ_ _=>rfl)))) rO)
   (rG (sk (rN (v4 hr) (pv 2) (sC rH) (Fk _)) (rK (rQ (sC (lg rY rH)))) rO)
   (rG (rM (i:=4) nd rfl (Or.inl rfl) (rS sd (pv 3) rJ (λ_ _=>rfl)))
   (rG (sk (rN s9 (rS sd (pv 3) rJ (λ_ _=>rfl)) rY (Fk _)) (rK (rM (i:=4) nd rfl (Or.inl rfl) (rS sd (pv 3) rJ (λ_ _=>rfl)))) rO)
   (rG (sk (rN tK (pv 4) (sx (lg rY (lg rY rH))) (by with_unfolding_all rfl)) (rK (rQ (sC (lg rY rH)))) rO)
   (rG (sk (PW.pt (uD (rN s9 (rS sd (pv 3) rJ (λ_ _=>rfl)) rY (Fk _)) (uF (tU (zr A5 zM rJ (rS sd (rS sd (pv 3) rJ (λ_ _=>rfl)) rJ (λ_ _=>rfl)) (rS sd (rS sd (pv 3) rJ (λ_ _=>rfl)) rJ (λ_ _=>rfl))))))) (rK (rQ (sC (lg rY rH)))) rO)
   (rK (rQ (sC rH)))))))))),?_⟩
 have B:(0:Nat)<=sizeLine:=by decide
 have c:(1:Nat)<=sizeLine:=by decide
 have L:(2:Nat)<=sizeLine:=by decide
 have ap:¬V.str "wish"=V.str "deal":=λz=>by injection z with z;revert z;decide
 have ab:¬V.str "shares"=V.str "deal":=λz=>by injection z with z;revert z;decide
 have ax:¬V.str "shares"=V.str "wish":=λz=>by injection z with z;revert z;decide
 have ao:¬V.str "deal"=V.str "wish":=λz=>by injection z with z;revert z;decide
 have ad:∀(I:Hp) (p:bV),Same H I->I p=some (.lst [])->Rep K I (.ref l) (.list (u.map d4))/\Rep K I (.ref p) (.list (([]:List Str).map d4))/\eg (.list (u.map d4))=true/\eg (.list (([]:List Str).map d4))=true:=λI p S hp=>
  ⟨.lst (S.seq hL) (Reps.strs u) (by rw[bP];omega),.lst (SqL.of hp) (Reps.strs []) (by simp),sy (tI ai) (by decide),sy (tI (λw y=>nomatch y)) (by decide)⟩
 cases D with
 | wish p t=>
  obtain⟨d,rfl,r,aA,al,am⟩:=hD;refine⟨_,rfl,d,_,_,_,rfl,rfl,r,rfl,rfl,_,rfl,J0 ap ?_⟩;refine⟨_,rfl,d,_,_,_,rfl,rfl,r,rfl,_,rfl,a,_,rfl,.inl hA,rfl,ur _,_,rfl,?_⟩;show if(!Jv (.str p) (C.map V.str))=true then _ else _
  rw[uk];by_cases hp:p∈C;rotate_left
  ·rw[decide_eq_false hp];have e:Fy C G u (.wish p t)=[b9 "NoPerson"]:=if_neg hp;rw[e]at q;exact FH ⟨c,λp hp=>q p _ (mH hp _) hp rF⟩
  rw[decide_eq_true hp];refine Fv ?_;refine⟨_,rfl,d,_,_,_,rfl,rfl,r,rfl,rfl,_,rfl,FD rfl ?_⟩;refine⟨c,λm R=>⟨B,λJ O=>⟨L,λZ aa=>?_⟩⟩⟩;have n:Same H (upd H m (.lst [V.str "NoWishes"])):=mH R _;have T:upd H m (.lst [V.str "NoWishes"]) m=some (.lst [V.str "NoWishes"]):=rF;generalize upd H m (.lst [V.str "NoWishes"])=I at n T O aa ⊢;have j:Same I (upd I J (.lst [])):=mH O _;have e2:upd I J (.lst []) J=some (.lst []):=rF;generalize upd I J (.lst [])=H2 at j e2 aa ⊢;have T3:Same H2 (upd H2 Z (.lst [V.ref m,V.ref J])):=mH aa _;have e3:upd H2 Z (.lst [V.ref m,V.ref J]) Z=some (.lst [V.ref m,V.ref J]):=rF;generalize upd H2 Z (.lst [V.ref m,V.ref J])=H3 at T3 e3 ⊢;have af:=n.trans (j.trans T3);have aq:∀w∈L2.wordsOf t,FM w:=xM al;refine⟨_,rfl,d,_,_,_,rfl,rfl,af.tup r,rfl,rfl,t," ",rfl,rfl,by decide,cx (Fh (by omega)),λpw an=>?_⟩;have S1:Same H3 (upd H3 pw (.lst ((L2.wordsOf t).map V.str))):=mH an _;have aj:upd H3 pw (.lst ((L2.wordsOf t).map V.str)) pw=some (.lst ((L2.wordsOf t).map V.str)):=rF;refine⟨pw,L2.wordsOf t,rfl,.inl (SqL.of aj),am,λl1 ws aw X ar=>?_⟩;have S2:Same (upd H3 pw (.lst ((L2.wordsOf t).map V.str))) _:=mH aw (.lst (ws.map V.str));have ah:=af.trans (S1.trans S2);refine⟨_,rfl,b,G,rfl,.inl (ah.seq hB),ae,λl2 Y av W au=>?_⟩;have S3:=mH av (.lst (Y.map V.str));refine⟨.list (ws.map d4),.list (Y.map d4),.lst (SqL.of (S3 _ _ rF)) (Reps.strs ws) (by rw[bP,X.length_eq];omega),.lst (SqL.of rF) (Reps.strs Y) (by rw[bP,W.length_eq];omega),sy (tI λw y=>aq w (X.mem_iff.mp y)) (by decide),sy (tI λw y=>ag w (W.mem_iff.mp y)) (by decide),?_⟩;rw[sF];have ac:=ah.trans S3;have Sr:=S1.trans (S2.trans S3);by_cases U:(L2.wordsOf t).Perm G
  ·rw[decide_eq_true (vp ar au (X.trans (U.trans W.symm)))];have e:Fy C G u (.wish p t)=[]:=(if_pos hp).trans (if_pos U);rw[e]at q;exact .inr ⟨_,rfl,Z,_,1,_,rfl,rfl,SqL.of (Sr _ _ e3),rfl,q J _ ac (n.free O) (Sr _ _ (T3 _ _ e2))⟩
  ·rw[decide_eq_false (λ(z:ws=Y)=>U (X.symm.trans (by rw[z];exact W)))];have e:Fy C G u (.wish p t)=[b9 "NoWishes"]:=(if_pos hp).trans (if_neg U);rw[e]at q;exact .inr ⟨_,rfl,Z,_,0,_,rfl,rfl,SqL.of (Sr _ _ e3),rfl,q m _ ac R (Sr _ _ (T3 _ _ (j _ _ T)))⟩
 | shares p k=>
  obtain⟨d,rfl,r⟩:=hD;refine⟨_,rfl,d,_,_,_,rfl,rfl,r,rfl,rfl,_,rfl,J0 ab ?_⟩;refine⟨_,rfl,d,_,_,_,rfl,rfl,r,rfl,_,rfl,a,_,rfl,.inl hA,rfl,ur _,_,rfl,?_⟩;show if(!Jv (.str p) (C.map V.str))=true then _ else _
  rw[uk];by_cases hp:p∈C;rotate_left
  ·rw[decide_eq_false hp];have e:Fy C G u (.shares p k)=[b9 "NoPerson"]:=if_neg hp;rw[e]at q;exact FH ⟨c,λp hp=>q p _ (mH hp _) hp rF⟩
  rw[decide_eq_true hp];refine Fv ?_;refine⟨_,rfl,d,_,_,_,rfl,rfl,r,rfl,rfl,_,rfl,Fp ax ?_⟩;refine⟨_,rfl,B,λm R=>?_⟩;have n:Same H (upd H m (.lst [])):=mH R _;have T:upd H m (.lst []) m=some (.lst []):=rF;generalize upd H m (.lst [])=I at n T ⊢;obtain⟨r1,r2,s1,s2⟩:=ad I m n T;refine⟨_,_,r1,r2,s1,s2,_,rfl,?_⟩;rw[sF];by_cases o:u=[];rotate_left
  ·have e:Fy C G u (.shares p k)=[b9 "Unready"]:=(if_pos hp).trans (if_neg o);rw[e]at q;rw[decide_eq_false o];exact FH ⟨c,λp hp=>q p _ (n.trans (mH hp _)) (n.free hp) rF⟩
  rw[decide_eq_true o];refine Fv ?_;refine⟨_,rfl,d,_,_,_,rfl,rfl,n.tup r,rfl,?_⟩;refine⟨_,rfl,d,_,_,_,rfl,rfl,n.tup r,rfl,rfl,_,rfl,Fp ab ?_⟩;refine⟨_,rfl,L,λJ O=>?_⟩;have j:=n.trans (mH O (.tup [V.str "eaten",V.str "turns"]));refine⟨J,_,rfl,.inr (SqT.of rF),rfl,rfl,_,rfl,?_⟩;show if(!Jv (.str k) ([b9 "eaten",b9 "turns"].map V.str))=true then _ else _
  rw[uk];by_cases y:k∈[b9 "eaten",b9 "turns"];rotate_left
  ·have e:Fy C G u (.shares p k)=[b9 "NoWay"]:=(if_pos hp).trans ((if_pos o).trans (if_neg y));rw[e]at q;rw[decide_eq_false y];exact FH ⟨c,λp hp=>q p _ (j.trans (mH hp _)) (j.free hp) rF⟩
  rw[decide_eq_true y];refine Fv ?_;have e:Fy C G u (.shares p k)=[]:=(if_pos hp).trans ((if_pos o).trans (if_pos y));rw[e]at q;refine⟨_,rfl,d,_,_,_,rfl,rfl,j.tup r,rfl,rfl,_,rfl,Fp ab ?_⟩;exact⟨B,λp hp=>q p _ (j.trans (mH hp _)) (j.free hp) rF⟩
 | deal k N=>
  obtain⟨d,g,rfl,r,hg,aB,az⟩:=hD;refine⟨_,rfl,d,_,_,_,rfl,rfl,r,rfl,rfl,_,rfl,Hx rfl ?_⟩;refine⟨_,rfl,d,_,_,_,rfl,rfl,r,rfl,rfl,_,rfl,Fp ao ?_⟩;refine⟨_,rfl,B,λm R=>?_⟩;have n:Same H (upd H m (.lst [])):=mH R _;have T:upd H m (.lst []) m=some (.lst []):=rF;generalize upd H m (.lst [])=I at n T ⊢;obtain⟨r1,r2,s1,s2⟩:=ad I m n T;refine⟨_,_,r1,r2,s1,s2,_,rfl,?_⟩;rw[sF];by_cases o:u=[];rotate_left
  ·have e:Fy C G u (.deal k N)=[b9 "Unready"]:=if_neg o;rw[e]at q;rw[decide_eq_false o];exact FH ⟨c,λp hp=>q p _ (n.trans (mH hp _)) (n.free hp) rF⟩
  rw[decide_eq_true o];refine Fv ?_;refine⟨_,rfl,d,_,_,_,rfl,rfl,n.tup r,rfl,?_⟩;refine⟨_,rfl,d,_,_,_,rfl,rfl,n.tup r,rfl,rfl,_,rfl,FD rfl ?_⟩;refine⟨_,rfl,d,_,_,_,rfl,rfl,n.tup r,rfl,?_⟩;refine⟨_,rfl,L,λJ O=>?_⟩;have j:=n.trans (mH O (.tup [V.str "eaten",V.str "turns"]));refine⟨J,_,rfl,.inr (SqT.of rF),rfl,rfl,_,rfl,?_⟩;show if(!Jv (.str k) ([b9 "eaten",b9 "turns"].map V.str))=true then _ else _
  rw[uk];by_cases y:k∈[b9 "eaten",b9 "turns"];rotate_left
  ·have e:Fy C G u (.deal k N)=[b9 "NoWay"]:=(if_pos o).trans (if_neg y);rw[e]at q;rw[decide_eq_false y];exact FH ⟨c,λp hp=>q p _ (j.trans (mH hp _)) (j.free hp) rF⟩
  rw[decide_eq_true y];refine Fv ?_;refine⟨_,rfl,d,_,_,_,rfl,rfl,j.tup r,rfl,rfl,_,rfl,FD rfl ?_⟩;refine⟨_,rfl,d,_,_,_,rfl,rfl,j.tup r,rfl,g,_,0,_,rfl,rfl,j.tup hg,rfl,_,_,rfl,rfl,_,rfl,?_⟩;refine FE (λc1=>?_) (λc1=>?_);rotate_left
  ·have e:Fy C G u (.deal k N)=[b9 "NoPick"]:=(if_pos o).trans ((if_pos y).trans (if_neg (λz=>c1 z.1)));rw[e]at q;exact⟨_,rfl,FH ⟨c,λp hp=>q p _ (j.trans (mH hp _)) (j.free hp) rF⟩⟩
  refine⟨_,rfl,d,_,_,_,rfl,rfl,j.tup r,rfl,g,_,1,_,rfl,rfl,j.tup hg,rfl,_,_,rfl,rfl,_,rfl,?_⟩;by_cases c2:N.1<N.2
  ·have e:Fy C G u (.deal k N)=[]:=(if_pos o).trans ((if_pos y).trans (if_pos ⟨c1,c2⟩));rw[e]at q;dsimp only;rw[decide_eq_true c2];exact Fv ⟨B,λp hp=>q p _ (j.trans (mH hp _)) (j.free hp) rF⟩
  ·have e:Fy C G u (.deal k N)=[b9 "NoPick"]:=(if_pos o).trans ((if_pos y).trans (if_neg (λz=>c2 z.2)));rw[e]at q;dsimp only;rw[decide_eq_false c2];exact FH ⟨c,λp hp=>q p _ (j.trans (mH hp _)) (j.free hp) rF⟩
theorem Hh:Fj ["_law_book","_law_deed_here","_law_caught","_law_told_here","_law_e"] ["_law_book","_law_deed_here"] (Fg (Fm 70)):=⟨rfl,rfl,rfl,by decide +kernel,rfl,by decide +kernel,by decide +kernel⟩
theorem Jz(M:Md K mg x cB)
  (GBook_wish:Mn P w K mg base (GO P w) 2 cB "wish" ["self","person","text"] (Le K cB x))
  (GBook_shares:Mn P w K mg base (GO P w) 9 cB "shares" ["self","person","way"] (IH K cB x))
  (GBook_deal:Mn P w K mg base (GO P w) 9 cB "deal" ["self","way","number"] (JN K cB x))
  (G_law_kinds:Dn P w K mg base Ft 1 "_law_kinds" ["_law_e"] (HJ x)):Dn P w K mg base Ft 11 "_law_told" ["_law_book","_law_deed_here"] (JL K cB):=by
 have nd:=(Hh).nd
 refine M.f__law_told.ok Hh (λvs H Q E h=>?_) (λ_ _ _ _ _ _ us hl=>HZ (λ_ _=>rfl) us hl) (λf aC A ax s H vs Q E hr h=>?_)
 ·obtain⟨s0,d,v,u,I,R,D,rfl,L,rp,rt,ad,an,ab,hD,q⟩:=h
  rfl
 obtain⟨s0,d,v,u,I,R,D,rfl,L,rp,rt,ad,an,ab,hD,q⟩:=h
 refine⟨_,(rG (rM (i:=2) nd rfl (Or.inl rfl) uE)
   (rG (rM (i:=3) nd rfl (Or.inl rfl) uE)
   (rG (Ds (ni:=4) rfl rfl nd rfl rfl M.x_WishError rfl (EH (rN s9 (rS sd (pv 1) rJ (λ_ _=>rfl)) rY (Fk _)) (AX (i:=3) nd rfl (Or.inl rfl) (AV (pl:=_) (pv 0) M.cl GBook_wish hr (by decide) (lg (rS sd (pv 1) rJ (λ_ _=>rfl)) (lg (rS sd (pv 1) rJ (λ_ _=>rfl)) rH)))) (EH (rN s9 (rS sd (pv 1) rJ (λ_ _=>rfl)) rY (Fk _)) (AX (i:=3) nd rfl (Or.inl rfl) (AV (pl:=_) (pv 0) M.cl GBook_shares hr (by decide) (lg (rS sd (pv 1) rJ (λ_ _=>rfl)) (lg (rS sd (pv 1) rJ (λ_ _=>rfl)) rH)))) (AX (i:=3) nd rfl (Or.inl rfl) (AV (pl:=_) (pv 0) M.cl GBook_deal hr (by decide) (lg (rS sd (pv 1) rJ (λ_ _=>rfl)) (lg (rS sd (pv 1) rJ (λ_ _=>rfl)) rH)))))) (λ_=>(rK (rM (i:=2) nd rfl (Or.inl rfl) (pv 4)))))
   (rG (sk (rN A2 (pv 2) uE (Fk _)) (rK (rQ (sx (lg (pv 3) (lg (sC rH) rH))))) rO)
   (rK (rQ (sx (lg uE (lg (sh G_law_kinds hr (by decide) rfl Fn (lg (pv 2) rH)) rH))))))))),?_⟩
 obtain⟨dx,pp,p3,op,ot,h1,h2,h3,h4,h5,h6⟩:=L.ex
 have U:(0:Nat)<=sizeLine:=by decide
 have m:(2:Nat)<=sizeLine:=by decide
 have aA:=rp.hi
 have aB:=rt.hi
 have aw:¬V.str "shares"=V.str "wish":=λz=>by injection z with z;revert z;decide
 have ak:¬V.str "deal"=V.str "wish":=λz=>by injection z with z;revert z;decide
 have am:¬V.str "deal"=V.str "shares":=λz=>by injection z with z;revert z;decide
 cases D with
 | wish p t=>
  obtain⟨N,rfl,O,ao,ah,ai⟩:=hD
  refine⟨_,rfl,N,_,_,_,rfl,rfl,O,rfl,rfl,_,rfl,FD rfl ?_⟩
  refine⟨_,rfl,s0,dx,_,rfl,h1,rfl,_,rfl,N,_,_,_,rfl,rfl,O,rfl,_,rfl,N,_,_,_,rfl,rfl,O,rfl,?_⟩
  refine⟨s0,d,u,I,R,p,t,rfl,L,by omega,(λw hw=>(rt.wd w hw).asc),ao,ah,ai,by omega,λY X n=>?_,λhp Y X n=>?_,λhp aq r X U1 az hr ae=>?_⟩
  ·have b:Fy u I (Fo u R) (.wish p t)=[b9 "NoPerson"]:=if_neg Y
   refine⟨x.NoPerson,rfl,M.s_NoPerson,λe y=>?_⟩
   refine⟨_,rfl,?_⟩
   refine⟨_,rfl,rfl,_,rfl,Fv ?_⟩
   refine⟨_,rfl,e,x.NoPerson,"NoPerson",rfl,rF,.inr (.inr (.inr (.inl ⟨rfl,rfl⟩))),λj H4 J c B=>⟨m,λF a=>?_⟩⟩
   have C:=n.trans ((mH y _).trans (J.trans (mH a (.tup [.non,.ref j]))))
   exact q F j .non R _ (SameBut1.of C) rF ((n.trans (mH y _)).free c) (by rw[b];exact mH a _ _ _ B) (L.mono C) (.inl ⟨by rw[b];exact eV _ _,rfl⟩)

  ·have b:Fy u I (Fo u R) (.wish p t)=[b9 "NoWishes"]:=(if_pos hp).trans (if_neg Y)
   refine⟨x.NoWishes,rfl,M.s_NoWishes,λe y=>?_⟩
   refine⟨_,rfl,?_⟩
   refine⟨_,rfl,rfl,_,rfl,Fv ?_⟩
   refine⟨_,rfl,e,x.NoWishes,"NoWishes",rfl,rF,.inl ⟨rfl,rfl⟩,λj H4 J c B=>⟨m,λF a=>?_⟩⟩
   have C:=n.trans ((mH y _).trans (J.trans (mH a (.tup [.non,.ref j]))))
   exact q F j .non R _ (SameBut1.of C) rF ((n.trans (mH y _)).free c) (by rw[b];exact mH a _ _ _ B) (L.mono C) (.inl ⟨by rw[b];exact eV _ _,rfl⟩)

  ·have b:Fy u I (Fo u R) (.wish p t)=[]:=(if_pos hp).trans (if_pos aq)
   refine⟨_,rfl,rfl,_,rfl,FH ?_⟩
   refine⟨_,rfl,U,λj c=>⟨m,λF a=>?_⟩⟩
   have S:=(mH c (.lst [])).trans (mH a (.tup [.non,.ref j]))
   have af:j≠d:=λz=>by
    obtain⟨_,_,_,_,_,_,_,_,_,_,av⟩:=ae.ex
    rw[z,av]at c
    cases c
   have aj:H j=none:=by
    cases e:H j with
    | none=>rfl
    | some o=>rw[U1 j o af e]at c;cases c
   exact q F j .non _ _ (U1.trans (SameBut1.of S)) rF aj (by rw[b];exact mH a _ _ _ rF) (ae.mono S) (.inr ⟨b,rfl,r,rfl,S _ _ hr⟩)
 | shares p G=>
  obtain⟨N,rfl,O⟩:=hD
  refine⟨_,rfl,N,_,_,_,rfl,rfl,O,rfl,rfl,_,rfl,Fp aw ?_⟩
  refine⟨_,rfl,N,_,_,_,rfl,rfl,O,rfl,rfl,_,rfl,FD rfl ?_⟩
  refine⟨_,rfl,s0,dx,_,rfl,h1,rfl,_,rfl,N,_,_,_,rfl,rfl,O,rfl,_,rfl,N,_,_,_,rfl,rfl,O,rfl,?_⟩
  refine⟨s0,d,u,I,R,p,G,rfl,L,by omega,ad,λY X n=>?_,λhp Y X n=>?_,λhp hall=>?_⟩
  ·have b:Fy u I (Fo u R) (.shares p G)=[b9 "NoPerson"]:=if_neg Y
   refine⟨x.NoPerson,rfl,M.s_NoPerson,λe y=>?_⟩
   refine⟨_,rfl,?_⟩
   refine⟨_,rfl,rfl,_,rfl,Fv ?_⟩
   refine⟨_,rfl,e,x.NoPerson,"NoPerson",rfl,rF,.inr (.inr (.inr (.inl ⟨rfl,rfl⟩))),λj H4 J c B=>⟨m,λF a=>?_⟩⟩
   have C:=n.trans ((mH y _).trans (J.trans (mH a (.tup [.non,.ref j]))))
   exact q F j .non R _ (SameBut1.of C) rF ((n.trans (mH y _)).free c) (by rw[b];exact mH a _ _ _ B) (L.mono C) (.inl ⟨by rw[b];exact eV _ _,rfl⟩)

  ·have b:Fy u I (Fo u R) (.shares p G)=[b9 "Unready"]:=(if_pos hp).trans (if_neg (x3 Y))
   refine⟨x.Unready,rfl,M.s_Unready,λe y=>?_⟩
   refine⟨_,rfl,?_⟩
   refine⟨_,rfl,rfl,_,rfl,Fv ?_⟩
   refine⟨_,rfl,e,x.Unready,"Unready",rfl,rF,.inr (.inr (.inr (.inr (.inl ⟨rfl,rfl⟩)))),λj H4 J c B=>⟨m,λF a=>?_⟩⟩
   have C:=n.trans ((mH y _).trans (J.trans (mH a (.tup [.non,.ref j]))))
   exact q F j .non R _ (SameBut1.of C) rF ((n.trans (mH y _)).free c) (by rw[b];exact mH a _ _ _ B) (L.mono C) (.inl ⟨by rw[b];exact eV _ _,rfl⟩)

  ·obtain⟨W,hT,hW⟩:=AE rp ab hall
   refine⟨W,hT,hW,λn1 n2 X n=>?_,λZ T l xs X ac n al hl hx=>?_⟩
   ·have b:Fy u I (Fo u R) (.shares p G)=[b9 "NoWay"]:=(if_pos hp).trans ((if_pos (tS.mpr hall)).trans (if_neg (Dp n1 n2)))
    refine⟨x.NoWay,rfl,M.s_NoWay,λe y=>?_⟩
    refine⟨_,rfl,?_⟩
    refine⟨_,rfl,rfl,_,rfl,Fv ?_⟩
    refine⟨_,rfl,e,x.NoWay,"NoWay",rfl,rF,.inr (.inr (.inr (.inr (.inr ⟨rfl,rfl⟩)))),λj H4 J c B=>⟨m,λF a=>?_⟩⟩
    have C:=n.trans ((mH y _).trans (J.trans (mH a (.tup [.non,.ref j]))))
    exact q F j .non R _ (SameBut1.of C) rF ((n.trans (mH y _)).free c) (by rw[b];exact mH a _ _ _ B) (L.mono C) (.inl ⟨by rw[b];exact eV _ _,rfl⟩)

   ·have b:Fy u I (Fo u R) (.shares p G)=[]:=(if_pos hp).trans ((if_pos (tS.mpr hall)).trans (if_pos (y2 ac.way)))
    refine⟨_,rfl,rfl,_,rfl,FH ?_⟩
    refine⟨_,rfl,U,λj c=>⟨m,λF a=>?_⟩⟩
    have S:=(mH c (.lst [])).trans (mH a (.tup [.ref l,.ref j]))
    exact q F j (.ref l) R _ (SameBut1.of (n.trans S)) rF (n.free c) (by rw[b];exact mH a _ _ _ rF) (L.mono (n.trans S)) (.inr ⟨b,rfl,l,xs,rfl,S _ _ hl⟩)
 | deal G aa=>
  obtain⟨N,g,rfl,O,hg,ap,ag⟩:=hD
  refine⟨_,rfl,N,_,_,_,rfl,rfl,O,rfl,rfl,_,rfl,Fp ak ?_⟩
  refine⟨_,rfl,N,_,_,_,rfl,rfl,O,rfl,rfl,_,rfl,Fp am ?_⟩
  refine⟨_,rfl,s0,dx,_,rfl,h1,rfl,_,rfl,N,_,_,_,rfl,rfl,O,rfl,_,rfl,N,_,_,_,rfl,rfl,O,rfl,?_⟩
  refine⟨s0,d,g,u,I,R,G,aa,rfl,L,by omega,ad,⟨g,rfl,hg⟩,ap,ag,λY X n=>?_,λhall=>?_⟩
  ·have b:Fy u I (Fo u R) (.deal G aa)=[b9 "Unready"]:=if_neg (x3 Y)
   refine⟨x.Unready,rfl,M.s_Unready,λe y=>?_⟩
   refine⟨_,rfl,?_⟩
   refine⟨_,rfl,rfl,_,rfl,Fv ?_⟩
   refine⟨_,rfl,e,x.Unready,"Unready",rfl,rF,.inr (.inr (.inr (.inr (.inl ⟨rfl,rfl⟩)))),λj H4 J c B=>⟨m,λF a=>?_⟩⟩
   have C:=n.trans ((mH y _).trans (J.trans (mH a (.tup [.non,.ref j]))))
   exact q F j .non R _ (SameBut1.of C) rF ((n.trans (mH y _)).free c) (by rw[b];exact mH a _ _ _ B) (L.mono C) (.inl ⟨by rw[b];exact eV _ _,rfl⟩)

  ·obtain⟨W,hT,hW⟩:=AE rp ab hall
   refine⟨W,hT,hW,λn1 n2 X n=>?_,λhy hR X n=>?_,λar Z T k i l xs X ac ay au n al hl hx=>?_⟩
   ·have b:Fy u I (Fo u R) (.deal G aa)=[b9 "NoWay"]:=(if_pos (tS.mpr hall)).trans (if_neg (Dp n1 n2))
    refine⟨x.NoWay,rfl,M.s_NoWay,λe y=>?_⟩
    refine⟨_,rfl,?_⟩
    refine⟨_,rfl,rfl,_,rfl,Fv ?_⟩
    refine⟨_,rfl,e,x.NoWay,"NoWay",rfl,rF,.inr (.inr (.inr (.inr (.inr ⟨rfl,rfl⟩)))),λj H4 J c B=>⟨m,λF a=>?_⟩⟩
    have C:=n.trans ((mH y _).trans (J.trans (mH a (.tup [.non,.ref j]))))
    exact q F j .non R _ (SameBut1.of C) rF ((n.trans (mH y _)).free c) (by rw[b];exact mH a _ _ _ B) (L.mono C) (.inl ⟨by rw[b];exact eV _ _,rfl⟩)

   ·have b:Fy u I (Fo u R) (.deal G aa)=[b9 "NoPick"]:=(if_pos (tS.mpr hall)).trans ((if_pos (y2 hy)).trans (if_neg λz=>wy.mpr z hR))
    refine⟨x.NoPick,rfl,M.s_NoPick,λe y=>?_⟩
    refine⟨_,rfl,?_⟩
    refine⟨_,rfl,rfl,_,rfl,Fv ?_⟩
    refine⟨_,rfl,e,x.NoPick,"NoPick",rfl,rF,.inr (.inl ⟨rfl,rfl⟩),λj H4 J c B=>⟨m,λF a=>?_⟩⟩
    have C:=n.trans ((mH y _).trans (J.trans (mH a (.tup [.non,.ref j]))))
    exact q F j .non R _ (SameBut1.of C) rF ((n.trans (mH y _)).free c) (by rw[b];exact mH a _ _ _ B) (L.mono C) (.inl ⟨by rw[b];exact eV _ _,rfl⟩)

   ·have b:Fy u I (Fo u R) (.deal G aa)=[]:=(if_pos (tS.mpr hall)).trans ((if_pos (y2 ac.way)).trans (if_pos (wy.mp ar)))
    refine⟨_,rfl,rfl,_,rfl,FH ?_⟩
    refine⟨_,rfl,U,λj c=>⟨m,λF a=>?_⟩⟩
    have S:=(mH c (.lst [])).trans (mH a (.tup [.ref l,.ref j]))
    exact q F j (.ref l) R _ (SameBut1.of (n.trans S)) rF (n.free c) (by rw[b];exact mH a _ _ _ rF) (L.mono (n.trans S)) (.inr ⟨b,rfl,l,xs,rfl,S _ _ hl⟩)
theorem F3:Fj ["_law_book","_law_lacks","_law_k","_law_found"] ["_law_book","_law_lacks"] (Fg (Fm 71)):=⟨rfl,rfl,rfl,by decide +kernel,rfl,by decide +kernel,by decide +kernel⟩
theorem Hu(M:Md K mg x cB)
  (GBook_lacking:Mn P w K mg base Ft 1 cB "lacking" ["self"] (HN cB))
  (G_law_same:Dn P w K mg base Ft 4 "_law_same" ["_law_found","_law_due_here"] (Kj K 3)):Dn P w K mg base Ft 5 "_law_lacks_well" ["_law_book","_law_lacks"] (HR K cB):=by
 have y:=(F3).nd
 refine M.f__law_lacks_well.ok F3 (λvs H Q E h=>?_) (λ_ _ _ _ _ _ O S=>HZ (λ_ _=>rfl) O S) (λf X A J s H vs Q E z h=>?_)
 ·obtain⟨s0,d,l,b,t,R,rfl,D,m,g,I,q⟩:=h
  rfl
 obtain⟨s0,d,l,b,t,R,rfl,D,m,g,I,q⟩:=h
 refine⟨_,(rG (tP db rfl (sH rfl M.b_range (lg rJ rH)) (rV (i:=2) y rfl (Or.inl rfl)) (rG (rM (i:=3) y rfl (Or.inl rfl) (Bv (pl:=_) (pv 0) M.cl GBook_lacking z (by decide) Fn))
   (rG (sk (tU (sD (sh G_law_same z (by decide) rfl Fn (lg (pv 3) (lg (pv 1) rH))))) (rK (rQ vj)) rO)
   (rK (sw (EY cu PySem.F.slot_list_clear PySem.F.type_list_clear CQ (pv 3)))))))
   (rK (rQ vj))),?_⟩
 have W:=wM b R
 have u:∀w∈Fo b R,FM w:=λw U=>g w (w8.mp U).1
 refine⟨2,rfl,by decide,by decide,?_⟩
 refine sQ (n:=2) (λi p e=>Same H e/\∃k f,p=[some (.ref s0),some (.ref l),k,f]) ⟨Same.refl _,_,_,rfl⟩ (λi p e G o=>?_) (λp e o=>?_)
 ·obtain⟨c,k,f,rfl⟩:=o
  have j:=D.mono c
  obtain⟨L,Y,Z,op,ot,h1,h2,h3,h4,h5,h6⟩:=j.ex
  refine⟨_,rfl,s0,L,_,rfl,h1,rfl,s0,d,b,t,R,rfl,j,m,λv T B r C=>?_⟩
  have a:T v=some (.lst ((Fo b R).map V.str)):=C
  refine⟨_,rfl,_,rfl,_,_,.list ((Fo b R).map d4),rfl,.lst (SqL.of a) (Reps.strs _) (by rw[bP];omega),.lst ((c.trans B).seq I) (Reps.strs _) (by rw[bP];omega),?_,_,rfl,Fv ?_⟩
  ·show((Fo b R).map d4).all (GQ 2)=true
   rw[de]
   intro d N
   obtain⟨i,G,rfl⟩:=cP.mp N
   exact Dt (u i G) 2
  refine⟨_,rfl,.inl ⟨rfl,_,SqL.of a⟩,v,_,rfl,rfl,a,?_⟩
  exact⟨c.trans (B.over r _),_,_,rfl⟩
 ·obtain⟨c,k,f,rfl⟩:=o
  exact q e c
theorem Lu:Fj ["_law_script","_law_count","_law_people","_law_things","_law_k","_law_book","_law_lacks","_law_cell","_law_deed_here","_law_told_here","_law_refused"] ["_law_script"] (Fg (Fm 72)):=⟨rfl,rfl,rfl,by decide +kernel,rfl,by decide +kernel,by decide +kernel⟩
theorem M4{fl:bV}{fdl:FuncData}(Fl:Fun K "law" "law" (Fm 72) fl fdl)(M:Md K mg x cB)
  (G_law_cell_at:Dn P w K mg base Ft 1 "_law_cell_at" ["_law_script","_law_k"] (Kr K))
  (G_law_words:Dn P w K mg base Ft 2 "_law_words" ["_law_script","_law_at","_law_many"] (IW K))
  (G_law_no_roll:Dn P w K mg base Ft 7 "_law_no_roll" ["_law_people","_law_things","_law_cell"] (JO))
  (GBook___init__:Bn P w K mg base (GO P w) 4 cB "Book" ["self","people","things"] (Kp K cB x))
  (G_law_mixed:Dn P w K mg base Ft 1 "_law_mixed" ["_law_cell","_law_many"] (KE))
  (G_law_deed:Dn P w K mg base Ft 3 "_law_deed" ["_law_people","_law_things","_law_xs"] (JH K))
  (G_law_told:Dn P w K mg base Ft 11 "_law_told" ["_law_book","_law_deed_here"] (JL K cB))
  (G_law_due:Dn P w K mg base Ft 1 "_law_due" ["_law_people","_law_things","_law_lacks","_law_deed_here"] (K1 K))
  (G_law_lacks_well:Dn P w K mg base Ft 5 "_law_lacks_well" ["_law_book","_law_lacks"] (HR K cB)):FnOk P w K mg base Ft 13 fl fdl ["_law_script"] (KI K):=by
 have nd:=(Lu).nd
 refine Fl.ok Lu (λvs H Q E h=>?_) (λbm A bc s H vs Q E Z h=>?_)
 ·obtain⟨a,S,rfl,hS,a9,q⟩:=h
  rfl
 obtain⟨a,S,rfl,hS,a9,q⟩:=h
 refine⟨_,(rG (rM (i:=1) nd rfl (Or.inl rfl) (rP sL rJ (rP sj (sh G_law_cell_at Z (by decide) rfl Fn (lg (pv 0) (lg rJ rH))) rJ)))
   (rG (rM (i:=2) nd rfl (Or.inl rfl) (sh G_law_words Z (by decide) rfl Fn (lg (pv 0) (lg rJ (lg (pv 1) rH)))))
   (rG (rM (i:=3) nd rfl (Or.inl rfl) (sh G_law_words Z (by decide) rfl Fn (lg (pv 0) (lg rJ (lg (pv 1) rH)))))
   (rG (sk (rN s9 (rP sj (sh G_law_cell_at Z (by decide) rfl Fn (lg (pv 0) (lg rJ rH))) rJ) rJ (Fk _)) (rK (rM (i:=3) nd rfl (Or.inl rfl) (E4 (ts:=tC .non) (pv 2) (Bo yk rJ)))) rO)
   (rG (tP db rfl (sH rfl M.b_range (lg rJ rH)) (rV (i:=4) nd rfl (Or.inl rfl)) (rK (sk (tU (sD (sh G_law_no_roll Z (by decide) rfl Fn (lg (sA sV rfl M.b_list Boot.«list» (lg (pv 2) rH)) (lg (sA sV rfl M.b_list Boot.«list» (lg (pv 3) rH)) (lg (sh G_law_cell_at Z (by decide) rfl Fn (lg (pv 0) (lg (rP sL rJ (pv 4)) rH))) rH)))))) (rK (rQ vj)) rO)))
   (rG (rM (i:=5) nd rfl (Or.inl rfl) (E9 GBook___init__ Z (by decide) rfl JM (lg (sA sV rfl M.b_list Boot.«list» (lg (pv 2) rH)) (lg (sA sV rfl M.b_list Boot.«list» (lg (pv 3) rH)) rH))))
   (rG (rM (i:=6) nd rfl (Or.inl rfl) (sA sV rfl M.b_list Boot.«list» (lg (pv 2) rH)))
   (rG (tP db rfl (tD (sT vi (pv 0) (sY rJ) (sY rJ))) (rV (i:=7) nd rfl (Or.inl rfl)) (rG (rM (i:=8) nd rfl (Or.inl rfl) (sh G_law_deed Z (by decide) rfl Fn (lg (pv 2) (lg (pv 3) (lg (sh G_law_mixed Z (by decide) rfl Fn (lg (pv 7) (lg rJ rH))) rH)))))
   (rG (vv (sh G_law_told Z (by decide) rfl Fn (lg (pv 5) (lg (pv 8) rH))) (xO rfl (sG (rV (i:=9) nd rfl (Or.inl rfl)) (sG (rV (i:=10) nd rfl (Or.inl rfl)) uh))))
   (rG (sk (rN (v4 Z) (pv 10) (sh G_law_due Z (by decide) rfl Fn (lg (pv 2) (lg (pv 3) (lg (pv 6) (lg (pv 8) rH))))) (Fk _)) (rK (rQ vj)) rO)
   (rG (sk (PW.pt (uD (rN (u9 Z) (pv 10) (sC rH) (Fk _)) (uD (rN s9 (rS sd (pv 8) rJ (λ_ _=>rfl)) rY (Fk _)) (uF (rN Ca (pv 9) uE (Fk _)))))) (rK (rQ vj)) rO)
   (rG (sk (PW.pt (uD (rN (u9 Z) (pv 10) (sC rH) (Fk _)) (uD (rN yw (rS sd (pv 8) rJ (λ_ _=>rfl)) rY (Fk _)) (uF (tU (sD (rL sE rfl M.b_isinstance Boot.«isinstance» (lg (pv 9) (lg (t6 rfl M.b_list Boot.«list») rH))))))))) (rK (rQ vj)) rO)
   (rG (sk (PW.pt (uD (rN (u9 Z) (pv 10) (sC rH) (Fk _)) (uD (rN s9 (rS sd (pv 8) rJ (λ_ _=>rfl)) rY (Fk _)) (uF (rN yf (rS sd (pv 8) rJ (λ_ _=>rfl)) (pv 6) (by with_unfolding_all rfl)))))) (rK (sw (tO cu ko PySem.F.type_list_remove zQ (pv 6) (lg (rS sd (pv 8) rJ (λ_ _=>rfl)) rH)))) rO)
   (rK (sk (tU (sD (sh G_law_lacks_well Z (by decide) rfl Fn (lg (pv 5) (lg (pv 6) rH))))) (rK (rQ vj)) rO)))))))))
   (rK (rQ vj)))))))))),?_⟩
 have j:(0:Nat)<=sizeLine:=by decide
 have aI:¬V.str "shares"=V.str "wish":=λz=>by injection z with z;revert z;decide
 have aD:¬V.str "deal"=V.str "wish":=λz=>by injection z with z;revert z;decide
 obtain⟨n,hn,a2,aU⟩:∃n:Nat,1+LM.cellAt S 0%6=(n:Int)/\1<=n/\n<=6:=by
  have h0:=cY (LM.cellAt S 0) (show(6:Int)≠0 by decide)
  have h1:=cQ (LM.cellAt S 0) (show(0:Int)<6 by decide)
  exact⟨(1+LM.cellAt S 0%6).toNat,by omega,by omega,by omega⟩
 refine⟨_,rfl,a,S,0,rfl,hS,eF 0,_,_,rfl,rfl,by show(0:Int)<6;decide,_,_,rfl,rfl,?_⟩
 dsimp only
 rw[hn]
 refine⟨_,rfl,_,rfl,a,S,1,n,rfl,hS,a2,aU,λpl ps H1 J a3 aQ rp aZ=>?_⟩
 refine⟨_,rfl,_,rfl,a,S,3,n,rfl,J.seq hS,a2,aU,λt0 us H2 B _ aO ru aM=>?_⟩
 have aW:=J.trans B
 have az:=aW.seq hS
 have aj:=B _ _ aQ
 refine⟨_,rfl,a,S,5,rfl,az,by decide,_,_,rfl,rfl,by show(0:Int)<4;decide,rfl,_,rfl,?_⟩
 show if decide (V.int (LM.cellAt S 5%4)=V.int 1)=true then _ else _
 apply M1 (λtl H3=>∃ts:List Str,SqL K H3 a (S.map V.int)/\H3 pl=some (.lst (ps.map V.str))/\H3 tl=some (.lst (ts.map V.str))/\Roll ts/\ts.length=n) t0 H2 ⟨us,az,aj,aO,ru,aM⟩
 case hA=>
  intro hG
  refine⟨_,rfl,pl,_,rfl,SqL.of aj,λp hp=>?_⟩
  have T1:=mH hp (.lst (ps.map V.str).reverse)
  exact hG p _ ⟨ps.reverse,T1.seq az,T1 _ _ aj,by rw[rF,List.map_reverse],rp.rev,by rw[iE];exact aZ⟩
 intro tl H3 hP
 clear az aj aO ru aM aQ a3 aW B J hS
 obtain⟨ts,aG,ap,ar,rt,a4⟩:=hP
 have ay:ts.length=ps.length:=a4.trans aZ.symm
 have af:ps.length<=60:=cG rp.hi (by decide)
 have a5:ts.length<=60:=cG rt.hi (by decide)
 refine⟨2,rfl,by decide,by decide,?_⟩
 refine sQ (n:=2) (λi σ H'=>Same H3 H'/\∃k,σ=[some (.ref a),some (.int n),some (.ref pl),some (.ref tl),k,none,none,none,none,none,none]) ⟨Same.refl _,_,rfl⟩ (λi σ H' hi hP=>?_) (λσ H' hP=>?_)
 ·obtain⟨y,k,rfl⟩:=hP
  refine⟨_,rfl,pl,_,rfl,.inl (SqL.of (y _ _ ap)),λl1 aB=>?_⟩
  have T1:=mH aB (.lst (ps.map V.str))
  refine⟨_,rfl,tl,_,rfl,.inl (SqL.of ((y.trans T1) _ _ ar)),λl2 aA=>?_⟩
  have T2:=mH aA (.lst (ts.map V.str))
  have aR:=y.trans (T1.trans T2)
  refine⟨_,rfl,_,rfl,_,_,rfl,rfl,a,S,_,rfl,aR.seq aG,by omega,?_⟩
  exact⟨l1,l2,ps,ts,_,rfl,T2 _ _ rF,rF,rp,rt,ay.symm,λC S5=>⟨_,rfl,Fv ⟨aR.trans S5,_,rfl⟩⟩⟩
 obtain⟨y,k,rfl⟩:=hP
 have aT:=y.seq aG
 have aq:=y _ _ ap
 have ax:=y _ _ ar
 clear aG ap ar y
 refine⟨_,rfl,pl,_,rfl,.inl (SqL.of aq),λl1 aB=>?_⟩
 have T1:=mH aB (.lst (ps.map V.str))
 refine⟨_,rfl,tl,_,rfl,.inl (SqL.of (T1 _ _ ax)),λl2 aA=>?_⟩
 have T2:=mH aA (.lst (ts.map V.str))
 have au:=T2 _ _ (rF (H:=H') (a:=l1) (o:= .lst (ps.map V.str)))
 have aw:upd (upd H' l1 (.lst (ps.map V.str))) l2 (.lst (ts.map V.str)) l2=some (.lst (ts.map V.str)):=rF
 have S5:=T1.trans T2
 generalize upd (upd H' l1 (.lst (ps.map V.str))) l2 (.lst (ts.map V.str))=C at S5 au aw ⊢
 refine λs0 dx aH aY am=>?_
 have aV:upd C dx (.own s0) s0=none:=by rw[rR (Ne.symm am)];exact aH
 have T3:=(mH aY (.own s0)).trans (mH aV (.ins cB dx []))
 refine⟨s0,l1,l2,dx,ps,ts,rfl,rF,SqL.of (T3 _ _ au),SqL.of (T3 _ _ aw),af,a5,rp.ok,rt.ok,(λz=>absurd ⟨rp,rt,ay.symm⟩ z),λ_ _ _ d H6 U6 a7 hb=>⟨rfl,?_⟩⟩
 have S6:Same H' H6:=S5.trans λb o e=>U6 b o (sf e aH) (T3 b o e)
 have a0:=S6.seq aT
 have ah:=S6 _ _ aq
 have ao:=S6 _ _ ax
 clear aT aq ax S6 S5 au aw T1 T2 T3 U6 a7 aH aV aY aB aA
 refine⟨_,rfl,pl,_,rfl,.inl (SqL.of ah),λl hl=>?_⟩
 have T4:=mH hl (.lst (ps.map V.str))
 have ag:upd H6 l (.lst (ps.map V.str)) l=some (.lst (ps.map V.str)):=rF
 have n1:pl≠l:=sf ah hl
 have n2:tl≠l:=sf ao hl
 generalize upd H6 l (.lst (ps.map V.str))=H7 at T4 ag ⊢
 refine⟨_,rfl,8,rfl,63,rfl,a,_,rfl,T4.seq a0,λc hc=>?_⟩
 have T5:=mH hc (.lst (Gz (S.map V.int) (some 8) (some 63)))
 have n3:c≠l:=Ne.symm (sf ag hc)
 have aL:=wA (S.map V.int) (some 8) (some 63)
 rw[bP]at aL
 refine⟨c,rfl,⟨_,SqL.of rF⟩,?_⟩
 have T6:=T4.trans T5
 have at0:At51 K cB (upd H7 c (.lst (Gz (S.map V.int) (some 8) (some 63)))) pl tl c l s0 d ps ts (Gz (S.map V.int) (some 8) (some 63)) (Fo ps []) []:=
  ⟨T6 _ _ ah,T6 _ _ ao,rF,(Ao ps).symm▸T5 _ _ ag,hb.mono T6,(λp v e=>nomatch e)⟩
 generalize upd H7 c (.lst (Gz (S.map V.int) (some 8) (some 63)))=H8 at at0 ⊢
 clear T6 T5 T4 ag hb hc hl a0 ah ao
 have aS:∀i v,(Gz (S.map V.int) (some 8) (some 63))[i]?=some v->∃c:Int,v=V.int c:=λi v h=>DQ h
 generalize Gz (S.map V.int) (some 8) (some 63)=xs at at0 aL aS ⊢
 refine vD (xs:=xs) (λi σ H4=>∃R c7 c8 c9 aK,σ=[some (.ref a),some (.int n),some (.ref pl),some (.ref tl),k,some (.ref s0),some (.ref l),c7,c8,c9,aK]/\R.length<=i/\At51 K cB H4 pl tl c l s0 d ps ts xs (Fo ps R) R)
  ⟨[],_,_,_,_,rfl,bX 0,at0⟩ (λi σ H4 _ ⟨_,_,_,_,_,_,_,hP⟩=>SqL.of hP.ce) (λi v σ H1 hv hP=>?_) (λσ H4 hP=>q _)
 obtain⟨R,c7,c8,c9,aK,rfl,al,a1⟩:=hP
 have bh:i<xs.length:=(b8.mp hv).1
 obtain⟨cl,rfl⟩:=aS i v hv
 refine⟨_,rfl,_,rfl,_,rfl,cl,8,rfl,by decide,λpm H2 B _ hm=>?_⟩
 have ak:=a1.mono B
 refine⟨pl,tl,pm,ps,ts,LM.mixed cl 8,rfl,SqL.of ak.pe,rp,SqL.of ak.th,rt,SqL.of hm,LM.mixed_len _ _,λdv D H3 y aE=>?_⟩
 have aa:=ak.mono y
 have bj:=rp.hi
 have ag:=wM ps R
 refine⟨_,rfl,_,rfl,s0,d,dv,ps,ts,R,D,rfl,aa.bk,rp,rt,ay,by omega,aa.ok,aE,λpt q0 tv Y H4 U4 aX _ aN aP ab=>?_⟩
 have ac:=aa.told U4 aP (ab.ok aa.ok aa.dk U4 rt ay)
 have aF:=aE.but aa.dk U4
 have an:=ab.len
 have N:=DD (ps:=ps) (ts:=ts) (L:=Fo ps R) D
 have av:=Eh (ps:=ps) (ts:=ts) (L:=Fo ps R) D
 have T:(Fy ps ts (Fo ps R) D).length<=60:=cG av (by decide)
 clear a1 ak aa aE aP hm B y U4
 refine⟨pt,[tv,.ref q0],rfl,SqT.of aX,rfl,_,_,rfl,_,_,rfl,rfl,?_⟩
 refine⟨_,rfl,_,rfl,_,rfl,_,rfl,_,rfl,pl,tl,l,dv,ps,ts,Fo ps R,D,rfl,SqL.of ac.pe,SqL.of ac.th,ec rt.hi (by decide),(λw hw=>(rt.ok w hw).2),SqL.of ac.la,(λw hw=>(rp.ok w (w8.mp hw).1).2),cG ag af,aF,λq1 C S5 _ bb=>?_⟩
 have ai:=ac.mono S5
 have aC:=aF.mono S5
 have hq:=S5 _ _ aN
 refine⟨_,_,.lst (SqL.of hq) (Reps.strs _) (by rw[bP];exact cG av (by decide)),.lst (SqL.of bb) (Reps.strs _) (by rw[bP];exact cG av (by decide)),sy (tI N) (by decide),sy (tI N) (by decide),_,rfl,?_⟩
 rw[sF,decide_eq_true rfl]
 refine Fv ?_
 have S0:=Same.refl C
 have aJ:=S5
 clear aN ac aF S5 aX
 rcases ab with⟨am,rfl⟩|⟨O,ab⟩
 ·refine⟨_,rfl,j,λe1 W=>?_⟩
  obtain⟨m,u,G,I⟩:=Gq (K:=K) (S0 _ _ hq) N T W
  have J:Same C (upd C e1 (.lst [])):=S0.trans (mH W (.lst []))
  generalize upd C e1 (.lst [])=G1 at m u J ⊢
  refine⟨_,_,m,u,G,I,_,rfl,?_⟩
  rw[sF]

  refine Fp am ?_

  refine⟨_,rfl,j,λe2 U=>?_⟩
  obtain⟨m,u,G,I⟩:=Gq (K:=K) (J _ _ hq) N T U
  have B:Same C (upd G1 e2 (.lst [])):=J.trans (mH U (.lst []))
  generalize upd G1 e2 (.lst [])=G2 at m u B ⊢
  refine⟨_,_,m,u,G,I,_,rfl,?_⟩
  rw[sF]

  refine Fp am ?_

  refine⟨_,rfl,j,λe3 X=>?_⟩
  obtain⟨m,u,G,I⟩:=Gq (K:=K) (B _ _ hq) N T X
  have y:Same C (upd G2 e3 (.lst [])):=B.trans (mH X (.lst []))
  generalize upd G2 e3 (.lst [])=G3 at m u y ⊢
  refine⟨_,_,m,u,G,I,_,rfl,?_⟩
  rw[sF]

  refine Fp am ?_
  have f:=ai.mono y
  have lk:Fo ps Y=Fo ps Y:=rfl

  refine⟨_,rfl,_,rfl,s0,d,l,ps,ts,Y,rfl,f.bk,af,(λw hw=>(rp.ok w hw).2),lk▸SqL.of f.la,λH9 S9=>⟨_,rfl,Fv ?_⟩⟩
  exact⟨Y,_,_,_,_,rfl,cG an (gC al),lk▸f.mono S9⟩

 cases D with
 | wish p t=>
  obtain⟨dd,rfl,hd,bi,bf,bg⟩:=aC
  obtain⟨rfl,r,a8,Z⟩:=ab
  have lk:Fo ps Y=(Fo ps R).erase p:=by rw[a8];exact Ae rp.nd

  refine⟨_,rfl,j,λe1 W=>?_⟩
  obtain⟨m,u,G,I⟩:=Gq (K:=K) (S0 _ _ hq) N T W
  have J:Same C (upd C e1 (.lst [])):=S0.trans (mH W (.lst []))
  generalize upd C e1 (.lst [])=G1 at m u J ⊢
  refine⟨_,_,m,u,G,I,_,rfl,?_⟩
  rw[sF]

  refine FD O ?_
  refine⟨_,rfl,dd,_,_,_,rfl,rfl,J.tup hd,rfl,rfl,_,rfl,FD rfl ?_⟩
  refine⟨_,rfl,rfl,_,rfl,Fv ?_⟩

  refine⟨_,rfl,j,λe2 U=>?_⟩
  obtain⟨m,u,G,I⟩:=Gq (K:=K) (J _ _ hq) N T U
  have B:Same C (upd G1 e2 (.lst [])):=J.trans (mH U (.lst []))
  generalize upd G1 e2 (.lst [])=G2 at m u B ⊢
  refine⟨_,_,m,u,G,I,_,rfl,?_⟩
  rw[sF]

  refine FD O ?_
  refine⟨_,rfl,dd,_,_,_,rfl,rfl,B.tup hd,rfl,rfl,_,rfl,Hx rfl ?_⟩

  refine⟨_,rfl,j,λe3 X=>?_⟩
  obtain⟨m,u,G,I⟩:=Gq (K:=K) (B _ _ hq) N T X
  have y:Same C (upd G2 e3 (.lst [])):=B.trans (mH X (.lst []))
  generalize upd G2 e3 (.lst [])=G3 at m u y ⊢
  refine⟨_,_,m,u,G,I,_,rfl,?_⟩
  rw[sF]

  refine FD O ?_
  refine⟨_,rfl,dd,_,_,_,rfl,rfl,y.tup hd,rfl,rfl,_,rfl,FD rfl ?_⟩
  have ad:=ai.mono y
  refine⟨_,rfl,dd,_,_,_,rfl,rfl,y.tup hd,rfl,_,rfl,l,_,rfl,.inl (SqL.of ad.la),rfl,ur _,_,rfl,?_⟩
  show if Jv (.str p) ((Fo ps R).map V.str)=true then _ else _
  rw[uk]
  refine FE (λhp=>?_) (λhp=>?_)
  ·refine⟨_,rfl,.inl ⟨rfl,_,SqL.of ad.la⟩,_,rfl,dd,_,_,_,rfl,rfl,y.tup hd,rfl,l,Fo ps R,p,rfl,rfl,ad.la,hp,?_⟩
   have f:=ad.rem (L':=(Fo ps R).erase p) n1 n2 n3
   generalize upd G3 l (.lst (((Fo ps R).erase p).map V.str))=G4 at f ⊢
   refine⟨_,rfl,_,rfl,s0,d,l,ps,ts,Y,rfl,f.bk,af,(λw hw=>(rp.ok w hw).2),lk▸SqL.of f.la,λH9 S9=>⟨_,rfl,Fv ?_⟩⟩
   exact⟨Y,_,_,_,_,rfl,cG an (gC al),lk▸f.mono S9⟩

  ·have f:=ad
   rw[<-List.erase_of_not_mem hp]at f
   refine⟨_,rfl,_,rfl,s0,d,l,ps,ts,Y,rfl,f.bk,af,(λw hw=>(rp.ok w hw).2),lk▸SqL.of f.la,λH9 S9=>⟨_,rfl,Fv ?_⟩⟩
   exact⟨Y,_,_,_,_,rfl,cG an (gC al),lk▸f.mono S9⟩

 | shares p a6=>
  obtain⟨dd,rfl,hd⟩:=aC
  obtain⟨rfl,l9,ba,rfl,ae⟩:=ab
  have ae:=aJ _ _ ae

  refine⟨_,rfl,j,λe1 W=>?_⟩
  obtain⟨m,u,G,I⟩:=Gq (K:=K) (S0 _ _ hq) N T W
  have J:Same C (upd C e1 (.lst [])):=S0.trans (mH W (.lst []))
  generalize upd C e1 (.lst [])=G1 at m u J ⊢
  refine⟨_,_,m,u,G,I,_,rfl,?_⟩
  rw[sF]

  refine FD O ?_
  refine⟨_,rfl,dd,_,_,_,rfl,rfl,J.tup hd,rfl,rfl,_,rfl,Fp aI ?_⟩

  refine⟨_,rfl,j,λe2 U=>?_⟩
  obtain⟨m,u,G,I⟩:=Gq (K:=K) (J _ _ hq) N T U
  have B:Same C (upd G1 e2 (.lst [])):=J.trans (mH U (.lst []))
  generalize upd G1 e2 (.lst [])=G2 at m u B ⊢
  refine⟨_,_,m,u,G,I,_,rfl,?_⟩
  rw[sF]

  refine FD O ?_
  refine⟨_,rfl,dd,_,_,_,rfl,rfl,B.tup hd,rfl,rfl,_,rfl,J0 aI ?_⟩
  refine⟨_,rfl,_,"list","list",rfl,by decide,.inl ⟨rfl,_,SqL.of (B _ _ ae)⟩,_,rfl,Fv ?_⟩

  refine⟨_,rfl,j,λe3 X=>?_⟩
  obtain⟨m,u,G,I⟩:=Gq (K:=K) (B _ _ hq) N T X
  have y:Same C (upd G2 e3 (.lst [])):=B.trans (mH X (.lst []))
  generalize upd G2 e3 (.lst [])=G3 at m u y ⊢
  refine⟨_,_,m,u,G,I,_,rfl,?_⟩
  rw[sF]

  refine FD O ?_
  refine⟨_,rfl,dd,_,_,_,rfl,rfl,y.tup hd,rfl,rfl,_,rfl,Fp aI ?_⟩
  have f:=ai.mono y
  have lk:Fo ps Y=Fo ps Y:=rfl

  refine⟨_,rfl,_,rfl,s0,d,l,ps,ts,Y,rfl,f.bk,af,(λw hw=>(rp.ok w hw).2),lk▸SqL.of f.la,λH9 S9=>⟨_,rfl,Fv ?_⟩⟩
  exact⟨Y,_,_,_,_,rfl,cG an (gC al),lk▸f.mono S9⟩

 | deal a6 bn=>
  obtain⟨dd,g,rfl,hd,hg,bl,be⟩:=aC
  obtain⟨rfl,l9,ba,rfl,ae⟩:=ab
  have ae:=aJ _ _ ae

  refine⟨_,rfl,j,λe1 W=>?_⟩
  obtain⟨m,u,G,I⟩:=Gq (K:=K) (S0 _ _ hq) N T W
  have J:Same C (upd C e1 (.lst [])):=S0.trans (mH W (.lst []))
  generalize upd C e1 (.lst [])=G1 at m u J ⊢
  refine⟨_,_,m,u,G,I,_,rfl,?_⟩
  rw[sF]

  refine FD O ?_
  refine⟨_,rfl,dd,_,_,_,rfl,rfl,J.tup hd,rfl,rfl,_,rfl,Fp aD ?_⟩

  refine⟨_,rfl,j,λe2 U=>?_⟩
  obtain⟨m,u,G,I⟩:=Gq (K:=K) (J _ _ hq) N T U
  have B:Same C (upd G1 e2 (.lst [])):=J.trans (mH U (.lst []))
  generalize upd G1 e2 (.lst [])=G2 at m u B ⊢
  refine⟨_,_,m,u,G,I,_,rfl,?_⟩
  rw[sF]

  refine FD O ?_
  refine⟨_,rfl,dd,_,_,_,rfl,rfl,B.tup hd,rfl,rfl,_,rfl,J0 aD ?_⟩
  refine⟨_,rfl,_,"list","list",rfl,by decide,.inl ⟨rfl,_,SqL.of (B _ _ ae)⟩,_,rfl,Fv ?_⟩

  refine⟨_,rfl,j,λe3 X=>?_⟩
  obtain⟨m,u,G,I⟩:=Gq (K:=K) (B _ _ hq) N T X
  have y:Same C (upd G2 e3 (.lst [])):=B.trans (mH X (.lst []))
  generalize upd G2 e3 (.lst [])=G3 at m u y ⊢
  refine⟨_,_,m,u,G,I,_,rfl,?_⟩
  rw[sF]

  refine FD O ?_
  refine⟨_,rfl,dd,_,_,_,rfl,rfl,y.tup hd,rfl,rfl,_,rfl,Fp aD ?_⟩
  have f:=ai.mono y
  have lk:Fo ps Y=Fo ps Y:=rfl

  refine⟨_,rfl,_,rfl,s0,d,l,ps,ts,Y,rfl,f.bk,af,(λw hw=>(rp.ok w hw).2),lk▸SqL.of f.la,λH9 S9=>⟨_,rfl,Fv ?_⟩⟩
  exact⟨Y,_,_,_,_,rfl,cG an (gC al),lk▸f.mono S9⟩
end
open PySem.W
abbrev L7:String:="wishlots.lots"
abbrev Ks:String:="wishlots.eating"
abbrev Kl:String:="wishlots.turns"
abbrev Jw:String:="wishlots.fractions"
abbrev ID:String:="wishlots.book"
abbrev Ge:String:="law_wishlots_k51_texts_and_refusals"
def vs(x:String)(n:Nat):bQ:= .str (.ofString x) n
def i(n:Nat):bQ:= .int n 0
def en(P:Params)(x:String)(n:Nat)(v:bQ):DictEntry:={hash:=PyData.keyHash P (.ofString x),key:=vs x n,val:=v}
def di(l:List DictEntry)(n:Nat):Obj:={cls:= .type "dict",data:= .dict l.toArray n}
def tu(l:List bQ):Obj:={cls:= .type "tuple",data:= .seq l.toArray}
def nf(l:List bQ):Obj:={cls:= .none,data:= .fields l.toArray}
def ft(k:Nat)(x:String):Obj:={cls:= .none,data:= .func {name:= .ofString x,qualname:= .ofString x,params:=Fx (Fm k),body:= .stmts (Fq (Fm k)),scope:=Fg (Fm k),globals:=0,closure:=[],defaults:= .none,kwdefaults:= .none}}
def fo(k:Nat)(x m:String)(t c:Nat):Obj:={cls:= .type "function",data:= .func {name:= .ofString x,qualname:= .ofString x,params:=Fx (Fm k),body:= .stmts (Fq (Fm k)),scope:=Fg (Fm k),globals:=3,closure:=[],defaults:= .none,kwdefaults:= .none,pyModule:=vs m t,code:= .ref c}}
def co(x:String)(a b c:Nat)(r:List bQ)(z:Nat):Obj:={cls:= .type "code",data:= .fields (vs x a::vs x b::vs "/claim/cut.py" c::(r++[vs "/claim/cut.py" z])).toArray}
def fc(k j:Nat)(x q:String):Obj:={cls:= .none,data:= .func {name:= .ofString x,qualname:= .ofString q,params:=Fx (Jd k j),body:= .stmts (Fq (Jd k j)),scope:=Fg (Jd k j),globals:=0,closure:=[],defaults:= .none,kwdefaults:= .none}}
def fm(k j:Nat)(x q m:String)(t c:Nat):Obj:={cls:= .type "function",data:= .func {name:= .ofString x,qualname:= .ofString q,params:=Fx (Jd k j),body:= .stmts (Fq (Jd k j)),scope:=Fg (Jd k j),globals:=3,closure:=[],defaults:= .none,kwdefaults:= .none,pyModule:=vs m t,code:= .ref c}}
def cq(x q:String)(a b c:Nat)(r:List bQ)(z:Nat):Obj:={cls:= .type "code",data:= .fields (vs x a::vs q b::vs "/claim/cut.py" c::(r++[vs "/claim/cut.py" z])).toArray}
def MT(P:Params):List DictEntry:=[en P "__name__" 165 (vs Ge 684),en P "__doc__" 166 (.none),en P "__package__" 167 (.none),en P "__loader__" 168 (.builtin "__main__.__loader__#opaque"),en P "__spec__" 169 (.none),en P "__annotations__" 170 (.ref 6),en P "__builtins__" 171 (.ref 4),en P "__file__" 173 (vs "/claim/cut.py" 172),en P "__cached__" 174 (.none),en P "WishError" 206 (.ref 24),en P "NoFraction" 222 (.ref 37),en P "NoWishes" 238 (.ref 49),en P "NoTable" 254 (.ref 61),en P "NoPick" 270 (.ref 73),en P "NoOrder" 286 (.ref 85),en P "NoRoll" 302 (.ref 97),en P "NoPerson" 318 (.ref 109),en P "Unready" 334 (.ref 121),en P "NoWay" 350 (.ref 133),en P "NOTHING" 355 (.ref 136),en P "WHOLE" 358 (.ref 137),en P "is_whole" 365 (.ref 144),en P "common_divisor" 376 (.ref 151),en P "fraction" 385 (.ref 158),en P "plus" 393 (.ref 165),en P "minus" 401 (.ref 172),en P "times" 409 (.ref 179),en P "before" 417 (.ref 186),en P "total" 426 (.ref 193),en P "least" 435 (.ref 200),en P "best_left" 443 (.ref 205),en P "time_to_stop" 449 (.ref 210),en P "left_behind" 455 (.ref 215),en P "courses_of" 461 (.ref 220),en P "eaten_of" 467 (.ref 225),en P "eaten_by" 473 (.ref 230),en P "eaten" 479 (.ref 235),en P "deal_within" 493 (.ref 242),en P "row_without" 503 (.ref 249),en P "lots_of" 509 (.ref 254),en P "picked" 519 (.ref 261),en P "MOST_PEOPLE" 523 (.int 6 522),en P "is_listing" 530 (.ref 268),en P "has_people" 537 (.ref 275),en P "best_free" 545 (.ref 280),en P "with_one" 553 (.ref 287),en P "turns_from" 559 (.ref 292),en P "orders_of" 568 (.ref 299),en P "counts_of" 585 (.ref 306),en P "shares_by_turns" 591 (.ref 311),en P "by_turns" 597 (.ref 316),en P "MOST_SIGNS" 601 (.int 12 600),en P "is_word" 607 (.ref 321),en P "is_roll" 613 (.ref 326),en P "Book" 683 (.ref 375),en P "_law_cell_at" 693 (.ref 386),en P "_law_mixed" 704 (.ref 393),en P "_law_perm" 714 (.ref 400),en P "_law_divisor" 723 (.ref 407),en P "_law_lowest" 732 (.ref 414),en P "_law_base" 743 (.ref 421),en P "_law_word" 755 (.ref 428),en P "_law_words" 770 (.ref 435),en P "_law_same" 779 (.ref 442),en P "_law_kinds" 787 (.ref 449),en P "_law_bad_roll" 801 (.ref 456),en P "_law_no_roll" 812 (.ref 463),en P "_law_person" 822 (.ref 470),en P "_law_text" 828 (.ref 475),en P "_law_deed" 840 (.ref 482),en P "_law_due" 851 (.ref 489),en P "_law_told" 862 (.ref 496),en P "_law_lacks_well" 872 (.ref 503),en P "law" 889 (.ref 510)]
def OD:List bQ:=[i 2,i 0,.ref 20,i 4,i 0,.ref 33,i 6,i 0,.ref 45,i 8,i 0,.ref 57,i 10,i 0,.ref 69,i 12,i 0,.ref 81,i 14,i 0,.ref 93,i 16,i 0,.ref 105,i 18,i 0,.ref 117,i 20,i 0,.ref 129,i 25,i 0,.ref 143,i 27,i 0,.ref 150,i 35,i 0,.ref 157,i 42,i 0,.ref 164,i 44,i 0,.ref 171,i 46,i 0,.ref 178,i 48,i 0,.ref 185,i 50,i 0,.ref 192,i 55,i 0,.ref 199,i 62,i 0,.ref 204,i 64,i 0,.ref 209,i 66,i 0,.ref 214,i 68,i 0,.ref 219,i 78,i 0,.ref 224,i 80,i 0,.ref 229,i 82,i 0,.ref 234,i 86,i 0,.ref 241,i 96,i 0,.ref 248,i 100,i 0,.ref 253,i 111,i 0,.ref 260,i 122,i 0,.ref 267,i 124,i 0,.ref 274,i 127,i 0,.ref 279,i 129,i 0,.ref 286,i 131,i 0,.ref 291,i 134,i 0,.ref 298,i 139,i 0,.ref 305,i 152,i 0,.ref 310,i 155,i 0,.ref 315,i 160,i 0,.ref 320,i 164,i 0,.ref 325,i 166,i 0,.ref 332,i 210,i 0,.ref 385,i 214,i 0,.ref 392,i 227,i 0,.ref 399,i 233,i 0,.ref 406,i 239,i 0,.ref 413,i 246,i 0,.ref 420,i 258,i 0,.ref 427,i 262,i 0,.ref 434,i 273,i 0,.ref 441,i 290,i 0,.ref 448,i 313,i 0,.ref 455,i 331,i 0,.ref 462,i 342,i 0,.ref 469,i 350,i 0,.ref 474,i 366,i 0,.ref 481,i 375,i 0,.ref 488,i 390,i 0,.ref 495,i 405,i 0,.ref 502,i 412,i 0,.ref 509]
noncomputable def obs(P:Params):List Obj:=(iR P).objs.toList++[tu [],
 nf [],
 co "<module>" 182 183 184 [i 1,i 0,i 0,i 0,i 0,.ref 11,.bool false,i 181,.ref 12,.none,.none,.none,.none,i 185,i 1] 186,
 {cls:= .type "frame",slots:= #[some (.ref 13),some (.ref 3),some (.ref 3),none,some (vs "__main__" 164),none,some (.ref 0)]},
 tu [.type "ValueError"],
 {cls:= .type "builtin_function_or_method",data:= .fields #[.builtin "type.__prepare__",.type "type"]},
 di [en P "__module__" 196 (vs "wishlots.errors" 187),en P "__qualname__" 198 (vs "WishError" 197),en P "__firstlineno__" 200 (.int 2 199),en P "__static_attributes__" 201 (.ref 22)] 4,
 tu [],
 nf [],
 co "WishError" 191 192 193 [i 2,i 0,i 0,i 0,i 0,.ref 18,.bool false,i 181,.ref 19,.none,.none,.none,.none,i 194,i 2] 195,
 {cls:= .type "frame",slots:= #[some (.ref 20),some (.ref 3),some (.ref 17),none,some (vs "wishlots.errors" 187),none,some (.ref 0)]},
 tu [],
 di [en P "__module__" 196 (vs "wishlots.errors" 187),en P "__firstlineno__" 200 (.int 2 199),en P "__static_attributes__" 201 (.ref 22),en P "__weakref__" 203 (.ref 25),en P "__doc__" 204 (.none)] 3,
 {cls:= .type "type",data:= .cls {name:="WishError",bases:=[.type "ValueError"],mro:=[.ref 24,.type "ValueError",.type "Exception",.type "BaseException",.type "object"],ns:=23,qualname:="WishError",subclasses:=[.ref 37,.ref 49,.ref 61,.ref 73,.ref 85,.ref 97,.ref 109,.ref 121,.ref 133]},slots:= #[some (.ref 15),none,some (vs "WishError" 189),some (vs "WishError" 197),some (.builtin "ValueError.__new__"),some (.bool true)]},
 {cls:= .type "getset_descriptor",data:= .fields #[vs "__weakref__" 202,.ref 24,.builtin "ExceptionGroup.__weakref__",.none]},
 {cls:= .type "super",data:= .fields #[.ref 24,.ref 24,.ref 24]},
 {cls:= .type "builtin_function_or_method",data:= .fields #[.builtin "object.__init_subclass__",.ref 24]},
 tu [.ref 24],
 {cls:= .type "builtin_function_or_method",data:= .fields #[.builtin "type.__prepare__",.type "type"]},
 di [en P "__module__" 214 (vs "wishlots.errors" 187),en P "__qualname__" 216 (vs "NoFraction" 215),en P "__firstlineno__" 218 (.int 4 217),en P "__static_attributes__" 219 (.ref 35)] 4,
 tu [],
 nf [],
 co "NoFraction" 209 210 211 [i 4,i 0,i 0,i 0,i 0,.ref 31,.bool false,i 181,.ref 32,.none,.none,.none,.none,i 212,i 4] 213,
 {cls:= .type "frame",slots:= #[some (.ref 33),some (.ref 3),some (.ref 30),none,some (vs "wishlots.errors" 187),none,some (.ref 0)]},
 tu [],
 di [en P "__module__" 214 (vs "wishlots.errors" 187),en P "__firstlineno__" 218 (.int 4 217),en P "__static_attributes__" 219 (.ref 35),en P "__doc__" 220 (.none)] 2,
 {cls:= .type "type",data:= .cls {name:="NoFraction",bases:=[.ref 24],mro:=[.ref 37,.ref 24,.type "ValueError",.type "Exception",.type "BaseException",.type "object"],ns:=36,qualname:="NoFraction"},slots:= #[some (.ref 28),none,some (vs "NoFraction" 207),some (vs "NoFraction" 215),some (.builtin "ValueError.__new__"),some (.bool true)]},
 {cls:= .type "super",data:= .fields #[.ref 37,.ref 37,.ref 37]},
 {cls:= .type "builtin_function_or_method",data:= .fields #[.builtin "object.__init_subclass__",.ref 37]},
 tu [.ref 24],
 {cls:= .type "builtin_function_or_method",data:= .fields #[.builtin "type.__prepare__",.type "type"]},
 di [en P "__module__" 230 (vs "wishlots.errors" 187),en P "__qualname__" 232 (vs "NoWishes" 231),en P "__firstlineno__" 234 (.int 6 233),en P "__static_attributes__" 235 (.ref 47)] 4,
 tu [],
 nf [],
 co "NoWishes" 225 226 227 [i 6,i 0,i 0,i 0,i 0,.ref 43,.bool false,i 181,.ref 44,.none,.none,.none,.none,i 228,i 6] 229,
 {cls:= .type "frame",slots:= #[some (.ref 45),some (.ref 3),some (.ref 42),none,some (vs "wishlots.errors" 187),none,some (.ref 0)]},
 tu [],
 di [en P "__module__" 230 (vs "wishlots.errors" 187),en P "__firstlineno__" 234 (.int 6 233),en P "__static_attributes__" 235 (.ref 47),en P "__doc__" 236 (.none)] 2,
 {cls:= .type "type",data:= .cls {name:="NoWishes",bases:=[.ref 24],mro:=[.ref 49,.ref 24,.type "ValueError",.type "Exception",.type "BaseException",.type "object"],ns:=48,qualname:="NoWishes"},slots:= #[some (.ref 40),none,some (vs "NoWishes" 223),some (vs "NoWishes" 231),some (.builtin "ValueError.__new__"),some (.bool true)]},
 {cls:= .type "super",data:= .fields #[.ref 49,.ref 49,.ref 49]},
 {cls:= .type "builtin_function_or_method",data:= .fields #[.builtin "object.__init_subclass__",.ref 49]},
 tu [.ref 24],
 {cls:= .type "builtin_function_or_method",data:= .fields #[.builtin "type.__prepare__",.type "type"]},
 di [en P "__module__" 246 (vs "wishlots.errors" 187),en P "__qualname__" 248 (vs "NoTable" 247),en P "__firstlineno__" 250 (.int 8 249),en P "__static_attributes__" 251 (.ref 59)] 4,
 tu [],
 nf [],
 co "NoTable" 241 242 243 [i 8,i 0,i 0,i 0,i 0,.ref 55,.bool false,i 181,.ref 56,.none,.none,.none,.none,i 244,i 8] 245,
 {cls:= .type "frame",slots:= #[some (.ref 57),some (.ref 3),some (.ref 54),none,some (vs "wishlots.errors" 187),none,some (.ref 0)]},
 tu [],
 di [en P "__module__" 246 (vs "wishlots.errors" 187),en P "__firstlineno__" 250 (.int 8 249),en P "__static_attributes__" 251 (.ref 59),en P "__doc__" 252 (.none)] 2,
 {cls:= .type "type",data:= .cls {name:="NoTable",bases:=[.ref 24],mro:=[.ref 61,.ref 24,.type "ValueError",.type "Exception",.type "BaseException",.type "object"],ns:=60,qualname:="NoTable"},slots:= #[some (.ref 52),none,some (vs "NoTable" 239),some (vs "NoTable" 247),some (.builtin "ValueError.__new__"),some (.bool true)]},
 {cls:= .type "super",data:= .fields #[.ref 61,.ref 61,.ref 61]},
 {cls:= .type "builtin_function_or_method",data:= .fields #[.builtin "object.__init_subclass__",.ref 61]},
 tu [.ref 24],
 {cls:= .type "builtin_function_or_method",data:= .fields #[.builtin "type.__prepare__",.type "type"]},
 di [en P "__module__" 262 (vs "wishlots.errors" 187),en P "__qualname__" 264 (vs "NoPick" 263),en P "__firstlineno__" 266 (.int 10 265),en P "__static_attributes__" 267 (.ref 71)] 4,
 tu [],
 nf [],
 co "NoPick" 257 258 259 [i 10,i 0,i 0,i 0,i 0,.ref 67,.bool false,i 181,.ref 68,.none,.none,.none,.none,i 260,i 10] 261,
 {cls:= .type "frame",slots:= #[some (.ref 69),some (.ref 3),some (.ref 66),none,some (vs "wishlots.errors" 187),none,some (.ref 0)]},
 tu [],
 di [en P "__module__" 262 (vs "wishlots.errors" 187),en P "__firstlineno__" 266 (.int 10 265),en P "__static_attributes__" 267 (.ref 71),en P "__doc__" 268 (.none)] 2,
 {cls:= .type "type",data:= .cls {name:="NoPick",bases:=[.ref 24],mro:=[.ref 73,.ref 24,.type "ValueError",.type "Exception",.type "BaseException",.type "object"],ns:=72,qualname:="NoPick"},slots:= #[some (.ref 64),none,some (vs "NoPick" 255),some (vs "NoPick" 263),some (.builtin "ValueError.__new__"),some (.bool true)]},
 {cls:= .type "super",data:= .fields #[.ref 73,.ref 73,.ref 73]},
 {cls:= .type "builtin_function_or_method",data:= .fields #[.builtin "object.__init_subclass__",.ref 73]},
 tu [.ref 24],
 {cls:= .type "builtin_function_or_method",data:= .fields #[.builtin "type.__prepare__",.type "type"]},
 di [en P "__module__" 278 (vs "wishlots.errors" 187),en P "__qualname__" 280 (vs "NoOrder" 279),en P "__firstlineno__" 282 (.int 12 281),en P "__static_attributes__" 283 (.ref 83)] 4,
 tu [],
 nf [],
 co "NoOrder" 273 274 275 [i 12,i 0,i 0,i 0,i 0,.ref 79,.bool false,i 181,.ref 80,.none,.none,.none,.none,i 276,i 12] 277,
 {cls:= .type "frame",slots:= #[some (.ref 81),some (.ref 3),some (.ref 78),none,some (vs "wishlots.errors" 187),none,some (.ref 0)]},
 tu [],
 di [en P "__module__" 278 (vs "wishlots.errors" 187),en P "__firstlineno__" 282 (.int 12 281),en P "__static_attributes__" 283 (.ref 83),en P "__doc__" 284 (.none)] 2,
 {cls:= .type "type",data:= .cls {name:="NoOrder",bases:=[.ref 24],mro:=[.ref 85,.ref 24,.type "ValueError",.type "Exception",.type "BaseException",.type "object"],ns:=84,qualname:="NoOrder"},slots:= #[some (.ref 76),none,some (vs "NoOrder" 271),some (vs "NoOrder" 279),some (.builtin "ValueError.__new__"),some (.bool true)]},
 {cls:= .type "super",data:= .fields #[.ref 85,.ref 85,.ref 85]},
 {cls:= .type "builtin_function_or_method",data:= .fields #[.builtin "object.__init_subclass__",.ref 85]},
 tu [.ref 24],
 {cls:= .type "builtin_function_or_method",data:= .fields #[.builtin "type.__prepare__",.type "type"]},
 di [en P "__module__" 294 (vs "wishlots.errors" 187),en P "__qualname__" 296 (vs "NoRoll" 295),en P "__firstlineno__" 298 (.int 14 297),en P "__static_attributes__" 299 (.ref 95)] 4,
 tu [],
 nf [],
 co "NoRoll" 289 290 291 [i 14,i 0,i 0,i 0,i 0,.ref 91,.bool false,i 181,.ref 92,.none,.none,.none,.none,i 292,i 14] 293,
 {cls:= .type "frame",slots:= #[some (.ref 93),some (.ref 3),some (.ref 90),none,some (vs "wishlots.errors" 187),none,some (.ref 0)]},
 tu [],
 di [en P "__module__" 294 (vs "wishlots.errors" 187),en P "__firstlineno__" 298 (.int 14 297),en P "__static_attributes__" 299 (.ref 95),en P "__doc__" 300 (.none)] 2,
 {cls:= .type "type",data:= .cls {name:="NoRoll",bases:=[.ref 24],mro:=[.ref 97,.ref 24,.type "ValueError",.type "Exception",.type "BaseException",.type "object"],ns:=96,qualname:="NoRoll"},slots:= #[some (.ref 88),none,some (vs "NoRoll" 287),some (vs "NoRoll" 295),some (.builtin "ValueError.__new__"),some (.bool true)]},
 {cls:= .type "super",data:= .fields #[.ref 97,.ref 97,.ref 97]},
 {cls:= .type "builtin_function_or_method",data:= .fields #[.builtin "object.__init_subclass__",.ref 97]},
 tu [.ref 24],
 {cls:= .type "builtin_function_or_method",data:= .fields #[.builtin "type.__prepare__",.type "type"]},
 di [en P "__module__" 310 (vs "wishlots.errors" 187),en P "__qualname__" 312 (vs "NoPerson" 311),en P "__firstlineno__" 314 (.int 16 313),en P "__static_attributes__" 315 (.ref 107)] 4,
 tu [],
 nf [],
 co "NoPerson" 305 306 307 [i 16,i 0,i 0,i 0,i 0,.ref 103,.bool false,i 181,.ref 104,.none,.none,.none,.none,i 308,i 16] 309,
 {cls:= .type "frame",slots:= #[some (.ref 105),some (.ref 3),some (.ref 102),none,some (vs "wishlots.errors" 187),none,some (.ref 0)]},
 tu [],
 di [en P "__module__" 310 (vs "wishlots.errors" 187),en P "__firstlineno__" 314 (.int 16 313),en P "__static_attributes__" 315 (.ref 107),en P "__doc__" 316 (.none)] 2,
 {cls:= .type "type",data:= .cls {name:="NoPerson",bases:=[.ref 24],mro:=[.ref 109,.ref 24,.type "ValueError",.type "Exception",.type "BaseException",.type "object"],ns:=108,qualname:="NoPerson"},slots:= #[some (.ref 100),none,some (vs "NoPerson" 303),some (vs "NoPerson" 311),some (.builtin "ValueError.__new__"),some (.bool true)]},
 {cls:= .type "super",data:= .fields #[.ref 109,.ref 109,.ref 109]},
 {cls:= .type "builtin_function_or_method",data:= .fields #[.builtin "object.__init_subclass__",.ref 109]},
 tu [.ref 24],
 {cls:= .type "builtin_function_or_method",data:= .fields #[.builtin "type.__prepare__",.type "type"]},
 di [en P "__module__" 326 (vs "wishlots.errors" 187),en P "__qualname__" 328 (vs "Unready" 327),en P "__firstlineno__" 330 (.int 18 329),en P "__static_attributes__" 331 (.ref 119)] 4,
 tu [],
 nf [],
 co "Unready" 321 322 323 [i 18,i 0,i 0,i 0,i 0,.ref 115,.bool false,i 181,.ref 116,.none,.none,.none,.none,i 324,i 18] 325,
 {cls:= .type "frame",slots:= #[some (.ref 117),some (.ref 3),some (.ref 114),none,some (vs "wishlots.errors" 187),none,some (.ref 0)]},
 tu [],
 di [en P "__module__" 326 (vs "wishlots.errors" 187),en P "__firstlineno__" 330 (.int 18 329),en P "__static_attributes__" 331 (.ref 119),en P "__doc__" 332 (.none)] 2,
 {cls:= .type "type",data:= .cls {name:="Unready",bases:=[.ref 24],mro:=[.ref 121,.ref 24,.type "ValueError",.type "Exception",.type "BaseException",.type "object"],ns:=120,qualname:="Unready"},slots:= #[some (.ref 112),none,some (vs "Unready" 319),some (vs "Unready" 327),some (.builtin "ValueError.__new__"),some (.bool true)]},
 {cls:= .type "super",data:= .fields #[.ref 121,.ref 121,.ref 121]},
 {cls:= .type "builtin_function_or_method",data:= .fields #[.builtin "object.__init_subclass__",.ref 121]},
 tu [.ref 24],
 {cls:= .type "builtin_function_or_method",data:= .fields #[.builtin "type.__prepare__",.type "type"]},
 di [en P "__module__" 342 (vs "wishlots.errors" 187),en P "__qualname__" 344 (vs "NoWay" 343),en P "__firstlineno__" 346 (.int 20 345),en P "__static_attributes__" 347 (.ref 131)] 4,
 tu [],
 nf [],
 co "NoWay" 337 338 339 [i 20,i 0,i 0,i 0,i 0,.ref 127,.bool false,i 181,.ref 128,.none,.none,.none,.none,i 340,i 20] 341,
 {cls:= .type "frame",slots:= #[some (.ref 129),some (.ref 3),some (.ref 126),none,some (vs "wishlots.errors" 187),none,some (.ref 0)]},
 tu [],
 di [en P "__module__" 342 (vs "wishlots.errors" 187),en P "__firstlineno__" 346 (.int 20 345),en P "__static_attributes__" 347 (.ref 131),en P "__doc__" 348 (.none)] 2,
 {cls:= .type "type",data:= .cls {name:="NoWay",bases:=[.ref 24],mro:=[.ref 133,.ref 24,.type "ValueError",.type "Exception",.type "BaseException",.type "object"],ns:=132,qualname:="NoWay"},slots:= #[some (.ref 124),none,some (vs "NoWay" 335),some (vs "NoWay" 343),some (.builtin "ValueError.__new__"),some (.bool true)]},
 {cls:= .type "super",data:= .fields #[.ref 133,.ref 133,.ref 133]},
 {cls:= .type "builtin_function_or_method",data:= .fields #[.builtin "object.__init_subclass__",.ref 133]},
 tu [.int 0 353,.int 1 354],
 tu [.int 1 356,.int 1 357],
 tu [],
 nf [],
 tu [vs "value" 362],
 tu [],
 ft 14 "is_whole",
 co "is_whole" 359 360 361 [i 25,i 1,i 0,i 0,i 3,.ref 138,.bool true,i 181,.ref 139,.none,.ref 140,.ref 141,.ref 142,i 363,i 25] 364,
 fo 14 "is_whole" Jw 351 143,
 tu [],
 nf [],
 tu [vs "one" 369,vs "two" 370,vs "greater" 371,vs "smaller" 372,vs "rest" 373],
 tu [],
 ft 15 "common_divisor",
 co "common_divisor" 366 367 368 [i 27,i 2,i 0,i 0,i 3,.ref 145,.bool true,i 181,.ref 146,.none,.ref 147,.ref 148,.ref 149,i 374,i 27] 375,
 fo 15 "common_divisor" Jw 351 150,
 tu [],
 nf [],
 tu [vs "top" 380,vs "bottom" 381,vs "divisor" 382],
 tu [],
 ft 16 "fraction",
 co "fraction" 377 378 379 [i 35,i 2,i 0,i 0,i 3,.ref 152,.bool true,i 181,.ref 153,.none,.ref 154,.ref 155,.ref 156,i 383,i 35] 384,
 fo 16 "fraction" Jw 351 157,
 tu [],
 nf [],
 tu [vs "one" 389,vs "two" 390],
 tu [],
 ft 17 "plus",
 co "plus" 386 387 388 [i 42,i 2,i 0,i 0,i 3,.ref 159,.bool true,i 181,.ref 160,.none,.ref 161,.ref 162,.ref 163,i 391,i 42] 392,
 fo 17 "plus" Jw 351 164,
 tu [],
 nf [],
 tu [vs "one" 397,vs "two" 398],
 tu [],
 ft 18 "minus",
 co "minus" 394 395 396 [i 44,i 2,i 0,i 0,i 3,.ref 166,.bool true,i 181,.ref 167,.none,.ref 168,.ref 169,.ref 170,i 399,i 44] 400,
 fo 18 "minus" Jw 351 171,
 tu [],
 nf [],
 tu [vs "one" 405,vs "two" 406],
 tu [],
 ft 19 "times",
 co "times" 402 403 404 [i 46,i 2,i 0,i 0,i 3,.ref 173,.bool true,i 181,.ref 174,.none,.ref 175,.ref 176,.ref 177,i 407,i 46] 408,
 fo 19 "times" Jw 351 178,
 tu [],
 nf [],
 tu [vs "one" 413,vs "two" 414],
 tu [],
 ft 20 "before",
 co "before" 410 411 412 [i 48,i 2,i 0,i 0,i 3,.ref 180,.bool true,i 181,.ref 181,.none,.ref 182,.ref 183,.ref 184,i 415,i 48] 416,
 fo 20 "before" Jw 351 185,
 tu [],
 nf [],
 tu [vs "parts" 421,vs "so_far" 422,vs "part" 423],
 tu [],
 ft 21 "total",
 co "total" 418 419 420 [i 50,i 1,i 0,i 0,i 3,.ref 187,.bool true,i 181,.ref 188,.none,.ref 189,.ref 190,.ref 191,i 424,i 50] 425,
 fo 21 "total" Jw 351 192,
 tu [],
 nf [],
 tu [vs "parts" 430,vs "smallest" 431,vs "part" 432],
 tu [],
 ft 22 "least",
 co "least" 427 428 429 [i 55,i 1,i 0,i 0,i 3,.ref 194,.bool true,i 181,.ref 195,.none,.ref 196,.ref 197,.ref 198,i 433,i 55] 434,
 fo 22 "least" Jw 351 199,
 tu [],
 nf [],
 ft 24 "best_left",
 co "best_left" 438 439 440 [i 62,i 2,i 0,i 0,i 3,.ref 201,.bool true,i 181,.ref 202,.none,.none,.none,.ref 203,i 441,i 62] 442,
 fo 24 "best_left" Ks 436 204,
 tu [],
 nf [],
 ft 25 "time_to_stop",
 co "time_to_stop" 444 445 446 [i 64,i 2,i 0,i 0,i 3,.ref 206,.bool true,i 181,.ref 207,.none,.none,.none,.ref 208,i 447,i 64] 448,
 fo 25 "time_to_stop" Ks 436 209,
 tu [],
 nf [],
 ft 26 "left_behind",
 co "left_behind" 450 451 452 [i 66,i 3,i 0,i 0,i 3,.ref 211,.bool true,i 181,.ref 212,.none,.none,.none,.ref 213,i 453,i 66] 454,
 fo 26 "left_behind" Ks 436 214,
 tu [],
 nf [],
 ft 27 "courses_of",
 co "courses_of" 456 457 458 [i 68,i 1,i 0,i 0,i 3,.ref 216,.bool true,i 181,.ref 217,.none,.none,.none,.ref 218,i 459,i 68] 460,
 fo 27 "courses_of" Ks 436 219,
 tu [],
 nf [],
 ft 28 "eaten_of",
 co "eaten_of" 462 463 464 [i 78,i 3,i 0,i 0,i 3,.ref 221,.bool true,i 181,.ref 222,.none,.none,.none,.ref 223,i 465,i 78] 466,
 fo 28 "eaten_of" Ks 436 224,
 tu [],
 nf [],
 ft 29 "eaten_by",
 co "eaten_by" 468 469 470 [i 80,i 3,i 0,i 0,i 3,.ref 226,.bool true,i 181,.ref 227,.none,.none,.none,.ref 228,i 471,i 80] 472,
 fo 29 "eaten_by" Ks 436 229,
 tu [],
 nf [],
 ft 30 "eaten",
 co "eaten" 474 475 476 [i 82,i 1,i 0,i 0,i 3,.ref 231,.bool true,i 181,.ref 232,.none,.none,.none,.ref 233,i 477,i 82] 478,
 fo 30 "eaten" Ks 436 234,
 tu [],
 nf [],
 tu [vs "left" 485,vs "begun" 486,vs "person" 487,vs "thing" 488,vs "part" 489,vs "deal" 490],
 tu [],
 ft 32 "deal_within",
 co "deal_within" 482 483 484 [i 86,i 2,i 0,i 0,i 3,.ref 236,.bool true,i 181,.ref 237,.none,.ref 238,.ref 239,.ref 240,i 491,i 86] 492,
 fo 32 "deal_within" L7 480 241,
 tu [],
 nf [],
 tu [vs "row" 497,vs "thing" 498,vs "weight" 499,vs "rest" 500],
 tu [],
 ft 33 "row_without",
 co "row_without" 494 495 496 [i 96,i 3,i 0,i 0,i 3,.ref 243,.bool true,i 181,.ref 244,.none,.ref 245,.ref 246,.ref 247,i 501,i 96] 502,
 fo 33 "row_without" L7 480 248,
 tu [],
 nf [],
 ft 34 "lots_of",
 co "lots_of" 504 505 506 [i 100,i 1,i 0,i 0,i 3,.ref 250,.bool true,i 181,.ref 251,.none,.none,.none,.ref 252,i 507,i 100] 508,
 fo 34 "lots_of" L7 480 253,
 tu [],
 nf [],
 tu [vs "lots" 513,vs "number" 514,vs "place" 515,vs "so_far" 516],
 tu [],
 ft 35 "picked",
 co "picked" 510 511 512 [i 111,i 2,i 0,i 0,i 3,.ref 255,.bool true,i 181,.ref 256,.none,.ref 257,.ref 258,.ref 259,i 517,i 111] 518,
 fo 35 "picked" L7 480 260,
 tu [],
 nf [],
 tu [vs "value" 527],
 tu [],
 ft 38 "is_listing",
 co "is_listing" 524 525 526 [i 122,i 1,i 0,i 0,i 3,.ref 262,.bool true,i 181,.ref 263,.none,.ref 264,.ref 265,.ref 266,i 528,i 122] 529,
 fo 38 "is_listing" "wishlots.tables" 520 267,
 tu [],
 nf [],
 tu [vs "rows" 534],
 tu [],
 ft 39 "has_people",
 co "has_people" 531 532 533 [i 124,i 1,i 0,i 0,i 3,.ref 269,.bool true,i 181,.ref 270,.none,.ref 271,.ref 272,.ref 273,i 535,i 124] 536,
 fo 39 "has_people" "wishlots.tables" 520 274,
 tu [],
 nf [],
 ft 41 "best_free",
 co "best_free" 540 541 542 [i 127,i 2,i 0,i 0,i 3,.ref 276,.bool true,i 181,.ref 277,.none,.none,.none,.ref 278,i 543,i 127] 544,
 fo 41 "best_free" Kl 538 279,
 tu [],
 nf [],
 tu [vs "numbers" 549,vs "number" 550],
 tu [],
 ft 42 "with_one",
 co "with_one" 546 547 548 [i 129,i 2,i 0,i 0,i 3,.ref 281,.bool true,i 181,.ref 282,.none,.ref 283,.ref 284,.ref 285,i 551,i 129] 552,
 fo 42 "with_one" Kl 538 286,
 tu [],
 nf [],
 ft 43 "turns_from",
 co "turns_from" 554 555 556 [i 131,i 3,i 0,i 0,i 3,.ref 288,.bool true,i 181,.ref 289,.none,.none,.none,.ref 290,i 557,i 131] 558,
 fo 43 "turns_from" Kl 538 291,
 tu [],
 nf [],
 tu [vs "count" 563,vs "orders" 564,vs "number" 565],
 tu [],
 ft 44 "orders_of",
 co "orders_of" 560 561 562 [i 134,i 1,i 0,i 0,i 3,.ref 293,.bool true,i 181,.ref 294,.none,.ref 295,.ref 296,.ref 297,i 566,i 134] 567,
 fo 44 "orders_of" Kl 538 298,
 tu [],
 nf [],
 tu [vs "wishes" 572,vs "counts" 573,vs "beginnings" 574,vs "turn" 575,vs "endings" 576,vs "longer" 577,vs "beginning" 578,vs "number" 579,vs "person" 580,vs "thing" 581,vs "state" 582],
 tu [],
 ft 45 "counts_of",
 co "counts_of" 569 570 571 [i 139,i 1,i 0,i 0,i 3,.ref 300,.bool true,i 181,.ref 301,.none,.ref 302,.ref 303,.ref 304,i 583,i 139] 584,
 fo 45 "counts_of" Kl 538 305,
 tu [],
 nf [],
 ft 46 "shares_by_turns",
 co "shares_by_turns" 586 587 588 [i 152,i 3,i 0,i 0,i 3,.ref 307,.bool true,i 181,.ref 308,.none,.none,.none,.ref 309,i 589,i 152] 590,
 fo 46 "shares_by_turns" Kl 538 310,
 tu [],
 nf [],
 ft 47 "by_turns",
 co "by_turns" 592 593 594 [i 155,i 1,i 0,i 0,i 3,.ref 312,.bool true,i 181,.ref 313,.none,.none,.none,.ref 314,i 595,i 155] 596,
 fo 47 "by_turns" Kl 538 315,
 tu [],
 nf [],
 ft 50 "is_word",
 co "is_word" 602 603 604 [i 160,i 1,i 0,i 0,i 3,.ref 317,.bool true,i 181,.ref 318,.none,.none,.none,.ref 319,i 605,i 160] 606,
 fo 50 "is_word" ID 598 320,
 tu [],
 nf [],
 ft 51 "is_roll",
 co "is_roll" 608 609 610 [i 164,i 1,i 0,i 0,i 3,.ref 322,.bool true,i 181,.ref 323,.none,.none,.none,.ref 324,i 611,i 164] 612,
 fo 51 "is_roll" ID 598 325,
 tu [],
 {cls:= .type "builtin_function_or_method",data:= .fields #[.builtin "type.__prepare__",.type "type"]},
 di [en P "__module__" 621 (vs ID 598),en P "__qualname__" 623 (vs "Book" 622),en P "__firstlineno__" 625 (.int 166 624),en P "__init__" 634 (.ref 340),en P "check_person" 642 (.ref 347),en P "wish" 648 (.ref 352),en P "lacking" 654 (.ref 357),en P "table_by" 660 (.ref 362),en P "shares" 666 (.ref 367),en P "deal" 672 (.ref 372),en P "__static_attributes__" 676 (.ref 373)] 11,
 tu [],
 nf [i 168,i 4,.ref 339,i 175,i 4,.ref 346,i 179,i 4,.ref 351,i 186,i 4,.ref 356,i 189,i 4,.ref 361,i 199,i 4,.ref 366,i 205,i 4,.ref 371],
 co "Book" 616 617 618 [i 166,i 0,i 0,i 0,i 0,.ref 330,.bool false,i 181,.ref 331,.none,.none,.none,.none,i 619,i 166] 620,
 {cls:= .type "frame",slots:= #[some (.ref 332),some (.ref 3),some (.ref 329),none,some (vs ID 598),none,some (.ref 0)]},
 tu [],
 nf [],
 tu [vs "self" 629,vs "people" 630,vs "things" 631],
 tu [],
 fc 52 0 "__init__" "Book.__init__",
 cq "__init__" "Book.__init__" 626 627 628 [i 168,i 3,i 0,i 0,i 3,.ref 334,.bool true,i 181,.ref 335,.none,.ref 336,.ref 337,.ref 338,i 632,i 168] 633,
 fm 52 0 "__init__" "Book.__init__" ID 598 339,
 tu [],
 nf [],
 tu [vs "self" 638,vs "person" 639],
 tu [],
 fc 52 1 "check_person" "Book.check_person",
 cq "check_person" "Book.check_person" 635 636 637 [i 175,i 2,i 0,i 0,i 3,.ref 341,.bool true,i 181,.ref 342,.none,.ref 343,.ref 344,.ref 345,i 640,i 175] 641,
 fm 52 1 "check_person" "Book.check_person" ID 598 346,
 tu [],
 nf [],
 fc 52 2 "wish" "Book.wish",
 cq "wish" "Book.wish" 643 644 645 [i 179,i 3,i 0,i 0,i 3,.ref 348,.bool true,i 181,.ref 349,.none,.none,.none,.ref 350,i 646,i 179] 647,
 fm 52 2 "wish" "Book.wish" ID 598 351,
 tu [],
 nf [],
 fc 52 3 "lacking" "Book.lacking",
 cq "lacking" "Book.lacking" 649 650 651 [i 186,i 1,i 0,i 0,i 3,.ref 353,.bool true,i 181,.ref 354,.none,.none,.none,.ref 355,i 652,i 186] 653,
 fm 52 3 "lacking" "Book.lacking" ID 598 356,
 tu [],
 nf [],
 fc 52 4 "table_by" "Book.table_by",
 cq "table_by" "Book.table_by" 655 656 657 [i 189,i 2,i 0,i 0,i 3,.ref 358,.bool true,i 181,.ref 359,.none,.none,.none,.ref 360,i 658,i 189] 659,
 fm 52 4 "table_by" "Book.table_by" ID 598 361,
 tu [],
 nf [],
 fc 52 5 "shares" "Book.shares",
 cq "shares" "Book.shares" 661 662 663 [i 199,i 3,i 0,i 0,i 3,.ref 363,.bool true,i 181,.ref 364,.none,.none,.none,.ref 365,i 664,i 199] 665,
 fm 52 5 "shares" "Book.shares" ID 598 366,
 tu [],
 nf [],
 fc 52 6 "deal" "Book.deal",
 cq "deal" "Book.deal" 667 668 669 [i 205,i 3,i 0,i 0,i 3,.ref 368,.bool true,i 181,.ref 369,.none,.none,.none,.ref 370,i 670,i 205] 671,
 fm 52 6 "deal" "Book.deal" ID 598 371,
 tu [vs "people" 673,vs "things" 674,vs "wishes_told" 675],
 di [en P "__module__" 621 (vs ID 598),en P "__firstlineno__" 625 (.int 166 624),en P "__init__" 634 (.ref 340),en P "check_person" 642 (.ref 347),en P "wish" 648 (.ref 352),en P "lacking" 654 (.ref 357),en P "table_by" 660 (.ref 362),en P "shares" 666 (.ref 367),en P "deal" 672 (.ref 372),en P "__static_attributes__" 676 (.ref 373),en P "__dict__" 678 (.ref 376),en P "__weakref__" 680 (.ref 377),en P "__doc__" 681 (.none)] 4,
 {cls:= .type "type",data:= .cls {name:="Book",bases:=[.type "object"],mro:=[.ref 375,.type "object"],ns:=374,qualname:="Book"},slots:= #[none,none,some (vs "Book" 614),some (vs "Book" 622),some (.builtin "object.__new__"),some (.bool true)]},
 {cls:= .type "getset_descriptor",data:= .fields #[vs "__dict__" 677,.ref 375,.builtin "function.__dict__",.builtin "function.__dict__#set"]},
 {cls:= .type "getset_descriptor",data:= .fields #[vs "__weakref__" 679,.ref 375,.builtin "ExceptionGroup.__weakref__",.none]},
 {cls:= .type "super",data:= .fields #[.ref 375,.ref 375,.ref 375]},
 {cls:= .type "builtin_function_or_method",data:= .fields #[.builtin "object.__init_subclass__",.ref 375]},
 tu [],
 nf [],
 tu [vs "_law_script" 689,vs "_law_k" 690],
 tu [],
 ft 54 "_law_cell_at",
 co "_law_cell_at" 686 687 688 [i 210,i 2,i 0,i 0,i 3,.ref 380,.bool true,i 181,.ref 381,.none,.ref 382,.ref 383,.ref 384,i 691,i 210] 692,
 fo 54 "_law_cell_at" Ge 684 385,
 tu [],
 nf [],
 tu [vs "_law_cell" 697,vs "_law_many" 698,vs "_law_found" 699,vs "_law_number" 700,vs "_law_k" 701],
 tu [],
 ft 55 "_law_mixed",
 co "_law_mixed" 694 695 696 [i 214,i 2,i 0,i 0,i 3,.ref 387,.bool true,i 181,.ref 388,.none,.ref 389,.ref 390,.ref 391,i 702,i 214] 703,
 fo 55 "_law_mixed" Ge 684 392,
 tu [],
 nf [],
 tu [vs "_law_number" 708,vs "_law_count" 709,vs "_law_found" 710,vs "_law_k" 711],
 tu [],
 ft 56 "_law_perm",
 co "_law_perm" 705 706 707 [i 227,i 2,i 0,i 0,i 3,.ref 394,.bool true,i 181,.ref 395,.none,.ref 396,.ref 397,.ref 398,i 712,i 227] 713,
 fo 56 "_law_perm" Ge 684 399,
 tu [],
 nf [],
 tu [vs "_law_one" 718,vs "_law_other" 719,vs "_law_rest" 720],
 tu [],
 ft 57 "_law_divisor",
 co "_law_divisor" 715 716 717 [i 233,i 2,i 0,i 0,i 3,.ref 401,.bool true,i 181,.ref 402,.none,.ref 403,.ref 404,.ref 405,i 721,i 233] 722,
 fo 57 "_law_divisor" Ge 684 406,
 tu [],
 nf [],
 tu [vs "_law_top" 727,vs "_law_bottom" 728,vs "_law_share" 729],
 tu [],
 ft 58 "_law_lowest",
 co "_law_lowest" 724 725 726 [i 239,i 2,i 0,i 0,i 3,.ref 408,.bool true,i 181,.ref 409,.none,.ref 410,.ref 411,.ref 412,i 730,i 239] 731,
 fo 58 "_law_lowest" Ge 684 413,
 tu [],
 nf [],
 tu [vs "_law_cell" 736,vs "_law_size" 737,vs "_law_found" 738,vs "_law_rest" 739,vs "_law_k" 740],
 tu [],
 ft 59 "_law_base",
 co "_law_base" 733 734 735 [i 246,i 2,i 0,i 0,i 3,.ref 415,.bool true,i 181,.ref 416,.none,.ref 417,.ref 418,.ref 419,i 741,i 246] 742,
 fo 59 "_law_base" Ge 684 420,
 tu [],
 nf [],
 tu [vs "_law_base_here" 747,vs "_law_place" 748,vs "_law_size" 749,vs "_law_k" 750,vs "_law_letters" 751,vs "_law_other" 752],
 tu [],
 ft 60 "_law_word",
 co "_law_word" 744 745 746 [i 258,i 4,i 0,i 0,i 3,.ref 422,.bool true,i 181,.ref 423,.none,.ref 424,.ref 425,.ref 426,i 753,i 258] 754,
 fo 60 "_law_word" Ge 684 427,
 tu [],
 nf [],
 tu [vs "_law_script" 759,vs "_law_at" 760,vs "_law_many" 761,vs "_law_cell" 762,vs "_law_size" 763,vs "_law_base_here" 764,vs "_law_words_here" 765,vs "_law_k" 766,vs "_law_word_here" 767],
 tu [],
 ft 61 "_law_words",
 co "_law_words" 756 757 758 [i 262,i 3,i 0,i 0,i 3,.ref 429,.bool true,i 181,.ref 430,.none,.ref 431,.ref 432,.ref 433,i 768,i 262] 769,
 fo 61 "_law_words" Ge 684 434,
 tu [],
 nf [],
 tu [vs "_law_found" 774,vs "_law_due_here" 775,vs "_law_k" 776],
 tu [],
 ft 62 "_law_same",
 co "_law_same" 771 772 773 [i 273,i 2,i 0,i 0,i 3,.ref 436,.bool true,i 181,.ref 437,.none,.ref 438,.ref 439,.ref 440,i 777,i 273] 778,
 fo 62 "_law_same" Ge 684 441,
 tu [],
 nf [],
 tu [vs "_law_e" 783,vs "_law_found" 784],
 tu [],
 ft 63 "_law_kinds",
 co "_law_kinds" 780 781 782 [i 290,i 1,i 0,i 0,i 3,.ref 443,.bool true,i 181,.ref 444,.none,.ref 445,.ref 446,.ref 447,i 785,i 290] 786,
 fo 63 "_law_kinds" Ge 684 448,
 tu [],
 nf [],
 tu [vs "_law_roll" 791,vs "_law_cell" 792,vs "_law_at" 793,vs "_law_place" 794,vs "_law_signs" 795,vs "_law_sign" 796,vs "_law_bad" 797,vs "_law_other" 798],
 tu [],
 ft 64 "_law_bad_roll",
 co "_law_bad_roll" 788 789 790 [i 313,i 2,i 0,i 0,i 3,.ref 450,.bool true,i 181,.ref 451,.none,.ref 452,.ref 453,.ref 454,i 799,i 313] 800,
 fo 64 "_law_bad_roll" Ge 684 455,
 tu [],
 nf [],
 tu [vs "_law_people" 805,vs "_law_things" 806,vs "_law_cell" 807,vs "_law_caught" 808,vs "_law_e" 809],
 tu [],
 ft 65 "_law_no_roll",
 co "_law_no_roll" 802 803 804 [i 331,i 3,i 0,i 0,i 3,.ref 457,.bool true,i 181,.ref 458,.none,.ref 459,.ref 460,.ref 461,i 810,i 331] 811,
 fo 65 "_law_no_roll" Ge 684 462,
 tu [],
 nf [],
 tu [vs "_law_people" 816,vs "_law_xs" 817,vs "_law_person_here" 818,vs "_law_other" 819],
 tu [],
 ft 66 "_law_person",
 co "_law_person" 813 814 815 [i 342,i 2,i 0,i 0,i 3,.ref 464,.bool true,i 181,.ref 465,.none,.ref 466,.ref 467,.ref 468,i 820,i 342] 821,
 fo 66 "_law_person" Ge 684 469,
 tu [],
 nf [],
 ft 67 "_law_text",
 co "_law_text" 823 824 825 [i 350,i 2,i 0,i 0,i 3,.ref 471,.bool true,i 181,.ref 472,.none,.none,.none,.ref 473,i 826,i 350] 827,
 fo 67 "_law_text" Ge 684 474,
 tu [],
 nf [],
 tu [vs "_law_people" 832,vs "_law_things" 833,vs "_law_xs" 834,vs "_law_way" 835,vs "_law_top" 836,vs "_law_number" 837],
 tu [],
 ft 68 "_law_deed",
 co "_law_deed" 829 830 831 [i 366,i 3,i 0,i 0,i 3,.ref 476,.bool true,i 181,.ref 477,.none,.ref 478,.ref 479,.ref 480,i 838,i 366] 839,
 fo 68 "_law_deed" Ge 684 481,
 tu [],
 nf [],
 tu [vs "_law_people" 844,vs "_law_things" 845,vs "_law_lacks" 846,vs "_law_deed_here" 847,vs "_law_way" 848],
 tu [],
 ft 69 "_law_due",
 co "_law_due" 841 842 843 [i 375,i 4,i 0,i 0,i 3,.ref 483,.bool true,i 181,.ref 484,.none,.ref 485,.ref 486,.ref 487,i 849,i 375] 850,
 fo 69 "_law_due" Ge 684 488,
 tu [],
 nf [],
 tu [vs "_law_book" 855,vs "_law_deed_here" 856,vs "_law_caught" 857,vs "_law_told_here" 858,vs "_law_e" 859],
 tu [],
 ft 70 "_law_told",
 co "_law_told" 852 853 854 [i 390,i 2,i 0,i 0,i 3,.ref 490,.bool true,i 181,.ref 491,.none,.ref 492,.ref 493,.ref 494,i 860,i 390] 861,
 fo 70 "_law_told" Ge 684 495,
 tu [],
 nf [],
 tu [vs "_law_book" 866,vs "_law_lacks" 867,vs "_law_k" 868,vs "_law_found" 869],
 tu [],
 ft 71 "_law_lacks_well",
 co "_law_lacks_well" 863 864 865 [i 405,i 2,i 0,i 0,i 3,.ref 497,.bool true,i 181,.ref 498,.none,.ref 499,.ref 500,.ref 501,i 870,i 405] 871,
 fo 71 "_law_lacks_well" Ge 684 502,
 tu [],
 nf [],
 tu [vs "_law_script" 876,vs "_law_count" 877,vs "_law_people" 878,vs "_law_things" 879,vs "_law_k" 880,vs "_law_book" 881,vs "_law_lacks" 882,vs "_law_cell" 883,vs "_law_deed_here" 884,vs "_law_told_here" 885,vs "_law_refused" 886],
 tu [],
 ft 72 "law",
 co "law" 873 874 875 [i 412,i 1,i 0,i 0,i 3,.ref 504,.bool true,i 181,.ref 505,.none,.ref 506,.ref 507,.ref 508,i 887,i 412] 888,
 fo 72 "law" Ge 684 509]
noncomputable def hp(m f e:Nat)(x:bQ)(P:Params):Heap:={objs:=((((obs P).take m).set 3 (di (en P "__name__" 165 x::(MT P).tail.take e) (e+1))).set 12 (nf (OD.take f))).toArray}
noncomputable def all(P:Params):List Obj:=(obs P).set 3 (di (MT P) 74)
def NS:List bV:=[3,23,24,25,36,37,48,49,60,61,72,73,84,85,96,97,108,109,120,121,132,133,136,137,143,144,150,151,157,158,164,165,171,172,178,179,185,186,192,193,199,200,204,205,209,210,214,215,219,220,224,225,229,230,234,235,241,242,248,249,253,254,260,261,267,268,274,275,279,280,286,287,291,292,298,299,305,306,310,311,315,316,320,321,325,326,339,340,346,347,351,352,356,357,361,362,366,367,371,372,374,375,376,377,385,386,392,393,399,400,406,407,413,414,420,421,427,428,434,435,441,442,448,449,455,456,462,463,469,470,474,475,481,482,488,489,495,496,502,503,509,510]
noncomputable def K0(P:Params):bN:=NS.map λa=>(a,(all P).getD a default)
theorem Fc:∀P,NS=(K0 P).map (·.1):=λ_=>rfl
noncomputable abbrev hk:Hook:=kHook K0 NS Fc
def vw:cg:={bW with main:={bW.main with body:=[Fm 1,Fm 2,Fm 3,Fm 4,Fm 5,Fm 6,Fm 7,Fm 8,Fm 9,Fm 10,Fm 12,Fm 13,Fm 14,Fm 15,Fm 16,Fm 17,Fm 18,Fm 19,Fm 20,Fm 21,Fm 22,Fm 24,Fm 25,Fm 26,Fm 27,Fm 28,Fm 29,Fm 30,Fm 32,Fm 33,Fm 34,Fm 35,Fm 37,Fm 38,Fm 39,Fm 41,Fm 42,Fm 43,Fm 44,Fm 45,Fm 46,Fm 47,Fm 49,Fm 50,Fm 51,Fm 52,Fm 54,Fm 55,Fm 56,Fm 57,Fm 58,Fm 59,Fm 60,Fm 61,Fm 62,Fm 63,Fm 64,Fm 65,Fm 66,Fm 67,Fm 68,Fm 69,Fm 70,Fm 71,Fm 72]}}
def Oo:List Stmt:=[Fm 0,Fm 1,Fm 2,Fm 3,Fm 4,Fm 5,Fm 6,Fm 7,Fm 8,Fm 9,Fm 10]
def Oq:List Stmt:=[Fm 11,Fm 12,Fm 13,Fm 14,Fm 15,Fm 16,Fm 17,Fm 18,Fm 19,Fm 20,Fm 21,Fm 22,Fm 23,Fm 24,Fm 25,Fm 26]
def Op:List Stmt:=[Fm 27,Fm 28,Fm 29,Fm 30,Fm 31,Fm 32,Fm 33,Fm 34,Fm 35,Fm 36,Fm 37,Fm 38,Fm 39,Fm 40,Fm 41,Fm 42]
def Ot:List Stmt:=[Fm 43,Fm 44,Fm 45,Fm 46,Fm 47,Fm 48,Fm 49,Fm 50,Fm 51]
def Ow:List Stmt:=[Fm 52]
def Ou:List Stmt:=[Fm 53,Fm 54,Fm 55,Fm 56,Fm 57,Fm 58,Fm 59,Fm 60,Fm 61,Fm 62,Fm 63,Fm 64,Fm 65]
def Ov:List Stmt:=[Fm 66,Fm 67,Fm 68,Fm 69,Fm 70,Fm 71,Fm 72]
def bd:List Stmt:=Oo++(Oq++(Op++(Ot++(Ow++(Ou++(Ov++([])))))))
def ev:Env:={scope:=bW.main.scope,locals:=mainNs,globals:=mainNs,cells:=[],code:= .ref 13,frame:=some 14}
def cE:Code:= .body bd ev
abbrev tf:List Frame:=[topFrame ⟨0,0,0,0⟩]
noncomputable def hA(P:Params):Heap:={objs:=((obs P).take 15).toArray}
theorem pre(w:cC)(os:OsState):topGo treeTable bW w 11 (some (.ref 6)) 12 ⟨iR w.params,Array.mk [],dE,qc,os⟩ (topStub bW)=some (⟨hA w.params,Array.mk [],dE,187,os⟩,⟨denote treeTable cE,cE,⟨0,0,0,0⟩,tf⟩):=by kernel_rfl
theorem OA(w:cC)(os:OsState):segRun treeTable bW w 11 (some (.ref 6)) 1 1 ⟨hA w.params,Array.mk [],dE,187,os⟩ (blockOf bd ev cE ⟨0,0,0,0⟩ tf)=some (.next,⟨hA w.params,Array.mk [],dE,187,os⟩,cE,⟨0,0,0,0⟩):=by kernel_rfl
noncomputable def h0:Params->Heap:=hp 136 30 18 (vs "wishlots.errors" 187)
theorem g0(w:cC)(os:OsState):segRun treeTable bW w 11 (some (.ref 6)) 1 2113 ⟨hA w.params,Array.mk [],dE,187,os⟩ (piecesOf Oo ev cE ⟨0,0,0,0⟩ tf)=some (.next,⟨h0 w.params,Array.mk [],dE,351,os⟩,cE,⟨20,0,21,8⟩):=by kernel_rfl
noncomputable def h1:Params->Heap:=hp 216 66 32 (vs Ks 436)
theorem g1(w:cC)(os:OsState):segRun treeTable bW w 11 (some (.ref 6)) 1 396 ⟨h0 w.params,Array.mk [],dE,351,os⟩ (piecesOf Oq ev cE ⟨20,0,21,8⟩ tf)=some (.next,⟨h1 w.params,Array.mk [],dE,456,os⟩,cE,⟨66,0,67,100⟩):=by kernel_rfl
noncomputable def h2:Params->Heap:=hp 288 102 45 (vs Kl 538)
theorem g2(w:cC)(os:OsState):segRun treeTable bW w 11 (some (.ref 6)) 1 379 ⟨h1 w.params,Array.mk [],dE,456,os⟩ (piecesOf Op ev cE ⟨66,0,67,100⟩ tf)=some (.next,⟨h2 w.params,Array.mk [],dE,554,os⟩,cE,⟨129,0,130,45⟩):=by kernel_rfl
noncomputable def h3:Params->Heap:=hp 327 123 53 (vs ID 598)
theorem g3(w:cC)(os:OsState):segRun treeTable bW w 11 (some (.ref 6)) 1 219 ⟨h2 w.params,Array.mk [],dE,554,os⟩ (piecesOf Ot ev cE ⟨129,0,130,45⟩ tf)=some (.next,⟨h3 w.params,Array.mk [],dE,614,os⟩,cE,⟨164,0,165,107⟩):=by kernel_rfl
noncomputable def h4:Params->Heap:=hp 380 126 54 (vs ID 598)
theorem g4(w:cC)(os:OsState):segRun treeTable bW w 11 (some (.ref 6)) 1 398 ⟨h3 w.params,Array.mk [],dE,614,os⟩ (piecesOf Ow ev cE ⟨164,0,165,107⟩ tf)=some (.next,⟨h4 w.params,Array.mk [],dE,684,os⟩,cE,⟨166,0,208,44⟩):=by kernel_rfl
noncomputable def h5:Params->Heap:=hp 464 162 66 (vs Ge 684)
theorem g5(w:cC)(os:OsState):segRun treeTable bW w 11 (some (.ref 6)) 1 401 ⟨h4 w.params,Array.mk [],dE,684,os⟩ (piecesOf Ou ev cE ⟨166,0,208,44⟩ tf)=some (.next,⟨h5 w.params,Array.mk [],dE,813,os⟩,cE,⟨331,0,341,48⟩):=by kernel_rfl
noncomputable def h6:Params->Heap:=hp 511 183 73 (vs Ge 684)
theorem g6(w:cC)(os:OsState):segRun treeTable bW w 11 (some (.ref 6)) 1 230 ⟨h5 w.params,Array.mk [],dE,813,os⟩ (piecesOf Ov ev cE ⟨331,0,341,48⟩ tf)=some (.next,⟨h6 w.params,Array.mk [],dE,890,os⟩,cE,⟨412,0,436,15⟩):=by kernel_rfl
theorem fin(w:cC)(os:OsState):topRun treeTable bW w 11 (some (.ref 6)) 2 ⟨h6 w.params,Array.mk [],dE,890,os⟩ (restOf [] ev cE ⟨412,0,436,15⟩ tf)=some ⟨h6 w.params,Array.mk [],dE,890,os⟩:=by kernel_rfl
theorem run(w:cC)(os:OsState):topRun treeTable bW w 11 (some (.ref 6)) (12+(1+(2113+(396+(379+(219+(398+(401+(230+(2)))))))))) ⟨iR w.params,Array.mk [],dE,qc,os⟩ (topStub bW)=some ⟨h6 w.params,Array.mk [],dE,890,os⟩:=go_top (pre w os) (piece_block (OA w os) (jy (g0 w os) (jy (g1 w os) (jy (g2 w os) (jy (g3 w os) (jy (g4 w os) (jy (g5 w os) (jy (g6 w os) (fin w os)))))))))
theorem OH:∀w:cC,(fencedOpening treeTable bW w 8982).map (λs=>(s.heap,s.gens,s.drawn,s.toks))=some (iR w.params,Array.mk [],dE,qc):=boot_open (by kernel_rfl) rfl λs=>by kernel_rfl
theorem size:∀w:cC,((iR w.params).isNs eE&&(Array.mk []:Array GenState).size==0,(iR w.params).objs.size,(iR w.params).nsMap eE "__annotations__")=(true,11,some (.ref 6)):=λw=>by kernel_rfl
abbrev xt:bS->Bool:=λs=>xlAt vw [] s&&recOk (RowW.records (OpenRow.toRowW eJ.row)) s
theorem Ng:∀w:cC,(λos=>((staticsOk (importedModules bW.main.body) (iR w.params) (h6 w.params)&&namesBound bW (h6 w.params)&&gensDone ⟨h6 w.params,Array.mk [],dE,890,os⟩&&laidKept (iR w.params) (h6 w.params)),openSeen vw [] (importedModules bW.main.body) xt true ⟨h6 w.params,Array.mk [],dE,890,os⟩,hk.obs ⟨h6 w.params,Array.mk [],dE,890,os⟩))=λ_=>(true,openGood vw [],hk.val w):=λw=>by kernel_rfl
theorem Oz:LeftO bW vw [] xt hk.obs hk.val 8982:=LeftO.of_pieces OH size run rfl Ng
theorem F1{K:Frag}{h:Heap}{mg:Str->Option bQ}{n:Str}{st:Stmt}(f c:bV)(pm:bQ)(X:K.In h)(G:h.Ns eE mg)
  (e:(nsIn K eE n,K.lookup f,codeIn K (.ref c) n,keepIn K (.ref f))=(some (some (.ref f)),some ⟨.type "function",none,.func (fnOf n n (Fx st) (Fq st) (Fg st) .none .none .none pm none (.ref c) .none),#[]⟩,true,true)):Def K mg n st:=by
 have a:=Prod.mk.inj e
 have d:=Prod.mk.inj a.2
 have b:=Prod.mk.inj d.2
 exact⟨_,_,y4 (st:=st) d.1 b.1 b.2,jv X G a.1⟩
theorem MP{K:Frag}{C:bV}{m q:Str}{st:Stmt}(f c:bV)(pm:bQ)
  (e:((findIn K (.ref C) m,isFn K (.ref f)),K.lookup f,codeIn K (.ref c) q,keepIn K (.ref f))=((some (some (.ref f)),true),some ⟨.type "function",none,.func (fnOf m q (Fx st) (Fq st) (Fg st) .none .none .none pm none (.ref c) .none),#[]⟩,true,true)):MDef K C m q st:=by
 have b:=Prod.mk.inj e
 have d:=Prod.mk.inj b.1
 have g:=Prod.mk.inj b.2
 have a:=Prod.mk.inj g.2
 exact⟨_,_,y4 (st:=st) g.1 a.1 a.2,d.1,d.2,a.2⟩
theorem Oy{K:Frag}{h:Heap}{mg:Str->Option bQ}{C:bV}{x q:Str}{st:Stmt}(f c:bV)(pm:bQ)(X:K.In h)(G:h.Ns eE mg)
  (e0:(makesIn K C,findIn K (.ref C) "__init__",isFn K (.ref f),keepIn K (.ref C),nsIn K eE x)=(true,some (some (.ref f)),true,true,some (some (.ref C))))
  (e:(K.lookup f,codeIn K (.ref c) q,keepIn K (.ref f))=(some ⟨.type "function",none,.func (fnOf "__init__" q (Fx st) (Fq st) (Fg st) .none .none .none pm none (.ref c) .none),#[]⟩,true,true)):BDef K mg C x q st:=by
 have d:=Prod.mk.inj e0
 have b:=Prod.mk.inj d.2
 have g:=Prod.mk.inj b.2
 have a:=Prod.mk.inj g.2
 have j:=Prod.mk.inj e
 have k:=Prod.mk.inj j.2
 exact⟨_,_,y4 (st:=st) j.1 k.1 k.2,⟨d.1,b.1,g.1,a.1⟩,jv X G a.2⟩
theorem all_mk{l:OpenLaw}{w:cC}{K:Frag}{h:Heap}{mg:Str->Option bQ}{fa:bV}{x:Xs}{cB:bV}(f c:bV)(pm:bQ)(X:K.In h)(G:h.Ns eE mg)(hfa:mg "law"=some (.ref fa))(M:Md K mg x cB)
  (e:(nsIn K eE "law",K.lookup f,codeIn K (.ref c) "law",keepIn K (.ref f))=(some (some (.ref f)),some ⟨.type "function",none,.func (fnOf "law" "law" (Fx (Fm 72)) (Fq (Fm 72)) (Fg (Fm 72)) .none .none .none pm none (.ref c) .none),#[]⟩,true,true)):
  ∃fd:FuncData,(∀(s:bS) (v:bQ),BindsTo s fd ⟨[v],[]⟩ [("_law_script",v)])/\∀base:Heap,K.In base->base.Ns eE mg->FnOk l.prog w K mg base Ft 13 fa fd ["_law_script"] (KI K):=by
 have e1:=Prod.mk.inj e
 have e2:=Prod.mk.inj e1.2
 have e3:=Prod.mk.inj e2.2
 have e4:=hfa.symm.trans (jv X G e1.1)
 cases e4
 refine⟨fnOf "law" "law" (Fx (Fm 72)) (Fq (Fm 72)) (Fg (Fm 72)) .none .none .none pm none (.ref c) .none,λs v=> .of_eq rfl,λbase _ _=>?_⟩
 have ai:=Kx (P:=l.prog) (w:=w) (base:=base) M
 have r:=Hz (P:=l.prog) (w:=w) (base:=base) M
 have b:=Kq (P:=l.prog) (w:=w) (base:=base) M ai r
 have aa:=Mp (P:=l.prog) (w:=w) (base:=base) M b
 have aj:=LX (P:=l.prog) (w:=w) (base:=base) M b
 have am:=LJ (P:=l.prog) (w:=w) (base:=base) M b
 have R:=Li (P:=l.prog) (w:=w) (base:=base) M
 have ak:=LU (P:=l.prog) (w:=w) (base:=base) M aa
 have al:=LS (P:=l.prog) (w:=w) (base:=base) M R
 have U:=J8 (P:=l.prog) (w:=w) (base:=base) M
 have y:=IE (P:=l.prog) (w:=w) (base:=base) M am al
 have F:=IP (P:=l.prog) (w:=w) (base:=base) M aj am
 have N:=Jk (P:=l.prog) (w:=w) (base:=base) M (ak.imp λ_ _ _ _=>Ev) U y F
 have ao:=Ky (P:=l.prog) (w:=w) (base:=base) M (ak.imp λ_ _ _ _=>Ev)
 have an:=KC (P:=l.prog) (w:=w) (base:=base) M ao
 have aw:=LW (P:=l.prog) (w:=w) (base:=base) M N an
 have W0:=M.f_deal_within.nothing (P:=l.prog) (w:=w) (base:=base) (ps:=["left","begun"]) (λ_ _ _ _ _ _ us hl=>match us,hl with|[_,_],_=>rfl)
 have W1:=FB (m:=0) M W0
 have W2:=FB (m:=1) M W1
 have W3:=FB (m:=2) M W2
 have W4:=FB (m:=3) M W3
 have W5:=FB (m:=4) M W4
 have W6:=FB (m:=5) M W5
 have D:=FB (m:=6) M W6
 have B:=IR (P:=l.prog) (w:=w) (base:=base) M aj
 have ar:=K3 (P:=l.prog) (w:=w) (base:=base) M D al B aa
 have av:=Lg (P:=l.prog) (w:=w) (base:=base) M R aa
 have L:=Jn (P:=l.prog) (w:=w) (base:=base) M
 have Q:=Jl (P:=l.prog) (w:=w) (base:=base) M L
 have ab:=Kc (P:=l.prog) (w:=w) (base:=base) M
 have ah:=Kk (P:=l.prog) (w:=w) (base:=base) M
 have I:=Jr (P:=l.prog) (w:=w) (base:=base) M ab
 have t:=J7 (P:=l.prog) (w:=w) (base:=base) M
 have ad:=JR (P:=l.prog) (w:=w) (base:=base) M t I ah
 have q:=Hc (P:=l.prog) (w:=w) (base:=base) M t b
 have ap:=Kh (P:=l.prog) (w:=w) (base:=base) M ad q
 have au:=K8 (P:=l.prog) (w:=w) (base:=base) M
 have aq:=La (P:=l.prog) (w:=w) (base:=base) M Q au
 have d:=Io (P:=l.prog) (w:=w) (base:=base) M aq
 have a:=GN (P:=l.prog) (w:=w) (base:=base) M
 have ae:=JJ (P:=l.prog) (w:=w) (base:=base) M a
 have j:=Iy (P:=l.prog) (w:=w) (base:=base) M
 have g:=Im (P:=l.prog) (w:=w) (base:=base) M j aw ap
 have H:=IT (P:=l.prog) (w:=w) (base:=base) M a g
 have T:=JU (P:=l.prog) (w:=w) (base:=base) M ar g av
 have k:=IG (P:=l.prog) (w:=w) (base:=base) M
 have J:=Jj (P:=l.prog) (w:=w) (base:=base) M
 have W:=J5 (P:=l.prog) (w:=w) (base:=base) M
 have S:=JP (P:=l.prog) (w:=w) (base:=base) M
 have Z:=Ka (P:=l.prog) (w:=w) (base:=base) M
 have O:=Jg (P:=l.prog) (w:=w) (base:=base) M k S Z
 have A:=IB (P:=l.prog) (w:=w) (base:=base) M
 have C:=IQ (P:=l.prog) (w:=w) (base:=base) M A
 have Y0:=M.f__law_same.nothing (P:=l.prog) (w:=w) (base:=base) (ps:=["_law_found","_law_due_here"]) (λ_ _ _ _ _ _ us hl=>match us,hl with|[_,_],_=>rfl)
 have Y1:=F6 (n:=0) M Y0
 have Y2:=F6 (n:=1) M Y1
 have Y3:=F6 (n:=2) M Y2
 have af:=F6 (n:=3) M Y3
 have o:=Js (P:=l.prog) (w:=w) (base:=base) M
 have u:=Ie (P:=l.prog) (w:=w) (base:=base) M
 have z:=IK (P:=l.prog) (w:=w) (base:=base) M u d o
 have E:=IO (P:=l.prog) (w:=w) (base:=base) M
 have ac:=JS (P:=l.prog) (w:=w) (base:=base) M W
 have V:=JV (P:=l.prog) (w:=w) (base:=base) M E ac C
 have ag:=Ki (P:=l.prog) (w:=w) (base:=base) M
 have Y:=Jz (P:=l.prog) (w:=w) (base:=base) M ae H T o
 have p:=Hu (P:=l.prog) (w:=w) (base:=base) M j af
 exact M4 (y4 (st:=Fm 72) e2.1 e3.1 e3.2) M k O z d J V Y ag p
theorem walk{l:OpenLaw}{q:cg}{loose:List Str}{XP:(Str->Option bQ)->Heap->Prop}{YP:cC->Heap->Prop}{d:DefRec}{K:Params->Frag}(hn:l.most=some 63)(hdf:d.params.defaults=[])
  (hY:∀(w:cC) (h:Heap),YP w h->(K w.params).In h)
  (F:∀(w:cC) (mg:Str->Option bQ) (fa:bV) (h:Heap),(K w.params).In h->h.Ns eE mg->mg d.name=some (.ref fa)->
   ∃fd:FuncData,(∀(s:bS) (u:bQ),BindsTo s fd ⟨[u],[]⟩ [("_law_script",u)])/\∀base:Heap,(K w.params).In base->base.Ns eE mg->FnOk l.prog w (K w.params) mg base Ft 13 fa fd ["_law_script"] (KI (K w.params))):
  WalkO q loose XP YP l.row.toRowW d [] (λf vs=>oM f vs):=
 L2.walk_of (n:=63) (k:=13) (x:="_law_script") (CX:=λ_=>Ft) (sp:=λw=>KI (K w.params)) hn (by decide) hdf ⟨rfl,by decide,by decide⟩ hY F (λ_ _ a e b _ c=>⟨a,e,rfl,c,b,λ_=>rfl⟩) λ_ _ _ _ _ z=>z
end Nk51
open PySem PySem.W PyProof.Rows L2 Nk51
set_option maxRecDepth 100000 in
set_option maxHeartbeats 0 in
theorem PySem.Challenge.cw_wishlots_k51_texts_and_refusals_holds : PySem.Challenge.rw_wishlots_k51_texts_and_refusals.Holds := by
 refine holds_law CD λc=>?_;refine holds_open (q:=vw) (loose:=[]) (Xt:=xt) (XP:=XL vw []) (Yf:=Hook.obs hk) (Ya:=Hook.val hk)
  (YP:=Hook.says hk) (N:=8982) ?hl (Hook.of _) (Hook.keeps _) (λs e=>xl_of s (l5.mp e).1)
  XL.keeps (by rfl) (by rfl) (by rfl) (λs e=>recFacts_of (l5.mp e).2) (by rfl) (by first|assumption|decide +kernel) (by decide +kernel) ⟨rfl,rfl,rfl,rfl,rfl,by decide +kernel⟩ ?hw ?hc
 case hl=>exact Oz
 case hw=>w_witness2
 refine Nk51.walk (l:=eJ) rfl rfl (λw h Y=>kIn_of Y) ?F
 case F=>
  intro w f d h a G b;refine Nk51.all_mk (x:=⟨24,37,49,61,73,85,97,109,121,133⟩) (cB:=375) 510 509 (vs Ge 684) a G b ?_ (by kernel_rfl);exact⟨F1 144 143 (vs Jw 351) a G (by kernel_rfl),
   F1 151 150 (vs Jw 351) a G (by kernel_rfl),
   F1 158 157 (vs Jw 351) a G (by kernel_rfl),
   F1 165 164 (vs Jw 351) a G (by kernel_rfl),
   F1 172 171 (vs Jw 351) a G (by kernel_rfl),
   F1 179 178 (vs Jw 351) a G (by kernel_rfl),
   F1 186 185 (vs Jw 351) a G (by kernel_rfl),
   F1 193 192 (vs Jw 351) a G (by kernel_rfl),
   F1 200 199 (vs Jw 351) a G (by kernel_rfl),
   F1 205 204 (vs Ks 436) a G (by kernel_rfl),
   F1 210 209 (vs Ks 436) a G (by kernel_rfl),
   F1 215 214 (vs Ks 436) a G (by kernel_rfl),
   F1 220 219 (vs Ks 436) a G (by kernel_rfl),
   F1 225 224 (vs Ks 436) a G (by kernel_rfl),
   F1 230 229 (vs Ks 436) a G (by kernel_rfl),
   F1 235 234 (vs Ks 436) a G (by kernel_rfl),
   F1 242 241 (vs L7 480) a G (by kernel_rfl),
   F1 249 248 (vs L7 480) a G (by kernel_rfl),
   F1 254 253 (vs L7 480) a G (by kernel_rfl),
   F1 261 260 (vs L7 480) a G (by kernel_rfl),
   F1 268 267 (vs "wishlots.tables" 520) a G (by kernel_rfl),
   F1 275 274 (vs "wishlots.tables" 520) a G (by kernel_rfl),
   F1 280 279 (vs Kl 538) a G (by kernel_rfl),
   F1 287 286 (vs Kl 538) a G (by kernel_rfl),
   F1 292 291 (vs Kl 538) a G (by kernel_rfl),
   F1 299 298 (vs Kl 538) a G (by kernel_rfl),
   F1 306 305 (vs Kl 538) a G (by kernel_rfl),
   F1 311 310 (vs Kl 538) a G (by kernel_rfl),
   F1 316 315 (vs Kl 538) a G (by kernel_rfl),
   F1 321 320 (vs ID 598) a G (by kernel_rfl),
   F1 326 325 (vs ID 598) a G (by kernel_rfl),
   Oy 340 339 (vs ID 598) a G (by kernel_rfl) (by kernel_rfl),
   ⟨by kernel_rfl,by kernel_rfl,by kernel_rfl,by kernel_rfl⟩,
   (show findIn _ _ _=some none by kernel_rfl),
   (show findIn _ _ _=some none by kernel_rfl),
   (show findIn _ _ _=some none by kernel_rfl),
   MP 347 346 (vs ID 598) (by kernel_rfl),
   MP 352 351 (vs ID 598) (by kernel_rfl),
   MP 357 356 (vs ID 598) (by kernel_rfl),
   MP 362 361 (vs ID 598) (by kernel_rfl),
   MP 367 366 (vs ID 598) (by kernel_rfl),
   MP 372 371 (vs ID 598) (by kernel_rfl),
   F1 386 385 (vs Ge 684) a G (by kernel_rfl),
   F1 393 392 (vs Ge 684) a G (by kernel_rfl),
   F1 400 399 (vs Ge 684) a G (by kernel_rfl),
   F1 421 420 (vs Ge 684) a G (by kernel_rfl),
   F1 428 427 (vs Ge 684) a G (by kernel_rfl),
   F1 435 434 (vs Ge 684) a G (by kernel_rfl),
   F1 407 406 (vs Ge 684) a G (by kernel_rfl),
   F1 414 413 (vs Ge 684) a G (by kernel_rfl),
   F1 442 441 (vs Ge 684) a G (by kernel_rfl),
   F1 449 448 (vs Ge 684) a G (by kernel_rfl),
   F1 456 455 (vs Ge 684) a G (by kernel_rfl),
   F1 463 462 (vs Ge 684) a G (by kernel_rfl),
   F1 470 469 (vs Ge 684) a G (by kernel_rfl),
   F1 475 474 (vs Ge 684) a G (by kernel_rfl),
   F1 482 481 (vs Ge 684) a G (by kernel_rfl),
   F1 489 488 (vs Ge 684) a G (by kernel_rfl),
   F1 496 495 (vs Ge 684) a G (by kernel_rfl),
   F1 503 502 (vs Ge 684) a G (by kernel_rfl),
   eH a G (by kernel_rfl),
   eH a G (by kernel_rfl),
   eH a G (by kernel_rfl),
   eH a G (by kernel_rfl),
   eH a G (by kernel_rfl),
   eH a G (by kernel_rfl),
   eH a G (by kernel_rfl),
   eH a G (by kernel_rfl),
   eH a G (by kernel_rfl),
   eH a G (by kernel_rfl),
   eH a G (by kernel_rfl),
   eH a G (by kernel_rfl),
   eH a G (by kernel_rfl),
   eH a G (by kernel_rfl),
   eH a G (by kernel_rfl),
   eH a G (by kernel_rfl),
   eH a G (by kernel_rfl),
   eH a G (by kernel_rfl),
   eH a G (by kernel_rfl),
   ⟨136,jv a G (by kernel_rfl),λ_=> .inr ⟨_,_,_,rfl,rfl,rfl,by show 2<=sizeLine;decide,(.cons ⟨_,rfl⟩ (.cons ⟨_,rfl⟩ .nil))⟩⟩,
   ⟨137,jv a G (by kernel_rfl),λ_=> .inr ⟨_,_,_,rfl,rfl,rfl,by show 2<=sizeLine;decide,(.cons ⟨_,rfl⟩ (.cons ⟨_,rfl⟩ .nil))⟩⟩,
   ⟨522,jv a G (by kernel_rfl)⟩,
   ⟨600,jv a G (by kernel_rfl)⟩,
   ⟨jv a G (by kernel_rfl),by kernel_rfl⟩,
   ⟨jv a G (by kernel_rfl),by kernel_rfl⟩,
   ⟨jv a G (by kernel_rfl),by kernel_rfl⟩,
   ⟨jv a G (by kernel_rfl),by kernel_rfl⟩,
   ⟨jv a G (by kernel_rfl),by kernel_rfl⟩,
   ⟨jv a G (by kernel_rfl),by kernel_rfl⟩,
   ⟨jv a G (by kernel_rfl),by kernel_rfl⟩,
   ⟨jv a G (by kernel_rfl),by kernel_rfl⟩,
   ⟨jv a G (by kernel_rfl),by kernel_rfl⟩,
   ⟨jv a G (by kernel_rfl),by kernel_rfl⟩,
   by kernel_rfl,
   Au ⟨by kernel_rfl,by kernel_rfl,by kernel_rfl,by kernel_rfl,by kernel_rfl,by kernel_rfl,by kernel_rfl,by kernel_rfl⟩ (by kernel_rfl) (by kernel_rfl) (by kernel_rfl),
   by kernel_rfl,
   Au ⟨by kernel_rfl,by kernel_rfl,by kernel_rfl,by kernel_rfl,by kernel_rfl,by kernel_rfl,by kernel_rfl,by kernel_rfl⟩ (by kernel_rfl) (by kernel_rfl) (by kernel_rfl),
   by kernel_rfl,
   Au ⟨by kernel_rfl,by kernel_rfl,by kernel_rfl,by kernel_rfl,by kernel_rfl,by kernel_rfl,by kernel_rfl,by kernel_rfl⟩ (by kernel_rfl) (by kernel_rfl) (by kernel_rfl),
   by kernel_rfl,
   Au ⟨by kernel_rfl,by kernel_rfl,by kernel_rfl,by kernel_rfl,by kernel_rfl,by kernel_rfl,by kernel_rfl,by kernel_rfl⟩ (by kernel_rfl) (by kernel_rfl) (by kernel_rfl),
   by kernel_rfl,
   Au ⟨by kernel_rfl,by kernel_rfl,by kernel_rfl,by kernel_rfl,by kernel_rfl,by kernel_rfl,by kernel_rfl,by kernel_rfl⟩ (by kernel_rfl) (by kernel_rfl) (by kernel_rfl),
   by kernel_rfl,
   Au ⟨by kernel_rfl,by kernel_rfl,by kernel_rfl,by kernel_rfl,by kernel_rfl,by kernel_rfl,by kernel_rfl,by kernel_rfl⟩ (by kernel_rfl) (by kernel_rfl) (by kernel_rfl)⟩
#print axioms PySem.Challenge.cw_wishlots_k51_texts_and_refusals_holds
