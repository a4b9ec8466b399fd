import PyProof.Rows.All
import Wide.All
import OpenK.AllK
import Wide.FinOn
import Lean
import PyProof.EqAt
import PyProof.EqKinds
import PyProof.TupleCall
import PySem.Challenge.RW_wishlots_k51_texts_and_refusals
open PySem renaming wpAny_bind->bM,wpAny_pure->bO,Value->bQ,Shared->bS,Addr->bV,wpAny_ite_false->b7,Program->cg,World->cC,starEach->cD,Around->cO,wpAny_holding->cR,Paired->cT,boot_len->cU,wpAny_call_entry->df,wpAny_setState_of->dg,wpAny_callSpecial?_slot->dA,wpAny_field->dN,wpAny_isInstance->dQ,codeAny_builtin->dS,wpAny_truthy_bool->dU,wpAny_setField_rec->dY,mem_of_lookup->dZ,wpAny_newObj_type->d5,wpAny_Call_Name_kw->d9,mainGlobals->eF,wpAny_mono->eO,wpAny_of_eq->eR,wpAny_askSetting->eV,wpAny_seqItems->fi,wpAny_specialOf->fH,wpAny_typeNameOfWhole_itemiter->fJ,wpAny_setField->fN,wpAny_execs_nil->fS,call_meets->fV,wpAny_attempt->gb,wpAny_call->gh,wpAny_passesOwn->gv,codeAny_mono->gP,wpAny_typeOf->gS,NameKind->gX,wpAny_pyIter_list->hO,PyData->il,codeAny_call_builtin->im,wpAny_rule->iq,wpAny_fieldsOf->ir,wpAny_ite_true->iu,wpAny_newTuple->iw,wpAny_execs_cons->iy,wpAny_newList->iJ,wpAny_pyIter_slot->i0,wpAny_isOneOf_itemiter->i4,isSubtype_tuple_tuple->jb,plainId_quiet->jg,wpAny_runValue->jI,entryFor_alias->jL,isSubtype_stop->jM,wpAny_tupleItemsOf->jN,slot_list_getitem->j0,wpAny_letGo->j4,wpAny_dictEntries->j5,wpAny_getItem_list_slice->j9,wpAny_comprehension_free->kb,wpAny_handled->kj,noFill_tuple_add->kA,wpAny_Call_method0_late->kC,sizeOk_excFields->kJ,wpAny_pyIter_zip->kK,wpAny_forIn_list->kM,Within->kW,pushCells_keeps->lr,codeAny_of_tree->lA,wpAny_dictEpoch->lB,wpAny_isTrue_Compare1->lC,weight_type_call_type->lH,builtinLookup_eq_fast->lI,sizeLine_eq->lR,seqIndex_of->lT,wpAny_throw->lZ,wpAny_updateSeq_pair->l3,evalArgs_none->mc,wpAny_standAt->mm,seq_tuple_add->mn,evalPart_none->mq,wpAny_onRaise->mx,wpAny_pyIter_tuple->mG,typeIs_str->mI,wpAny_pyHash_tuple->mV,wpAny_eqBool_tuple->mW,wpAny_assign_Name->m4,wpAny_Assign_Name->m5,concat_meets->nc,seqIndex_neg->ng,list_append->nh,wpAny_loadPart_at->nt,wpAny_pyIter_enum->nC,wpAny_storeSet_of->nD,wpAny_Call_method->nK,wpAny_pyHash_str->nN,wpAny_eqBool_int->nO,wpAny_eqBool_str->nP,check_set_init_1->n7,wpAny_Dict_empty->oa,wpAny_alloc->oj,call_tuple_list->oo,typeLookup_type->oy,wpAny_Name->oI,wpAny_Expr_any->oJ,wpAny_loadPart->oK,call->oO,isSubtype_type->oY,evalPart_some->pM,call_list_seq->pO,signature?_of->pV,strKind->pY,sub_set_self->qq,call_meetsIn->qt
open PySem.W renaming Frag->bN,boot_drawn->dE,mroIn->d6,mg_none_of->eI,findIn->eP,emptyDict->eZ,kitOne->fe,fnOf->fD,instObj->fR,kia_one->fW,hideAll_get->fY,excIn->f8,Looks->f9,callWith_K->gQ,kia_tup->gY,methodCall_KW->g9,looks_findIn->ic,keepIn->ie,boot_heap->iS,plainGet->jc,plainGet_of->jt,looks_mroIn->ju,mg_of->jw,piece_app->jz,lookIn->jA,methodObj->jX,hasDictIn->jY,cellsFrom_some->kX,hideAll->lm,takerIn->ln,codeIn->lS,kitCls->lV,of_hideAll->mE,kitx_tuple->mL,isFn->m6,plainOver->m7,kitx_none->nk,kitx_bool->nl,kitx_list->nq,handedIn->nQ,kitx_int->nU,kitx_str->nV,makesIn->on,typeIn->oM,kitAny->oS,clsIn->pP,boot_toks->qd
open List renaming length_map->bP,getD_eq_getElem?_getD->bR,getElem?_eq_getElem->bT,mem_singleton->bY,getElem?_map->bZ,mem_cons_self->b0,mem_cons_of_mem->b3,getElem?_eq_some_iff->b8,map_append->cb,size_toArray->cc,length_take->cf,mem_cons->cj,getElem_mem->cm,range->cp,length_append->cr,take_add_one->cv,mem_of_getElem?->cz,take_length->cI,mem_append->cN,mem_map->cP,length_cons->cZ,mem_append_right->dc,all_eq_true->de,map_cons->dh,lookup_cons->dj,mem_range->dq,mem_filter->dw,getElem?_range->dy,take_of_length_le->dz,length_singleton->dB,length_filter_le->dC,forIn_cons->dD,mem_of_mem_take->dO,length_drop->dP,mem_iff_getElem->dW,take_zero->dX,getElem?_append_right->d3,pairwise_cons->el,append_nil->eo,nodup_cons->er,length_range->eJ,sum_cons->eS,cons_ne_nil->eX,map_congr_left->eY,replicate->fC,perm_ext_iff_of_nodup->fE,filterMap_cons->fF,range_succ->fG,getElem?_eq_none->fI,idxOf_lt_length_iff->fK,forIn_nil->fM,mem_of_mem_drop->fO,nodup_append->fP,filter_congr->fQ,length_set->fU,mem_filterMap->gg,filter_append->gp,length_replicate->gq,cons_lt_cons_iff->gr,getElem?_append_left->gt,mem_append_left->gw,lookup->gx,getElem?_take_of_lt->gA,any_cons->gB,not_mem_nil->gG,nodup_nil->gI,eq_nil_of_length_eq_zero->gM,take_append_of_le_length->gN,getElem_idxOf->gV,getElem?_set_ne->ia,map_map->iA,any_eq_true->iB,length_reverse->iF,length->iN,length_eq_zero_iff->iP,getElem?_set_self->iT,pairwise_map->iX,not_of_lt_findIdx->i6,eraseIdxIfInBounds_toArray->i8,getElem?_toArray->ja,mem_reverse->jd,length_dropLast->jh,dropLast_concat_getLast->jo,countP_eq_length_filter->jr,find?_cons->js,getElem?_zip_eq_some->jS,pairwise_iff_getElem->jV,mem_or_eq_of_mem_set->jW,range'->j3,map_take->kf,map_drop->kg,length_erase_of_mem->km,mem_of_mem_eraseIdx->kr,ext_getElem->kF,range'_succ->kI,length_eraseIdx_le->kR,pairwise_lt_range->k6,map_set->lg,of_mem_zip->lp,length_nil->lx,take_append_drop->lE,findSome?_append->lG,getElem?_zipWith->lK,mem_iff_getElem?->lN,mem_erase_of_ne->l4,replicate_succ->mh,Pairwise->mr,count_eq_zero->mP,mem_replicate->mQ,map_singleton->mZ,append_assoc->nF,foldl_append->nG,getElem?_inj->nJ,reverse_cons->nL,perm_middle->nW,filter_cons->nY,cons_append->n8,nodup_range->n9,mem_flatMap->oh,nil_append->ox,mem_range'->oA,filterMap->oV,drop_zero->o4,all_cons->pN,findIdx?->pT,Perm->qb,zipWith->qg,all_map->qx,filter->qJ
open PySem.Heap renaming get?_push_of_some->bU,get?_push_size->b4,lt_size->b6,get?_update_self->dR,get?_update_other->ea,SameBut->eT,size_push->fL,get?_update_ne->iD,push->kH,FlyingW->kY,SetOf->lb,size_update->nX,ExtBut->qK
open PySem.Challenge renaming pw_wishlots_k51_texts_and_refusals->bW,rw_wishlots_k51_texts_and_refusals->eK
open Nat renaming le_refl->bX,lt_of_lt_of_le->ci,le_of_lt->cx,ne_of_lt->cF,le_trans->cG,lt_irrefl->cJ,zero_le->cM,lt_succ_of_lt->cS,lt_succ_self->cV,le_succ->dJ,pow_le_pow_right->dM,lt_of_le_of_lt->ec,lt_succ_iff_lt_or_eq->ff,not_lt_zero->fX,le_add_right->gf,lt_of_succ_lt->gz,succ_le_succ->gE,ne_of_gt->gO,sub_self->gT,le_succ_of_le->hU,le_of_not_lt->kD,le_mul_of_pos_right->kE,add_assoc->mw,lt_of_le_of_ne->mX,le_of_eq->m9,lt_trichotomy->nB,zero_add->nH,log2_lt->ol,min_eq_left->oD,pow_succ->qj,sub_zero->qr,lt_trans->qu,mul_one->qI
open PySem.Value renaming ref->b5,type->cX,int->dn,bool->dH,str->g7,builtin->jf,bytes->qC,float->qD
open PySem.Str renaming ofString->b9,empty->fu,length->jB,join->jR
open PySem.F renaming plainAttrs_list->cu,slot_list_append->cK,type_list_append->cL,slot_dict_itemiterator_next->d7,called_set->ej,slot_tuple_iterator_next->gn,plainAttrs_str->gW,plain_extend_loop->iG,args_tuple_add_2->iH,slot_tuple_index->iL,entry_tuple_add->iO,slot_tuple_add->iV,slot_tuple_hash->i3,args_dict_itemiterator_next_1->i9,entry_dict_itemiterator_next->je,slot_dict_itemiterator_iter->jj,args_tuple_iterator_next_1->jp,slot_tuple_eq->jq,entry_tuple_iterator_next->jy,excAttr_ValueError->jH,args_tuple_index_2->jO,args_str_split_2->jP,entry_tuple_index->jU,entry_str_split->j6,slot_list_remove->kq,slot_list_insert->kt,type_list_insert->ku,plainAttrs_dict->kN,slot_dict_items->kO,slot_str_split->kQ,slot_list_count->kS,type_list_count->kT,slot_dict_items_iter->k9,type_str_split->lj,entry_proto_collect->lF,slot_dict_get->lL,args_list_append_2->lU,sub_list_frozenset->lY,slot_set_len->l5,entry_list_append->md,entry_extend_loop->mj,entry_list_iadd->nv,entry_type_call->nE,entry_list_pop->nS,typeCall_set_1->nZ,entry_set_init->n5,slot_list_pop->oq,plain_set_new->ow,slot_set_iter->oz,slot_zip_next->oB,sub_list_set->oX
open Bool renaming false_ne_true->cA,and_eq_true->cH,false_eq_true->fq,eq_iff_iff->fT,not_true->gC,false_and->iU,or_eq_true_iff->jv,and_false->jC,or_false->j8,and_eq_true_iff->l8,not_eq_true'->nj,eq_false_iff->nu,not_false->o3,and_self->pQ,false_or->pU,true_and->pZ
open Int renaming emod_lt_of_pos->cQ,mul_ne_zero->cW,emod_nonneg->cY,zero_add->d2,le_of_lt->ef,gcd_pos_of_ne_zero_right->eA,le_refl->eH,mul_le_mul_of_nonneg_right->eU,toNat_natCast->e9,mul_right_comm->fk,mul_comm->f3,mul_lt_mul_of_pos_right->f5,add_zero->f6,mul_zero->f7,sign_eq_neg_one_of_neg->gi,eq_of_mul_eq_mul_right->gj,lt_of_mul_lt_mul_right->gm,add_mul->gy,ofNat->gH,mul_one->gL,sign_eq_one_of_pos->gR,fdiv_eq_ediv_of_nonneg->ij,mul_pos->ip,natAbs_natCast->iM,mul_add->iQ,mul_nonneg->iY,mul_le_mul->iZ,sub_mul->ji,one_mul->jk,zero_mul->jx,natAbs_mul->jE,ediv_eq_of_eq_mul_left->jF,lt_or_gt_of_ne->jG,natAbs_dvd_natAbs->lD,mul_fdiv_cancel->mf,add_assoc->mv,sub_eq_add_neg->mU,gcd_comm->nr,mul_eq_zero->ou,natCast_pos->oF,mul_assoc->pS,le_trans->qo,sub_zero->qp,add_comm->qw,not_lt->rh,natAbs->ri,toNat->rz
open Classical renaming byContradiction->da
open PySem.PassesOwn renaming never->db,leaving->rn
open PySem.Obj renaming mapSeq->dr,putSet->mR,data_mapFields->mT,mapFields->pW,data->rC
open PySem.Builtin.SmallTypes renaming nextOf->dt,nextOrEnd->eB,ownedTupleIsFree->fj,ownedTupleHandOut->mi,stopIteration->nI,newRecord->oC,newClass->oH,iterAll->oZ
open PyProof.Rows renaming callWith_type1->du,callWith_builtin1->gD,listUpdate_at->g8,subscriptTail_builtinR->iW,isStrOf->jl,size_push'->kZ,entry_list_sort->ly,boot_zip->lJ,slot_list_sort->lW,args_list_sort->lX,plain_sorted->nw,entry_sorted->ny,args_sorted1->nA,slot_str_getitem->nR,kind_sorted->om,boot_enumerate->oG,Subscript_->oN,list_sort_tree->oR,sortedAll_old->pR,tupleItemsOf_->pX,isTrue_plain->qe,floordiv_int->qf,listItems_at->ql,sortedAll_at->qm,tail_any->qE,Call_->rk
open Array renaming length_toList->dG,getElem?_eq_getElem->d8,getElem?_toList->fb,getElem?_eq_none->f4,forIn_toList->gU,getElem?_eq_some_iff->jQ,append_assoc->mF,toList->m3,ext'->oP
open False renaming elim->dI
open PySem.NameKind renaming free->dL,cell->fB
open PySem.Heap.SameBut renaming update->d0,refl->rm
open PySem.PyData renaming str->d4,eqv->eh,eqvAll->gc,canLay0->io,depth->iz,canLayAll0->j1,depthAll->lz
open PySem.SeqAt renaming shaped->eg,EqAt->rd
open PySem.Calls renaming spliced_cons->eQ,callWith_builtin->fZ,call_function_entry->gu,Name_function_global->ib,evalArgs_plain->ig,spliced_nil->jZ,loadGlobal_global->kz
open PySem.SetTable renaming fresh->fh,insertAt->hV,grown->jJ,insertAt_perm->k7,below->oU
open PySem.Around renaming under_plainId->fw,under_plain->mS,under->na
open PyProof.Rows.F renaming plain_set_update_loop->fz,entry_set_update_loop->gJ
open PySem.Builtin.List renaming listExtendWith->fA,listLengthHint->h9,listTooLong->iI,listFitsIndex->jD,listSameRef->kl,listTouch->k8
open PySem.Txt renaming slice->gd,mul->i7,join->kP,find->qM
open PySem.Code renaming quiet_builtin->gl
open PySem.IsL renaming update->gF
open PySem.Heap.IsTupleIter renaming typeIs->gK
open PySem.Builtin.Dict_items renaming ownsTuple->gZ,ownedTupleFields->iK,pairFromOwner->i5,ownedTupleIsFree->my,newIterator->og,dictOf->pr
open PySem.Data renaming seq->ii,fields->lP
open List.Perm renaming refl->ik,eq_of_pairwise->kd,append_left->qA,length_eq->q8,nodup_iff->q9,mem_iff->rl
open Std.Legacy.Range renaming forIn_eq_forIn_range'->ix,size->lM
open PySem.Builtin.Tuple renaming tupleHashOf->iC,tupleItemsOf->o0
open PySem.Builtin.Str renaming strKind->iE,occurrences->iR,partsBetween->ko
open ForInStep renaming yield->jm
open PySem.Builtin.Frozenset renaming updateFrom->jn,isAnySet->jK,sizeOf->ki,newClass->oW,slot0->qc
open PySem.Manifest renaming sig_set_iterator->jT
open List.Pairwise renaming imp->j2,imp_of_mem->p7,filter->qO
open Option renaming isSome_iff_exists->j7,getD_none->kB,isSome_some->mK,bind_some->nT,map_some->oE
open PyProof renaming noPylong_of_log2->kc
open PySem.Shared renaming TypeIs->kh
open PySem.Builtin.Getset_descriptor renaming descrCheckInstance->kG,descrNameAndClass->kU,descrGetter->ma,descrGet->mO
open PySem.AutoSeq1 renaming list_insert_list_int_val_1->lu
open PySem.StrLaws renaming glued_eq_join->lO,join_split->mY
open PySem.Builtin.Int renaming intBits->me
open PySem.Paired renaming length->ml
open PySem.SeqAt.EqAt renaming int_str->mz,str_int->mC,none_bool->qF,bool_none->qG,bool_bool->qH,none_int->qQ,none_str->qS,bool_int->qT,bool_str->qV,int_none->qX,int_bool->qY,str_none->qZ,str_bool->q4,int_int->re,str_str->rf,same->rA
open PySem.Heap.IsSliceOf renaming new->mH
open PySem.W.KF renaming slot_gs->mM,owner_class->qh,entry_class->qi,type_class->qy,entry_gs->q5,args_gs->rj
open Nat.Coprime renaming dvd_of_dvd_mul_left->nM
open Std.Legacy renaming Range->oi
open PySem.Walks renaming list->oQ,toS->rr
open List.Nodup renaming erase_eq_filter->o5
open PySem.EqNone renaming eq_none_none->o6,eq_none_bool->o7,eq_bool_none->o8,ne_none_none->pc,ne_none_bool->ph,ne_bool_none->pi,eq_none_int->pz,eq_none_str->pA,eq_int_none->pB,eq_str_none->pD,ne_none_int->pF,ne_none_str->pG,ne_int_none->pH,ne_str_none->pJ
open PySem.EqMixed renaming eq_bool_str->o9,eq_str_bool->pb,ne_bool_str->pj,ne_str_bool->pq,eq_int_str->pC,eq_str_int->pE,ne_int_str->pI,ne_str_int->pK
open PySem.W.OpenLaw renaming wellSaid->pu
open PySem.Builtin.Range renaming rangeSize->p9
open PyProof.Rows.IsTup renaming new->qa
open PySem.setAddHashedIn renaming eq_def->qz
open PySem.Builtin.Dict renaming showsAll->qB,noArgs->rb
open PySem.Fin renaming done->qL
open PySem.W.Looks renaming here->rc
open PySem.W.WShape renaming has->rg
open PySem.DictEntry renaming refKey->ro
open PySem.W.WData renaming int->rq
open PySem.Heap.DictOf renaming new->rB
open PySem.pickOrder renaming go->rD
set_option Elab.async false
set_option maxRecDepth 100000 in
set_option maxHeartbeats 0 in
theorem CA:pu eK=true:=by kernel_rfl
set_option Elab.async false
set_option linter.all false
set_option maxRecDepth 100000
namespace RG
end RG
namespace L2
open PySem PySem.Spec PyProof.Rows
abbrev G6:=Sum Int Str
def Mh:G6->bQ->Bool
 | .inl k,v=>Value.isInt k v
 | .inr x,v=>Value.isStrOf x v
def Of(w:cC):G6->Int
 | .inl k=>hashInt k
 | .inr x=>hashStr w x
theorem sL:∀{k:G6} {v:bQ},Mh k v=true->(∃i t,k=Sum.inl i/\v=dn i t)\/(∃x t,k=Sum.inr x/\v=g7 x t)
 | .inl i,v,h=>by
  obtain⟨t,e⟩:=Value.isInt_shape (k:=i) (v:=v) h
  exact .inl ⟨i,t,rfl,e⟩
 | .inr x,v,h=>by
  obtain⟨t,e⟩:=Value.isStrOf_shape (x:=x) (v:=v) h
  exact .inr ⟨x,t,rfl,e⟩
theorem EK(a b:Int):decide ((Sum.inl a:G6)=Sum.inl b)=(a==b):=by
 by_cases e:a=b
 ·subst e;simp
 ·have h:¬(Sum.inl a:G6)=Sum.inl b:=λq=>e (Sum.inl.inj q);rw[decide_eq_false h];exact(beq_eq_false_iff_ne.mpr e).symm
theorem Ew(a b:Str):decide ((Sum.inr a:G6)=Sum.inr b)=decide (a=b):=by
 by_cases e:a=b
 ·subst e;simp
 ·have h:¬(Sum.inr a:G6)=Sum.inr b:=λq=>e (Sum.inr.inj q);rw[decide_eq_false h,decide_eq_false e]
theorem EC(a:Int)(b:Str):decide ((Sum.inl a:G6)=Sum.inr b)=false:=decide_eq_false (λq=>nomatch q)
theorem ES(a:Str)(b:Int):decide ((Sum.inr a:G6)=Sum.inl b)=false:=decide_eq_false (λq=>nomatch q)
def Io(prog:cg)(w:cC):PySem.KeyKind prog w G6 where
 is:=Mh
 hash:=Of w
 inj:=λv a b ha hb=>by
  rcases sL ha with⟨i,t,rfl,rfl⟩|⟨x,t,rfl,rfl⟩
  ·rcases sL hb with⟨j,u,rfl,e⟩|⟨y,u,rfl,e⟩
   ·injection e with e1 _;rw[e1]
   ·exact nomatch e
  ·rcases sL hb with⟨j,u,rfl,e⟩|⟨y,u,rfl,e⟩
   ·exact nomatch e
   ·injection e with e1 _;rw[e1]
 byValue:=λk v h=>by
  rcases sL h with⟨i,t,rfl,rfl⟩|⟨x,t,rfl,rfl⟩ <;> rfl
 pyHash:=λhv h=>by
  rcases sL hv with⟨i,t,rfl,rfl⟩|⟨x,t,rfl,rfl⟩
  ·exact wpAny_pyHash_int h
  ·exact nN h
 eqBool:=λhu hv h=>by
  rcases sL hu with⟨i,t,rfl,rfl⟩|⟨x,t,rfl,rfl⟩
  ·rcases sL hv with⟨j,u,rfl,rfl⟩|⟨y,u,rfl,rfl⟩
   ·rw[EK]at h;exact nO h
   ·rw[EC]at h;exact mz i t y u _ _ _ _ h
  ·rcases sL hv with⟨j,u,rfl,rfl⟩|⟨y,u,rfl,rfl⟩
   ·rw[ES]at h;exact mC x t j u _ _ _ _ h
   ·rw[Ew]at h;exact nP h
 «strs»:=λk x t v h=>by
  rcases sL h with⟨i,u,rfl,e⟩|⟨y,u,rfl,e⟩
  ·exact nomatch e
  ·injection e with e1 _
   subst e1
   cases v <;> rfl
inductive V where
 | non|bl (b:Bool)|int (i:Int)|str (x:Str)|byt (b:Array UInt8)|flt (b:UInt64)|ref (a:bV)|ty (n:String)
 deriving DecidableEq
def RelV:V->bQ->Prop
 | .non,u=>u=bQ.none
 | .bl b,u=>u=dH b
 | .int i,u=>∃t,u=dn i t
 | .str x,u=>∃t,u=g7 x t
 | .byt b,u=>∃t,u=qC b t
 | .flt b,u=>∃t,u=qD b t
 | .ref a,u=>u=b5 a
 | .ty n,u=>u=cX n
abbrev Vals:List V->List bQ->Prop:=cT RelV
theorem Vals.length{xs:List V}{us:List bQ}(r:Vals xs us):xs.length=us.length:=ml r
theorem Vals.get:∀{xs:List V} {us:List bQ} {i:Nat} {x:V},Vals xs us->xs[i]?=some x->∃u,us[i]?=some u/\RelV x u
 | _,_,_,_,.nil,e=>by simp at e
 | _,_,0,_,.cons r _,e=>by simp at e;subst e;exact⟨_,rfl,r⟩
 | _,_,i+1,x,.cons _ t,e=>by
  obtain⟨u,h1,h2⟩:=Vals.get (i:=i) (x:=x) t (by simpa using e)
  exact⟨u,by simpa using h1,h2⟩
theorem Vals.set{x:V}{u:bQ}(r:RelV x u):∀{xs:List V} {us:List bQ} (i:Nat),Vals xs us->Vals (xs.set i x) (us.set i u)
 | _,_,_,.nil=> .nil
 | _,_,0,.cons _ t=> .cons r t
 | _,_,i+1,.cons q t=> .cons q (Vals.set r i t)
theorem Vals.append:∀{xs ys:List V} {us ws:List bQ},Vals xs us->Vals ys ws->Vals (xs++ys) (us++ws)
 | _,_,_,_,.nil,s=>s
 | _,_,_,_,.cons r t,s=> .cons r (Vals.append t s)
theorem Vals.take:∀{xs:List V} {us:List bQ} (n:Nat),Vals xs us->Vals (xs.take n) (us.take n)
 | _,_,0,_=> .nil
 | _,_,_+1,.nil=> .nil
 | _,_,n+1,.cons r t=> .cons r (Vals.take n t)
theorem Vals.drop:∀{xs:List V} {us:List bQ} (n:Nat),Vals xs us->Vals (xs.drop n) (us.drop n)
 | _,_,0,r=>r
 | _,_,_+1,.nil=> .nil
 | _,_,n+1,.cons _ t=>Vals.drop n t
def RelO:Option V->Option bQ->Prop
 | some v,some u=>RelV v u
 | none,none=>True
 | _,_=>False
def KV{κ:Type}:List (κ×V)->List (κ×bQ)->Prop:=cT λ(p:κ×V) (q:κ×bQ)=>p.1=q.1/\RelV p.2 q.2
def kV:G6->V
 | .inl i=> .int i
 | .inr x=> .str x
inductive HO where
 | lst (xs:List V)
 | tup (xs:List V)
 | dK (kvs:List (G6×V))|dT (kvs:List (List G6×V))
 | set (S:Int->Bool) (n:Nat)
 | ins (C dx:bV) (fs:List (Str×V))
 | own (x:bV)
 | xd (fs:List (Str×V))
 | met (f x:bV)
 | rng (lo hi:Int)
 | frz (o:Obj) (u:HO)
 | tbl (ps:Array bQ)
 | ext (φ:Heap->Prop)
abbrev Hp:=bV->Option HO
def upd(H:Hp)(a:bV)(o:HO):Hp:=λb=>if b=a then some o else H b
theorem rE{H:Hp}{a:bV}{o:HO}:upd H a o a=some o:=by unfold upd;rw[if_pos rfl]
theorem rQ{H:Hp}{a b:bV}{o:HO}(h:b≠a):upd H a o b=H b:=by unfold upd;rw[if_neg h]
theorem uk{H:Hp}{a b:bV}{o u:HO}(h:H a=some o)(h':H b=some u)(d:o≠u):a≠b:=by
 intro e;subst e;rw[h]at h';exact d (Option.some.inj h')
theorem sd{H:Hp}{a b:bV}{o:HO}(h:H a=some o)(h':H b=none):a≠b:=by
 intro e;subst e;rw[h]at h';cases h'
section
variable(P:cg)(w:cC)
def ObjOk(H:Hp)(h:Heap)(a:bV):HO->Prop
 | .lst xs=>xs.length<=sizeLine/\∃(its:List bQ) (n:Nat),Vals xs its/\h.get? a=some {cls:= .type "list",data:= .seq its.toArray n}
 | .tup xs=>xs.length<=sizeLine/\∃its:List bQ,Vals xs its/\IsTup h a its.toArray
 | .dK kvs=>kvs.length<=sizeLine/\(a==sysModules)=false/\∃vs,KV kvs vs/\h.DictOf (Io P w) a vs
 | .dT kvs=>kvs.length<=sizeLine/\(a==sysModules)=false/\∃xs:List (List G6×bV×bQ),
   cT (λ(p:List G6×V) (q:List G6×bV×bQ)=>p.1=q.1/\H q.2.1=some (.tup (p.1.map kV))/\RelV p.2 q.2.2) kvs xs/\
   ∃o es ep,h.get? a=some o/\o.ExactDict/\o.data = .dict es ep/\es.toList=xs.map (entryOfKey (tupleKind (Io P w)))/\(xs.map (·.1)).Nodup
 | .set S n=>h.SetOf (intKind P w) a S n
 | .ins C dx fs=>H dx=some (.own a)/\fs.length<=1000/\dx≠a/\h.get? a=some (fR C dx)/\
   ∃mA,h.Ns1 dx mA/\(∀f,RelO (fs.lookup f) (mA f))/\kW mA (fs.map (·.1))
 | .own _=>∃o,h.get? a=some o
 | .xd fs=>∃mA,h.Ns1 a mA/\∀f,RelO (fs.lookup f) (mA f)
 | .rng lo hi=>∃t u v,h.get? a=some {cls:= .type "range",data:= .fields #[.int lo t,.int hi u,.int 1 v]}
 | .frz o u=>h.get? a=some o/\ObjOk H h a u
 | .tbl ps=>h.get? a=some {cls:= .none,data:= .fields ps}
 | .met f x=>h.get? a=some (jX (.ref f) (.ref x))
 | .ext φ=>φ h/\(∃o,h.get? a=some o)/\∀h1 h2:Heap,φ h1->(∀o,h1.get? a=some o->h2.get? a=some o)->φ h2
def HOk(H:Hp)(h:Heap):Prop:=∀a o,H a=some o->ObjOk P w H h a o
end
section
variable{P:cg}{w:cC}{H H':Hp}{h h':Heap}{a:bV}{o:HO}
theorem ObjOk.lt(x:ObjOk P w H h a o):a<h.objs.size:=by
 cases o with
 | lst c=>obtain⟨_,_,_,_,e⟩:=x;exact b6 e
 | tup c=>obtain⟨_,_,_,p⟩:=x;exact p.lt
 | dK b=>obtain⟨_,_,_,_,o,_,_,e,_⟩:=x;exact b6 e
 | dT b=>obtain⟨_,_,_,_,o,_,_,e,_⟩:=x;exact b6 e
 | set S n=>obtain⟨o,_,_,_,e,_⟩:=x;exact b6 e
 | ins C l d=>obtain⟨_,_,_,e,_⟩:=x;exact b6 e
 | own y=>obtain⟨_,e⟩:=x;exact b6 e
 | xd d=>obtain⟨_,⟨_,_,_,e,_⟩,_⟩:=x;exact b6 e
 | rng lo m=>obtain⟨_,_,_,e⟩:=x;exact b6 e
 | frz g u=>obtain⟨e,_⟩:=x;exact b6 e
 | tbl j=>exact b6 (show h.get? a=some _ from x)
 | met f y=>exact b6 (show h.get? a=some _ from x)
 | ext k=>obtain⟨_,⟨_,e⟩,_⟩:=x;exact b6 e
theorem Paired.mapP{α β:Type}{F G:α->β->Prop}:∀{l₁:List α} {l₂:List β},cT F l₁ l₂->(∀a b,F a b->G a b)->cT G l₁ l₂
 | _,_,.nil,_=> .nil
 | _,_,.cons r t,f=> .cons (f _ _ r) (Paired.mapP t f)
theorem ObjOk.stay(x:ObjOk P w H h a o)(k:∀b u,(b=a\/H b=some (.own a))->h.get? b=some u->h'.get? b=some u)
  (ho:∀b,H b=some (.own a)->H' b=some (.own a))(ht:∀b xs,H b=some (.tup xs)->H' b=some (.tup xs)):ObjOk P w H' h' a o:=by
 induction o with
 | lst xs=>obtain⟨z,m,n,r,e⟩:=x;exact⟨z,m,n,r,k _ _ (.inl rfl) e⟩
 | tup xs=>obtain⟨z,m,r,g,e,c⟩:=x;exact⟨z,m,r,g,k _ _ (.inl rfl) e,c⟩
 | dK B=>obtain⟨z,y,vs,r,g,j,l,e,c⟩:=x;exact⟨z,y,vs,r,g,j,l,k _ _ (.inl rfl) e,c⟩
 | dT B=>
  obtain⟨z,y,xs,r,g,j,l,e,c⟩:=x
  exact⟨z,y,xs,Paired.mapP r λp q z=>⟨z.1,ht _ _ z.2.1,z.2.2⟩,g,j,l,k _ _ (.inl rfl) e,c⟩
 | set S n=>obtain⟨g,j,l,t,e,c⟩:=x;exact⟨g,j,l,t,k _ _ (.inl rfl) e,c⟩
 | ins C L I=>
  obtain⟨d,z,F,e,A,⟨s,j,l,E,c⟩,r⟩:=x
  exact⟨ho _ d,z,F,k _ _ (.inl rfl) e,A,⟨s,j,l,k _ _ (.inr d) E,c⟩,r⟩
 | own y=>obtain⟨g,e⟩:=x;exact⟨g,k _ _ (.inl rfl) e⟩
 | xd I=>obtain⟨A,⟨s,j,l,e,c⟩,r⟩:=x;exact⟨A,⟨s,j,l,k _ _ (.inl rfl) e,c⟩,r⟩
 | rng lo M=>obtain⟨t,u,v,e⟩:=x;exact⟨t,u,v,k _ _ (.inl rfl) e⟩
 | frz g u G=>obtain⟨e,q⟩:=x;exact⟨k _ _ (.inl rfl) e,G q⟩
 | tbl D=>
  have e:h.get? a=some {cls:= .none,data:= .fields D}:=x
  show h'.get? a=some {cls:= .none,data:= .fields D}
  exact k a _ (.inl rfl) e
 | met f y=>
  have e:h.get? a=some (jX (.ref f) (.ref y)):=x
  show h'.get? a=some (jX (.ref f) (.ref y))
  exact k a _ (.inl rfl) e
 | ext J=>obtain⟨p,⟨o,e⟩,st⟩:=x;exact⟨st _ _ p λo q=>k _ _ (.inl rfl) q,⟨o,k _ _ (.inl rfl) e⟩,st⟩
theorem HOk.lt(x:HOk P w H h)(e:H a=some o):a<h.objs.size:=(x a o e).lt
theorem HOk.fresh(x:HOk P w H h)(e:h.objs.size<=a):H a=none:=by
 cases q:H a with
 | none=>rfl
 | some u=>exact absurd (ci (x.lt q) e) (cJ _)
theorem HOk.kept(x:HOk P w H h)(k:∀b u,h.get? b=some u->h'.get? b=some u):HOk P w H h':=λa o e=>
 (x a o e).stay (λb u _ q=>k b u q) (λ_ q=>q) λ_ _ q=>q
theorem HOk.laid(x:HOk P w H h)(k:∀b u,h.get? b=some u->h'.get? b=some u)(hp:h.objs.size<=a)(new:ObjOk P w (upd H a o) h' a o):HOk P w (upd H a o) h':=λb u e=>by
 have d:=x.fresh hp;by_cases f:b=a
 ·subst f;rw[rE]at e;cases e;exact new
 ·rw[rQ f]at e;exact(x b u e).stay (λc v _ q=>k c v q) (λc q=>by rw[rQ (sd q d)];exact q) λc g q=>by rw[rQ (sd q d)];exact q
end
def Rd(H:Hp)(a:bV)(u:HO):Prop:=H a=some u\/∃o,H a=some (.frz o u)
theorem Rd.ok{P:cg}{w:cC}{H:Hp}{h:Heap}{a:bV}{u:HO}(r:Rd H a u)(x:HOk P w H h):ObjOk P w H h a u:=by
 rcases r with r|⟨o,r⟩
 ·exact x a u r
 ·obtain⟨_,q⟩:=x a _ r;exact q
def NJ:Option HO->Prop
 | some (.lst _)=>True
 | some (.dK _)=>True
 | some (.dT _)=>True
 | some (.set _ _)=>True
 | some (.ins _ _ _)=>True
 | some (.ext _)=>True
 | _=>False
section
variable{P:cg}{w:cC}{H:Hp}{h h':Heap}{x e:bV}{o':HO}
theorem HOk.write(ok:HOk P w H h)(mu:NJ (H x))(he:e=x\/H e=some (.own x))(k:∀b u,b≠e->h.get? b=some u->h'.get? b=some u)(heo:∃u,h'.get? e=some u)
  (new:ObjOk P w (upd H x o') h' x o'):HOk P w (upd H x o') h':=λb u q=>by
 have d:∀c y,H c=some (.own y)->c≠x:=λc y r z=>by subst z;rw[r]at mu;exact mu
 have l:∀c g,H c=some (.tup g)->c≠x:=λc g r z=>by subst z;rw[r]at mu;exact mu
 by_cases j:b=x
 ·subst j;rw[rE]at q;cases q;exact new
 ·rw[rQ j]at q
  by_cases a:b=e
  ·have m:H b=some (.own x):=by
    rcases he with z|z
    ·exact absurd (a.trans z) j
    ·rw[a];exact z
   rw[q]at m;cases m
   obtain⟨v,n⟩:=heo
   exact⟨v,by rw[a];exact n⟩
  ·refine(ok b u q).stay (λc v f r=>k c v ?_ r) (λc r=>by rw[rQ (d c b r)];exact r) λc g r=>by rw[rQ (l c g r)];exact r
   rcases f with rfl|f
   ·exact a
   ·rintro rfl
    rcases he with z|z
    ·exact d c b f z
    ·rw[f]at z;cases z;exact j rfl
end
structure Un(fs ex:List bV)(H H':Hp)(h h':Heap):Prop where
 keep:∀b o,h.get? b=some o->H b=none->b∉fs->b∉ex->h'.get? b=some o
 slot:∀b o,h.get? b=some o->H b=none->b∈fs->b∉ex->∃sl,h'.get? b=some {o with slots:=sl}
 free:∀b o,h.get? b=some o->H b=none->b∉ex->H' b=none
 there:∀b o,h.get? b=some o->b∉ex->∃o',h'.get? b=some o'
 tups:∀b xs,H b=some (.tup xs)->H' b=some (.tup xs)
 frzs:∀b o u,H b=some (.frz o u)->H' b=some (.frz o u)
 tbls:∀b ps,H b=some (.tbl ps)->∃more,H' b=some (.tbl (ps++more))
section
variable{fs fs' ex ex':List bV}{H H1 H2:Hp}{h h1 h2 h':Heap}{a x e:bV}{o:HO}
theorem Un.any(u:Un fs ex H H1 h h1){b:bV}{ob:Obj}(q:h.get? b=some ob)(n:H b=none)(hx:b∉ex):∃sl,h1.get? b=some {ob with slots:=sl}:=by
 by_cases a:b∈fs
 ·exact u.slot b ob q n a hx
 ·exact⟨ob.slots,u.keep b ob q n a hx⟩
theorem Un.kept(k:∀b u,h.get? b=some u->h'.get? b=some u):Un fs ex H H h h':=
 ⟨λb a q _ _ _=>k b a q,λb a q _ _ _=>⟨a.slots,k b a q⟩,λ_ _ _ n _=>n,λb a q _=>⟨a,k b a q⟩,λ_ _ q=>q,λ_ _ _ q=>q,λ_ c q=>⟨#[],by rw[q];simp⟩⟩
theorem Un.refl:Un fs ex H H h h:=Un.kept λ_ _ q=>q
theorem Un.laid(k:∀b u,h.get? b=some u->h'.get? b=some u)(hp:h.objs.size<=a)(hn:H a=none):Un fs ex H (upd H a o) h h' where
 keep:=λb u q _ _ _=>k b u q
 slot:=λb u q _ _ _=>⟨u.slots,k b u q⟩
 free:=λb u q n _=>by rw[rQ (cF (ci (b6 q) hp))];exact n
 there:=λb u q _=>⟨u,k b u q⟩
 tups:=λb c q=>by rw[rQ (sd q hn)];exact q
 frzs:=λb u c q=>by rw[rQ (sd q hn)];exact q
 tbls:=λb d q=>⟨#[],by rw[rQ (sd q hn),q];simp⟩
theorem Un.write(mu:NJ (H x))(he:e=x\/H e=some (.own x))(k:∀b u,b≠e->h.get? b=some u->h'.get? b=some u)(heo:∃u,h'.get? e=some u):Un fs ex H (upd H x o) h h':=by
 have f:∀b,H b=none->b≠x:=λb n z=>by subst z;rw[n]at mu;exact mu
 have d:∀b,H b=none->b≠e:=λb n z=>by
  subst z;rcases he with r|r
  ·exact f b n r
  ·rw[n]at r;cases r
 have c:∀b u,H b=some u->¬NJ (some u)->b≠x:=λb u q j z=>by subst z;rw[q]at mu;exact j mu
 refine⟨λb u q n _ _=>k b u (d b n) q,λb u q n _ _=>⟨u.slots,k b u (d b n) q⟩,λb u q n _=>by rw[rQ (f b n)];exact n,λb u q _=>?_,
  λb g q=>by rw[rQ (c b _ q λz=>z)];exact q,λb u g q=>by rw[rQ (c b _ q λz=>z)];exact q,λb l q=>⟨#[],by rw[rQ (c b _ q λz=>z),q];simp⟩⟩
 by_cases a:b=e
 ·subst a;exact heo
 ·exact⟨u,k b u a q⟩
end
def trk(h:Heap)(H:Hp):List bV:=(cp h.objs.size).filter λa=>(H a).isSome
def Jq(h:Heap)(H:Hp):Heap:=lm h (trk h H)
theorem A0(h:Heap)(H:Hp):(Jq h H).objs.size=h.objs.size:=PySem.W.hideAll_size _ _
theorem Db{h:Heap}{H:Hp}{b:bV}{o:Obj}(e:h.get? b=some o)(n:H b=none):(Jq h H).get? b=some o:=
 fY _ e λa=>by
  have q:(H b).isSome=true:=(dw.mp a).2
  rw[n]at q;simp at q
theorem D5{h:Heap}{H:Hp}{b:bV}{o:Obj}(e:(Jq h H).get? b=some o):h.get? b=some o/\H b=none:=by
 have a:h.get? b=some o:=mE (trk h H) e;refine⟨a,?_⟩
 cases q:H b with
 | none=>rfl
 | some x=>
  have c:b∈trk h H:=dw.mpr ⟨dq.mpr (b6 a),by simp[q]⟩;have z:(Jq h H).get? b=none:=PySem.W.hideAll_none (trk h H) c;rw[z]at e;cases e
def L1(g h:Heap)(L:bV):List (bV×Obj):=(cp h.objs.size).filterMap λa=>if a=L\/(g.get? a).isSome=true then none else(h.get? a).map λo=>(a,o)
def rest(g h:Heap)(L d:bV):List (bV×Obj):=(L1 g h L).filter λp=>decide (p.1≠d)
structure Mod(K:bN)(mg:Str->Option bQ)(base:Heap):Prop where
 kin:K.In base
 glob:base.Ns eF mg
 blt:∃mb,base.Ns builtinsNs mb/\∀x:Str,x≠"__name__"->mb x=bootBuiltins x
 nolimit:base.NoLimit
structure Cx where
 prog:cg
 w:cC
 K:bN
 mg:Str->Option bQ
 base:Heap
 A:cO
 N:List Str
 s₀:bS
 H₀:Hp
 env:Env
 outer:List Env
 stack:List Env
 ex:List bV
 fn:Str->Bool
 calm:Bool
 pn:List (bV×Obj)
 xe:bQ->bS->Prop
def Gy(l:List Env):List bV:=l.filterMap (·.frame)
abbrev Cx.fs(X:Cx):List bV:=Gy X.outer
def NG(sc:Scope)(x:Str):Prop:=sc.names.lookup x=some .local\/sc.names.lookup x=some .cell\/sc.names.lookup x=some .free
def Loc(sc:Scope)(x:Str):Prop:=sc.names.lookup x=some .local\/sc.names.lookup x=some .cell
def Oe(env:Env)(h:Heap)(m:Str->Option bQ)(x:Str)(u:bQ):Prop:=
 (env.kindOf x=some .local/\m x=some u)\/((env.kindOf x=some .cell\/env.kindOf x=some .free)/\∃c,env.cells.lookup x=some c/\h.IsCell c (some u))
structure Cx.Ok(X:Cx):Prop where
 mod:Mod X.K X.mg X.base
 kind:X.env.scope.kind = .function
 glob:X.env.globals=eF
 blt:X.env.builtins=builtinsNs
 above:X.s₀.heap.objs.size<=X.env.locals
 inj:∀x y c,X.env.cells.lookup x=some c->X.env.cells.lookup y=some c->x=y
 has:∀x,(X.env.kindOf x=some .cell\/X.env.kindOf x=some .free)->∃c,X.env.cells.lookup x=some c
 cab:∀x c,X.fn x=true->X.env.cells.lookup x=some c->X.s₀.heap.objs.size<=c
 hd:X.calm=true->X.A.handled=none
 frames:X.A.frames=some X.stack
 stk:X.stack=X.outer\/(X.stack=X.env::X.outer/\X.env.frame=some X.env.locals)
 exf:∀b∈X.ex,b≠X.env.locals/\∀x c,X.env.cells.lookup x=some c->c≠b
 bs:∀b o,X.base.get? b=some o->X.s₀.heap.get? b=some o/\X.H₀ b=none
 bsz:X.base.objs.size<=X.s₀.heap.objs.size
 noex:∀b o,X.base.get? b=some o->b∉X.ex
 exfs:∀b∈X.ex,b∉X.fs
 funs:X.s₀.heap.FunFrames X.base X.outer
 frf:∀b∈X.fs,X.H₀ b=none
structure Inv(X:Cx)(pins:List (bV×Obj))(σ:List (Option V))(H:Hp)(s:bS):Prop where
 ok:X.Ok
 os:s.os=X.s₀.os
 bare:AllBare s.gens
 base:Un X.fs X.ex X.H₀ H X.s₀.heap s.heap
 loc:∃m,s.heap.Ns X.env.locals m/\∀(i:Nat) (x:Str) (v:V),X.N[i]?=some x->σ[i]?=some (some v)->NG X.env.scope x->∃u,RelV v u/\Oe X.env s.heap m x u
 cell:∀x c,X.env.cells.lookup x=some c->∃v,s.heap.IsCell c v
 free:H X.env.locals=none
 freeC:∀x c,X.env.cells.lookup x=some c->H c=none
 pin:∀p∈X.pn++pins,s.heap.get? p.1=some p.2/\H p.1=none/\p.1≠X.env.locals/\p.1∉X.fs/\∀v,p.2.data≠ .cell v
 hok:HOk X.prog X.w H s.heap
 len:σ.length=X.N.length
section
variable{X:Cx}{pins:List (bV×Obj)}{σ:List (Option V)}{H H':Hp}{s:bS}{h':Heap}
theorem Cx.Ok.nofr(ok:X.Ok){b:bV}{o:Obj}(e:X.base.get? b=some o):b∉X.fs:=λa=>by
 have:=(ok.funs.mem a).1;rw[e]at this;cases this
theorem Inv.bs(I:Inv X pins σ H s):∀b o,X.base.get? b=some o->s.heap.get? b=some o/\H b=none:=λb o e=>
 ⟨I.base.keep b o (I.ok.bs b o e).1 (I.ok.bs b o e).2 (I.ok.nofr e) (I.ok.noex b o e),I.base.free b o (I.ok.bs b o e).1 (I.ok.bs b o e).2 (I.ok.noex b o e)⟩
theorem Inv.bk(I:Inv X pins σ H s):∀b o,X.base.get? b=some o->s.heap.get? b=some o:=λb o e=>(I.bs b o e).1
theorem Inv.mod(I:Inv X pins σ H s):Mod X.K X.mg X.base:=I.ok.mod
theorem Inv.kIn(I:Inv X pins σ H s):X.K.In s.heap:=I.ok.mod.kin.keeps I.bk
theorem Inv.fr(I:Inv X pins σ H s):∃m,Fr X.base X.env.locals s.heap m:=
 let⟨m,a,_⟩:=I.loc
 ⟨m,a,I.bk,cG I.ok.bsz I.ok.above⟩
theorem Inv.lt(I:Inv X pins σ H s):X.env.locals<s.heap.objs.size:=let⟨_,a,_⟩:=I.loc;a.lt
theorem Inv.sz(I:Inv X pins σ H s):X.s₀.heap.objs.size<=s.heap.objs.size:=cG I.ok.above (cx I.lt)
theorem Inv.nofs(I:Inv X pins σ H s){a:bV}(h:s.heap.objs.size<=a):a∉X.fs:=λc=>by
 obtain⟨_,o,b,_⟩:=I.ok.funs.mem c;exact absurd (ci (b6 b) (cG I.sz h)) (cJ _)
theorem Inv.cne(I:Inv X pins σ H s):∀x c,X.env.cells.lookup x=some c->c≠X.env.locals:=λx c e z=>by
 obtain⟨v,o,f,b⟩:=I.cell x c e;obtain⟨m,⟨h,j,g,a,d,_⟩,_⟩:=I.loc;rw[z,a]at f;cases f;rw[d]at b;cases b
theorem Inv.funs(I:Inv X pins σ H s):s.heap.FunFrames X.base X.outer:=by
 have all:∀(l:List Env),(∀b∈Gy l,b∈X.fs)->X.s₀.heap.FunFrames X.base l->s.heap.FunFrames X.base l:=by
  intro l
  induction l with
  | nil=>intro _ _;trivial
  | cons p r j=>
   intro f h;obtain⟨hk,⟨L,o,d,k,n,g⟩,m⟩:=h;have c:L∈X.fs:=f L (by unfold Gy;rw[fF,d];exact b0);obtain⟨q,e⟩:=I.base.slot L o n (I.ok.frf L c) c λz=>I.ok.exfs L z c;exact⟨hk,⟨L,_,d,k,e,g⟩,j (λb a=>f b (by unfold Gy;rw[fF,d];exact b3 _ a)) m⟩
 exact all X.outer (λ_ a=>a) I.ok.funs
theorem Inv.stack(I:Inv X pins σ H s):s.heap.FunFrames X.base X.stack:=by
 rcases I.ok.stk with e|⟨e,b⟩
 ·rw[e];exact I.funs
 ·rw[e];obtain⟨m,a,_⟩:=I.loc;refine .cons (by rw[I.ok.kind];decide) b a ?_ I.funs;exact Heap.get?_none_of_le (cG I.ok.bsz I.ok.above)
theorem Inv.stkSub(I:Inv X pins σ H s):∀b∈Gy X.stack,b∈X.env.locals::X.fs:=λb a=>by
 rcases I.ok.stk with e|⟨e,c⟩
 ·rw[e]at a;exact b3 _ a
 ·rw[e]at a;unfold Gy at a;rw[fF,c]at a;exact a
theorem Inv.stkFree(I:Inv X pins σ H s):∀b∈Gy X.stack,H b=none:=λb a=>by
 rcases cj.mp (I.stkSub b a)with e|a
 ·rw[e];exact I.free
 ·obtain⟨_,o,c,_⟩:=I.ok.funs.mem a;exact I.base.free b o c (I.ok.frf b a) λz=>I.ok.exfs b z a
theorem Inv.step{g':Array GenState}{t':Nat}{d':Drawn}{ch:List bV}(I:Inv X pins σ H s)
  (hch:∀b∈ch,(b∈X.ex\/X.s₀.heap.objs.size<=b)/\b≠X.env.locals/\(∀x c,X.env.cells.lookup x=some c->c≠b)/\∀p∈X.pn++pins,p.1≠b)
  (keep:∀b o,b≠X.env.locals->b∉X.fs->b∉ch->s.heap.get? b=some o->H b=none->h'.get? b=some o)
  (slot:∀b o,b≠X.env.locals->b∈X.fs->b∉ch->s.heap.get? b=some o->H b=none->∃sl,h'.get? b=some {o with slots:=sl})(free:∀b o,b∉ch->s.heap.get? b=some o->H b=none->H' b=none)
  (there:∀b o,b∉ch->s.heap.get? b=some o->∃o',h'.get? b=some o')
  (tups:∀b xs,H b=some (.tup xs)->H' b=some (.tup xs))(frzs:∀b o u,H b=some (.frz o u)->H' b=some (.frz o u))(tbls:∀b ps,H b=some (.tbl ps)->∃more,H' b=some (.tbl (ps++more)))
  (ns:∀m,s.heap.Ns X.env.locals m->h'.Ns X.env.locals m)(hok:HOk X.prog X.w H' h')(hg:AllBare g'):
  Inv X pins σ H' {s with heap:=h',gens:=g',drawn:=d',toks:=t'}:=by
 have B:∀b o,X.s₀.heap.get? b=some o->b≠X.env.locals:=λb o e=>cF (ci (b6 e) I.ok.above)
 have t:∀b o,X.s₀.heap.get? b=some o->b∉X.ex->b∉ch:=λb o e a h=>by
  rcases(hch b h).1 with z|z
  ·exact a z
  ·exact absurd (ci (b6 e) z) (cJ _)
 have j:∀x c,X.env.cells.lookup x=some c->∀v,s.heap.IsCell c v->h'.IsCell c v:=λx c e v ⟨o,y,C⟩=>by
  have g:c∉ch:=λz=>(hch c z).2.2.1 x c e rfl
  by_cases F:c∈X.fs
  ·obtain⟨sl,q⟩:=slot c o (I.cne x c e) F g y (I.freeC x c e)
   exact⟨_,q,C⟩
  ·exact⟨o,keep c o (I.cne x c e) F g y (I.freeC x c e),C⟩
 refine⟨I.ok,I.os,hg,⟨λb o e n h a=>?_,λb o e n h a=>?_,λb o e n a=>?_,λb o e a=>?_,λb xs e=>tups b xs (I.base.tups b xs e),λb o xs e=>frzs b o xs (I.base.frzs b o xs e),λb ps e=>?_⟩,?_,λx c e=>?_,?_,λx c e=>?_,λp hp=>?_,hok,I.len⟩
 ·exact keep b o (B b o e) h (t b o e a) (I.base.keep b o e n h a) (I.base.free b o e n a)
 ·obtain⟨sl,f⟩:=I.base.slot b o e n h a
  obtain⟨E,A⟩:=slot b _ (B b o e) h (t b o e a) f (I.base.free b o e n a)
  exact⟨E,A⟩
 ·obtain⟨o',f⟩:=I.base.there b o e a
  exact free b o' (t b o e a) f (I.base.free b o e n a)
 ·obtain⟨o',f⟩:=I.base.there b o e a
  exact there b o' (t b o e a) f
 ·obtain⟨G,f⟩:=I.base.tbls b ps e
  obtain⟨N,A⟩:=tbls b _ f
  exact⟨G++N,by rw[A,mF]⟩
 ·obtain⟨m,M,J⟩:=I.loc
  refine⟨m,ns m M,λi x v f A L=>?_⟩
  obtain⟨u,r,l⟩:=J i x v f A L
  refine⟨u,r,?_⟩
  rcases l with l|⟨k,c,e,z⟩
  ·exact .inl l
  ·exact .inr ⟨k,c,e,j x c e _ z⟩
 ·obtain⟨v,z⟩:=I.cell x c e
  exact⟨v,j x c e v z⟩
 ·obtain⟨m,⟨o,_,_,y,_⟩,_⟩:=I.loc
  exact free _ o (λz=>(hch _ z).2.1 rfl) y I.free
 ·obtain⟨v,o,y,C⟩:=I.cell x c e
  exact free c o (λz=>(hch c z).2.2.1 x c e rfl) y (I.freeC x c e)
 ·obtain⟨e,n,D,nf,d⟩:=I.pin p hp
  have g:p.1∉ch:=λz=>(hch p.1 z).2.2.2 p hp rfl
  exact⟨keep p.1 p.2 D nf g e n,free p.1 p.2 g e n,D,nf,d⟩
theorem Inv.un{t':Nat}(I:Inv X pins σ H s)(u:Un X.fs [] H H' s.heap h')(hok:HOk X.prog X.w H' h'):Inv X pins σ H' {s with heap:=h',toks:=t'}:=by
 obtain⟨m,⟨o,l,v,f,r⟩,_⟩:=id I.loc;obtain⟨p,k⟩:=u.any f I.free (by simp);exact I.step (g':=s.gens) (d':=s.drawn) (ch:=[]) (λ_ z=>nomatch z) (λb o _ c _ e n=>u.keep b o e n c (by simp)) (λb o _ c _ e n=>u.slot b o e n c (by simp)) (λb o _ e n=>u.free b o e n (by simp)) (λb o _ e=>u.there b o e (by simp)) u.tups u.frzs u.tbls (λt h=>by
  obtain⟨q,d,g,a,j⟩:=h;rw[f]at a;cases a;exact⟨_,d,g,k,j⟩) hok I.bare
theorem Inv.call{g':Array GenState}{t':Nat}{d':Drawn}{ch:List bV}(I:Inv X pins σ H s)(u:Un (Gy X.stack) ch H H' s.heap h')(hok:HOk X.prog X.w H' h')(hg:AllBare g')
  (hch:∀b∈ch,(b∈X.ex\/X.s₀.heap.objs.size<=b)/\b≠X.env.locals/\(∀x c,X.env.cells.lookup x=some c->c≠b)/\∀p∈X.pn++pins,p.1≠b):
  Inv X pins σ H' {s with heap:=h',gens:=g',drawn:=d',toks:=t'}:=by
 obtain⟨m,⟨o,t,B,h,r⟩,_⟩:=id I.loc
 obtain⟨v,f⟩:=u.any h I.free λz=>(hch _ z).2.1 rfl
 exact I.step (ch:=ch) hch (λb o f q a e n=>u.keep b o e n (λz=>(cj.mp (I.stkSub b z)).elim f q) a) (λb o _ _ a e n=>u.any e n a) (λb o a e n=>u.free b o e n a) (λb o a e=>u.there b o e a) u.tups u.frzs u.tbls (λA k=>by
  obtain⟨y,g,j,d,l⟩:=k
  rw[h]at d;cases d
  exact⟨_,g,j,f,l⟩) hok hg
theorem Inv.turned{t':Nat}{it:bV}(I:Inv X pins σ H s)(k:∀b o,b≠it->s.heap.get? b=some o->h'.get? b=some o)(hn:H it=none)(hL:it≠X.env.locals)
  (h1:it∈X.ex\/X.s₀.heap.objs.size<=it)(h2:∀x c,X.env.cells.lookup x=some c->c≠it)(h3:∀p∈X.pn++pins,p.1≠it):Inv X pins σ H {s with heap:=h',toks:=t'}:=by
 have d:∀b u,H b=some u->b≠it:=λb u e z=>by rw[z,hn]at e;cases e
 refine I.step (g':=s.gens) (d':=s.drawn) (ch:=[it]) (λb j=>?_) (λb o _ _ a e _=>k b o (λz=>a (by simp[z])) e) (λb o _ _ a e _=>⟨o.slots,k b o (λz=>a (by simp[z])) e⟩) (λ_ _ _ _ n=>n)
  (λb o a e=>⟨o,k b o (λz=>a (by simp[z])) e⟩) (λ_ _ e=>e) (λ_ _ _ e=>e) (λb t e=>⟨#[],by rw[e];simp⟩) (λm f=>?_) (λb u e=>?_) I.bare
 ·have e:b=it:=by simpa using j
  subst e
  exact⟨h1,hL,h2,h3⟩
 ·obtain⟨o,g,l,h,r⟩:=f
  exact⟨o,g,l,k _ o (Ne.symm hL) h,r⟩
 ·refine(I.hok b u e).stay (λc v a q=>k c v ?_ q) (λ_ q=>q) λ_ _ q=>q
  rcases a with z|z
  ·rw[z];exact d b u e
  ·exact d c _ z
theorem Inv.tok(I:Inv X pins σ H s)(t:Nat):Inv X pins σ H {s with toks:=t}:=I.un (h':=s.heap) (t':=t) Un.refl I.hok
theorem Inv.kept{t':Nat}(I:Inv X pins σ H s)(k:∀b u,s.heap.get? b=some u->h'.get? b=some u):Inv X pins σ H {s with heap:=h',toks:=t'}:=I.un (Un.kept k) (I.hok.kept k)
theorem Inv.laid{a:bV}{o:HO}{t':Nat}(I:Inv X pins σ H s)(k:∀b u,s.heap.get? b=some u->h'.get? b=some u)(hp:s.heap.objs.size<=a)(new:ObjOk X.prog X.w (upd H a o) h' a o):
  Inv X pins σ (upd H a o) {s with heap:=h',toks:=t'}:=I.un (Un.laid k hp (I.hok.fresh hp)) (I.hok.laid k hp new)
theorem Inv.write{x e:bV}{o:HO}{t':Nat}(I:Inv X pins σ H s)(mu:NJ (H x))(he:e=x\/H e=some (.own x))(k:∀b u,b≠e->s.heap.get? b=some u->h'.get? b=some u)(heo:∃u,h'.get? e=some u)
  (new:ObjOk X.prog X.w (upd H x o) h' x o):Inv X pins σ (upd H x o) {s with heap:=h',toks:=t'}:=I.un (Un.write mu he k heo) (I.hok.write mu he k heo new)
theorem Inv.weak{σ':List (Option V)}(I:Inv X pins σ H s)(hl:σ'.length=σ.length)(w:∀(i:Nat) v,σ'[i]?=some (some v)->σ[i]?=some (some v)):Inv X pins σ' H s:=
 ⟨I.ok,I.os,I.bare,I.base,let⟨m,d,a⟩:=I.loc;⟨m,d,λi x v b c e=>a i x v b (w i v c) e⟩,I.cell,I.free,I.freeC,I.pin,I.hok,hl.trans I.len⟩
theorem Inv.pins_of{pins':List (bV×Obj)}(I:Inv X pins σ H s)(h:∀p∈pins',s.heap.get? p.1=some p.2/\H p.1=none/\p.1≠X.env.locals/\p.1∉X.fs/\∀v,p.2.data≠ .cell v):Inv X pins' σ H s:=
 ⟨I.ok,I.os,I.bare,I.base,I.loc,I.cell,I.free,I.freeC,λp hp=>(cN.mp hp).elim (λz=>I.pin p (gw _ z)) (h p),I.hok,I.len⟩
theorem w9{N:List Str}(hN:N.Nodup){i j:Nat}{x:Str}(a:N[i]?=some x)(b:N[j]?=some x):i=j:=by
 obtain⟨h1,c⟩:=b8.mp a;obtain⟨h2,d⟩:=b8.mp b;exact(List.getElem_inj hN).mp (c.trans d.symm)
theorem xX{M:Model}{A:cO}{E:bQ->bS->Prop}{i:Nat}{x:Str}{v:V}{u:bQ}{Q:Unit->bS->Prop}(I:Inv X pins σ H s)(hN:X.N.Nodup)(hi:X.N[i]?=some x)(hx:Loc X.env.scope x)(r:RelV v u)
  (h:∀s',Inv X pins (σ.set i (some v)) H s'->(∃a,eT a s.heap s'.heap/\(a=X.env.locals\/X.env.cells.lookup x=some a))->Q () s')(hf:X.fn x=true\/X.env.scope.names.lookup x=some .local:=by first|exact .inl rfl|exact .inr rfl|assumption):wpAny M A (storeName X.env x u) Q E s:=by
 obtain⟨m,hn,hl⟩:=id I.loc
 have Z:(X.env.scope.kind == .class||(X.env.scope.kind == .module&&X.env.locals != X.env.globals))=false:=by rw[I.ok.kind];rfl
 have L:i<σ.length:=by rw[I.len];exact(b8.mp hi).1
 have O:=I.cne
 have t:∀{a:bV} {G:Heap},(∃o,s.heap.get? a=some o/\H a=none)->eT a s.heap G->HOk X.prog X.w H G:=λ {a G} ha f b ob e=>by
  obtain⟨_,_,F⟩:=ha
  refine(I.hok b ob e).stay (λc P l q=>(f.2 c ?_).trans q) (λ_ q=>q) λ_ _ q=>q
  rintro rfl
  rcases l with rfl|l
  ·rw[F]at e;cases e
  ·rw[F]at l;cases l
 rcases hx with hk|hk
 ·refine wpAny_storeName_local hk hn (λG ac f=>?_) Z
  obtain⟨oL,_,_,ab,_⟩:=id hn
  refine h _ ⟨I.ok,I.os,I.bare,⟨λb o e n D hx=>?_,λb o e n D hx=>?_,I.base.free,λb o e hx=>?_,I.base.tups,I.base.frzs,I.base.tbls⟩,⟨_,ac,λj y v' g B Y=>?_⟩,λy c e=>?_,I.free,I.freeC,λp hp=>?_,t ⟨oL,ab,I.free⟩ f,by simpa using I.len⟩ ⟨_,f,.inl rfl⟩
  ·exact(f.2 b (cF (ci (b6 e) I.ok.above))).trans (I.base.keep b o e n D hx)
  ·obtain⟨sl,g⟩:=I.base.slot b o e n D hx
   exact⟨sl,(f.2 b (cF (ci (b6 e) I.ok.above))).trans g⟩
  ·obtain⟨o',g⟩:=I.base.there b o e hx
   exact⟨o',(f.2 b (cF (ci (b6 e) I.ok.above))).trans g⟩
  ·by_cases C:j=i
   ·subst C
    rw[hi]at g;cases g
    rw[iT L]at B
    cases B
    exact⟨u,r,.inl ⟨hk,by simp⟩⟩
   ·rw[ia (Ne.symm C)]at B
    obtain⟨u',r',q⟩:=hl j y v' g B Y
    refine⟨u',r',?_⟩
    rcases q with⟨k,e⟩|⟨k,c,e,z⟩
    ·refine .inl ⟨k,?_⟩
     have:y≠x:=λe=>C (w9 hN g (e▸hi))
     simp[this,e]
    ·exact .inr ⟨k,c,e,z.sameBut f (O y c e)⟩
  ·obtain⟨P,z⟩:=I.cell y c e
   exact⟨P,z.sameBut f (O y c e)⟩
  ·obtain⟨e,n,S,nf,d⟩:=I.pin p hp
   exact⟨(f.2 p.1 S).trans e,n,S,nf,d⟩
 ·have J:X.fn x=true:=by
   rcases hf with z|z
   ·exact z
   ·rw[z]at hk;cases hk
  obtain⟨c,l⟩:=I.ok.has x (.inl hk)
  obtain⟨P,z⟩:=I.cell x c l
  refine wpAny_storeName_cell I.ok.kind hk l z (λG T f=>?_)
  obtain⟨oc,W,aa⟩:=id z
  refine h {s with heap:=G} ⟨I.ok,I.os,I.bare,⟨λb o e n D hx=>?_,λb o e n D hx=>?_,I.base.free,λb o e hx=>?_,I.base.tups,I.base.frzs,I.base.tbls⟩,⟨m,hn.sameBut f (Ne.symm (O x c l)),λj y v' g B Y=>?_⟩,λy R e=>?_,I.free,I.freeC,λp hp=>?_,t ⟨oc,W,I.freeC x c l⟩ f,by simpa using I.len⟩ ⟨c,f,.inr l⟩
  ·exact(f.2 b (cF (ci (b6 e) (I.ok.cab x c J l)))).trans (I.base.keep b o e n D hx)
  ·obtain⟨sl,g⟩:=I.base.slot b o e n D hx
   exact⟨sl,(f.2 b (cF (ci (b6 e) (I.ok.cab x c J l)))).trans g⟩
  ·obtain⟨o',g⟩:=I.base.there b o e hx
   exact⟨o',(f.2 b (cF (ci (b6 e) (I.ok.cab x c J l)))).trans g⟩
  ·by_cases C:j=i
   ·subst C
    rw[hi]at g;cases g
    rw[iT L]at B
    cases B
    exact⟨u,r,.inr ⟨.inl hk,c,l,T⟩⟩
   ·rw[ia (Ne.symm C)]at B
    obtain⟨u',r',q⟩:=hl j y v' g B Y
    refine⟨u',r',?_⟩
    rcases q with q|⟨k,R,e,z'⟩
    ·exact .inl q
    ·refine .inr ⟨k,R,e,z'.sameBut f ?_⟩
     rintro rfl
     exact C (w9 hN g (I.ok.inj _ _ _ e l▸hi))
  ·by_cases U:R=c
   ·subst U;exact⟨_,T⟩
   ·obtain⟨w2,z2⟩:=I.cell y R e
    exact⟨w2,z2.sameBut f U⟩
  ·obtain⟨e,n,S,nf,d⟩:=I.pin p hp
   refine⟨(f.2 p.1 ?_).trans e,n,S,nf,d⟩
   intro q
   rw[q,W]at e
   have q':oc=p.2:=Option.some.inj e
   exact d P (by rw[<-q'];exact aa)
theorem vK{M:Model}{A:cO}{E:bQ->bS->Prop}{i:Nat}{x:Str}{v:V}{u:bQ}{Q:Unit->bS->Prop}(I:Inv X pins σ H s)(hN:X.N.Nodup)(hi:X.N[i]?=some x)(hx:Loc X.env.scope x)(r:RelV v u)
  (h:∀s',Inv X pins (σ.set i (some v)) H s'->Q () s')(hf:X.fn x=true\/X.env.scope.names.lookup x=some .local:=by first|exact .inl rfl|exact .inr rfl|assumption):wpAny M A (storeName X.env x u) Q E s:=
 xX I hN hi hx r (λs' a _=>h s' a) hf
theorem Inv.call'{s':bS}{ch:List bV}(I:Inv X pins σ H s)(ho:s'.os=s.os)(u:Un (Gy X.stack) ch H H' s.heap s'.heap)(hok:HOk X.prog X.w H' s'.heap)(hg:AllBare s'.gens)
  (hch:∀b∈ch,(b∈X.ex\/X.s₀.heap.objs.size<=b)/\b≠X.env.locals/\(∀x c,X.env.cells.lookup x=some c->c≠b)/\∀p∈X.pn++pins,p.1≠b):Inv X pins σ H' s':=by
 obtain⟨d,g',d',t',a⟩:=s'
 have e:a=s.os:=ho
 subst e
 exact I.call (g':=g') (t':=t') (d':=d') u hok hg hch
end
abbrev XK:=bQ->Option bV->Hp->Prop
abbrev St:=List (Option V)
abbrev VK:=V->Hp->Prop
abbrev TE:=St->Hp->VK->Prop
abbrev TT:=St->Hp->(Bool->Hp->Prop)->Prop
abbrev TA:=St->Hp->(List V->Hp->Prop)->Prop
structure Ic where
 nx:St->Hp->Prop
 rt:VK
 bk:St->Hp->Prop:=λ_ _=>False
 ct:St->Hp->Prop:=λ_ _=>False
abbrev TS:=Ic->St->Hp->Prop
def EP(X:Cx)(pins:List (bV×Obj))(σ:St)(Q:VK)(u:bQ)(s':bS):Prop:=∃v H',Inv X pins σ H' s'/\RelV v u/\Q v H'
def TP(X:Cx)(pins:List (bV×Obj))(σ:St)(Q:Bool->Hp->Prop)(b:Bool)(s':bS):Prop:=∃H',Inv X pins σ H' s'/\Q b H'
def AP(X:Cx)(pins:List (bV×Obj))(σ:St)(Q:List V->Hp->Prop)(us:List bQ)(s':bS):Prop:=∃vs H',Inv X pins σ H' s'/\Vals vs us/\Q vs H'
def SP(X:Cx)(pins:List (bV×Obj))(D:Ic)(f:Flow)(s':bS):Prop:=
 match f with
 | .next=>∃σ' H',Inv X pins σ' H' s'/\D.nx σ' H'
 | .brk=>∃σ' H',Inv X pins σ' H' s'/\D.bk σ' H'
 | .cont=>∃σ' H',Inv X pins σ' H' s'/\D.ct σ' H'
 | .ret u=>∃v σ' H',Inv X pins σ' H' s'/\RelV v u/\D.rt v H'
def PE(X:Cx)(e:Expr)(t:TE):Prop:=
 ∀(pins:List (bV×Obj)) (s:bS) (σ:St) (H:Hp) (Q:VK),Inv X pins σ H s->t σ H Q->wpAny (model X.prog X.w) X.A (eval e X.env) (EP X pins σ Q) X.xe s
def PT(X:Cx)(e:Expr)(t:TT):Prop:=
 ∀(pins:List (bV×Obj)) (s:bS) (σ:St) (H:Hp) (Q:Bool->Hp->Prop),Inv X pins σ H s->t σ H Q->wpAny (model X.prog X.w) X.A (isTrue e X.env (eval e X.env)) (TP X pins σ Q) X.xe s
def PW(X:Cx)(e:Expr)(t:TT):Prop:=
 ∀(whole:Sem bQ) (pins:List (bV×Obj)) (s:bS) (σ:St) (H:Hp) (Q:Bool->Hp->Prop),Inv X pins σ H s->t σ H Q->wpAny (model X.prog X.w) X.A (isTrue e X.env whole) (TP X pins σ Q) X.xe s
theorem PW.pt{X:Cx}{e:Expr}{t:TT}(h:PW X e t):PT X e t:=h _
def PA(X:Cx)(es:List Expr)(t:TA):Prop:=
 ∀(pos:Pos) (pins:List (bV×Obj)) (s:bS) (σ:St) (H:Hp) (Q:List V->Hp->Prop),Inv X pins σ H s->t σ H Q->wpAny (model X.prog X.w) X.A (spliced (backTo pos (cD es X.env))) (AP X pins σ Q) X.xe s
def PS(X:Cx)(st:Stmt)(t:TS):Prop:=
 ∀(pins:List (bV×Obj)) (s:bS) (σ:St) (H:Hp) (D:Ic),Inv X pins σ H s->t D σ H->wpAny (model X.prog X.w) X.A (exec st X.env) (SP X pins D) X.xe s
def PSs(X:Cx)(st:List Stmt)(t:TS):Prop:=
 ∀(pins:List (bV×Obj)) (s:bS) (σ:St) (H:Hp) (D:Ic),Inv X pins σ H s->t D σ H->wpAny (model X.prog X.w) X.A (execs st X.env) (SP X pins D) X.xe s
theorem Fv{α:Type}{t:Sem α}{Q Q':α->bS->Prop}{M:Model}{A:cO}{E:bQ->bS->Prop}{s:bS}(h:wpAny M A t Q E s)(hQ:∀a s,Q a s->Q' a s):wpAny M A t Q' E s:=eO h hQ λ_ _ x=>x
section
variable{X:Cx}
theorem bin{a b:Expr}{ta tb:TE}(ha:PE X a ta)(hb:PE X b tb){pins:List (bV×Obj)}{s:bS}{σ:St}{H:Hp}{R:V->V->Hp->Prop}(I:Inv X pins σ H s)(h:ta σ H λx H1=>tb σ H1 λy H2=>R x y H2)
  {α:Type}{Q:α->bS->Prop}{f:bQ->bQ->Sem α}
  (hf:∀v u s2 x y H2,Inv X pins σ H2 s2->RelV x v->RelV y u->R x y H2->wpAny (model X.prog X.w) X.A (f v u) Q X.xe s2):
  wpAny (model X.prog X.w) X.A (eval a X.env) (λv s₁=>wpAny (model X.prog X.w) X.A (eval b X.env) (λu s₂=>wpAny (model X.prog X.w) X.A (f v u) Q X.xe s₂) X.xe s₁) X.xe s:=by
 refine Fv (ha pins s σ H _ I h) λv j ⟨x,H1,l,g,k⟩=>?_
 refine Fv (hb pins j σ H1 _ l k) λu s2 ⟨y,H2,c,d,e⟩=>?_
 exact hf v u s2 x y H2 c g d e
def M3(i:Nat):TE:=λσ H Q=>∃v,σ[i]?=some (some v)/\Q v H
def tC(v:V):TE:=λ_ H Q=>Q v H
theorem EH{i:Nat}{x:Str}{pos:Pos}(hN:X.N[i]?=some x)(hv:NG X.env.scope x)(hd:(x==("__debug__":Str))=false:=by decide)(hcd:(x==("__classdict__":Str))=false:=by decide):PE X (.Name x pos) (M3 i):=by
 intro b s k H Q I h;obtain⟨v,e,h⟩:=h;obtain⟨m,j,f⟩:=I.loc;obtain⟨u,r,l⟩:=f i x v hN e hv;have fin:EP X b k Q u s:=⟨v,H,I,r,h⟩;rcases l with⟨hk,g⟩|⟨hk,c,d,a⟩
 ·exact oI (wpAny_loadName_local I.ok.kind hk j g fin) hd
 ·rcases hk with hk|hk
  ·exact oI (wpAny_loadName_cell I.ok.kind hk d a fin) hd
  ·exact oI (wpAny_loadName_free I.ok.kind hk d a fin hcd) hd
theorem rH{i j pos}:PE X (.Constant (.int i) j pos) (tC (.int i)):=λ_ _ _ H _ I h=>wpAny_Constant_int ⟨.int i,H,I.tok _,⟨_,rfl⟩,h⟩
theorem vc{b j pos}:PE X (.Constant (.bool b) j pos) (tC (.bl b)):=λ_ _ _ H _ I h=>Constant_bool ⟨.bl b,H,I,rfl,h⟩
theorem uC{j pos}:PE X (.Constant .none j pos) (tC .non):=λ_ _ _ H _ I h=>Constant_none ⟨.non,H,I,rfl,h⟩
theorem rX{x j pos}:PE X (.Constant (.str x) j pos) (tC (.str x)):=λ_ _ _ H _ I h=>Calls.Constant_str ⟨.str x,H,I.tok _,⟨_,rfl⟩,h⟩
def Gl(X:Cx)(x:Str):Prop:=X.env.kindOf x=some .globalImplicit
theorem uF{E:bQ->bS->Prop}{pins:List (bV×Obj)}{s:bS}{σ:St}{H:Hp}{x:Str}{u:bQ}{pos:Pos}{Q:bQ->bS->Prop}(I:Inv X pins σ H s)(hg:Gl X x)(hm:X.mg x=some u)(h:Q u s)
  (hd:(x==("__debug__":Str))=false:=by decide):wpAny (model X.prog X.w) X.A (eval (.Name x pos) X.env) Q E s:=
 ib I.ok.kind hg (kz (by rw[I.ok.glob];exact I.mod.glob.keeps I.bk) hm h) hd
theorem tY{E:bQ->bS->Prop}{pins:List (bV×Obj)}{s:bS}{σ:St}{H:Hp}{x:Str}{u:bQ}{pos:Pos}{Q:bQ->bS->Prop}(I:Inv X pins σ H s)(hg:Gl X x)(hm:X.mg x=none)(hv:bootBuiltins x=some u)(h:Q u s)
  (hn:x≠"__name__":=by decide)(hd:(x==("__debug__":Str))=false:=by decide):wpAny (model X.prog X.w) X.A (eval (.Name x pos) X.env) Q E s:=by
 obtain⟨a,h1,h2⟩:=I.mod.blt
 exact ib I.ok.kind hg (Calls.loadGlobal_builtin (by rw[I.ok.glob];exact I.mod.glob.keeps I.bk) hm (by rw[I.ok.blt];exact h1.keeps I.bk) ((h2 x hn).trans hv) h) hd
theorem Ec{x:Str}{v:V}{u:bQ}{pos:Pos}(hg:Gl X x)(hm:X.mg x=some u)(r:RelV v u)(hd:(x==("__debug__":Str))=false:=by decide):PE X (.Name x pos) (tC v):=
 λ_ _ _ H _ I h=>uF I hg hm ⟨v,H,I,r,h⟩ hd
theorem D8{x:Str}{v:V}{u:bQ}{pos:Pos}(hg:Gl X x)(hm:X.mg x=none)(hv:bootBuiltins x=some u)(r:RelV v u)(hn:x≠"__name__":=by decide)(hd:(x==("__debug__":Str))=false:=by decide):PE X (.Name x pos) (tC v):=
 λ_ _ _ H _ I h=>tY I hg hm hv ⟨v,H,I,r,h⟩ hn hd
variable{a b:Expr}{ta tb:TE}{pos:Pos}
def PC(X:Cx)(op:CmpOp)(a b:Expr)(t:TE):Prop:=
 ∀(pins:List (bV×Obj)) (s:bS) (σ:St) (H:Hp) (Q:VK),Inv X pins σ H s->t σ H Q->
  wpAny (model X.prog X.w) X.A (eval a X.env) (λv s₁=>wpAny (model X.prog X.w) X.A (eval b X.env) (λu s₂=>wpAny (model X.prog X.w) X.A (compareOp op v u) (EP X pins σ Q) X.xe s₂) X.xe s₁) X.xe s
def tB(t:TE):TT:=λσ H Q=>t σ H λx H1=>∃c,x = .bl c/\Q c H1
theorem pt_cmp{op:CmpOp}{t:TE}(h:PC X op a b t)(h1:behindInMarks op b=false:=by first|exact nobehind _ (by decide) (by decide)|rfl):PT X (.Compare a [op] [b] pos) (tB t):=by
 intro e s j H Q I g;refine lC (Fv (h e s j H _ I g) λv o h1=>Fv h1 λu n h2=>Fv h2 λc p ⟨x,f,m,k,l⟩=>?_) h1;obtain⟨d,rfl,q⟩:=l
 cases k;exact dU ⟨f,m,q⟩
theorem sB{e:Expr}{t:TE}(h:PE X e t)(he:∀whole,isTrue e X.env whole=(do let v<-whole;standAt e.pos;holding [v] (truthy v)):=by intro _;rfl):PT X e (tB t):=by
 intro a s c H Q I b;refine qe (Fv (h a s c H _ I b) λv l ⟨x,g,k,f,j⟩=>?_) (he _);obtain⟨d,rfl,q⟩:=j
 cases f;exact dU ⟨g,k,q⟩
variable{tA tB':TT}{rest:List Expr}
def N0(t u:TT):TT:=λσ H Q=>t σ H λc H1=>if c=true then u σ H1 Q else Q false H1
def OG(t u:TT):TT:=λσ H Q=>t σ H λc H1=>if c=true then Q true H1 else u σ H1 Q
def NO(t:TT):TT:=λσ H Q=>t σ H λc H1=>Q (!c) H1
theorem uD(ha:PT X a tA):PW X (.BoolOp .And [a] pos) tA:=by
 intro f b s d H Q I h;refine isTrue_and (Fv (ha b s d H Q I h) λc g e=>?_)
 cases c with
 | true=>exact isTrue_and_nil e
 | false=>exact e
theorem wS(ha:PT X a tA):PW X (.BoolOp .Or [a] pos) tA:=by
 intro f b s d H Q I h;refine isTrue_or (Fv (ha b s d H Q I h) λc g e=>?_)
 cases c with
 | false=>exact isTrue_or_nil e
 | true=>exact e
theorem uA(ha:PT X a tA)(hb:PW X (.BoolOp .And (b::rest) pos) tB'):PW X (.BoolOp .And (a::b::rest) pos) (N0 tA tB'):=by
 intro k d s e H Q I h;refine isTrue_and (Fv (ha d s e H _ I h) λc l ⟨f,j,g⟩=>?_)
 cases c with
 | true=>exact hb k d l e f Q j g
 | false=>exact⟨f,j,g⟩
theorem xR(ha:PT X a tA)(hb:PW X (.BoolOp .Or (b::rest) pos) tB'):PW X (.BoolOp .Or (a::b::rest) pos) (OG tA tB'):=by
 intro k d s e H Q I h;refine isTrue_or (Fv (ha d s e H _ I h) λc l ⟨f,j,g⟩=>?_)
 cases c with
 | true=>exact⟨f,j,g⟩
 | false=>exact hb k d l e f Q j g
theorem tS(ha:PT X a tA):PT X (.UnaryOp .Not a pos) (NO tA):=by
 intro b s d H Q I h;exact isTrue_not (ha b s d H (λc e=>Q (!c) e) I h)
def Nn(ta tb:TE):TE:=λσ H Q=>ta σ H λx H1=>∃c,x = .bl c/\if c=true then tb σ H1 Q else Q (.bl false) H1
def Ny(ta:TE):TE:=λσ H Q=>ta σ H λx H1=>∃c,x = .bl c/\Q (.bl (!c)) H1
theorem vS{op}{t:TE}(h:PE X a t):PE X (.BoolOp op [a] pos) t:=λb s d H Q I c=>BoolOp_one (h b s d H Q I c)
theorem u6(ha:PE X a ta)(hb:PE X (.BoolOp .And (b::rest) pos) tb):PE X (.BoolOp .And (a::b::rest) pos) (Nn ta tb):=by
 intro d s f H Q I h;refine BoolOp_and (Fv (ha d s f H _ I h) λv l ⟨x,g,j,k,e⟩=>?_);obtain⟨c,rfl,e⟩:=e
 cases k;refine dU ?_
 cases c with
 | true=>exact hb d l f g Q j e
 | false=>exact⟨.bl false,g,j,rfl,e⟩
theorem Dh(ha:PE X a ta):PE X (.UnaryOp .Not a pos) (Ny ta):=by
 intro b s e H Q I h;refine UnaryOp_ (Fv (ha b s e H _ I h) λv k ⟨x,g,j,f,d⟩=>?_);obtain⟨c,rfl,d⟩:=d
 cases f;exact not_of (dU ⟨.bl (!c),g,j,rfl,d⟩)
end
def SqL(K:bN)(H:Hp)(a:bV)(xs:List V):Prop:=
 Rd H a (.lst xs)\/
  ∃(o:Obj) (its:Array bQ) (n:Nat),K.lookup a=some o/\o.cls = .type "list"/\o.dict=none/\o.data = .seq its n/\its.size<=sizeLine/\Vals xs its.toList
def SqT(K:bN)(H:Hp)(a:bV)(xs:List V):Prop:=
 Rd H a (.tup xs)\/
  ∃(o:Obj) (its:Array bQ) (n:Nat),K.lookup a=some o/\o.cls = .type "tuple"/\o.data = .seq its n/\its.size<=sizeLine/\Vals xs its.toList
def Oc:bQ->Option V
 | .none=>some .non
 | .bool b=>some (.bl b)
 | .int i _=>some (.int i)
 | .str x _=>some (.str x)
 | .bytes b _=>some (.byt b)
 | .float b _=>some (.flt b)
 | .ref a=>some (.ref a)
 | .type n=>some (.ty n)
 | _=>none
theorem RelV.abs{x:V}{u:bQ}(r:RelV x u):Oc u=some x:=by
 cases x with
 | non=>cases r;rfl
 | bl _=>cases r;rfl
 | int _=>obtain⟨t,rfl⟩:=r;rfl
 | str _=>obtain⟨t,rfl⟩:=r;rfl
 | byt _=>obtain⟨t,rfl⟩:=r;rfl
 | flt _=>obtain⟨t,rfl⟩:=r;rfl
 | ref _=>cases r;rfl
 | ty _=>cases r;rfl
theorem RelV.inj{x y:V}{u:bQ}(r:RelV x u)(q:RelV y u):x=y:=Option.some.inj (r.abs.symm.trans q.abs)
theorem Vals.inj:∀{xs ys:List V} {us:List bQ},Vals xs us->Vals ys us->xs=ys
 | _,_,_,.nil,.nil=>rfl
 | _,_,_,.cons r t,.cons r' t'=>by rw[r.inj r',Vals.inj t t']
section
variable{X:Cx}{pins:List (bV×Obj)}{σ:St}{H:Hp}{s:bS}{a:bV}{xs ys:List V}
theorem SqL.of{K:bN}(h:H a=some (.lst xs)):SqL K H a xs:= .inl (.inl h)
theorem SqT.of{K:bN}(h:H a=some (.tup xs)):SqT K H a xs:= .inl (.inl h)
theorem Inv.list(I:Inv X pins σ H s)(h:SqL X.K H a xs):∃its:List bQ,Vals xs its/\PlainL s.heap a its.toArray/\xs.length<=sizeLine:=by
 rcases h with h|⟨o,its,n,hk,b,c,d,f,r⟩
 ·obtain⟨z,its,n,r,e⟩:=h.ok I.hok;exact⟨its,r,⟨_,n,e,rfl,rfl,rfl⟩,z⟩
 ·refine⟨its.toList,r,⟨o,n,I.kIn a o hk,b,c,by simpa using d⟩,?_⟩;have e:=r.length;simp only[dG]at e;omega
theorem Inv.tuple(I:Inv X pins σ H s)(h:SqT X.K H a xs):∃its:List bQ,Vals xs its/\IsTup s.heap a its.toArray/\xs.length<=sizeLine:=by
 rcases h with h|⟨o,its,n,hk,b,c,d,r⟩
 ·obtain⟨z,its,r,p⟩:=h.ok I.hok;exact⟨its,r,p,z⟩
 ·refine⟨its.toList,r,⟨o,I.kIn a o hk,b,n,by simpa using c⟩,?_⟩;have e:=r.length;simp only[dG]at e;omega
theorem Inv.list_inj(I:Inv X pins σ H s)(h:SqL X.K H a xs)(h':SqL X.K H a ys):xs=ys:=by
 obtain⟨g,r,⟨o,n,e,_,_,d⟩,_⟩:=I.list h;obtain⟨b,j,⟨k,l,f,_,_,c⟩,_⟩:=I.list h';rw[e]at f;cases f;rw[d]at c;injection c with d1 _
 have:g=b:=by simpa using congrArg m3 d1
 subst this;exact r.inj j
theorem Inv.tuple_inj(I:Inv X pins σ H s)(h:SqT X.K H a xs)(h':SqT X.K H a ys):xs=ys:=by
 obtain⟨g,r,⟨o,e,_,n,d⟩,_⟩:=I.tuple h;obtain⟨b,j,⟨k,f,_,l,c⟩,_⟩:=I.tuple h';rw[e]at f;cases f;rw[d]at c;injection c with d1 _
 have:g=b:=by simpa using congrArg m3 d1
 subst this;exact r.inj j
end
abbrev Cx.wish(X:Cx)(E:bQ->bS->Prop):Cx:={X with xe:=E}
abbrev Cx.nox(X:Cx):Cx:=X.wish λ_ _=>False
theorem Cx.Ok.wish{X:Cx}(ok:X.Ok)(E:bQ->bS->Prop):(X.wish E).Ok:=
 ⟨ok.mod,ok.kind,ok.glob,ok.blt,ok.above,ok.inj,ok.has,ok.cab,ok.hd,ok.frames,ok.stk,ok.exf,ok.bs,ok.bsz,ok.noex,ok.exfs,ok.funs,ok.frf⟩
theorem Cx.Ok.unwish{X:Cx}{E:bQ->bS->Prop}(ok:(X.wish E).Ok):X.Ok:=
 ⟨ok.mod,ok.kind,ok.glob,ok.blt,ok.above,ok.inj,ok.has,ok.cab,ok.hd,ok.frames,ok.stk,ok.exf,ok.bs,ok.bsz,ok.noex,ok.exfs,ok.funs,ok.frf⟩
section
variable{X:Cx}{pins:List (bV×Obj)}{σ:St}{H:Hp}{s:bS}{E:bQ->bS->Prop}
theorem Inv.wish(I:Inv X pins σ H s)(E:bQ->bS->Prop):Inv (X.wish E) pins σ H s:=⟨I.ok.wish E,I.os,I.bare,I.base,I.loc,I.cell,I.free,I.freeC,I.pin,I.hok,I.len⟩
theorem Inv.unwish(I:Inv (X.wish E) pins σ H s):Inv X pins σ H s:=⟨I.ok.unwish,I.os,I.bare,I.base,I.loc,I.cell,I.free,I.freeC,I.pin,I.hok,I.len⟩
theorem SP.unwish{D:Ic}{f:Flow}{s':bS}(h:SP (X.wish E) pins D f s'):SP X pins D f s':=by
 cases f with
 | next=>obtain⟨a,b,I,q⟩:=h;exact⟨a,b,I.unwish,q⟩
 | brk=>obtain⟨a,b,I,q⟩:=h;exact⟨a,b,I.unwish,q⟩
 | cont=>obtain⟨a,b,I,q⟩:=h;exact⟨a,b,I.unwish,q⟩
 | ret u=>obtain⟨v,a,b,I,r,q⟩:=h;exact⟨v,a,b,I.unwish,r,q⟩
theorem PSs.nox{st:List Stmt}{t:TS}(h:PSs X.nox st t):PSs X st t:=λa s c H D I b=>
 eO (h a s c H D (I.wish _) b) (λ_ _ q=>q.unwish) λ_ _ z=>dI z
end
section
variable{X:Cx}{st:Stmt}{rest:List Stmt}{t u:TS}{e:Expr}{te:TE}{pos:Pos}
def M5:TS:=λD σ H=>D.nx σ H
def LY(t u:TS):TS:=λD σ H=>t {D with nx:=u D} σ H
theorem rN:PSs X [] M5:=λ_ _ a H _ I h=>fS ⟨a,H,I,h⟩
theorem rF(h1:PS X st t)(h2:PSs X rest u):PSs X (st::rest) (LY t u):=by
 intro a s c H D I h;refine iy (Fv (h1 a s c H {D with nx:=u D} I h) λf e q=>?_)
 cases f with
 | next=>
  obtain⟨b,g,d,q⟩:=q;exact h2 a e b g D d q
 | ret v=>exact q
 | brk=>exact q
 | cont=>exact q
theorem rJ(h1:PS X st t):PSs X [st] t:=by
 intro a s b H D I h;refine iy (Fv (h1 a s b H D I h) λf c q=>?_)
 cases f with
 | next=>exact fS q
 | ret v=>exact q
 | brk=>exact q
 | cont=>exact q
theorem Inv.quiet{pins:List (bV×Obj)}{σ:St}{H:Hp}{s:bS}(I:Inv X pins σ H s):interactive X.env=false:=by simp[interactive,I.ok.kind]
def L9(te:TE):TS:=λD σ H=>te σ H λ_ H1=>D.nx σ H1
theorem su(he:PE X e te)(hs:swapsWith e none pos.line X.env=pure false:=by rfl):PS X (.Expr e pos) (L9 te):=by
 intro a s b H D I h;exact oJ (Fv (he a s b H _ I h) λv j ⟨x,c,f,g,d⟩=>⟨b,c,f,d⟩) I.quiet hs
def NN(te:TE):TS:=λD σ H=>te σ H D.rt
theorem rP(he:PE X e te):PS X (.Return (some e) pos) (NN te):=by
 intro a s b H D I h;exact wpAny_Return_some (Fv (he a s b H _ I h) λv j ⟨x,d,g,c,f⟩=>⟨x,b,d,g,c,f⟩)
def Nx(c:TT)(t u:TS):TS:=λD σ H=>c σ H λb H1=>if b=true then t D σ H1 else u D σ H1
theorem si{c:Expr}{a b:List Stmt}{tc:TT}(hc:PT X c tc)(ha:PSs X a t)(hb:PSs X b u):PS X (.If c a b pos) (Nx tc t u):=by
 intro e s f H D I h;refine wpAny_If (Fv (hc e s f H _ I h) λd k ⟨g,l,j⟩=>?_)
 cases d with
 | true=>exact ha e k f g D l j
 | false=>exact hb e k f g D l j
def MN:TS:=λ_ _ _=>False
theorem Bp{sts:List Stmt}:PSs X sts MN:=λ_ _ _ _ _ _ h=>h.elim
end
abbrev TG:=V->St->Hp->(St->Hp->Prop)->Prop
abbrev Lx:=List V->St->Hp->(St->Hp->Prop)->Prop
def PG(X:Cx)(target:Expr)(t:TG):Prop:=
 ∀(pins:List (bV×Obj)) (s:bS) (σ:St) (H:Hp) (v:V) (u:bQ) (Q:St->Hp->Prop),Inv X pins σ H s->RelV v u->t v σ H Q->
  wpAny (model X.prog X.w) X.A (assign target X.env u) (λ_ s'=>∃σ' H',Inv X pins σ' H' s'/\Q σ' H') X.xe s
def Nf(X:Cx)(ts:List Expr)(t:Lx):Prop:=
 ∀(pins:List (bV×Obj)) (s:bS) (σ:St) (H:Hp) (vs:List V) (us:List bQ) (Q:St->Hp->Prop),Inv X pins σ H s->Vals vs us->t vs σ H Q->
  wpAny (model X.prog X.w) X.A (assignInOrder ((assignEach ts X.env).map (·.2)) us) (λ_ s'=>∃σ' H',Inv X pins σ' H' s'/\Q σ' H') X.xe s
abbrev MD:=V->V->V->Hp->(Hp->Prop)->Prop
def LU(X:Cx)(t:MD):Prop:=
 ∀(pins:List (bV×Obj)) (s:bS) (σ:St) (H:Hp) (o i v:V) (ov iv u:bQ) (Q:Hp->Prop),Inv X pins σ H s->RelV o ov->RelV i iv->RelV v u->t o i v H Q->
  wpAny (model X.prog X.w) X.A (setItem ov iv u) (λ_ s'=>∃H',Inv X pins σ H' s'/\Q H') X.xe s
section
variable{X:Cx}{pos:Pos}
def Ia(i:Nat):TG:=λv σ H Q=>Q (σ.set i (some v)) H
theorem rS{i:Nat}{x:Str}(hN:X.N.Nodup)(hi:X.N[i]?=some x)(hx:Loc X.env.scope x)(hf:X.fn x=true\/X.env.scope.names.lookup x=some .local:=by first|exact .inl rfl|exact .inr rfl|assumption):PG X (.Name x pos) (Ia i):=by
 intro a s c H v u Q I r h;exact m4 (vK I hN hi hx r (λd b=>⟨_,H,b,h⟩) hf)
def Ng:Lx:=λvs σ H Q=>vs=[]/\Q σ H
def Ma(t:TG)(u:Lx):Lx:=λvs σ H Q=>∃v r,vs=v::r/\t v σ H λσ' H'=>u r σ' H' Q
theorem uo:Nf X [] Ng:=by
 intro a s b H vs c Q I r h;obtain⟨e,h⟩:=h;subst e
 cases r;exact assignInOrder_nil ⟨b,H,I,h⟩
theorem sF{e:Expr}{es:List Expr}{t:TG}{u:Lx}(h1:PG X e t)(h2:Nf X es u)
  (hs:(assignEach (e::es) X.env).map (·.2)=assign e X.env::(assignEach es X.env).map (·.2):=by rfl):Nf X (e::es) (Ma t u):=by
 intro a s g H vs n Q I r h
 obtain⟨v,m,f,h⟩:=h
 subst f
 cases r with
 | cons r c=>
  rw[hs]
  refine assignInOrder_cons (Fv (h1 a s g H _ _ _ I r h) λ_ j ⟨b,d,l,k⟩=>?_)
  exact h2 a j b d _ _ Q l c k
def Mz(K:bN)(n:Nat)(t:Lx):TG:=λv σ H Q=>∃a xs,v = .ref a/\SqT K H a xs/\xs.length=n/\t xs σ H Q
theorem yp{es:List Expr}{k:Nat}{t:Lx}{n:Nat}(hc:X.calm=true)(h:Nf X es t)
  (hn:(assignEach es X.env).length=n:=by rfl)(hst:(assignEach es X.env).findIdx? (·.1)=none:=by rfl):PG X (.Tuple es k pos) (Mz X.K n t):=by
 intro c s f H v u Q I r d
 obtain⟨a,p,w,m,l,d⟩:=d
 subst w
 cases r
 obtain⟨z,g,j,A⟩:=I.tuple m
 refine assign_Tuple_tuple (I.ok.hd hc) j (by simp[hn,<-l,g.length]) hst λx q=>?_
 have y:Inv X c f H {s with heap:=x}:=I.kept (t':=s.toks) λb o e=>q b o (cF (b6 e)) e
 exact h c _ f H p _ Q y (by simpa using g) d
def N3(to ti:TE)(t:MD):TG:=λv σ H Q=>to σ H λo H1=>ti σ H1 λi H2=>t o i v H2 λH3=>Q σ H3
theorem we{o i:Expr}{to ti:TE}{t:MD}(ho:PE X o to)(hi:PE X i ti)(hs:LU X t)
  (ha:∀v,assign (.Subscript o i pos) X.env v=(do
   let ov<-holding [v] (eval o X.env)
   let iv<-holding [v,ov] (eval i X.env)
   standAt pos
   holding [v,ov,iv] (setItem ov iv v)
   release [v,ov,iv] []):=by intro _;rfl):PG X (.Subscript o i pos) (N3 to ti t):=by
 intro a s b H v u Q I r h
 rw[ha]
 refine bM (cR (Fv (ho a s b H _ I h) λov l ⟨x,c,w,p,q⟩=>?_))
 refine bM (cR (Fv (hi a l b c _ w q) λiv f ⟨y,g,k,j,n⟩=>?_))
 refine bM (mm (bM (cR (Fv (hs a f b g x y v ov iv u _ k p j r n) λ_ z ⟨e,d,m⟩=>?_))))
 exact wpAny_release ⟨b,e,d,m⟩
def Ln(te:TE)(g:TG):TS:=λD σ H=>te σ H λx H1=>g x σ H1 D.nx
theorem vp{tg e:Expr}{te:TE}{g:TG}(he:PE X e te)(hg:PG X tg g)(hs:swapsWithSole [tg] e pos.line X.env=pure false:=by rfl)(hw:swappedStores [tg] e X.env=pure none:=by rfl)
  (h1:(assignEach [tg] X.env).map (·.2)=[assign tg X.env]:=by rfl):PS X (.Assign [tg] e pos) (Ln te g):=by
 intro a s b H D I h
 refine wpAny_Assign_stores (Fv (he a s b H _ I h) λv f ⟨x,d,k,c,j⟩=>?_) hs hw
 rw[h1]
 exact Fv (hg a f b d x v _ k c j) λ_ l q=>q
theorem rL{i:Nat}{x:Str}{e:Expr}{te:TE}{pos':Pos}(hN:X.N.Nodup)(hi:X.N[i]?=some x)(hx:Loc X.env.scope x)(he:PE X e te)(hs:swapsWith e (some (.Name x pos')) pos.line X.env=pure false:=by rfl)(hf:X.fn x=true\/X.env.scope.names.lookup x=some .local:=by first|exact .inl rfl|exact .inr rfl|assumption):
  PS X (.Assign [.Name x pos'] e pos) (Ln te (Ia i)):=by
 intro a s c H D I h
 refine m5 (Fv (he a s c H _ I h) λv l ⟨y,f,j,d,g⟩=>?_) hs
 exact vK j hN hi hx d (λk b=>⟨_,f,b,g⟩) hf
end
section
variable{X:Cx}{pos:Pos}
def Lw(c:TT)(tb:TS):TS:=λD σ H=>∃W:Nat->St->Hp->Prop,(∃m,W m σ H)/\∀m σ H,W m σ H->
 c σ H λb H1=>if b=true then ∃N:St->Hp->Prop,(∀σ' H',N σ' H'->∃m',m'<m/\W m' σ' H')/\tb {D with nx:=N,ct:=N,bk:=D.nx} σ H1 else D.nx σ H1
theorem uw{c:Expr}{body:List Stmt}{tc:TT}{tb:TS}(hp:PassesOwn (model X.prog X.w) X.A X.env X.xe)(hc:PT X c tc)(hb:PSs X body tb):PS X (.While c body [] pos) (Lw tc tb):=by
 intro d s G H D I h;obtain⟨W,⟨z,F⟩,p⟩:=h;refine wpAny_While (codeAny_whileLoop (λn E=>∃σ' H',Inv X d σ' H' E/\W n σ' H') ?_ z ⟨G,H,I,F⟩);rintro n J ⟨e,u,L,B⟩;refine gv hp (Fv (hc d J e u _ L (p n e u B)) λb C ⟨x,y,k⟩=>?_)
 cases b with
 | true=>
  obtain⟨N,t,k⟩:=k;rw[if_pos rfl];refine gv hp (Fv (hb d C e x _ y k) λf M j=>?_)
  cases f with
  | next=>
   obtain⟨a,g,o,r⟩:=j;obtain⟨q,m,l⟩:=t a g r;exact⟨q,m,a,g,o,l⟩
  | cont=>
   obtain⟨a,g,o,r⟩:=j;obtain⟨q,m,l⟩:=t a g r;exact⟨q,m,a,g,o,l⟩
  | brk=>exact j
  | ret v=>exact j
 | false=>
  rw[if_neg cA];exact fS ⟨e,x,y,k⟩
end
structure It where
 go:Nat->Hp->Prop
 yld:Nat->Hp->V->Hp->Prop
 stop:Nat->Hp->Prop
def HJ(X:Cx)(pins:List (bV×Obj))(H:Hp)(b:bV):Prop:=
 H b=none/\b≠X.env.locals/\b∉X.fs/\(b∈X.ex\/X.s₀.heap.objs.size<=b)/\(∀x c,X.env.cells.lookup x=some c->c≠b)/\∀p∈X.pn++pins,p.1≠b
theorem Inv.fpOk{X:Cx}{pins:List (bV×Obj)}{σ:St}{H H':Hp}{s:bS}{b:bV}(I:Inv X pins σ H s)(hb:s.heap.objs.size<=b)(hn:H' b=none):HJ X pins H' b:=by
 refine⟨hn,gO (ci I.lt hb),I.nofs hb,.inr (cG I.sz hb),λx c e z=>?_,λp hp z=>?_⟩
 ·obtain⟨v,q⟩:=I.cell x c e;exact absurd (ci q.lt (by rw[z];exact hb)) (cJ _)
 ·exact absurd (ci (b6 (I.pin p hp).1) (by rw[z];exact hb)) (cJ _)
structure JX(P:cg)(w:cC)(K:bN)(tg:Expr)(J:It)(fp:List bV)(it:bV)(tn:Nat->Heap->Prop):Prop where
 mem:it∈fp
 obj:∀i h,tn i h->∀b∈fp,∃o,h.get? b=some o/\∀v,o.data≠ .cell v
 keep:∀i h h',tn i h->(∀b∈fp,∀o,h.get? b=some o->h'.get? b=some o)->tn i h'
 item:∀(X:Cx),X.prog=P->X.w=w->X.K=K->X.calm=true->∀(i:Nat) (pins:List (bV×Obj)) (s:bS) (σ:St) (H:Hp) (E:bQ->bS->Prop),Inv X pins σ H s->(∀b∈fp,HJ X pins H b)->tn i s.heap->J.go i H->
  wpAny (model P w) X.A (pyNext (.ref it)) (λr s1=>∃u,r=some u/\
   wpAny (model P w) X.A (letOwnedTupleGo tg (.ref it) u) (λ_ s2=>∃x H',Inv X pins σ H' s2/\RelV x u/\J.yld i H x H'/\tn (i+1) s2.heap/\∀b∈fp,H' b=none) E s1) E s
 done:∀(X:Cx),X.prog=P->X.w=w->X.K=K->X.calm=true->∀(i:Nat) (pins:List (bV×Obj)) (s:bS) (σ:St) (H:Hp) (E:bQ->bS->Prop),Inv X pins σ H s->(∀b∈fp,HJ X pins H b)->tn i s.heap->J.stop i H->
  wpAny (model P w) X.A (pyNext (.ref it)) (λr s1=>r=none/\Inv X pins σ H s1) E s
 self:∀(A:cO) (i:Nat) (s:bS) (Q:bQ->bS->Prop) (E:bQ->bS->Prop),tn i s.heap->Q (.ref it) s->wpAny (model P w) A (pyIter (.ref it)) Q E s
abbrev TI:=St->Hp->(It->Hp->Prop)->Prop
def N5(X:Cx)(pins:List (bV×Obj))(σ:St)(tg:Expr)(R:It->Hp->Prop)(itv:bQ)(s2:bS):Prop:=
 ∃(it:bV) (fp:List bV) (tn:Nat->Heap->Prop) (J:It) (H':Hp),itv = .ref it/\Inv X pins σ H' s2/\JX X.prog X.w X.K tg J fp it tn/\tn 0 s2.heap/\(∀b∈fp,HJ X pins H' b)/\R J H'
def PI(X:Cx)(tg iter:Expr)(wi:TI):Prop:=
 ∀(pins:List (bV×Obj)) (s:bS) (σ:St) (H:Hp) (R:It->Hp->Prop),Inv X pins σ H s->wi σ H R->
  wpAny (model X.prog X.w) X.A (eval iter X.env) (λv s1=>wpAny (model X.prog X.w) X.A (pyIter v) (N5 X pins σ tg R) X.xe s1) X.xe s
theorem CY{M:Model}{A:cO}{E:bQ->bS->Prop}{s:bS}{tg:Expr}{it:bV}{u:bQ}{o:Obj}{n:String}{vs:Array bQ}{Q:Unit->bS->Prop}(ho:s.heap.get? it=some o)(hc:o.cls = .type n)(hd:o.data = .fields vs)
  (hn:["enumerate","zip","dict_itemiterator","dict_reverseitemiterator","odict_iterator","itertools.zip_longest","itertools.pairwise"].contains n=false)(hQ:Q () s):wpAny M A (letOwnedTupleGo tg (.ref it) u) Q E s:=by
 unfold letOwnedTupleGo
 cases tg <;> first
  | exact bO hQ
  | (cases u <;> first
    | exact bO hQ
    | (refine bM (wpAny_load ho ?_);rw[hc,hd];show wpAny M A (if(["enumerate","zip","dict_itemiterator","dict_reverseitemiterator","odict_iterator","itertools.zip_longest","itertools.pairwise"].contains n&&vs[0]?==some (rawInt _))=true then _ else _) Q E s;rw[if_neg (by intro h;rw[hn,iU]at h;cases h)];exact bO hQ))
def Mm(K:bN)(a:bV):It:=
 ⟨λi H=>∃xs x,SqL K H a xs/\xs[i]?=some x,λi H x H'=>H'=H/\∀xs,SqL K H a xs->xs[i]?=some x,λi H=>∃xs,SqL K H a xs/\xs.length<=i⟩
def Mp(K:bN)(a:bV):It:=
 ⟨λi H=>∃xs x,SqT K H a xs/\xs[i]?=some x,λi H x H'=>H'=H/\∀xs,SqT K H a xs->xs[i]?=some x,λi H=>∃xs,SqT K H a xs/\xs.length<=i⟩
def LX(lo:Int)(n:Nat):It:=⟨λi _=>i<n,λi H x H'=>H'=H/\x = .int (lo+i),λi _=>n<=i⟩
theorem AQ{P:cg}{w:cC}{K:bN}{tg:Expr}(a it:bV):JX P w K tg (Mm K a) [it] it (λi h=>h.IsListIter it a i) where
 mem:=by simp
 obj:=λi h st b f=>by
  have e:b=it:=by simpa using f
  subst e
  obtain⟨o,e,c,d⟩:=st
  exact⟨o,e,λv z=>by rw[d]at z;cases z⟩
 keep:=λi h l st k=>st.at λo e=>k it (by simp) o e
 item:=by
  intro X F B r N i g s M H E I m st J
  subst F B r
  obtain⟨S,x,j,y⟩:=J
  obtain⟨L,C,p,Y⟩:=I.list j
  obtain⟨u,Q,V⟩:=C.get y
  obtain⟨t,G,O,A,q,D⟩:=m it (by simp)
  refine wpAny_pyNext_list_item st p.isList (x:=u) (by simpa using Q) λl n R=>?_
  have Z:Inv X g M H {s with heap:=l}:=I.turned (t':=s.toks) (λb o f e=>(R.2 b f).trans e) t G A q D
  obtain⟨o,e,c,d⟩:=id n
  exact⟨u,rfl,CY (s:={s with heap:=l}) e c d (by decide) ⟨x,H,Z,V,⟨rfl,λys T=>by rw[I.list_inj T j];exact y⟩,n,λb f=>(m b f).1⟩⟩
 done:=by
  intro X F B r N i g s M H E I m st J
  subst F B r
  obtain⟨S,j,y⟩:=J
  obtain⟨L,C,p,Y⟩:=I.list j
  obtain⟨t,G,O,A,q,D⟩:=m it (by simp)
  have hl:=C.length
  exact wpAny_pyNext_list_end (I.ok.hd N) st p.isList (by simp;omega) λl U=>⟨rfl,I.turned (t':=s.toks) (λb o f e=>U b o f e) t G A q D⟩
 self:=λ_ _ _ _ _ st h=>wpAny_pyIter_listiter st h
theorem z5{P:cg}{w:cC}{K:bN}{tg:Expr}(a it:bV):JX P w K tg (Mp K a) [it] it (λi h=>h.IsTupleIter it a i) where
 mem:=by simp
 obj:=λi h st b f=>by
  have e:b=it:=by simpa using f
  subst e
  obtain⟨o,e,c,d⟩:=st
  exact⟨o,e,λv z=>by rw[d]at z;cases z⟩
 keep:=λi h m st k=>st.at λo e=>k it (by simp) o e
 item:=by
  intro X G C t N i j s M H E I n st L
  subst G C t
  obtain⟨S,x,l,A⟩:=L
  obtain⟨g,D,p,Y⟩:=I.tuple l
  obtain⟨u,Q,V⟩:=D.get A
  obtain⟨y,J,O,B,r,F⟩:=n it (by simp)
  refine wpAny_pyNext_tuple_item st (show s.heap.IsTuple a g.toArray from p) (x:=u) (by simpa using Q) λm q R=>?_
  have Z:Inv X j M H {s with heap:=m}:=I.turned (t':=s.toks) (λb o f e=>(R.2 b f).trans e) y J B r F
  obtain⟨o,e,c,d⟩:=id q
  exact⟨u,rfl,CY (s:={s with heap:=m}) e c d (by decide) ⟨x,H,Z,V,⟨rfl,λys T=>by rw[I.tuple_inj T l];exact A⟩,q,λb f=>(n b f).1⟩⟩
 done:=by
  intro X G C t N i j s M H E I n st L
  subst G C t
  obtain⟨S,l,A⟩:=L
  obtain⟨g,D,p,Y⟩:=I.tuple l
  obtain⟨y,J,O,B,r,F⟩:=n it (by simp)
  have hl:=D.length
  exact wpAny_pyNext_tuple_end (I.ok.hd N) st (show s.heap.IsTuple a g.toArray from p) (by simp;omega) λm U=>⟨rfl,I.turned (t':=s.toks) (λb o f e=>U b o f e) y J B r F⟩
 self:=λ_ _ _ _ _ st h=>wpAny_pyIter_tupleiter st h
theorem zM{P:cg}{w:cC}{K:bN}{tg:Expr}(it:bV)(lo:Int)(n:Nat):JX P w K tg (LX lo n) [it] it (λi h=>IsRangeIter h it (lo+(i:Nat)*1) ((n:Int)-(i:Nat)) 1) where
 mem:=by simp
 obj:=λi h st b a=>by
  have e:b=it:=by simpa using a
  subst e
  exact⟨_,st,λv z=>by
   have F:lP _=Data.cell v:=z
   cases F⟩
 keep:=λi h d st k=>k it (by simp) _ st
 item:=by
  intro X x q j r i c s B H E I f st A
  subst x q j
  obtain⟨m,y,C,p,l,u⟩:=f it (by simp)
  have W:=Walks.range (prog:=X.prog) (w:=X.w) (I.ok.hd r) it lo 1 n
  refine W.item i s _ _ A st λv d tk D g G=>?_
  obtain⟨t,rfl⟩:=D
  have L:Inv X c B H {s with heap:=d,toks:=tk}:=I.turned (λb o a e=>G b o (by simpa using a) e) m y p l u
  refine⟨_,rfl,CY (s:={s with heap:=d,toks:=tk}) (n:="range_iterator") g rfl rfl (by decide) ⟨.int (lo+i),H,L,⟨t,?_⟩,⟨rfl,rfl⟩,g,λb a=>(f b a).1⟩⟩
  rw[gL]
 done:=by
  intro X x q j r i c s B H E I f st A
  subst x q j
  obtain⟨m,y,C,p,l,u⟩:=f it (by simp)
  exact wpAny_pyNext_range_end (I.ok.hd r) st (by have:n<=i:=A;omega) λd J=>⟨rfl,I.turned (t':=s.toks) (λb o a e=>J b o a e) m y p l u⟩
 self:=λ_ _ _ _ _ st h=>wpAny_pyIter_rangeiter st h
section
variable{X:Cx}{tg:Expr}
def Mc(K:bN)(tl:TE):TI:=λσ H R=>tl σ H λx H1=>∃a,x = .ref a/\(∃xs,SqL K H1 a xs)/\R (Mm K a) H1
def NF(K:bN)(tl:TE):TI:=λσ H R=>tl σ H λx H1=>∃a,x = .ref a/\(∃xs,SqT K H1 a xs)/\R (Mp K a) H1
theorem tE{l:Expr}{tl:TE}(hl:PE X l tl):PI X tg l (Mc X.K tl):=by
 intro f s k H R I h;refine Fv (hl f s k H _ I h) λv c ⟨x,g,d,n,r⟩=>?_;obtain⟨a,e,⟨u,j⟩,q⟩:=r;subst e
 cases n;obtain⟨t,w,p,y⟩:=d.list j;refine hO p.isList ?_;refine⟨c.heap.objs.size,[c.heap.objs.size],_,_,g,rfl,d.kept (t':=c.toks) λb o e=>bU _ e,AQ a _,⟨_,b4 _ rfl,rfl,rfl⟩,λb m=>?_,q⟩;have e:b=c.heap.objs.size:=by simpa using m
 subst e;exact d.fpOk (bX _) (d.hok.fresh (bX _))
theorem vP{l:Expr}{tl:TE}(hl:PE X l tl):PI X tg l (NF X.K tl):=by
 intro f s m H R I h;refine Fv (hl f s m H _ I h) λv c ⟨x,j,d,r,t⟩=>?_;obtain⟨a,e,⟨u,k⟩,q⟩:=t;subst e
 cases r;obtain⟨g,w,p,y⟩:=d.tuple k;refine mG (show c.heap.IsTuple a g.toArray from p) ?_;refine⟨c.heap.objs.size,[c.heap.objs.size],_,_,j,rfl,d.kept (t':=c.toks) λb o e=>bU _ e,z5 a _,⟨_,b4 _ rfl,rfl,rfl⟩,λb n=>?_,q⟩;have e:b=c.heap.objs.size:=by simpa using n
 subst e;exact d.fpOk (bX _) (d.hok.fresh (bX _))
theorem zy{pins:List (bV×Obj)}{σ:St}{H:Hp}{s:bS}{R:It->Hp->Prop}{E:bQ->bS->Prop}{lo hi:Int}{t u v:Tok}{tk:Nat}(I:Inv X pins σ H s)(h1: -(2^62)<=lo)(h2:lo<2^62)(h3: -(2^62)<=hi)(h4:hi<2^62)
  (q:R (LX lo (hi-lo).toNat) H):wpAny (model X.prog X.w) X.A (pyIter (.ref s.heap.objs.size)) (N5 X pins σ tg R) E {s with heap:=s.heap.push {cls:= .type "range",data:= .fields #[.int lo t,.int hi u,.int 1 v]},toks:=tk}:=by
 refine wpAny_pyIter_range (IsRange.new ..) (small_one h1 h2 h3 h4) ?_
 have a:Inv X pins σ H {s with heap:=s.heap.push {cls:= .type "range",data:= .fields #[.int lo t,.int hi u,.int 1 v]},toks:=tk}:=I.kept λb o e=>bU _ e
 refine⟨(s.heap.push {cls:= .type "range",data:= .fields #[.int lo t,.int hi u,.int 1 v]}).objs.size,[(s.heap.push {cls:= .type "range",data:= .fields #[.int lo t,.int hi u,.int 1 v]}).objs.size],_,_,H,rfl,
  a.kept (t':=tk) λb o e=>bU _ e,zM _ lo (hi-lo).toNat,?_,λb f=>?_,q⟩
 ·have c:lo+((0:Nat):Int)*1=lo:=by simp
  have d:(((hi-lo).toNat:Nat):Int)-((0:Nat):Int)=p9 lo hi 1:=by rw[rangeSize_one];split <;> omega
  show IsRangeIter _ _ (lo+((0:Nat):Int)*1) ((((hi-lo).toNat:Nat):Int)-((0:Nat):Int)) 1
  rw[c,d]
  exact b4 _ rfl
 ·have e:b=(s.heap.push {cls:= .type "range",data:= .fields #[.int lo t,.int hi u,.int 1 v]}).objs.size:=by simpa using f
  subst e
  exact a.fpOk (bX _) (a.hok.fresh (bX _))
def M2(ta:TA):TI:=λσ H R=>ta σ H λvs H1=>∃j:Int,vs=[.int j]/\ -(2^62)<=j/\j<2^62/\R (LX 0 j.toNat) H1
def Nq(ta:TA):TI:=λσ H R=>ta σ H λvs H1=>∃i j:Int,vs=[.int i,.int j]/\(-(2^62)<=i/\i<2^62/\ -(2^62)<=j/\j<2^62)/\R (LX i (j-i).toNat) H1
theorem sD{a:Expr}{ta:TA}{p pos:Pos}(hg:Gl X "range")(hm:X.mg "range"=none)(ha:PA X [a] ta)(hs:cD [a] X.env=[(false,eval a X.env)]:=by rfl):PI X tg (.Call (.Name "range" p) [a] [] pos) (M2 ta):=by
 intro b s f H R I h;refine rk (tY I hg hm boot_range (du (Fv (ha pos b s f H _ I h) λo n ⟨vs,m,l,k,c⟩=>?_) hs rfl));obtain⟨j,e,c,g,q⟩:=c;subst e
 cases k with
 | cons r d=>
  cases d;obtain⟨t,rfl⟩:=r;exact call_range_1 (zy l (by omega) (by omega) c g (by simpa using q))
theorem B4{a b:Expr}{ta:TA}{p pos:Pos}(hg:Gl X "range")(hm:X.mg "range"=none)(ha:PA X [a,b] ta)(hs:cD [a,b] X.env=[(false,eval a X.env),(false,eval b X.env)]:=by rfl)(hs2:cD [b] X.env=[(false,eval b X.env)]:=by rfl):
  PI X tg (.Call (.Name "range" p) [a,b] [] pos) (Nq ta):=by
 intro d s k H R I h
 refine rk (tY I hg hm boot_range (du (Fv (ha pos d s k H _ I h) λx w ⟨vs,v,u,o,f⟩=>?_) (by rw[hs,hs2]) (by rw[hs2];rfl)))
 obtain⟨i,j,e,⟨f,n,m,g⟩,q⟩:=f
 subst e
 cases o with
 | cons r c=>
  cases c with
  | cons l c=>
   cases c
   obtain⟨t,rfl⟩:=r
   obtain⟨y,rfl⟩:=l
   exact call_range_2 (zy u f n m g q)
def N6(wi:TI)(g:TG)(tb:TS):TS:=λD σ H=>wi σ H λJ H1=>∃W:Nat->Nat->St->Hp->Prop,(∃m,W 0 m σ H1)/\∀i m σ H,W i m σ H->
 (J.stop i H/\D.nx σ H)\/(J.go i H/\∃N:St->Hp->Prop,(∀σ' H',N σ' H'->∃m',m'<m/\W (i+1) m' σ' H')/\∀x H',J.yld i H x H'->g x σ H' λσ2 H2=>tb {D with nx:=N,ct:=N,bk:=D.nx} σ2 H2)
def IF(fp:List bV)(h:Heap):List (bV×Obj):=fp.filterMap λb=>(h.get? b).map λo=>(b,o)
theorem ux{fp:List bV}{h:Heap}{b:bV}{o:Obj}(hb:b∈fp)(e:h.get? b=some o):(b,o)∈IF fp h:=gg.mpr ⟨b,hb,by rw[e];rfl⟩
theorem BS{fp:List bV}{h:Heap}{p:bV×Obj}(hp:p∈IF fp h):p.1∈fp/\h.get? p.1=some p.2:=by
 obtain⟨b,c,e⟩:=gg.mp hp
 cases q:h.get? b with
 | none=>rw[q]at e;cases e
 | some o=>
  rw[q]at e;have a:(b,o)=p:=Option.some.inj e;subst a;exact⟨c,q⟩
theorem Inv.pinned{pins:List (bV×Obj)}{σ:St}{H:Hp}{s:bS}{fp:List bV}(I:Inv X pins σ H s)(hf:∀b∈fp,HJ X pins H b)(ho:∀b∈fp,∃o,s.heap.get? b=some o/\∀v,o.data≠ .cell v):Inv X (pins++IF fp s.heap) σ H s:=
 I.pins_of λp hp=>(cN.mp hp).elim (λz=>I.pin p (dc _ z)) λz=>by
  obtain⟨c,e⟩:=BS z
  obtain⟨g,h,f,_⟩:=hf p.1 c
  obtain⟨o,a,d⟩:=ho p.1 c
  rw[e]at a;cases a
  exact⟨e,g,h,f,d⟩
theorem Inv.unpinned{pins pl:List (bV×Obj)}{σ:St}{H:Hp}{s:bS}(I:Inv X (pins++pl) σ H s):Inv X pins σ H s:=I.pins_of λp hp=>I.pin p (dc _ (gw _ hp))
theorem tN{iter:Expr}{body:List Stmt}{wi:TI}{g:TG}{tb:TS}{pos:Pos}(hp:PassesOwn (model X.prog X.w) X.A X.env X.xe)(hc:X.calm=true)(hi:PI X tg iter wi)(hg:PG X tg g)(hb:PSs X body tb)
  (hs:∀x,foldedSetIterable iter X.env x=pure x:=by intro _;rfl):PS X (.For tg iter body [] pos) (N6 wi g tb):=by
 intro c s R H D I h
 refine wpAny_For (Fv (hi c s R H _ I h) λv s1 h1=>Fv h1 λae s2 h2=>?_) hs
 obtain⟨it,z,P,J,H2,e,I2,T,ab,U,W,⟨m0,w0⟩,O⟩:=h2
 subst e
 have q:∀{H':Hp},(∀b∈z,H' b=none)->∀b∈z,HJ X c H' b:=λhn b hb=>⟨hn b hb,(U b hb).2⟩
 refine codeAny_forLoop_any (λn s'=>∃i σ' H',Inv X c σ' H' s'/\P i s'.heap/\(∀b∈z,H' b=none)/\W i n σ' H') ?_ m0 ⟨0,R,H2,I2,ab,λb hb=>(U b hb).1,w0⟩
 rintro n Z ⟨i,p,C,Q,E,F,w3⟩
 rcases O i n p C w3 with⟨stop,qn⟩|⟨go,N,hN,L⟩
 ·refine gv hp (Fv (T.done X rfl rfl rfl hc i c Z p C X.xe Q (q F) E stop) λr s4 ⟨G,I4⟩=>?_)
  subst G
  exact fS ⟨p,C,I4,qn⟩
 ·refine gv hp (Fv (T.item X rfl rfl rfl hc i c Z p C X.xe Q (q F) E go) λr s4 ⟨u,G,h4⟩=>?_)
  subst G
  refine gv hp (Fv h4 λ_ Y ⟨x,V,I5,r5,y5,B,S⟩=>?_)
  have ac:=I5.pinned (q S) (T.obj _ _ B)
  refine gv hp (Fv (hg _ Y p V x u _ ac r5 (L x V y5)) λ_ s6 ⟨aa,H6,I6,q6⟩=>?_)
  refine gv hp (Fv (hb _ s6 aa H6 _ I6 q6) λf M l=>?_)
  have t:∀{a:St} {k:Hp},Inv X (c++IF z Y.heap) a k M->N a k->∃m,m<n/\∃i σ' H',Inv X c σ' H' M/\P i M.heap/\(∀b∈z,H' b=none)/\W i m σ' H':=λ {a k} j y=>by
   obtain⟨m',hm,w7⟩:=hN a k y
   refine⟨m',hm,i+1,a,k,j.unpinned,T.keep _ _ _ B λb hb o e=>(j.pin (b,o) (dc _ (dc _ (ux hb e)))).1,λb hb=>?_,w7⟩
   obtain⟨o,e,d⟩:=T.obj _ _ B b hb
   exact(j.pin (b,o) (dc _ (dc _ (ux hb e)))).2.1
  cases f with
  | next=>obtain⟨a,k,j,y⟩:=l;exact t j y
  | cont=>obtain⟨a,k,j,y⟩:=l;exact t j y
  | brk=>obtain⟨a,k,j,l⟩:=l;exact⟨a,k,j.unpinned,l⟩
  | ret v=>obtain⟨x7,a,k,j,r7,l⟩:=l;exact⟨x7,a,k,j.unpinned,r7,l⟩
end
theorem vJ{K:bN}{a:bV}{xs:List V}{g:TG}{tb:TS}{D:Ic}{σ:St}{H:Hp}(Pv:Nat->St->Hp->Prop)(h0:Pv 0 σ H)(hl:∀i σ H,i<=xs.length->Pv i σ H->SqL K H a xs)
  (hs:∀i x σ H,xs[i]?=some x->Pv i σ H->g x σ H λσ2 H2=>tb {D with nx:=Pv (i+1),ct:=Pv (i+1),bk:=D.nx} σ2 H2)(hd:∀σ H,Pv xs.length σ H->D.nx σ H):
  ∃W:Nat->Nat->St->Hp->Prop,(∃m,W 0 m σ H)/\∀i m σ H,W i m σ H->
   ((Mm K a).stop i H/\D.nx σ H)\/((Mm K a).go i H/\∃N:St->Hp->Prop,(∀σ' H',N σ' H'->∃m',m'<m/\W (i+1) m' σ' H')/\∀x H',(Mm K a).yld i H x H'->g x σ H' λσ2 H2=>tb {D with nx:=N,ct:=N,bk:=D.nx} σ2 H2):=by
 refine⟨λi m σ H=>m=xs.length-i/\i<=xs.length/\Pv i σ H,⟨xs.length,by simp,cM _,h0⟩,?_⟩
 rintro i m σ H ⟨rfl,c,p⟩
 have q:=hl i σ H c p
 by_cases b:i<xs.length
 ·refine .inr ⟨⟨xs,xs[i],q,by simp[b]⟩,Pv (i+1),λσ' H' d=>⟨xs.length-(i+1),by omega,rfl,b,d⟩,λx H' y=>?_⟩
  obtain⟨e,y⟩:=y
  subst e
  exact hs i x σ _ (y xs q) p
 ·have e:i=xs.length:=by omega
  subst e
  exact .inl ⟨⟨xs,q,bX _⟩,hd σ H p⟩
theorem Em{K:bN}{a:bV}{xs:List V}{g:TG}{tb:TS}{D:Ic}{σ:St}{H:Hp}(Pv:Nat->St->Hp->Prop)(h0:Pv 0 σ H)(hl:∀i σ H,i<=xs.length->Pv i σ H->SqT K H a xs)
  (hs:∀i x σ H,xs[i]?=some x->Pv i σ H->g x σ H λσ2 H2=>tb {D with nx:=Pv (i+1),ct:=Pv (i+1),bk:=D.nx} σ2 H2)(hd:∀σ H,Pv xs.length σ H->D.nx σ H):
  ∃W:Nat->Nat->St->Hp->Prop,(∃m,W 0 m σ H)/\∀i m σ H,W i m σ H->
   ((Mp K a).stop i H/\D.nx σ H)\/((Mp K a).go i H/\∃N:St->Hp->Prop,(∀σ' H',N σ' H'->∃m',m'<m/\W (i+1) m' σ' H')/\∀x H',(Mp K a).yld i H x H'->g x σ H' λσ2 H2=>tb {D with nx:=N,ct:=N,bk:=D.nx} σ2 H2):=by
 refine⟨λi m σ H=>m=xs.length-i/\i<=xs.length/\Pv i σ H,⟨xs.length,by simp,cM _,h0⟩,?_⟩
 rintro i m σ H ⟨rfl,c,p⟩
 have q:=hl i σ H c p
 by_cases b:i<xs.length
 ·refine .inr ⟨⟨xs,xs[i],q,by simp[b]⟩,Pv (i+1),λσ' H' d=>⟨xs.length-(i+1),by omega,rfl,b,d⟩,λx H' y=>?_⟩
  obtain⟨e,y⟩:=y
  subst e
  exact hs i x σ _ (y xs q) p
 ·have e:i=xs.length:=by omega
  subst e
  exact .inl ⟨⟨xs,q,bX _⟩,hd σ H p⟩
theorem sN{lo:Int}{n:Nat}{g:TG}{tb:TS}{D:Ic}{σ:St}{H:Hp}(Pv:Nat->St->Hp->Prop)(h0:Pv 0 σ H)
  (hs:∀i σ H,i<n->Pv i σ H->g (.int (lo+i)) σ H λσ2 H2=>tb {D with nx:=Pv (i+1),ct:=Pv (i+1),bk:=D.nx} σ2 H2)(hd:∀σ H,Pv n σ H->D.nx σ H):
  ∃W:Nat->Nat->St->Hp->Prop,(∃m,W 0 m σ H)/\∀i m σ H,W i m σ H->
   ((LX lo n).stop i H/\D.nx σ H)\/((LX lo n).go i H/\∃N:St->Hp->Prop,(∀σ' H',N σ' H'->∃m',m'<m/\W (i+1) m' σ' H')/\∀x H',(LX lo n).yld i H x H'->g x σ H' λσ2 H2=>tb {D with nx:=N,ct:=N,bk:=D.nx} σ2 H2):=by
 refine⟨λi m σ H=>m=n-i/\i<=n/\Pv i σ H,⟨n,by simp,cM _,h0⟩,?_⟩
 rintro i m σ H ⟨rfl,c,p⟩
 by_cases a:i<n
 ·refine .inr ⟨a,Pv (i+1),λσ' H' b=>⟨n-(i+1),by omega,rfl,a,b⟩,λx H' y=>?_⟩
  obtain⟨e,y⟩:=y
  subst e y
  exact hs i σ _ a p
 ·have e:i=n:=by omega
  subst e
  exact .inl ⟨bX _,hd σ H p⟩
abbrev R2:=V->V->Hp->VK->Prop
def Gw(X:Cx)(f:bQ->bQ->Sem bQ)(r:R2):Prop:=
 ∀(pins:List (bV×Obj)) (s:bS) (σ:St) (H:Hp) (x y:V) (v u:bQ) (Q:VK),Inv X pins σ H s->RelV x v->RelV y u->r x y H Q->
  wpAny (model X.prog X.w) X.A (f v u) (EP X pins σ Q) X.xe s
def NS(X:Cx)(f:bQ->Sem bQ)(r:V->Hp->VK->Prop):Prop:=
 ∀(pins:List (bV×Obj)) (s:bS) (σ:St) (H:Hp) (x:V) (v:bQ) (Q:VK),Inv X pins σ H s->RelV x v->r x H Q->
  wpAny (model X.prog X.w) X.A (f v) (EP X pins σ Q) X.xe s
def FW(X:Cx)(f:bQ)(r:List V->Hp->VK->Prop):Prop:=
 ∀(pins:List (bV×Obj)) (s:bS) (σ:St) (H:Hp) (xs:List V) (us:List bQ) (Q:VK),Inv X pins σ H s->Vals xs us->r xs H Q->
  wpAny (model X.prog X.w) X.A (call f us) (EP X pins σ Q) X.xe s
def Og(X:Cx)(r:V->Hp->(Bool->Hp->Prop)->Prop):Prop:=
 ∀(pins:List (bV×Obj)) (s:bS) (σ:St) (H:Hp) (x:V) (v:bQ) (Q:Bool->Hp->Prop),Inv X pins σ H s->RelV x v->r x H Q->
  wpAny (model X.prog X.w) X.A (truthy v) (TP X pins σ Q) X.xe s
def MH(r:R2)(ta tb:TE):TE:=λσ H Q=>ta σ H λx H1=>tb σ H1 λy H2=>r x y H2 Q
def Ou(r:V->Hp->VK->Prop)(ta:TE):TE:=λσ H Q=>ta σ H λx H1=>r x H1 Q
def rI(C:Int->Int->Prop)(g:Int->Int->V):R2:=λx y H Q=>∃i j,x = .int i/\y = .int j/\C i j/\Q (g i j) H
def Mj(g:Int->Int->V):R2:=λx y H Q=>∃i j,x = .int i/\y = .int j/\Q (g i j) H
def rU(g:Int->V):V->Hp->VK->Prop:=λx H Q=>∃i,x = .int i/\Q (g i) H
section
variable{X:Cx}{a b c:Expr}{ta tb tc:TE}{pos:Pos}
theorem Mv(ha:PE X a ta)(hb:PE X b tb){pins:List (bV×Obj)}{s:bS}{σ:St}{H:Hp}{R:V->V->Hp->Prop}(I:Inv X pins σ H s)
  (h:ta σ H λx H1=>tb σ H1 λy H2=>R x y H2){Q:bQ->bS->Prop}{f:bQ->bQ->Sem bQ}
  (hf:∀v u s2 x y H2,Inv X pins σ H2 s2->RelV x v->RelV y u->R x y H2->wpAny (model X.prog X.w) X.A (f v u) Q X.xe s2):
  wpAny (model X.prog X.w) X.A (eval a X.env) (λv s₁=>wpAny (model X.prog X.w) X.A (eval b X.env) (λu s₂=>wpAny (model X.prog X.w) X.A (f v u) Q X.xe s₂) X.xe s₁) X.xe s:=by
 refine Fv (ha pins s σ H _ I h) λv j ⟨x,H1,l,g,k⟩=>?_
 refine Fv (hb pins j σ H1 _ l k) λu s2 ⟨y,H2,c,d,e⟩=>?_
 exact hf v u s2 x y H2 c g d e
theorem rO{op:Operator}{r:R2}(ho:Gw X (binaryOp op) r)(ha:PE X a ta)(hb:PE X b tb):PE X (.BinOp a op b pos) (MH r ta tb):=by
 intro c s j H Q I h;exact wpAny_BinOp (Mv ha hb I h λv u k x y f e g d q=>ho c k j f x y v u Q e g d q)
theorem Bo{op:UnaryOp}{r:V->Hp->VK->Prop}(ho:NS X (unaryOp op) r)(ha:PE X a ta):PE X (.UnaryOp op a pos) (Ou r ta):=by
 intro b s c H Q I h;exact UnaryOp_ (Fv (ha b s c H _ I h) λv f ⟨x,e,j,d,g⟩=>ho b f c e x v Q j d g)
theorem NI{f:bQ->bQ->Sem bQ}{C:Int->Int->Prop}{g:Int->Int->Int}
  (rule:∀(i j:Int) (t u:Tok) (s:bS) (Q:bQ->bS->Prop) (E:bQ->bS->Prop),C i j->Q (.int (g i j) s.toks) {s with toks:=s.toks+1}->wpAny (model X.prog X.w) X.A (f (.int i t) (.int j u)) Q E s):
  Gw X f (rI C λi j=> .int (g i j)):=by
 intro c s k H x y v u Q I b a h
 obtain⟨i,j,rfl,rfl,d,q⟩:=h
 obtain⟨t,rfl⟩:=b
 obtain⟨e,rfl⟩:=a
 exact rule i j t e s _ _ d ⟨.int (g i j),H,I.tok _,⟨_,rfl⟩,q⟩
theorem M9{f:bQ->bQ->Sem bQ}{g:Int->Int->Int}
  (rule:∀(i j:Int) (t u:Tok) (s:bS) (Q:bQ->bS->Prop) (E:bQ->bS->Prop),Q (.int (g i j) s.toks) {s with toks:=s.toks+1}->wpAny (model X.prog X.w) X.A (f (.int i t) (.int j u)) Q E s):
  Gw X f (Mj λi j=> .int (g i j)):=by
 intro c s e H x y v u Q I b a h
 obtain⟨i,j,rfl,rfl,q⟩:=h
 obtain⟨t,rfl⟩:=b
 obtain⟨d,rfl⟩:=a
 exact rule i j t d s _ _ ⟨.int (g i j),H,I.tok _,⟨_,rfl⟩,q⟩
theorem MG{f:bQ->bQ->Sem bQ}{g:Int->Int->Bool}
  (rule:∀(i j:Int) (t u:Tok) (s:bS) (Q:bQ->bS->Prop) (E:bQ->bS->Prop),Q (.bool (g i j)) s->wpAny (model X.prog X.w) X.A (f (.int i t) (.int j u)) Q E s):
  Gw X f (Mj λi j=> .bl (g i j)):=by
 intro c s e H x y v u Q I b a h
 obtain⟨i,j,rfl,rfl,q⟩:=h
 obtain⟨t,rfl⟩:=b
 obtain⟨d,rfl⟩:=a
 exact rule i j t d s _ _ ⟨.bl (g i j),H,I,rfl,q⟩
theorem sJ:Gw X (binaryOp .Add) (Mj λi j=> .int (i+j)):=M9 λ_ _ _ _ _ _ _ q=>add_int q
theorem wJ:Gw X (binaryOp .Sub) (Mj λi j=> .int (i-j)):=M9 λ_ _ _ _ _ _ _ q=>sub_int q
theorem sh:Gw X (binaryOp .Mod) (rI (λ_ j=>0<j) λi j=> .int (i%j)):=NI λi j _ _ _ _ _ a q=>by
 have h1:(0:Int)<j:=a;exact mod_int' (by omega) (by rw[Int.fmod_eq_emod_of_nonneg i (by omega)];exact q)
theorem OE{f:bQ->Sem bQ}{g:Int->Int}
  (rule:∀(i:Int) (t:Tok) (s:bS) (Q:bQ->bS->Prop) (E:bQ->bS->Prop),Q (.int (g i) s.toks) {s with toks:=s.toks+1}->wpAny (model X.prog X.w) X.A (f (.int i t)) Q E s):
  NS X f (rU λi=> .int (g i)):=by
 intro a s c H x v Q I b h
 obtain⟨i,rfl,q⟩:=h
 obtain⟨t,rfl⟩:=b
 exact rule i t s _ _ ⟨.int (g i),H,I.tok _,⟨_,rfl⟩,q⟩
theorem yv:NS X (unaryOp .USub) (rU λi=> .int (-i)):=OE λ_ _ _ _ _ q=>neg_int q
end
def Nl:V->V->Bool
 | .non,.non=>true | .non,.int _=>true | .int _,.non=>true | .non,.bl _=>true | .bl _,.non=>true | .non,.str _=>true | .str _,.non=>true
 | .int _,.int _=>true | .bl _,.bl _=>true | .str _,.str _=>true | .byt _,.byt _=>true
 | .int _,.str _=>true | .str _,.int _=>true | .bl _,.str _=>true | .str _,.bl _=>true
 | _,_=>false
def Oz:R2:=λx y H Q=>Nl x y=true/\Q (.bl (decide (x=y))) H
def Ox:R2:=λx y H Q=>Nl x y=true/\Q (.bl (!decide (x=y))) H
theorem BA{i j:Int}:decide (V.int i=V.int j)=(i==j):=by
 rw[fT];simp
theorem Do{i j:Bool}:decide (V.bl i=V.bl j)=(i==j):=by
 rw[fT];simp
theorem A5{i j:Str}:decide (V.str i=V.str j)=(i==j):=by
 rw[fT];simp
theorem Au{i j:Array UInt8}:decide (V.byt i=V.byt j)=(i.toList==j.toList):=by
 rw[fT]
 cases i
 cases j;simp
section
variable{X:Cx}{a b c:Expr}{ta tb tc:TE}{pos:Pos}
theorem sr{pins:List (bV×Obj)}{σ:St}{H:Hp}{s:bS}{Q:VK}{k k':Bool}(I:Inv X pins σ H s)(q:Q (.bl k) H)(e:k=k'):EP X pins σ Q (.bool k') s:=by
 subst e;exact⟨.bl k,H,I,rfl,q⟩
theorem sY:Gw X (compareOp .Eq) Oz:=by
 intro e s f H x y v u Q I d a h;obtain⟨c,q⟩:=h
 cases x with
 | non=>
  cases d
  cases y with
  | non=>cases a;exact o6 (sr I q (by simp))
  | bl j=>cases a;exact o7 (sr I q (by simp))
  | int j=>obtain⟨b,rfl⟩:=a;exact pz (sr I q (by simp))
  | str j=>obtain⟨b,rfl⟩:=a;exact pA (sr I q (by simp))
  | _=>exact absurd (show false=true from c) cA
 | bl i=>
  cases d
  cases y with
  | non=>cases a;exact o8 (sr I q (by simp))
  | bl j=>cases a;exact eq_bool (sr I q Do)
  | str j=>obtain⟨b,rfl⟩:=a;exact o9 (sr I q (by simp))
  | _=>exact absurd (show false=true from c) cA
 | int i=>
  obtain⟨t,rfl⟩:=d
  cases y with
  | non=>cases a;exact pB (sr I q (by simp))
  | int j=>obtain⟨b,rfl⟩:=a;exact eq_int (sr I q BA)
  | str j=>obtain⟨b,rfl⟩:=a;exact pC (sr I q (by simp))
  | _=>exact absurd (show false=true from c) cA
 | str i=>
  obtain⟨t,rfl⟩:=d
  cases y with
  | non=>cases a;exact pD (sr I q (by simp))
  | bl j=>cases a;exact pb (sr I q (by simp))
  | int j=>obtain⟨b,rfl⟩:=a;exact pE (sr I q (by simp))
  | str j=>obtain⟨b,rfl⟩:=a;exact eq_str (sr I q A5)
  | _=>exact absurd (show false=true from c) cA
 | byt i=>
  obtain⟨t,rfl⟩:=d
  cases y with
  | byt j=>obtain⟨b,rfl⟩:=a;exact PySem.W.eq_bytes (sr I q Au)
  | _=>exact absurd (show false=true from c) cA
 | _=>cases y <;> exact absurd (show false=true from c) cA
theorem xZ:Gw X (compareOp .NotEq) Ox:=by
 intro e s f H x y v u Q I d a h;obtain⟨c,q⟩:=h
 cases x with
 | non=>
  cases d
  cases y with
  | non=>cases a;exact pc (sr I q (by simp))
  | bl j=>cases a;exact ph (sr I q (by simp))
  | int j=>obtain⟨b,rfl⟩:=a;exact pF (sr I q (by simp))
  | str j=>obtain⟨b,rfl⟩:=a;exact pG (sr I q (by simp))
  | _=>exact absurd (show false=true from c) cA
 | bl i=>
  cases d
  cases y with
  | non=>cases a;exact pi (sr I q (by simp))
  | bl j=>cases a;exact ne_bool (sr I q (congrArg not Do))
  | str j=>obtain⟨b,rfl⟩:=a;exact pj (sr I q (by simp))
  | _=>exact absurd (show false=true from c) cA
 | int i=>
  obtain⟨t,rfl⟩:=d
  cases y with
  | non=>cases a;exact pH (sr I q (by simp))
  | int j=>obtain⟨b,rfl⟩:=a;exact ne_int (sr I q (congrArg not BA))
  | str j=>obtain⟨b,rfl⟩:=a;exact pI (sr I q (by simp))
  | _=>exact absurd (show false=true from c) cA
 | str i=>
  obtain⟨t,rfl⟩:=d
  cases y with
  | non=>cases a;exact pJ (sr I q (by simp))
  | bl j=>cases a;exact pq (sr I q (by simp))
  | int j=>obtain⟨b,rfl⟩:=a;exact pK (sr I q (by simp))
  | str j=>obtain⟨b,rfl⟩:=a;exact ne_str (sr I q (congrArg not A5))
  | _=>exact absurd (show false=true from c) cA
 | byt i=>
  obtain⟨t,rfl⟩:=d
  cases y with
  | byt j=>obtain⟨b,rfl⟩:=a;exact PySem.W.ne_bytes (sr I q (congrArg not Au))
  | _=>exact absurd (show false=true from c) cA
 | _=>cases y <;> exact absurd (show false=true from c) cA
theorem z6:Gw X (compareOp .Lt) (Mj λi j=> .bl (decide (i<j))):=MG λ_ _ _ _ _ _ _ q=>lt_int q
theorem AL:Gw X (compareOp .LtE) (Mj λi j=> .bl (decide (i<=j))):=MG λ_ _ _ _ _ _ _ q=>le_int q
theorem EN:Gw X (compareOp .Gt) (Mj λi j=> .bl (decide (j<i))):=MG λ_ _ _ _ _ _ _ q=>gt_int q
theorem Ay:Gw X (compareOp .Is) (λx y H Q=>y = .non/\Q (.bl (decide (x = .non))) H):=by
 intro c s d H x y v u Q I a b h;obtain⟨rfl,q⟩:=h
 cases b;refine is_none_gen (sr I q ?_)
 cases x <;> first
  | (cases a;rfl)
  | (obtain⟨t,rfl⟩:=a;rfl)
theorem BO:Gw X (compareOp .IsNot) (λx y H Q=>y = .non/\Q (.bl (!decide (x = .non))) H):=by
 intro c s d H x y v u Q I a b h;obtain⟨rfl,q⟩:=h
 cases b;refine isnot_none_gen (sr I q ?_)
 cases x <;> first
  | (cases a;rfl)
  | (obtain⟨t,rfl⟩:=a;rfl)
theorem Fj(b:Expr){op:CmpOp}(h:op≠ .In:=by decide)(h2:op≠ .NotIn:=by decide):behindInMarks op b=false:=by
 have a:(op==CmpOp.In)=false:=by cases op <;> first|rfl|exact absurd rfl h
 have c:(op==CmpOp.NotIn)=false:=by cases op <;> first|rfl|exact absurd rfl h2
 cases b <;> simp[behindInMarks,a,c]
theorem ua{op:CmpOp}{r:R2}(ho:Gw X (compareOp op) r)(ha:PE X a ta)(hb:PE X b tb)(hm:behindInMarks op b=false):PE X (.Compare a [op] [b] pos) (MH r ta tb):=by
 intro c s j H Q I h;exact wpAny_Compare1 (Mv ha hb I h λv u k x y f e g d q=>ho c k j f x y v u Q e g d q) hm
def L6(t:TE):TT:=λσ H Q=>t σ H λx H'=>∃k,x = .bl k/\Q k H'
theorem rM{op:CmpOp}{r:R2}(ho:Gw X (compareOp op) r)(ha:PE X a ta)(hb:PE X b tb)(hm:behindInMarks op b=false):PT X (.Compare a [op] [b] pos) (L6 (MH r ta tb)):=by
 intro d s f H Q I h;refine lC (Fv (ha d s f H _ I h) λv t ⟨x,g,D,B,C⟩=>Fv (hb d t f g _ D C) λu m ⟨y,o,q,p,A⟩=>
  Fv (ho d m f o x y v u _ q B p A) λc E ⟨z,l,j,n,k,e,w⟩=>?_) hm
 subst e
 cases n;exact dU ⟨l,j,w⟩
def Lu(r r':R2)(ta tb tc:TE):TE:=λσ H Q=>ta σ H λx H1=>tb σ H1 λy H2=>r x y H2 λz H3=>∃k,z = .bl k/\
 (if k=true then tc σ H3 λw' H4=>r' y w' H4 Q else Q (.bl false) H3)
theorem y0{op op':CmpOp}{r r':R2}(ho:Gw X (compareOp op) r)(ho':Gw X (compareOp op') r')(ha:PE X a ta)(hb:PE X b tb)(hc:PE X c tc)
  (hm:lastMarks [op,op'] [b,c]=false:=by with_unfolding_all rfl):PE X (.Compare a [op,op'] [b,c] pos) (Lu r r' ta tb tc):=by
 intro f s g H Q I h
 refine Compare_chain (Fv (ha f s g H _ I h) λv F ⟨x,t,N,L,M⟩=>chain_link (Fv (hb f F g t _ N M) λu A ⟨y,C,E,m,J⟩=>
  Fv (ho f A g C x y v u _ E L m J) λd O ⟨z,l,j,B,k,e,n⟩=>?_)) hm
 subst e
 cases B
 refine dU ?_
 cases k with
 | false=>exact ite_ff ⟨.bl false,l,j,rfl,n⟩
 | true=>exact ite_tt (chain_last (Fv (hc f O g l _ j n) λo D ⟨w,P,G,q,p⟩=>ho' f D g P y w u o Q G m q p))
theorem zf{op op':CmpOp}{r r':R2}(ho:Gw X (compareOp op) r)(ho':Gw X (compareOp op') r')(ha:PE X a ta)(hb:PE X b tb)(hc:PE X c tc)
  (hm:lastMarks [op,op'] [b,c]=false:=by with_unfolding_all rfl):PT X (.Compare a [op,op'] [b,c] pos) (L6 (Lu r r' ta tb tc)):=by
 intro f s g H Q I h
 refine isTrue_chain (Fv (ha f s g H _ I h) λv P ⟨x,A,V,T,U⟩=>test_link (Fv (hb f P g A _ V U) λu J ⟨y,M,O,m,S⟩=>
  Fv (ho f J g M x y v u _ O T m S) λd W ⟨z,l,j,L,k,e,n⟩=>?_)) hm
 subst e
 cases L
 refine dU ?_
 cases k with
 | false=>
  obtain⟨k',F,C⟩:=n
  cases F
  exact ite_ff ⟨l,j,C⟩
 | true=>
  refine ite_tt (test_last (Fv (hc f W g l _ j n) λp N ⟨B,Y,R,t,q⟩=>Fv (ho' f N g Y y B u p _ R m t q) λZ s5 ⟨z2,E,w,D,k2,o,G⟩=>?_))
  subst o
  cases D
  exact dU ⟨E,w,G⟩
def ND(K:bN)(x:V)(H:Hp)(k:Bool):Prop:=
 match x with
 | .non=>k=false
 | .bl b=>k=b
 | .int i=>k=(i != 0)
 | .str y=>y.length<=sizeLine/\k=((y.length:Int) != 0)
 | .byt y=>y.size<=sizeLine/\k=((y.size:Int) != 0)
 | .ref p=>(∃xs,SqL K H p xs/\k = !xs.isEmpty)\/(∃xs,SqT K H p xs/\k = !xs.isEmpty)\/∃kvs,H p=some (.dK kvs)/\k = !kvs.isEmpty
 | _=>False
theorem zJ{κ:Type}{kvs:List (κ×V)}{vs:List (κ×bQ)}(r:KV kvs vs):(!vs.isEmpty) = !kvs.isEmpty:=by
 cases r <;> rfl
theorem wV{xs:List V}{its:List bQ}(r:Vals xs its):(!its.toArray.isEmpty) = !xs.isEmpty:=by
 cases r <;> simp
theorem GB:(sizeLine:Nat)<2^63:=by rw[lR];decide
theorem EA:Og X (λx H Q=>∃k,ND X.K x H k/\Q k H):=by
 intro z s D H x v Q I f h;obtain⟨k,e,q⟩:=h;have B:=GB;have C:sizeLine=16777216:=lR
 cases x with
 | non=>
  cases f;have a:k=false:=e;subst a;exact truthy_none ⟨H,I,q⟩
 | bl b=>
  cases f;have a:k=b:=e;subst a;exact dU ⟨H,I,q⟩
 | int i=>
  obtain⟨t,rfl⟩:=f;have a:k=(i != 0):=e;subst a;exact PySem.P.truthy_int ⟨H,I,q⟩
 | str y=>
  obtain⟨t,rfl⟩:=f;obtain⟨u,a⟩:y.length<=sizeLine/\k=((y.length:Int) != 0):=e;subst a;exact PySem.P.truthy_str (by omega) ⟨H,I.tok _,q⟩
 | byt y=>
  obtain⟨t,rfl⟩:=f;obtain⟨u,a⟩:y.size<=sizeLine/\k=((y.size:Int) != 0):=e;subst a;exact PySem.W.truthy_bytes (by omega) ⟨H,I.tok _,q⟩
 | ref p=>
  cases f;have a:(∃d,SqL X.K H p d/\k = !d.isEmpty)\/(∃d,SqT X.K H p d/\k = !d.isEmpty)\/∃c,H p=some (.dK c)/\k = !c.isEmpty:=e;rcases a with⟨d,g,a⟩|⟨d,g,a⟩|⟨c,g,a⟩
  ·subst a;obtain⟨n,r,l,o⟩:=I.list g;have j:=r.length;exact wpAny_truthy_list l.isList (by simp only[cc];omega) ⟨H,I.tok _,by rw[wV r];exact q⟩
  ·subst a;obtain⟨n,r,l,o⟩:=I.tuple g;have j:=r.length;exact truthy_tuple l (by simp only[cc];omega) ⟨H,I.tok _,by rw[wV r];exact q⟩
  ·subst a;obtain⟨o,A,vs,r,m⟩:c.length<=sizeLine/\(p==sysModules)=false/\∃vs,KV c vs/\s.heap.DictOf (Io X.prog X.w) p vs:=I.hok p _ g;have j:c.length=vs.length:=ml r;exact wpAny_truthy_dict A m (by omega) ⟨H,I.tok _,by rw[zJ r];exact q⟩
 | _=>exact(show False from e).elim
theorem Ci(ha:PE X a ta)(he:∀whole,isTrue a X.env whole=(do let v<-whole;standAt a.pos;holding [v] (truthy v))):
  PT X a (λσ H Q=>ta σ H λx H'=>∃k,ND X.K x H' k/\Q k H'):=by
 intro b s σ H Q I h
 exact qe (Fv (ha b s σ H _ I h) λv e ⟨x,d,g,c,f⟩=>EA b e σ d x v Q g c f) (he _)
theorem sP:Gw X (binaryOp .Add) (λx y H Q=>∃i j,x = .str i/\y = .str j/\i.length+j.length<=sizeLine/\Q (.str (i++j)) H):=by
 intro c s f H x y v u Q I b a h;obtain⟨i,j,rfl,rfl,d,q⟩:=h;obtain⟨t,rfl⟩:=b;obtain⟨e,rfl⟩:=a;exact add_str (λe tk=>⟨.str (i++j),H,I.tok _,⟨_,rfl⟩,q⟩) d
theorem F6{x:V}{us:List bQ}(r:Vals [x] us):∃u,us=[u]/\RelV x u:=by
 cases r with
 | cons a b=>cases b;exact⟨_,rfl,a⟩
theorem Kb{x y:V}{us:List bQ}(r:Vals [x,y] us):∃u w',us=[u,w']/\RelV x u/\RelV y w':=by
 cases r with
 | cons a c=>
  cases c with
  | cons b d=>cases d;exact⟨_,_,rfl,a,b⟩
theorem xh:FW X (.builtin "abs") (λxs H Q=>∃i,xs=[.int i]/\Q (.int (if i<0 then -i else i)) H):=by
 intro a s b H xs c Q I r h;obtain⟨i,rfl,q⟩:=h;obtain⟨u,rfl,t,rfl⟩:=F6 r;exact call_abs_int λu tk=>⟨.int (if i<0 then -i else i),H,I.tok _,⟨_,rfl⟩,q⟩
theorem A7:FW X (.type "int") (λxs H Q=>(∃i,xs=[.int i]/\Q (.int i) H)\/∃k,xs=[.bl k]/\Q (.int (if k then 1 else 0)) H):=by
 intro a s c H xs d Q I r h;rcases h with⟨i,rfl,q⟩|⟨k,rfl,q⟩
 ·obtain⟨u,rfl,t,rfl⟩:=F6 r;exact call_int_int ⟨.int i,H,I,⟨_,rfl⟩,q⟩
 ·obtain⟨u,rfl,b⟩:=F6 r
  cases b;exact call_int_bool ⟨.int (if k then 1 else 0),H,I.tok _,⟨_,rfl⟩,q⟩
end
structure ObjM(h:Heap)(x dx C:bV)(mA:Str->Option bQ):Prop where
 obj:h.get? x=some (fR C dx)
 ns:h.Ns1 dx mA
 ne:dx≠x
theorem BF{h:Heap}{dx:bV}{mA:Str->Option bQ}(n:h.Ns1 dx mA):∃od,h.get? dx=some od/\∀name,jA name od=some (mA name):=by
 obtain⟨o,c,l,j,f,hk,_,g⟩:=n;refine⟨o,j,λname=>?_⟩;have e:=g name;unfold nsFind findBy at e;rw[<-Array.find?_toList]at e;unfold jA;rw[f];dsimp only;split
 ·rename_i y q
  rw[q]at e;exact congrArg some e
 ·rename_i q
  rw[q]at e;have a:c.toList.any (·.refKey)=false:=by
   rw[List.any_eq_false];intro y d;obtain⟨z,t,b⟩:=hk y (Array.mem_toList_iff.mp d);simp[ro,b]
  have k:¬c.toList.any (·.refKey)=true:=by rw[a];exact cA
  rw[if_neg k];exact congrArg some e
theorem ObjM.look{h:Heap}{x dx C:bV}{mA:Str->Option bQ}(I:ObjM h x dx C mA):∃od,PySem.W.InstAt h x (fR C dx) C (some od)/\∀name,jA name od=some (mA name):=
 let⟨od,a,b⟩:=BF I.ns
 ⟨od,⟨I.obj,rfl,rfl,a⟩,b⟩
section
variable{prog:cg}{w:cC}{A:cO}{E:bQ->bS->Prop}{s:bS}{K:bN}{x dx C f:bV}{mA:Str->Option bQ}{name:Str}{v:bQ}
theorem DY{expr:Bool}{Q:bQ->bS->Prop}(X:K.In s.heap)(I:ObjM s.heap x dx C mA)(hg:jc K C name=true)(hh:jY K C=true)
  (ha:eP K (.ref C) name=some none)(hv:mA name=some v)(hv':nQ v=true)(h:Q v {s with toks:=s.toks+1}):
  wpAny (model prog w) A (getAttr (.ref x) name expr) Q E s:=by
 obtain⟨b,J,a⟩:=I.look
 exact PySem.W.get_value X J (jt hg).1 (PySem.W.findObj_own hh ha rfl (by rw[a,hv])) hv' h
theorem Cb{pl:Sem Bool}{Q:bQ×List bQ->bS->Prop}(X:K.In s.heap)(I:ObjM s.heap x dx C mA)(hg:jc K C name=true)
  (hf:eP K (.ref C) name=some (some (.ref f)))(ht:m6 K (.ref f)=true)(hv:mA name=none)(h:Q (.ref f,[.ref x]) s):
  wpAny (model prog w) A (getMethod (.ref x) name pl) Q E s:=by
 obtain⟨a,J,b⟩:=I.look
 exact PySem.W.method_fn X J (jt hg).1 (jt hg).2 hf (beq_iff_eq.mp ht) (by show(jA name a).map (·.isSome)=some false;rw[b,hv];rfl) h
theorem El{ns:List Str}{Q:Unit->bS->Prop}(X:K.In s.heap)(I:ObjM s.heap x dx C mA)
  (hs:eP K (.ref C) "__setattr__"=some (some (.builtin "object.__setattr__")))(hp:m7 K C=true)(ht:ln K C name=some none)(hh:jY K C=true)
  (hw:kW mA ns)(hsz:ns.length<=sizeLine)
  (h:∀h',ObjM h' x dx C (λy=>if y=name then some v else mA y)->eT dx s.heap h'->Q () {s with heap:=h',toks:=s.toks+2}):
  wpAny (model prog w) A (setAttr (.ref x) name v) Q E s:=by
 obtain⟨p,J,o⟩:=I.look
 refine PySem.W.set_plain X J hs (PySem.W.osa_open (s:={s with toks:=s.toks+1}) (r:=none) X J hp ht λb=>?_)
 obtain⟨q,k,j⟩:=PySem.W.any_some hh
 have l:s.heap.get? x=some ⟨.ref C,some dx,.plain,#[]⟩:=I.obj
 refine bM (bO (bM (bM (oK l (bM (rc (s:={s with toks:=s.toks+1}) (PySem.W.looks_clsIn X k) ?_))))))
 rw[j]
 refine bO (a:=some dx) (bM (bO (bM ?_)))
 refine wpAny_nsSet1 (s:={s with toks:=s.toks+1}) I.ns λh' d c=>?_
 obtain⟨t,n,m,f,g,e⟩:=d.count (kW.cons name v hw)
 refine bM (wpAny_lookBehind f (by rw[g];exact pastItsLine_dict (cG e (by rw[cZ];omega))) ?_)
 exact bO (h _ ⟨(c.2 _ (Ne.symm I.ne)).trans I.obj,d,I.ne⟩ c)
theorem y4{R:Result->bS->Prop}{vs:List bQ}{kw:List (Str×bQ)}(X:K.In s.heap)(hm:on K C=true)
  (hi:eP K (.ref C) "__init__"=some (some (.ref f)))(hf:oM K (.ref f)=some (.type "function"))
  (h:codeAny (model prog w) (A.under (.builtin "type.__call__" ⟨.ref C::vs,kw⟩)) (.call (.ref f) ⟨.ref (s.heap.objs.size+1)::vs,kw⟩) (PySem.W.InitBack (s.heap.objs.size+1) R)
   {s with heap:=(s.heap.push eZ).push (fR C s.heap.objs.size)}):
  codeAny (model prog w) A (.call (.ref C) ⟨vs,kw⟩) R s:=by
 obtain⟨b,g,d,t,os⟩:=s
 exact PySem.W.make_core (PySem.W.makes_of X hm) (ic X hi) (λa=>PySem.W.bind_fn X a hf) (.inl rfl) h
end
def FY(f:Str)(v:V):List (Str×V)->List (Str×V)
 | []=>[(f,v)]
 | (g,x)::r=>if g=f then(g,v)::r else(g,x)::FY f v r
theorem v6(f g:Str)(v:V):∀fs:List (Str×V),(FY f v fs).lookup g=if g=f then some v else fs.lookup g
 | []=>by
  show gx g [(f,v)]=_
  by_cases h:g=f
  ·have a:(g==f)=true:=beq_iff_eq.mpr h
   simp only[gx,a,if_pos h]
  ·have a:(g==f)=false:=beq_eq_false_iff_ne.mpr h
   simp only[gx,a,if_neg h]
 | (k,x)::r=>by
  have b:=v6 f g v r
  rw[show FY f v ((k,x)::r)=(if k=f then(k,v)::r else(k,x)::FY f v r)from rfl]
  by_cases hk:k=f
  ·rw[if_pos hk]
   by_cases h:g=k
   ·have a:(g==k)=true:=beq_iff_eq.mpr h
    simp only[gx,a,if_pos (h.trans hk)]
   ·have a:(g==k)=false:=beq_eq_false_iff_ne.mpr h
    simp only[gx,a,if_neg (λe:g=f=>h (e.trans hk.symm))]
  ·rw[if_neg hk]
   by_cases h:g=k
   ·have a:(g==k)=true:=beq_iff_eq.mpr h
    simp only[gx,a,if_neg (λe:g=f=>hk (h.symm.trans e))]
   ·have a:(g==k)=false:=beq_eq_false_iff_ne.mpr h
    simp only[gx,a]
    exact b
theorem vZ(f:Str)(v:V):∀fs:List (Str×V),f∈(FY f v fs).map (·.1)/\∀g,g∈fs.map (·.1)->g∈(FY f v fs).map (·.1)
 | []=>⟨by simp[FY],λg h=>by simp at h⟩
 | (k,x)::r=>by
  obtain⟨b,a⟩:=vZ f v r
  rw[show FY f v ((k,x)::r)=(if k=f then(k,v)::r else(k,x)::FY f v r)from rfl]
  by_cases hk:k=f
  ·rw[if_pos hk]
   subst hk
   exact⟨by simp,λg h=>by simpa using h⟩
  ·rw[if_neg hk]
   refine⟨?_,λg h=>?_⟩
   ·rw[dh]
    exact b3 _ b
   ·rw[dh]at h ⊢
    rcases cj.mp h with e|e
    ·exact cj.mpr (.inl e)
    ·exact b3 _ (a g e)
theorem wg(f:Str)(v:V):∀fs:List (Str×V),(FY f v fs).length<=fs.length+1
 | []=>by simp[FY]
 | (k,x)::r=>by
  have a:=wg f v r
  rw[show FY f v ((k,x)::r)=(if k=f then(k,v)::r else(k,x)::FY f v r)from rfl]
  by_cases hk:k=f
  ·rw[if_pos hk,cZ,cZ];omega
  ·rw[if_neg hk,cZ,cZ];omega
theorem RelO.some_of{v:V}{o:Option bQ}(r:RelO (some v) o):∃u,o=some u/\RelV v u:=by
 cases o with
 | none=>exact(show False from r).elim
 | some u=>exact⟨u,rfl,r⟩
theorem RelO.none_of{o:Option bQ}(r:RelO none o):o=none:=by
 cases o with
 | none=>rfl
 | some u=>exact(show False from r).elim
theorem AF{v:V}{u:bQ}(r:RelV v u):nQ u=true:=by
 cases v with
 | non=>cases(show u=bQ.none from r);rfl
 | bl b=>cases(show u=dH b from r);rfl
 | int i=>obtain⟨t,e⟩:=(show ∃t,u=dn i t from r);cases e;rfl
 | str x=>obtain⟨t,e⟩:=(show ∃t,u=g7 x t from r);cases e;rfl
 | byt b=>obtain⟨t,e⟩:=(show ∃t,u=qC b t from r);cases e;rfl
 | flt b=>obtain⟨t,e⟩:=(show ∃t,u=qD b t from r);cases e;rfl
 | ref a=>cases(show u=b5 a from r);rfl
 | ty n=>cases(show u=cX n from r);rfl
section
variable{P:cg}{w:cC}{H H':Hp}{h h':Heap}{a C dx:bV}{fs fs':List (Str×V)}
theorem yB(hok:HOk P w H h)(e:H a=some (.ins C dx fs)):∃mA,ObjM h a dx C mA/\(∀f,RelO (fs.lookup f) (mA f))/\kW mA (fs.map (·.1))/\fs.length<=1000/\H dx=some (.own a):=by
 obtain⟨d,z,b,c,mA,n,r,q⟩:=(show ObjOk P w H h a (.ins C dx fs)from hok a _ e);exact⟨mA,⟨c,n,b⟩,r,q,z,d⟩
end
structure Cls(K:bN)(C:bV):Prop where
 pg:jc K C fu=true
 hd:jY K C=true
 po:m7 K C=true
 sa:eP K (.ref C) "__setattr__"=some (some (.builtin "object.__setattr__"))
theorem Cls.get{K:bN}{C:bV}(c:Cls K C)(f:Str):jc K C f=true:=c.pg
def NoAttr(K:bN)(C:bV)(f:Str):Prop:=eP K (.ref C) f=some none
theorem NoAttr.taker{K:bN}{C:bV}{f:Str}(n:NoAttr K C f):ln K C f=some none:=by
 unfold ln;rw[show eP K (.ref C) f=some none from n];rfl
structure K3(K:bN)(C:bV)(m:Str)(f:bV):Prop where
 at_:eP K (.ref C) m=some (some (.ref f))
 fn:m6 K (.ref f)=true
 kp:ie K (.ref f)=true
section
variable{X:Cx}{pins:List (bV×Obj)}{σ:St}{H:Hp}{s:bS}{a C dx:bV}{fs:List (Str×V)}{f:Str}{v:V}{A:cO}{E:bQ->bS->Prop}
theorem zS{b:Bool}{Q:bQ->bS->Prop}(I:Inv X pins σ H s)(e:H a=some (.ins C dx fs))(c:Cls X.K C)(n:NoAttr X.K C f)(l:fs.lookup f=some v)
  (h:∀u s',Inv X pins σ H s'->RelV v u->Q u s'):wpAny (model X.prog X.w) A (getAttr (.ref a) f b) Q E s:=by
 obtain⟨g,O,r,_,_,_⟩:=yB I.hok e
 obtain⟨u,j,d⟩:=RelO.some_of (v:=v) (o:=g f) (by rw[<-l];exact r f)
 exact DY I.kIn O (c.get f) c.hd n j (AF d) (h u _ (I.tok _) d)
theorem uq{m:Str}{g:bV}{pl:Sem Bool}{Q:bQ×List bQ->bS->Prop}(I:Inv X pins σ H s)(e:H a=some (.ins C dx fs))(c:Cls X.K C)(k:K3 X.K C m g)(l:fs.lookup m=none)
  (h:Q (.ref g,[.ref a]) s):wpAny (model X.prog X.w) A (getMethod (.ref a) m pl) Q E s:=by
 obtain⟨d,O,r,_,_,_⟩:=yB I.hok e
 have b:d m=none:=RelO.none_of (by rw[<-l];exact r m)
 exact Cb I.kIn O (c.get m) k.at_ k.fn b h
theorem zG{y:V}{u:bQ}{Q:Unit->bS->Prop}(I:Inv X pins σ H s)(e:H a=some (.ins C dx fs))(c:Cls X.K C)(n:NoAttr X.K C f)(hl:fs.length<1000)(ry:RelV y u)
  (h:∀s',Inv X pins σ (upd H a (.ins C dx (FY f y fs))) s'->Q () s'):wpAny (model X.prog X.w) A (setAttr (.ref a) f u) Q E s:=by
 obtain⟨k,O,r,j,_,l⟩:=yB I.hok e
 have v:(fs.map (·.1)).length<=sizeLine:=by rw[bP,lR];omega
 refine El I.kIn O c.sa c.po n.taker c.hd j v λB d p=>h _ ?_
 have m:∃o,B.get? dx=some o:=let⟨o,_,_,t,_⟩:=d.ns;⟨o,t⟩
 refine I.write (x:=a) (e:=dx) (by rw[e];exact True.intro) (.inr l) (λb q D z=>(p.2 b D).trans z) m ?_
 refine⟨by rw[rQ O.ne];exact l,?_,O.ne,d.obj,_,d.ns,λg=>?_,λg F=>?_⟩
 ·have:=wg f y fs;omega
 ·show RelO ((FY f y fs).lookup g) (if g=f then some u else k g)
  rw[v6]
  by_cases q:g=f
  ·rw[if_pos q,if_pos q];exact ry
  ·rw[if_neg q,if_neg q];exact r g
 ·by_cases q:g=f
  ·rw[q];exact(vZ f y fs).1
  ·refine(vZ f y fs).2 g (j g λz=>F ?_)
   show(if g=f then some u else k g)=none
   rw[if_neg q];exact z
theorem Inv.made(I:Inv X pins σ H s):Inv X pins σ (upd (upd H s.heap.objs.size (.own (s.heap.objs.size+1))) (s.heap.objs.size+1) (.ins C s.heap.objs.size []))
  {s with heap:=(s.heap.push eZ).push (fR C s.heap.objs.size)}:=by
 have c:(s.heap.push eZ).get? s.heap.objs.size=some eZ:=b4 s.heap rfl
 have g:((s.heap.push eZ).push (fR C s.heap.objs.size)).get? (s.heap.objs.size+1)=some (fR C s.heap.objs.size):=by
  have:=b4 (s.heap.push eZ) (o:=fR C s.heap.objs.size) rfl
  rwa[fL]at this
 have h:(s.heap.push eZ).Ns s.heap.objs.size (λ_=>none):=⟨eZ,#[],_,c,rfl,(λe k=>absurd k (by simp)),λ_=>rfl⟩
 have j:=I.laid (a:=s.heap.objs.size) (o:= .own (s.heap.objs.size+1)) (h':=s.heap.push eZ) (t':=s.toks) (λb u q=>bU _ q) (bX _) ⟨_,c⟩
 refine j.laid (a:=s.heap.objs.size+1) (o:= .ins C s.heap.objs.size []) (t':=s.toks) (λb u q=>bU _ q) (m9 (fL _ _)) ?_
 have d:s.heap.objs.size≠s.heap.objs.size+1:=cF (cV _)
 refine⟨by rw[rQ d,rE],cM _,d,g,λ_=>none,(Heap.Ns1.of_empty h).at λo q=>bU _ q,λ_=>True.intro,λy f=>absurd rfl f⟩
theorem DZ{prog:cg}{w:cC}{env:Env}{e:Expr}{f:Str}{pos:Pos}{s:bS}{Q:bQ->bS->Prop}(hb:attributeBase e f env (eval e env)=eval e env)
  (h:wpAny (model prog w) A (eval e env) (λo s₁=>wpAny (model prog w) A (getAttr o f true) Q E s₁) E s):wpAny (model prog w) A (eval (.Attribute e f pos) env) Q E s:=
 Attribute_any_ h (by rw[arm_eval_Attribute,hb])
end
def M7(K:bN)(ta:TE)(f:Str):TE:=λσ H Q=>ta σ H λx H1=>∃a C dx fs v,x = .ref a/\H1 a=some (.ins C dx fs)/\Cls K C/\NoAttr K C f/\fs.lookup f=some v/\Q v H1
def NQ(K:bN)(ta tv:TE)(f:Str):TS:=λD σ H=>tv σ H λy H1=>ta σ H1 λx H2=>∃a C dx fs,x = .ref a/\H2 a=some (.ins C dx fs)/\Cls K C/\NoAttr K C f/\fs.length<1000/\
 D.nx σ (upd H2 a (.ins C dx (FY f y fs)))
section
variable{X:Cx}{o e value:Expr}{f:Str}{pos pos' tpos:Pos}{ta tv:TE}
theorem uT(he:PE X e ta)(hb:attributeBase e f X.env (eval e X.env)=eval e X.env):PE X (.Attribute e f pos) (M7 X.K ta f):=by
 intro b s k H Q I h;refine DZ hb (Fv (he b s k H _ I h) λu z ⟨x,g,r,d,a,C,w,A,v,p,o,c,n,l,q⟩=>?_);subst p;obtain rfl:u=b5 a:=d;exact zS r o c n l λy t j m=>⟨v,g,j,m,q⟩
theorem Bw(ha:PE X o ta)(hv:PE X value tv)(hs:swapsWith value (some (.Attribute o f pos')) pos.line X.env=pure false):PS X (.Assign [.Attribute o f pos'] value pos) (NQ X.K ta tv f):=by
 intro b s d H D I h;refine plainObj_wpAny_Assign_Attribute (Fv (hv b s d H _ I h) λu r ⟨y,j,z,e,q⟩=>Fv (ha b r d j _ z q) λm A ⟨x,B,p,g,a,C,E,F,w,t,c,n,l,v⟩=>?_) hs;subst w;obtain rfl:m=b5 a:=g;exact zG p t c n l e λG k=>⟨d,_,k,v⟩
theorem methcall_of{pl:Sem Bool}{m:Str}{apos:Pos}{args:List Expr}{pins:List (bV×Obj)}{s:bS}{σ:St}{H:Hp}{Q:bQ->bS->Prop}{te:TE}(he:PE X e te)(I:Inv X pins σ H s)
  (h:te σ H λx H1=>∃a C dx fs g,x = .ref a/\H1 a=some (.ins C dx fs)/\Cls X.K C/\K3 X.K C m g/\fs.lookup m=none/\
   ∀s1,Inv X pins σ H1 s1->wpAny (model X.prog X.w) X.A (callWith pos (.ref g) [.ref a] (backTo pos (cD args X.env)) (backToKw pos (keywordEach [] X.env))) Q X.xe s1)
  (ht:eval (.Call (.Attribute e m apos) args [] pos) X.env=(do
   let ov<-eval e X.env
   standAt apos.atName
   let(f,first)<-holding [ov] (getMethod ov m pl)
   callWith pos f first (backTo pos (cD args X.env)) (backToKw pos (keywordEach [] X.env)))):
  wpAny (model X.prog X.w) X.A (eval (.Call (.Attribute e m apos) args [] pos) X.env) Q X.xe s:=by
 refine g9 (pl:=pl) (Fv (he pins s σ H _ I h) λu s1 ⟨x,H1,b,d,a,C,dx,fs,g,j,n,c,k,l,q⟩=>?_) ht
 subst j
 obtain rfl:u=b5 a:=d
 exact uq b n c k l (q s1 b)
end
structure Room(k:Nat)(A:cO):Prop where
 hd:A.handled=none
 dp:A.depth+3*k+5<recursionLimit
 un:A.units+16*k+200<cLine
theorem Room.mono{j k:Nat}{A:cO}(r:Room k A)(h:j<=k):Room j A:=⟨r.hd,by have:=r.dp;omega,by have:=r.un;omega⟩
theorem Room.deeper{k:Nat}{A:cO}(r:Room (k+1) A)(env:Env):Room k (A.deeper env):=
 ⟨r.hd,by have:=r.dp;show A.depth+1+3*k+5<_;omega,by have:=r.un;show A.units+3+16*k+200<_;omega⟩
theorem zT{A:cO}{C:bV}{us:List bQ}{kw:List (Str×bQ)}:(A.under (.builtin "type.__call__" ⟨.ref C::us,kw⟩)).depth=A.depth+1:=by
 first|rfl|simp[na,Code.weight,Code.isCreation,Code.isGuard,Code.isCaller,Code.frames,Code.isFrame,guardIds]
theorem zY{A:cO}{C:bV}{us:List bQ}{kw:List (Str×bQ)}:(A.under (.builtin "type.__call__" ⟨.ref C::us,kw⟩)).units=A.units+1:=by
 first|rfl|simp[na,Code.cUnits,Code.frames,Code.isFrame]
theorem Room.make{k:Nat}{A:cO}(r:Room (k+1) A)(C:bV)(us:List bQ)(kw:List (Str×bQ)):Room k (A.under (.builtin "type.__call__" ⟨.ref C::us,kw⟩)):=
 ⟨r.hd,by have:=r.dp;rw[zT];omega,by have:=r.un;rw[zY];omega⟩
theorem Room.depth{k:Nat}{A:cO}(r:Room k A):A.depth<recursionLimit:=by have:=r.dp;omega
theorem Room.units{k:Nat}{A:cO}(r:Room k A):A.units+64<cLine:=by have:=r.un;omega
def ML:TA:=λ_ H Q=>Q [] H
def Nm(ta:TE)(tr:TA):TA:=λσ H Q=>ta σ H λx H1=>tr σ H1 λxs H2=>Q (x::xs) H2
section
variable{X:Cx}{e:Expr}{es:List Expr}{te:TE}{t:TA}{pos:Pos}
theorem rG:PA X [] ML:=λ_ _ _ _ H Q I h=>jZ ⟨[],H,I,.nil,h⟩
theorem lh(ha:PE X e te)(hr:PA X es t)(hs:cD (e::es) X.env=(false,eval e X.env)::cD es X.env:=by rfl):PA X (e::es) (Nm te t):=by
 intro b a s c H Q I h;rw[hs];show wpAny _ _ (spliced ((false,eval e X.env)::backTo b (cD es X.env))) _ _ s;refine eQ (Fv (ha a s c H _ I h) λu l ⟨x,d,p,n,o⟩=>?_);exact Fv (hr b a l c d _ p o) λr q ⟨f,g,k,j,m⟩=>⟨x::f,g,k,.cons n j,m⟩
def NP(t:TA):TE:=λσ H Q=>t σ H λxs H1=>xs.length<=sizeLine/\∀p,H1 p=none->Q (.ref p) (upd H1 p (.tup xs))
def Mo(t:TA):TE:=λσ H Q=>t σ H λxs H1=>xs.length<=sizeLine/\∀p,H1 p=none->Q (.ref p) (upd H1 p (.lst xs))
theorem sw{x1}(h:PA X es t):PE X (.Tuple es x1 pos) (NP t):=by
 intro c s k H Q I g;refine wpAny_Tuple_spliced (Fv (h pos c s k H _ I g) λl a ⟨j,d,f,r,z,q⟩=>⟨by rw[<-r.length];exact z,?_⟩);have m:d a.heap.objs.size=none:=f.hok.fresh (bX _);refine⟨.ref a.heap.objs.size,upd d a.heap.objs.size (.tup j),f.laid (t':=a.toks) (λb u e=>bU _ e) (bX _) ?_,rfl,q _ m⟩;exact⟨z,l,r,⟨_,b4 _ rfl,rfl,_,rfl⟩⟩
theorem sA(h:PA X es t):PE X (.List es pos) (Mo t):=by
 intro c s k H Q I g;refine wpAny_List_spliced (Fv (h pos c s k H _ I g) λl a ⟨j,d,f,r,z,q⟩=>⟨by rw[<-r.length];exact z,?_⟩);have m:d a.heap.objs.size=none:=f.hok.fresh (bX _);refine⟨.ref a.heap.objs.size,upd d a.heap.objs.size (.lst j),f.laid (t':=a.toks) (λb u e=>bU _ e) (bX _) ?_,rfl,q _ m⟩;exact⟨z,l,0,r,b4 _ rfl⟩
end
abbrev Sp:=List V->Hp->VK->XK->Prop
abbrev Js:=List Env->Hp->bS->XK->bQ->bS->Prop
structure Env0(P:cg)(w:cC)(K:bN)(mg:Str->Option bQ)(base:Heap)(A:cO)(outer:List Env)(s:bS)(H:Hp):Prop where
 frames:A.frames=some outer
 mod:Mod K mg base
 bs:∀b o,base.get? b=some o->s.heap.get? b=some o/\H b=none
 bsz:base.objs.size<=s.heap.objs.size
 funs:s.heap.FunFrames base outer
 frf:∀b∈Gy outer,H b=none
 hok:HOk P w H s.heap
 bare:AllBare s.gens
def CE(outer:List Env)(P:cg)(w:cC)(H:Hp)(s:bS)(Q:VK)(u:bQ)(s':bS):Prop:=
 ∃v H',s'.os=s.os/\AllBare s'.gens/\Un (Gy outer) [] H H' s.heap s'.heap/\HOk P w H' s'.heap/\RelV v u/\Q v H'
def CR(CX:Js)(outer:List Env)(P:cg)(w:cC)(H:Hp)(s:bS)(Q:VK)(E:XK)(r:Result)(s':bS):Prop:=
 match r with
 | .ok (.ret u)=>CE outer P w H s Q u s'
 | .ok _=>False
 | .error e=>CX outer H s E e s'
structure FnOk(P:cg)(w:cC)(K:bN)(mg:Str->Option bQ)(base:Heap)(CX:Js)(k:Nat)(f:bV)(fd:FuncData)(ps:List Str)(sp:Sp):Prop where
 len:∀vs H Q E,sp vs H Q E->vs.length=ps.length
 run:∀(A:cO) (outer:List Env) (s:bS) (H:Hp) (args:Args) (us:List bQ) (vs:List V) (Q:VK) (E:XK),Room k A->Env0 P w K mg base A outer s H->BindsTo s fd args (ps.zip us)->Vals vs us->sp vs H Q E->
  codeAny (model P w) A (.call (.ref f) args) (CR CX outer P w H s Q E) s
theorem FnOk.imp{P:cg}{w:cC}{K:bN}{mg:Str->Option bQ}{base:Heap}{CX:Js}{k:Nat}{f:bV}{fd:FuncData}{ps:List Str}{sp sp':Sp}(F:FnOk P w K mg base CX k f fd ps sp)
  (h:∀vs H Q E,sp' vs H Q E->sp vs H Q E):FnOk P w K mg base CX k f fd ps sp':=
 ⟨λvs H Q E q=>F.len vs H Q E (h _ _ _ _ q),λA a s H b c vs Q E d l g e j=>F.run A a s H b c vs Q E d l g e (h _ _ _ _ j)⟩
theorem Env0.make{P:cg}{w:cC}{K:bN}{mg:Str->Option bQ}{base:Heap}{A:cO}{outer:List Env}{s:bS}{H:Hp}(e:Env0 P w K mg base A outer s H)(C:bV)(us:List bQ)(kw:List (Str×bQ)):
  Env0 P w K mg base (A.under (.builtin "type.__call__" ⟨.ref C::us,kw⟩)) outer s H:=⟨by first|exact e.frames|(simpa [na,Code.envs,Code.isFrame,pushEnvs]using e.frames),e.mod,e.bs,e.bsz,e.funs,e.frf,e.hok,e.bare⟩
section
variable{X:Cx}{pins:List (bV×Obj)}{σ:St}{H:Hp}{s s':bS}
theorem Inv.env0(I:Inv X pins σ H s):Env0 X.prog X.w X.K X.mg X.base X.A X.stack s H:=
 ⟨I.ok.frames,I.ok.mod,I.bs,cG I.ok.bsz I.sz,I.stack,I.stkFree,I.hok,I.bare⟩
theorem Inv.after{Q:VK}{u:bQ}(I:Inv X pins σ H s)(h:CE X.stack X.prog X.w H s Q u s'):EP X pins σ Q u s':=by
 obtain⟨v,k,os,a,f,e,r,q⟩:=h;obtain⟨j,g,d,t,c⟩:=s';obtain rfl:c=s.os:=os;exact⟨v,k,I.call (h':=j) (g':=g) (d':=d) (t':=t) (ch:=[]) f e a (λb z=>absurd z (by simp)),r,q⟩
end
def Mb(sp:Sp)(dvs:List V)(E:XK)(t:TA):TE:=λσ H Q=>t σ H λvs H1=>sp (vs++dvs) H1 Q E
def JP(C:bV)(m:Str)(sp:Sp)(dvs:List V)(E:XK)(ta:TE)(t:TA):TE:=λσ H Q=>ta σ H λx H1=>∃a dx fs,x = .ref a/\H1 a=some (.ins C dx fs)/\fs.lookup m=none/\
 t σ H1 λvs H2=>sp (x::(vs++dvs)) H2 Q E
def KH(C:bV)(sp:Sp)(dvs:List V)(E:XK)(t:TA):TE:=λσ H Q=>t σ H λvs H1=>∀x dx,H1 x=none->H1 dx=none->dx≠x->
 sp (.ref x::(vs++dvs)) (upd (upd H1 dx (.own x)) x (.ins C dx [])) (λv H2=>v = .non/\Q (.ref x) H2) E
def Binds(K:bN)(fd:FuncData)(ps:List Str)(ds:List bQ):Prop:=
 ∀(s:bS) (us:List bQ),K.In s.heap->(us++ds).length=ps.length->BindsTo s fd ⟨us,[]⟩ (ps.zip (us++ds))
theorem Binds.all{K:bN}{fd:FuncData}{ps:List Str}(h:∀us:List bQ,us.length=ps.length->bindArgs fd ⟨us,[]⟩=pure (ps.zip us)):Binds K fd ps []:=λs us _ a=>by
 rw[eo]at a ⊢;exact .of_eq (h us a)
def FS(CX:Js)(X:Cx)(E:XK):Prop:=∀(pins:List (bV×Obj)) (σ:St) (H:Hp) (s:bS) (e:bQ) (s':bS),Inv X pins σ H s->CX X.stack H s E e s'->X.xe e s'
section
variable{X:Cx}{CX:Js}{k:Nat}{f C:bV}{fd:FuncData}{ps:List Str}{sp:Sp}{dvs:List V}{ds:List bQ}{E:XK}{x m:Str}{p pos apos:Pos}{e o:Expr}{es:List Expr}{ta:TE}{t:TA}
theorem Ba{pins:List (bV×Obj)}{σ:St}{H:Hp}{s:bS}{Q:VK}{us:List bQ}{vs:List V}(F:FnOk X.prog X.w X.K X.mg X.base CX k f fd ps sp)(hr:Room k X.A)(hb:Binds X.K fd ps ds)(hd:Vals dvs ds)(hx:FS CX X E)
  (I:Inv X pins σ H s)(r:Vals vs us)(h:sp (vs++dvs) H Q E):wpAny (model X.prog X.w) X.A (call (.ref f) us) (EP X pins σ Q) X.xe s:=by
 have b:Vals (vs++dvs) (us++ds):=r.append hd
 have c:(us++ds).length=ps.length:=by rw[<-b.length];exact F.len _ _ _ _ h
 refine gh (gP (F.run X.A X.stack s H ⟨us,[]⟩ (us++ds) (vs++dvs) Q E hr I.env0 (hb s us I.kIn c) b h) λr g a=>?_)
 cases r with
 | error e=>exact hx pins σ H s e g I a
 | ok d=>
  cases d with
  | ret u=>exact I.after a
  | next=>exact dI a
  | brk=>exact dI a
  | cont=>exact dI a
theorem DH(F:FnOk X.prog X.w X.K X.mg X.base CX k f fd ps sp)(hr:Room k X.A)(hg:Gl X x)(hm:X.mg x=some (.ref f))(hk:ie X.K (.ref f)=true)(hb:Binds X.K fd ps ds)(hd:Vals dvs ds)(hx:FS CX X E)
  (ha:PA X (e::es) t)(hdb:(x==("__debug__":Str))=false:=by decide)(he:cD (e::es) X.env=(false,eval e X.env)::cD es X.env:=by rfl)(hpl:(backTo pos (cD es X.env)).any (·.1)=false:=by rfl):
  PE X (.Call (.Name x p) (e::es) [] pos) (Mb sp dvs E t):=by
 intro a s c H Q I h
 refine d9 (uF I hg hm ?_ hdb)
 refine gQ (h₀:=X.base) I.ok.mod.kin hk (Fv (ha pos a s c H _ I h) λj g ⟨vs,d,b,r,q⟩=>⟨b.kIn,?_⟩) he hpl
 exact Ba F hr hb hd hx b r q
theorem DK{pl:Sem Bool}(he:PE X o ta)(c:Cls X.K C)(hm:K3 X.K C m f)(F:FnOk X.prog X.w X.K X.mg X.base CX k f fd ps sp)(hr:Room k X.A)(hb:Binds X.K fd ps ds)(hd:Vals dvs ds)(hx:FS CX X E)(ha:PA X (e::es) t)
  (hst:cD (e::es) X.env=(false,eval e X.env)::cD es X.env:=by rfl)(hpl:(backTo pos (cD es X.env)).any (·.1)=false:=by rfl)
  (ht:eval (.Call (.Attribute o m apos) (e::es) [] pos) X.env=(do
   let ov<-eval o X.env
   standAt apos.atName
   let(f,first)<-holding [ov] (getMethod ov m pl)
   callWith pos f first (backTo pos (cD (e::es) X.env)) (backToKw pos (keywordEach [] X.env))):=by rfl):
  PE X (.Call (.Attribute o m apos) (e::es) [] pos) (JP C m sp dvs E ta t):=by
 intro b s g H Q I h
 refine g9 (pl:=pl) (Fv (he b s g H _ I h) λu v ⟨x,p,j,n,a,J,L,B,y,l,q⟩=>?_) ht
 subst B
 obtain rfl:u=b5 a:=n
 refine uq j y c hm l ?_
 refine gQ (first:=[.ref a]) (h₀:=X.base) I.ok.mod.kin hm.kp (Fv (ha pos b v g p _ j q) λus D ⟨vs,G,d,r,z⟩=>⟨d.kIn,?_⟩) hst hpl
 exact Ba (us:= .ref a::us) (vs:= .ref a::vs) F hr hb hd hx d (.cons rfl r) z
theorem CT{pl:Sem Bool}(he:PE X o ta)(c:Cls X.K C)(hm:K3 X.K C m f)(F:FnOk X.prog X.w X.K X.mg X.base CX k f fd ps sp)(hr:Room k X.A)(hb:Binds X.K fd ps ds)(hd:Vals dvs ds)(hx:FS CX X E)
  (ht:eval (.Call (.Attribute o m apos) [] [] pos) X.env=(do
   let ov<-eval o X.env
   standAt apos.atName
   let(f,first)<-holding [ov] (getMethod ov m pl)
   callWith pos f first (backTo pos (cD [] X.env)) (backToKw pos (keywordEach [] X.env))):=by rfl):
  PE X (.Call (.Attribute o m apos) [] [] pos) (JP C m sp dvs E ta ML):=by
 intro b s g H Q I h
 refine g9 (pl:=pl) (Fv (he b s g H _ I h) λu t ⟨x,p,d,e,a,r,v,n,j,l,q⟩=>?_) ht
 subst n
 obtain rfl:u=b5 a:=e
 refine uq d j c hm l ?_
 exact PySem.W.callWith_K0 (first:=[.ref a]) d.kIn hm.kp (Ba (us:=[.ref a]) (vs:=[.ref a]) F hr hb hd hx d (.cons rfl .nil) q)
structure Mk(K:bN)(C f:bV):Prop where
 makes:on K C=true
 init:eP K (.ref C) "__init__"=some (some (.ref f))
 fn:m6 K (.ref f)=true
 kp:ie K (.ref C)=true
theorem CV{pins:List (bV×Obj)}{σ:St}{H:Hp}{s:bS}{Q:VK}{us:List bQ}{vs:List V}(M:Mk X.K C f)(F:FnOk X.prog X.w X.K X.mg X.base CX k f fd ps sp)(hr:Room (k+1) X.A)(hb:Binds X.K fd ps ds)(hd:Vals dvs ds)
  (hx:FS CX X E)(I:Inv X pins σ H s)(r:Vals vs us)
  (h:∀x dx,H x=none->H dx=none->dx≠x->sp (.ref x::(vs++dvs)) (upd (upd H dx (.own x)) x (.ins C dx [])) (λv H2=>v = .non/\Q (.ref x) H2) E):
  wpAny (model X.prog X.w) X.A (call (.ref C) us) (EP X pins σ Q) X.xe s:=by
 have c:=h (s.heap.objs.size+1) s.heap.objs.size (I.hok.fresh (dJ _)) (I.hok.fresh (bX _)) (cF (cV _))
 have b:=Inv.made (C:=C) I
 have d:Vals (V.ref (s.heap.objs.size+1)::(vs++dvs)) (b5 (s.heap.objs.size+1)::(us++ds)):= .cons rfl (r.append hd)
 have g:(b5 (s.heap.objs.size+1)::us++ds).length=ps.length:=by
  have e:=d.length
  rw[F.len _ _ _ _ c]at e
  exact e.symm
 refine gh (y4 (f:=f) I.kIn M.makes M.init (beq_iff_eq.mp M.fn) (gP (F.run _ X.stack _ _ ⟨b5 (s.heap.objs.size+1)::us,[]⟩ (b5 (s.heap.objs.size+1)::(us++ds)) _ _ E (hr.make C us [])
  (b.env0.make C us []) (hb _ (b5 (s.heap.objs.size+1)::us) b.kIn g) d c) λr n a=>?_))
 cases r with
 | error e=>exact hx pins σ _ _ e n b a
 | ok j=>
  cases j with
  | ret u=>
   obtain⟨v,p,o,m,ev,l⟩:=b.after a
   subst ev
   exact⟨m,⟨V.ref (s.heap.objs.size+1),p,o,rfl,l⟩⟩
  | next=>exact dI a
  | brk=>exact dI a
  | cont=>exact dI a
theorem DI(M:Mk X.K C f)(F:FnOk X.prog X.w X.K X.mg X.base CX k f fd ps sp)(hr:Room (k+1) X.A)(hg:Gl X x)(hm:X.mg x=some (.ref C))(hb:Binds X.K fd ps ds)(hd:Vals dvs ds)(hx:FS CX X E)
  (ha:PA X (e::es) t)(hdb:(x==("__debug__":Str))=false:=by decide)(he:cD (e::es) X.env=(false,eval e X.env)::cD es X.env:=by rfl)(hpl:(backTo pos (cD es X.env)).any (·.1)=false:=by rfl):
  PE X (.Call (.Name x p) (e::es) [] pos) (KH C sp dvs E t):=by
 intro a s c H Q I h
 refine d9 (uF I hg hm ?_ hdb)
 refine gQ (h₀:=X.base) I.ok.mod.kin M.kp (Fv (ha pos a s c H _ I h) λj g ⟨vs,d,b,r,q⟩=>⟨b.kIn,?_⟩) he hpl
 exact CV M F hr hb hd hx b r q
end
structure Fi(N P:List Str)(sc:Scope):Prop where
 kind:sc.kind = .function
 co:sc.isCoroutine=false
 gen:sc.isGenerator=false
 nd:N.Nodup
 pre:N.take P.length=P
 par:∀x∈P,sc.names.lookup x=some .local\/sc.names.lookup x=some .cell
 nofree:∀y∈sc.names,y.2≠ .free
theorem yu{kindOf:Str->Option gX}{x:Str}:∀{binds:List (Str×bQ)} {m:Str->Option bQ},(∀v,(x,v)∉binds)->bindL kindOf binds m x=m x
 | [],_,_=>rfl
 | (n,v)::r,m,h=>by
  unfold bindL
  rw[yu λw a=>h w (b3 _ a)]
  split
  ·have:x≠n:=by rintro rfl;exact h v b0
   simp[this]
  ·rfl
theorem yw{kindOf:Str->Option gX}{x:Str}:∀{binds:List (Str×bQ)} {m:Str->Option bQ},(∀v,(x,v)∉binds)->bindC kindOf binds m x=m x
 | [],_,_=>rfl
 | (n,v)::r,m,h=>by
  unfold bindC
  rw[yw λw a=>h w (b3 _ a)]
  split
  ·rfl
  ·have:x≠n:=by rintro rfl;exact h v b0
   simp[this]
theorem yg{kindOf:Str->Option gX}{x:Str}{v:bQ}:∀{P:List Str} {vs:List bQ} {i:Nat} {m:Str->Option bQ},P.Nodup->P[i]?=some x->vs[i]?=some v->kindOf x=some .local->
  bindL kindOf (P.zip vs) m x=some v
 | [],_,_,_,_,h,_,_=>by simp at h
 | _::_,[],_,_,_,_,h,_=>by simp at h
 | p::P,w::vs,0,m,nd,h1,h2,hk=>by
  simp at h1 h2;subst h1;subst h2
  show bindL kindOf ((p,w)::P.zip vs) m p=_
  unfold bindL
  rw[yu λv a=>(er.mp nd).1 (lp a).1,if_pos hk]
  simp
 | p::P,w::vs,i+1,m,nd,h1,h2,hk=>by
  show bindL kindOf ((p,w)::P.zip vs) m x=_
  unfold bindL
  exact yg (i:=i) (er.mp nd).2 (by simpa using h1) (by simpa using h2) hk
theorem yy{kindOf:Str->Option gX}{x:Str}{v:bQ}:∀{P:List Str} {vs:List bQ} {i:Nat} {m:Str->Option bQ},P.Nodup->P[i]?=some x->vs[i]?=some v->kindOf x≠some .local->
  bindC kindOf (P.zip vs) m x=some v
 | [],_,_,_,_,h,_,_=>by simp at h
 | _::_,[],_,_,_,_,h,_=>by simp at h
 | p::P,w::vs,0,m,nd,h1,h2,hk=>by
  simp at h1 h2;subst h1;subst h2
  show bindC kindOf ((p,w)::P.zip vs) m p=_
  unfold bindC
  rw[yw λv a=>(er.mp nd).1 (lp a).1,if_neg hk]
  simp
 | p::P,w::vs,i+1,m,nd,h1,h2,hk=>by
  show bindC kindOf ((p,w)::P.zip vs) m x=_
  unfold bindC
  exact yy (i:=i) (er.mp nd).2 (by simpa using h1) (by simpa using h2) hk
def start(N:List Str)(vs:List V):St:=vs.map some++fC (N.length-vs.length) none
def Jm(CX:Js)(P:cg)(w:cC)(K:bN)(mg:Str->Option bQ)(base:Heap)(N:List Str)(qual:Str)(scope:Scope)(f:bV)(cd:bQ)(A:cO)(outer:List Env)(s:bS)(H:Hp)(E:XK):Cx where
 prog:=P
 w:=w
 K:=K
 mg:=mg
 base:=base
 A:=A.deeper (envOfC qual scope s.heap.objs.size f cd)
 N:=N
 s₀:=s
 H₀:=H
 env:=envOfC qual scope s.heap.objs.size f cd
 outer:=outer
 stack:=envOfC qual scope s.heap.objs.size f cd::outer
 ex:=[]
 calm:=true
 fn:=λ_=>true
 pn:=[]
 xe:=λe s'=>wpAny (model P w) (A.deeper (envOfC qual scope s.heap.objs.size f cd)) (leaving (envOfC qual scope s.heap.objs.size f cd) e) (λ_ s''=>CX outer H s E e s'') (λe' s''=>CX outer H s E e' s'') s'
theorem zt{sc:Scope}{n:Nat}{x:Str}(h:sc.names.lookup x=some .cell):∃c,(cellsFrom n sc.names []).lookup x=some c:=by
 have q:=kX sc.names n [] (.inl h);exact j7.mp q
theorem BY{CX:Js}{P:cg}{w:cC}{K:bN}{mg:Str->Option bQ}{base:Heap}{N ps:List Str}{qual:Str}{scope:Scope}{f:bV}{cd:bQ}{A:cO}{outer:List Env}{s s1:bS}{H:Hp}{E:XK}{us:List bQ}{vs:List V}
  (S:Fi N ps scope)(hd:A.handled=none)(e0:Env0 P w K mg base A outer s H)(hl:vs.length=ps.length)(r:Vals vs us)
  (x:InCallC s s.heap.objs.size (bindL (envOfC qual scope s.heap.objs.size f cd).kindOf (ps.zip us) λ_=>none) (cellsFrom (s.heap.objs.size+1) scope.names []) (bindC (envOfC qual scope s.heap.objs.size f cd).kindOf (ps.zip us) λ_=>none) s1):
  Inv (Jm CX P w K mg base N qual scope f cd A outer s H E) [] (start N vs) H s1:=by
 have B:ps.length<=N.length:=by have:=congrArg iN S.pre;rw[cf]at this;omega
 obtain⟨h1,tk,rfl,hk⟩:=x.done
 have g:∀b:bV,b∉(Jm CX P w K mg base N qual scope f cd A outer s H E).ex:=λb z=>absurd (show b∈([]:List bV)from z) (by simp)
 refine⟨⟨e0.mod,S.kind,rfl,rfl,bX _,λy z c h1 h2=>?_,λy d=>?_,λy c _ h=>?_,λ_=>hd,Around.frames_deeper e0.frames,.inr ⟨rfl,rfl⟩,λb z=>absurd z (g b),e0.bs,e0.bsz,λb _ _=>g b,λb z=>absurd z (g b),e0.funs,e0.frf⟩,
  rfl,e0.bare,Un.kept hk,⟨_,x.toInCall.ns,λi y v h1 h2 h3=>?_⟩,λy c h=>⟨_,x.cell y c h⟩,e0.hok.fresh (bX _),λy c h=>?_,λp hp=>absurd (show p∈([]:List (bV×Obj))from hp) (by simp),e0.hok.kept hk,?_⟩
 ·exact name_of_addr x.apart (dZ h1) (dZ h2)
 ·have d:scope.names.lookup y=some .cell\/scope.names.lookup y=some .free:=d
  rcases d with d|d
  ·exact zt d
  ·exact absurd rfl (S.nofree _ (dZ d))
 ·exact cx (x.above y c (dZ h))
 ·have j:i<vs.length:=by
   unfold start at h2
   by_cases j:i<vs.length
   ·exact j
   ·rw[d3 (by simpa using j)]at h2
    rw[List.getElem?_replicate]at h2
    split at h2 <;> cases h2
  have o:vs[i]?=some v:=by
   unfold start at h2
   rw[gt (by simpa using j),bZ]at h2
   cases e:vs[i]? with
   | none=>rw[e]at h2;cases h2
   | some a=>rw[e]at h2;cases h2;rfl
  obtain⟨u,m,t⟩:=r.get o
  have hp:ps[i]?=some y:=by
   rw[<-S.pre,gA (by omega)];exact h1
  have l:ps.Nodup:=by rw[<-S.pre];exact S.nd.sublist (List.take_sublist _ _)
  refine⟨u,t,?_⟩
  rcases S.par y (cz hp)with k|k
  ·exact .inl ⟨k,yg l hp m k⟩
  ·obtain⟨c,e⟩:=zt (n:=s.heap.objs.size+1) k
   refine .inr ⟨.inl k,c,e,?_⟩
   have q:=x.cell y c e
   rw[yy l hp m (by show scope.names.lookup y≠_;rw[k];decide)]at q
   exact q
 ·exact e0.hok.fresh (cx (x.above y c (dZ h)))
 ·unfold start
  show _=N.length
  rw[cr,bP,gq]
  omega
theorem CC{CX:Js}{P:cg}{w:cC}{K:bN}{mg:Str->Option bQ}{base:Heap}{k:Nat}{f:bV}{name qual:Str}{params:Arguments}{body:List Stmt}{scope:Scope}{dV kV doc pm cdv ct oc:bQ}{an od:Option bV}
  {osl:Array (Option bQ)}{N ps:List Str}{sp:Sp}(lk:K.lookup f=some ⟨oc,od,.func (fD name qual params body scope dV kV doc pm an cdv ct),osl⟩)(hcd:lS K cdv qual=true)(S:Fi N ps scope)
  (len:∀vs H Q E,sp vs H Q E->vs.length=ps.length)
  (hbody:∀(A:cO) (outer:List Env) (s:bS) (H:Hp) (vs:List V) (Q:VK) (E:XK),Room k (A.deeper (envOfC qual scope s.heap.objs.size f cdv))->sp vs H Q E->
   ∃t,PSs (Jm CX P w K mg base N qual scope f cdv A outer s H E) body t/\t {nx:=λ_ H'=>Q .non H',rt:=Q} (start N vs) H):
  FnOk P w K mg base CX (k+1) f (fD name qual params body scope dV kV doc pm an cdv ct) ps sp:=by
 refine⟨len,λA outer s H R L vs Q E l d O r h=>?_⟩
 have D:=len _ _ _ _ h
 have p:K.In s.heap:=d.mod.kin.keeps λb o e=>(d.bs b o e).1
 have z:s.heap.NoLimit:=d.mod.nolimit.keeps λb o e=>(d.bs b o e).1
 have g:∀y∈ps.zip L,scope.names.lookup y.1=some .local\/(scope.names.lookup y.1=some .cell/\((cellsFrom (s.heap.objs.size+1) scope.names []).lookup y.1).isSome=true):=λ⟨n,v⟩ G=>by
  rcases S.par n (lp G).1 with q|q
  ·exact .inl q
  ·exact .inr ⟨q,kX _ _ _ (.inl q)⟩
 refine codeAny_call_function l.depth (p _ _ lk) rfl S.co S.gen rfl (PySem.W.codeRec_of p hcd) (O _ _ _ _ ?_)
 refine wpAny_newFunctionEnv_cells S.kind g λU T B x=>?_
 subst T
 refine⟨z.keeps x.toInCall.keep,codeAny_func ?_⟩
 obtain⟨t,C,F⟩:=hbody A outer s H vs Q E (l.deeper _) h
 have I:Inv (Jm CX P w K mg base N qual scope f cdv A outer s H E) [] (start N vs) H B:=BY S l.hd d D r x
 refine eO (C [] B (start N vs) H _ I F) (λM j c=>?_) λe j c=>c
 have fin:∀{a:St} {H':Hp} {v:V} {u:bQ},Inv (Jm CX P w K mg base N qual scope f cdv A outer s H E) [] a H' j->RelV v u->Q v H'->CE outer P w H s Q u j:=
  λ {a H' v u} J m q=>⟨v,H',J.os,J.bare,J.base,J.hok,m,q⟩
 cases M with
 | ret u=>
  obtain⟨v,a,H',J,m,q⟩:=c
  exact fin J m q
 | next=>
  obtain⟨a,H',J,q⟩:=c
  exact fin (v:=V.non) (u:=bQ.none) J rfl q
 | brk=>
  obtain⟨_,_,_,q⟩:=c
  exact dI q
 | cont=>
  obtain⟨_,_,_,q⟩:=c
  exact dI q
section
variable{X:Cx}{x:Str}{p pos:Pos}{e:Expr}{es:List Expr}{t:TA}{id T:String}{r:List V->Hp->VK->Prop}
def Oo(r:List V->Hp->VK->Prop)(t:TA):TE:=λσ H Q=>t σ H λvs H1=>r vs H1 Q
theorem rK(hc:FW X (.builtin id) r)(hg:Gl X x)(hm:X.mg x=none)(hv:bootBuiltins x=some (.builtin id))(ha:PA X (e::es) t)(hn:x≠"__name__":=by decide)(hdb:(x==("__debug__":Str))=false:=by decide)
  (he:cD (e::es) X.env=(false,eval e X.env)::cD es X.env:=by rfl)(hpl:(backTo pos (cD es X.env)).any (·.1)=false:=by rfl):PE X (.Call (.Name x p) (e::es) [] pos) (Oo r t):=by
 intro a s b H Q I h
 refine d9 (tY I hg hm hv ?_ hn hdb)
 exact gD (Fv (ha pos a s b H _ I h) λk f ⟨vs,d,j,c,g⟩=>hc a f b d vs k Q j c g) he hpl
theorem sv(hc:FW X (.type T) r)(hg:Gl X x)(hm:X.mg x=none)(hv:bootBuiltins x=some (.type T))(ha:PA X (e::es) t)(hn:x≠"__name__":=by decide)(hdb:(x==("__debug__":Str))=false:=by decide)
  (he:cD (e::es) X.env=(false,eval e X.env)::cD es X.env:=by rfl)(hpl:(backTo pos (cD es X.env)).any (·.1)=false:=by rfl):PE X (.Call (.Name x p) (e::es) [] pos) (Oo r t):=by
 intro a s b H Q I h
 refine d9 (tY I hg hm hv ?_ hn hdb)
 exact du (Fv (ha pos a s b H _ I h) λk f ⟨vs,d,j,c,g⟩=>hc a f b d vs k Q j c g) he hpl
end
end L2
namespace HT
open PySem PyProof.Rows
section
variable{prog:cg}{w:cC}{A:cO}{E:bQ->bS->Prop}{s:bS}
theorem cat_tup{t b:bV}{vs ws:List bQ}{Q:bQ->bS->Prop}(ht:IsTup s.heap t vs.toArray)(hb:IsTup s.heap b ws.toArray)(hv:vs≠[])
  (h1:ws=[]->Q (.ref t) s)(h2:ws≠[]->Q (.ref s.heap.objs.size) {s with heap:=s.heap.push {cls:= .type "tuple",data:= .seq (vs++ws).toArray}})
  (hsz:vs.length+ws.length<=sizeLine):wpAny (model prog w) A (binaryOp .Add (.ref t) (.ref b)) Q E s:=by
 obtain⟨⟨cls,l,data,o⟩,d,p,n,k⟩:=id ht
 obtain⟨⟨r,f,q,g⟩,a,j,m,h⟩:=id hb
 simp only at p k j h
 subst p k j h
 have e:vs.toArray++ws.toArray=(vs++ws).toArray:=by simp
 by_cases c:ws=[]
 ·exact nc ⟨_,d,rfl⟩ ⟨_,a,rfl⟩ kA mn iV iO (iH _ _)
   (tuple_addW1 t b vs.toArray ws.toArray n m l f o g (by simpa using hv) (by simp[c])) ⟨d,a,h1 c⟩
 ·refine nc ⟨_,d,rfl⟩ ⟨_,a,rfl⟩ kA mn iV iO (iH _ _)
   (tuple_addW2 t b vs.toArray ws.toArray n m l f o g (by simpa using hv) (by simpa using c) (by rw[cc,cc];exact hsz)) ⟨d,a,?_⟩
  rw[e]
  exact h2 c
def sIx(n d:Nat):Option Int->Nat
 | none=>d
 | some v=>if v<0 then(v+(n:Int)).toNat else min v.toNat n
theorem sIx_none(n d:Nat):sIx n d none=d:=rfl
theorem sIx_nat(n d k:Nat):sIx n d (some (k:Int))=min k n:=by
 show(if(k:Int)<0 then((k:Int)+(n:Int)).toNat else min (k:Int).toNat n)=min k n;rw[if_neg (by omega),e9]
end
end HT
namespace L2
open PySem PySem.Spec PyProof.Rows
abbrev TO:=St->Hp->(Option Int->Hp->Prop)->Prop
def PO(X:Cx)(e:Option Expr)(t:TO):Prop:=
 ∀(pins:List (bV×Obj)) (s:bS) (σ:St) (H:Hp) (Q:Option Int->Hp->Prop),Inv X pins σ H s->t σ H Q->
  wpAny (model X.prog X.w) X.A (evalPart e X.env) (λu s'=>∃o H',Inv X pins σ H' s'/\IsPart u o/\Q o H') X.xe s
def LQ:TO:=λ_ H Q=>Q none H
def MU(t:TE):TO:=λσ H Q=>t σ H λx H1=>∃i,x = .int i/\Q (some i) H1
section
variable{X:Cx}{e:Expr}{te:TE}{lo hi:Option Expr}{tl th:TO}{pos p2:Pos}
theorem tM:PO X none LQ:=by
 intro a s b H Q I h;rw[mq];exact bO ⟨none,H,I,.none,h⟩
theorem sV(h:PE X e te):PO X (some e) (MU te):=by
 intro a s c H Q I b;rw[pM];refine Fv (h a s c H _ I b) λu k ⟨x,f,j,d,g⟩=>?_;obtain⟨i,rfl,q⟩:=g;obtain⟨t,rfl⟩:=d;exact⟨some i,f,j,.int i t,q⟩
def NY(X:Cx)(r:V->Option Int->Option Int->Hp->VK->Prop):Prop:=
 ∀(pins:List (bV×Obj)) (s:bS) (σ:St) (H:Hp) (x:V) (v vl vu:bQ) (lo hi:Option Int) (sl:bV) (Q:VK),Inv X pins σ H s->RelV x v->s.heap.IsSliceOf sl vl vu .none->IsPart vl lo->IsPart vu hi->r x lo hi H Q->
  ∃T id,typeLookup (.type T) "__getitem__"=pure (some (.builtin id))/\s.TypeIs v T/\wpAny (model X.prog X.w) X.A (getItem v (.ref sl)) (EP X pins σ Q) X.xe s
def OH(r:V->Option Int->Option Int->Hp->VK->Prop)(te:TE)(tl th:TO):TE:=λσ H Q=>te σ H λx H1=>tl σ H1 λl H2=>th σ H2 λu H3=>r x l u H3 Q
theorem sR{r:V->Option Int->Option Int->Hp->VK->Prop}(hr:NY X r)(he:PE X e te)(hl:PO X lo tl)(hu:PO X hi th):PE X (.Subscript e (.Slice lo hi none p2) pos) (OH r te tl th):=by
 intro a s d H Q I h;refine oN (Fv (he a s d H _ I h) λv B ⟨x,m,L,G,J⟩=>?_);refine wpAny_Slice (Fv (hl a B d m _ L J) λf p ⟨l,y,z,n,F⟩=>Fv (hu a p d y _ z F) λg c ⟨u,j,o,t,E⟩=>?_);rw[mq];refine bO ?_;have D:Inv X a d j {c with heap:=c.heap.push {cls:= .type "slice",data:= .fields #[f,g,.none]}}:=o.kept (t':=c.toks) λb N q=>bU _ q;obtain⟨T,id,C,k,M⟩:=hr a {c with heap:=c.heap.push {cls:= .type "slice",data:= .fields #[f,g,.none]}} d j x v f g l u c.heap.objs.size Q D G (mH ..) n t E;show wpAny (model X.prog X.w) X.A (subscriptTail e (.Slice lo hi none p2) v (.ref c.heap.objs.size)) (EP X a d Q) X.xe {c with heap:=c.heap.push {cls:= .type "slice",data:= .fields #[f,g,.none]}};exact qE (ops:=[.ref c.heap.objs.size,v]) k C M (by with_unfolding_all rfl)
def Gx(xs:List V)(lo hi:Option Int):List V:=(xs.drop (HT.sIx xs.length 0 lo)).take (HT.sIx xs.length xs.length hi-HT.sIx xs.length 0 lo)
theorem wo(xs:List V)(lo hi:Option Int):(Gx xs lo hi).length<=xs.length:=by
 unfold Gx;rw[cf,dP];omega
def Nr(K:bN):R2:=λx y H Q=>∃a b xs ys,x = .ref a/\y = .ref b/\SqT K H a xs/\SqT K H b ys/\xs≠[]/\xs.length+ys.length<=sizeLine/\
 (ys=[]->Q (.ref a) H)/\(ys≠[]->∀p,H p=none->Q (.ref p) (upd H p (.tup (xs++ys))))
theorem Vals.nil_iff{xs:List V}{us:List bQ}(r:Vals xs us):us=[]↔xs=[]:=by
 cases r with
 | nil=>simp
 | cons _ _=>simp
theorem DG:Gw X (binaryOp .Add) (Nr X.K):=by
 intro p s F H x y v u Q I g f h;obtain⟨a,b,l,n,rfl,rfl,j,A,m,e,B,t⟩:=h
 cases g
 cases f;obtain⟨D,d,k,_⟩:=I.tuple j;obtain⟨C,c,r,_⟩:=I.tuple A;refine HT.cat_tup k r (λz=>m (d.nil_iff.mp z)) (λz=>⟨.ref a,H,I,rfl,B (c.nil_iff.mp z)⟩) (λz=>?_) (by rw[<-d.length,<-c.length];exact e);refine⟨.ref s.heap.objs.size,_,I.laid (t':=s.toks) (o:= .tup (l++n)) (λb E q=>bU _ q) (bX _) ?_,rfl,t (λw=>z (c.nil_iff.mpr w)) _ (I.hok.fresh (bX _))⟩;exact⟨by rw[cr];exact e,_,d.append c,qa _ _⟩
end
def Lb(n:Nat)(i:Int):Option Nat:=if 0<=i then(if i<n then some i.toNat else none)else if -(n:Int)<=i then some (i+n).toNat else none
def HU{α:Type}(xs:List α)(i:Int):Option α:=(Lb xs.length i).bind λj=>xs[j]?
theorem AJ{n:Nat}{i:Int}{j:Nat}(h:Lb n i=some j):seqIndex? i n=some j/\j<n/\ -(n:Int)<=i/\i<n:=by
 unfold Lb at h;by_cases h0:0<=i
 ·rw[if_pos h0]at h;by_cases h1:i<n
  ·rw[if_pos h1]at h;have e:i.toNat=j:=Option.some.inj h;exact⟨by rw[lT h0 h1,e],by omega,by omega,h1⟩
  ·rw[if_neg h1]at h;cases h
 ·rw[if_neg h0]at h;by_cases h1: -(n:Int)<=i
  ·rw[if_pos h1]at h;have e:(i+n).toNat=j:=Option.some.inj h;exact⟨by rw[ng (by omega) h1,e],by omega,h1,by omega⟩
  ·rw[if_neg h1]at h;cases h
theorem yH{α:Type}{xs:List α}{i:Int}{v:α}(h:HU xs i=some v):∃j,seqIndex? i xs.length=some j/\xs[j]?=some v/\j<xs.length/\ -(xs.length:Int)<=i/\i<xs.length:=by
 unfold HU at h
 cases e:Lb xs.length i with
 | none=>rw[e]at h;cases h
 | some j=>
  rw[e]at h;obtain⟨h1,h2,h3,h4⟩:=AJ e;exact⟨j,h1,h,h2,h3,h4⟩
theorem sM{α:Type}{xs:List α}{j:Nat}{v:α}(h:xs[j]?=some v):HU xs (j:Int)=some v:=by
 have a:j<xs.length:=(b8.mp h).1;have e:Lb xs.length (j:Int)=some j:=by
  unfold Lb;rw[if_pos (by omega),if_pos (by omega)];simp
 unfold HU;rw[e];exact h
def Ju(b:Expr):Prop:=∀o i,subscripted b false o i=operate [o,i] (getItem o i)
def IxR(X:Cx)(r:R2):Prop:=
 ∀(value slice:Expr) (pins:List (bV×Obj)) (s:bS) (σ:St) (H:Hp) (x y:V) (v u:bQ) (Q:VK),Inv X pins σ H s->RelV x v->RelV y u->r x y H Q->
  subscripted slice false v u=operate [v,u] (getItem v u)->wpAny (model X.prog X.w) X.A (subscriptTail value slice v u) (EP X pins σ Q) X.xe s
def MS(X:Cx)(id:String)(r:V->List V->Hp->VK->Prop):Prop:=
 ∀(pins:List (bV×Obj)) (s:bS) (σ:St) (H:Hp) (x:V) (xs:List V) (v:bQ) (us:List bQ) (Q:VK),Inv X pins σ H s->RelV x v->Vals xs us->r x xs H Q->
  wpAny (model X.prog X.w) X.A (call (.builtin id) (v::us)) (EP X pins σ Q) X.xe s
section
variable{X:Cx}{a b:Expr}{ta tb:TE}{pos:Pos}
theorem IxR.or{r r':R2}(h:IxR X r)(h':IxR X r'):IxR X (λx y H Q=>r x y H Q\/r' x y H Q):=by
 intro a b c s e H x y v u Q I f d q g;rcases q with q|q
 ·exact h a b c s e H x y v u Q I f d q g
 ·exact h' a b c s e H x y v u Q I f d q g
theorem rR{r:R2}(hr:IxR X r)(ha:PE X a ta)(hb:PE X b tb)(hs:Ju b):PE X (.Subscript a b pos) (MH r ta tb):=by
 intro c s j H Q I h;exact oN (Mv ha hb I h λv u k x y f e g d q=>hr a b c k j f x y v u Q e g d q (hs _ _))
def MA(K:bN):R2:=λx y H Q=>∃p xs i v,x = .ref p/\y = .int i/\SqL K H p xs/\HU xs i=some v/\Q v H
def Mx(K:bN):R2:=λx y H Q=>∃p xs i v,x = .ref p/\y = .int i/\SqT K H p xs/\HU xs i=some v/\Q v H
def MY:R2:=λx y H Q=>∃z i c,x = .str z/\y = .int i/\z.length<=sizeLine/\HU z.cps.toList i=some c/\Q (.str ⟨#[c]⟩) H
theorem rY:IxR X (MA X.K):=by
 intro m l a s f H x y v u Q I A n h d;obtain⟨p,E,i,z,rfl,rfl,B,D,q⟩:=h
 cases A;obtain⟨t,rfl⟩:=n;obtain⟨e,r,b,G⟩:=I.list B;obtain⟨j,h1,h2,h3,h4,h5⟩:=yH D;obtain⟨w,k,g⟩:=r.get h2;have o:=r.length;have F:=GB;have fin:EP X a f Q w s:=⟨z,H,I,g,q⟩;by_cases h0:0<=i
 ·have c:i.toNat=j:=by
   rw[lT h0 h5]at h1;exact Option.some.inj h1
  exact item_listR b.isList h0 (by omega) (by rw[c];simpa using k) fin d
 ·have c:(i+(e.toArray.size:Int)).toNat=j:=by
   rw[ng (by omega) h4]at h1;rw[cc,<-o];exact Option.some.inj h1
  exact iW (x:=w) b.isList.typeIs j0.lookup
   (wpAny_getItem_list_neg (Q:=λr C=>r=w/\EP X a f Q r C) b.isList (by omega) (by rw[cc] <;> omega) (by omega) (by rw[c];simpa using k) ⟨rfl,fin⟩) d
theorem rZ:IxR X (Mx X.K):=by
 intro f e a s c H x y v u Q I l g h n;obtain⟨p,D,i,z,rfl,rfl,m,B,q⟩:=h
 cases l;obtain⟨t,rfl⟩:=g;obtain⟨C,r,b,F⟩:=I.tuple m;obtain⟨j,h1,h2,h3,h4,h5⟩:=yH B;obtain⟨w,A,d⟩:=r.get h2;have k:=r.length;have E:=GB;have fin:EP X a c Q w s:=⟨z,H,I,d,q⟩;exact iW (x:=w) b.typeIs slot_tuple_getitem.lookup
  (getItem_tuple (j:=j) (Q:=λr o=>r=w/\EP X a c Q r o) b (by omega) (by omega) (by rw[cc,<-k];exact h1) (by simpa using A) ⟨rfl,fin⟩) n
theorem xK:IxR X MY:=by
 intro b a m s p H x y v u Q I g e h k;obtain⟨z,i,c,rfl,rfl,r,n,q⟩:=h;obtain⟨t,rfl⟩:=g;obtain⟨w,rfl⟩:=e;obtain⟨j,h1,h2,h3,h4,h5⟩:=yH n;have f:z.cps.toList.length=z.length:=by simp[jB]
 rw[f]at h1 h4 h5;have o:=GB;exact qE (mI s z t) nR.lookup (getItem_str (c:=c) (by
  have l:decide (i < -(2^63:Int))=false:=decide_eq_false (by omega);have d:decide (i>=2^63)=false:=decide_eq_false (by omega);rw[l,d,j8]) (by rw[h1];simpa using h2) ⟨.str ⟨#[c]⟩,H,I.tok _,⟨_,rfl⟩,q⟩) k
def OB(K:bN):R2:=λx y H Q=>MA K x y H Q\/Mx K x y H Q\/MY x y H Q
theorem Ds:IxR X (OB X.K):=rY.or (rZ.or xK)
theorem zV(its:List bQ)(n j:Nat)(u:bQ):dr (·.setIfInBounds j u) {cls:= .type "list",data:= .seq its.toArray n}={cls:= .type "list",data:= .seq (its.set j u).toArray n}:=by
 simp[dr]
theorem Inv.lst{pins:List (bV×Obj)}{σ:St}{H:Hp}{s:bS}{p:bV}{xs:List V}(I:Inv X pins σ H s)(h:H p=some (.lst xs)):
  ∃(its:List bQ) (n:Nat),Vals xs its/\s.heap.get? p=some {cls:= .type "list",data:= .seq its.toArray n}/\xs.length<=sizeLine:=by
 obtain⟨z,its,n,r,e⟩:=I.hok p _ h
 exact⟨its,n,r,e,z⟩
theorem Inv.lstUpd{pins:List (bV×Obj)}{σ:St}{H:Hp}{s:bS}{p:bV}{xs ys:List V}{its its':List bQ}{n n':Nat}{f:Obj->Obj}(I:Inv X pins σ H s)(h:H p=some (.lst xs))
  (ho:s.heap.get? p=some {cls:= .type "list",data:= .seq its.toArray n})(hf:f {cls:= .type "list",data:= .seq its.toArray n}={cls:= .type "list",data:= .seq its'.toArray n'})(r:Vals ys its')(hz:ys.length<=sizeLine)(t:Nat):
  Inv X pins σ (upd H p (.lst ys)) {s with heap:=s.heap.update p f,toks:=t}:=by
 have e:(s.heap.update p f).get? p=some {cls:= .type "list",data:= .seq its'.toArray n'}:=by
  rw[dR f ho (by rw[hf] <;> rfl),hf]
 refine I.write (x:=p) (e:=p) (by rw[h];trivial) (.inl rfl) (λb u a q=>(ea _ _ (Ne.symm a)).trans q) ⟨_,e⟩ ?_
 exact⟨hz,its',n',r,e⟩
def MX:V->V->V->Hp->(Hp->Prop)->Prop:=λo i v H Q=>∃p xs k j,o = .ref p/\i = .int k/\H p=some (.lst xs)/\Lb xs.length k=some j/\Q (upd H p (.lst (xs.set j v)))
theorem vG:LU X MX:=by
 intro c s g H o i v z A u Q I w y m h;obtain⟨p,f,k,j,rfl,rfl,hp,x,q⟩:=h
 cases w;obtain⟨t,rfl⟩:=y;obtain⟨a,n,r,d,l⟩:=I.lst hp;obtain⟨h1,h2,h3,h4⟩:=AJ x;have b:=r.length;have B:=GB;have e:Inv X c g (upd H p (.lst (f.set j v))) {s with heap:=s.heap.update p (dr (·.setIfInBounds j u))}:=
  I.lstUpd hp d (zV a n j u) (r.set m j) (by rw[fU];exact l) s.toks
 by_cases h0:0<=k
 ·have hk:k.toNat=j:=by
   rw[lT h0 h4]at h1;exact Option.some.inj h1
  exact PySem.W.ki_setAt d h0 (by omega) (by rw[cc,<-b];exact h4) (by rw[hk];exact⟨_,e,q⟩)
 ·have hk:(k+(a.toArray.size:Int)).toNat=j:=by
   rw[ng (by omega) h3]at h1;rw[cc,<-b];exact Option.some.inj h1
  exact PySem.W.ki_setBack d (by omega) (by rw[cc,<-b];exact h3) (by omega) (by rw[hk];exact⟨_,e,q⟩)
theorem yt(lo hi:Option Int)(n:Nat):(sliceBounds lo hi none n).1=((HT.sIx n 0 lo:Nat):Int)/\(sliceBounds lo hi none n).2.1=((HT.sIx n n hi:Nat):Int)/\(sliceBounds lo hi none n).2.2=1:=by
 refine⟨?_,?_,rfl⟩
 ·cases lo with
  | none=>simp[sliceBounds,HT.sIx]
  | some i=>
   simp only[sliceBounds,HT.sIx,kB,show(1:Int)>0 by decide,if_true];by_cases h:i<0
   ·simp only[h,if_true] <;> omega
   ·simp only[h,if_false] <;> omega
 ·cases hi with
  | none=>simp[sliceBounds,HT.sIx]
  | some i=>
   simp only[sliceBounds,HT.sIx,kB,show(1:Int)>0 by decide,if_true];by_cases h:i<0
   ·simp only[h,if_true] <;> omega
   ·simp only[h,if_false] <;> omega
theorem xG(its:List bQ)(lo hi:Option Int):slicePick its.toArray lo hi none=((its.drop (HT.sIx its.length 0 lo)).take (HT.sIx its.length its.length hi-HT.sIx its.length 0 lo)).toArray:=by
 obtain⟨h1,h2,h3⟩:=yt lo hi its.toArray.size;unfold slicePick;rw[h1,h2,h3];simp only[sliceRange_one,pick_run,cc] <;> rfl
def N9(K:bN):V->Option Int->Option Int->Hp->VK->Prop:=λx lo hi H Q=>∃a xs,x = .ref a/\SqL K H a xs/\∀p,H p=none->Q (.ref p) (upd H p (.lst (Gx xs lo hi)))
theorem vg:NY X (N9 X.K):=by
 intro n s y H x v w A lo e z Q I g k j m h;obtain⟨a,c,rfl,l,q⟩:=h
 cases g;obtain⟨t,r,f,p⟩:=I.list l;have d:=r.length;refine⟨"list",_,j0.lookup,f.isList.typeIs,?_⟩;refine j9 f.isList k j m .none (by simp) ?_ (by rw[cc] <;> omega);rw[xG,<-d];refine⟨.ref s.heap.objs.size,_,I.laid (t':=s.toks) (o:= .lst (Gx c lo e)) (λb u q=>bU _ q) (bX _) ?_,rfl,q _ (I.hok.fresh (bX _))⟩;exact⟨cG (wo c lo e) p,_,0,(r.drop (HT.sIx c.length 0 lo)).take (HT.sIx c.length c.length e-HT.sIx c.length 0 lo),b4 _ rfl⟩
def GT:V->Bool
 | .non=>true
 | .bl _=>true
 | .int _=>true
 | .str _=>true
 | _=>false
def Lc:V->V->Bool
 | .non,.non=>true
 | .bl a,.bl b=>a==b
 | .bl a,.int b=>(if a then 1 else 0)==b
 | .int a,.bl b=>a==(if b then 1 else 0)
 | .int a,.int b=>a==b
 | .str a,.str b=>a==b
 | _,_=>false
theorem Ez{A:cO}{s:bS}{y x:V}{u v:bQ}(ry:RelV y u)(rx:RelV x v)(fy:GT y=true)(fx:GT x=true):rd A s u v (Lc y x):=by
 cases y with
 | non=>
  cases ry
  cases x with
  | non=>cases rx;exact rA _
  | bl b=>cases rx;exact qF b
  | int b=>obtain⟨t,rfl⟩:=rx;exact qQ b t
  | str b=>obtain⟨t,rfl⟩:=rx;exact qS b t
  | _=>exact absurd (show false=true from fx) cA
 | bl a=>
  cases ry
  cases x with
  | non=>cases rx;exact qG a
  | bl b=>cases rx;exact qH a b
  | int b=>obtain⟨t,rfl⟩:=rx;exact qT a b t
  | str b=>obtain⟨t,rfl⟩:=rx;exact qV a b t
  | _=>exact absurd (show false=true from fx) cA
 | int a=>
  obtain⟨c,rfl⟩:=ry
  cases x with
  | non=>cases rx;exact qX a c
  | bl b=>cases rx;exact qY a c b
  | int b=>obtain⟨t,rfl⟩:=rx;exact re a c b t
  | str b=>obtain⟨t,rfl⟩:=rx;exact mz a c b t
  | _=>exact absurd (show false=true from fx) cA
 | str a=>
  obtain⟨c,rfl⟩:=ry
  cases x with
  | non=>cases rx;exact qZ a c
  | bl b=>cases rx;exact q4 a c b
  | int b=>obtain⟨t,rfl⟩:=rx;exact mC a c b t
  | str b=>obtain⟨t,rfl⟩:=rx;exact rf a c b t
  | _=>exact absurd (show false=true from fx) cA
 | _=>exact absurd (show false=true from fy) cA
def Kj(x:V)(u:bQ):Bool:=match u with
 | .none=>Lc .non x
 | .bool b=>Lc (.bl b) x
 | .int i _=>Lc (.int i) x
 | .str z _=>Lc (.str z) x
 | _=>false
theorem Dl{x y:V}{u:bQ}(r:RelV y u)(f:GT y=true):Kj x u=Lc y x:=by
 cases y with
 | non=>cases r;rfl
 | bl b=>cases r;rfl
 | int i=>obtain⟨t,rfl⟩:=r;rfl
 | str z=>obtain⟨t,rfl⟩:=r;rfl
 | _=>exact absurd (show false=true from f) cA
theorem wf{x:V}:∀{xs:List V} {us:List bQ},Vals xs us->xs.all GT=true->us.any (Kj x)=xs.any λy=>Lc y x
 | _,_,.nil,_=>rfl
 | y::xs,u::us,.cons r t,f=>by
  rw[pN,cH]at f
  rw[gB,gB,Dl r f.1,wf t f.2]
theorem uO{A:cO}{s:bS}{x:V}{v:bQ}(rx:RelV x v)(fx:GT x=true):∀{xs:List V} {us:List bQ},Vals xs us->xs.all GT=true->∀u∈us,rd A s u v (Kj x u)
 | _,_,.nil,_=>λu a=>by cases a
 | y::xs,u::us,.cons r t,f=>λb a=>by
  rw[pN,cH]at f
  rcases cj.mp a with rfl|a
  ·rw[Dl r f.1];exact Ez r rx f.1 fx
  ·exact uO rx fx t f.2 b a
def Jw(x:V)(xs:List V):Bool:=xs.any λy=>Lc y x
def NV(K:bN)(neg:Bool):R2:=λx y H Q=>∃p xs,y = .ref p/\(SqL K H p xs\/SqT K H p xs)/\GT x=true/\xs.all GT=true/\Q (.bl (if neg then !Jw x xs else Jw x xs)) H
theorem yd:Gw X (compareOp .In) (NV X.K false):=by
 intro k s n H x y v u Q I f j h;obtain⟨p,m,rfl,b,g,c,q⟩:=h
 cases j;rcases b with b|b
 ·obtain⟨a,r,d,l⟩:=I.list b;refine SeqAt.in_listAt (Kj x) d.isList (λw e=>uO f g r c w (by simpa using e)) ⟨.bl _,H,I,rfl,?_⟩;rw[show a.toArray.any (Kj x)=a.any (Kj x)by simp,wf r c];exact q
 ·obtain⟨a,r,d,l⟩:=I.tuple b;refine SeqAt.in_tupleAt (Kj x) d (λw e=>uO f g r c w (by simpa using e)) ⟨.bl _,H,I,rfl,?_⟩;rw[show a.toArray.any (Kj x)=a.any (Kj x)by simp,wf r c];exact q
theorem tI:Gw X (compareOp .NotIn) (NV X.K true):=by
 intro k s n H x y v u Q I f j h;obtain⟨p,m,rfl,b,g,c,q⟩:=h
 cases j;rcases b with b|b
 ·obtain⟨a,r,d,l⟩:=I.list b;refine SeqAt.notIn_listAt (Kj x) d.isList (λw e=>uO f g r c w (by simpa using e)) ⟨.bl _,H,I,rfl,?_⟩;rw[show a.toArray.any (Kj x)=a.any (Kj x)by simp,wf r c];exact q
 ·obtain⟨a,r,d,l⟩:=I.tuple b;refine SeqAt.notIn_tupleAt (Kj x) d (λw e=>uO f g r c w (by simpa using e)) ⟨.bl _,H,I,rfl,?_⟩;rw[show a.toArray.any (Kj x)=a.any (Kj x)by simp,wf r c];exact q
theorem rV:FW X (.builtin "len") (λxs H Q=>∃p ys,xs=[.ref p]/\(SqL X.K H p ys\/SqT X.K H p ys)/\Q (.int ys.length) H):=by
 intro g s l H xs m Q I r h;obtain⟨p,ys,rfl,b,q⟩:=h;obtain⟨u,rfl,f⟩:=F6 r
 cases f;have k:=GB;rcases b with b|b
 ·obtain⟨e,d,c,j⟩:=I.list b;have a:=d.length;exact Calls.call_len_list c.isList (by simp only[cc] <;> omega) ⟨.int ys.length,H,I.tok _,⟨s.toks+1,by rw[cc,a]⟩,q⟩
 ·obtain⟨e,d,c,j⟩:=I.tuple b;have a:=d.length;exact len_tuple c (by simp only[cc] <;> omega) ⟨.int ys.length,H,I.tok _,⟨s.toks+1,by rw[cc,a]⟩,q⟩
theorem uf:FW X (.builtin "len") (λxs H Q=>∃z,xs=[.str z]/\z.length<=sizeLine/\Q (.int z.length) H):=by
 intro a s c H xs e Q I r h;obtain⟨z,rfl,d,q⟩:=h;obtain⟨u,rfl,t,rfl⟩:=F6 r;have b:=GB;exact len_str (by omega) ⟨.int z.length,H,I.tok _,⟨_,rfl⟩,q⟩
theorem sT:FW X (.type "list") (λxs H Q=>∃p ys,xs=[.ref p]/\(SqL X.K H p ys\/SqT X.K H p ys)/\∀l,H l=none->Q (.ref l) (upd H l (.lst ys))):=by
 intro x s B H xs C Q I r h;obtain⟨p,ys,rfl,g,q⟩:=h;obtain⟨u,rfl,A⟩:=F6 r
 cases A;have fin:∀(a:List bQ),Vals ys a->ys.length<=sizeLine->∀(c:Heap) (d:Nat),(∀b o',s.heap.get? b=some o'->c.get? b=some o')->
   c.get? s.heap.objs.size=some {cls:= .type "list",dict:=none,data:= .seq a.toArray d,slots:= #[]}->EP X x B Q (.ref s.heap.objs.size) {s with heap:=c}:=λa f j c d k e=>
  ⟨.ref s.heap.objs.size,_,I.laid (t':=s.toks) k (bX _) (show ObjOk X.prog X.w _ c _ (.lst ys)from⟨j,a,d,f,e⟩),rfl,q _ (I.hok.fresh (bX _))⟩
 rcases g with g|g
 ·obtain⟨a,f,t,j⟩:=I.list g;have v:=f.length;obtain⟨o,y,z,n,m⟩:=t.isList;exact pO p (.inl rfl) y z m (λc d k e=>fin a f j c d k e) (by simp only[cc] <;> omega)
 ·obtain⟨a,f,t,j⟩:=I.tuple g;have v:=f.length;obtain⟨o,y,z,n,m⟩:=t;exact pO p (.inr rfl) y z m (λc d k e=>fin a f j c d k e) (by simp only[cc] <;> omega)
theorem tD:FW X (.type "tuple") (λxs H Q=>∃p ys,xs=[.ref p]/\((SqL X.K H p ys/\∀l,H l=none->Q (.ref l) (upd H l (.tup ys)))\/(SqT X.K H p ys/\Q (.ref p) H))):=by
 intro c s k H xs z Q I r h;obtain⟨p,ys,rfl,h⟩:=h;obtain⟨u,rfl,t⟩:=F6 r
 cases t;rcases h with⟨g,q⟩|⟨g,q⟩
 ·obtain⟨a,j,f,m⟩:=I.list g;have v:=j.length;refine oo f.isList (λd y=>?_) (by simp only[cc] <;> omega);have n:Inv X c k H {s with heap:=d}:=I.kept (t':=s.toks) y;have x:Inv X c k (upd H d.objs.size (.tup ys)) {s with heap:=d.push {cls:= .type "tuple",data:= .seq a.toArray}}:=
   n.laid (t':=s.toks) (λb o e=>bU _ e) (bX _) (show ObjOk X.prog X.w _ _ _ (.tup ys)from⟨m,a,j,qa _ _⟩)
  exact⟨.ref d.objs.size,_,x,rfl,q _ (n.hok.fresh (bX _))⟩
 ·obtain⟨a,j,f,m⟩:=I.tuple g;exact call_tuple_same f ⟨.ref p,H,I,rfl,q⟩
def N2(K:bN)(T:String)(x:V)(H:Hp):Prop:=match x with
 | .str _=>T="str"
 | .int _=>T="int"
 | .ref p=>(T="list"/\∃xs,SqL K H p xs)\/(T="tuple"/\∃o,K.lookup p=some o/\o.cls = .type "tuple"/\o.dict=none)\/
   (T="dict"/\((∃kvs,H p=some (.dK kvs))\/∃kvs,H p=some (.dT kvs)))\/(T="set"/\∃S n,H p=some (.set S n))
 | _=>False
theorem Dv{pins:List (bV×Obj)}{σ:St}{H:Hp}{s:bS}{T:String}{x:V}{v:bQ}(I:Inv X pins σ H s)(r:RelV x v)(ty:N2 X.K T x H):
  s.TypeIs v T/\∀a,v = .ref a->∃ob,s.heap.get? a=some ob/\ob.dict=none:=by
 cases x with
 | str z=>
  obtain⟨t,rfl⟩:=r
  cases(show T="str"from ty)
  exact⟨mI s z t,λ_ e=>nomatch e⟩
 | int i=>
  obtain⟨t,rfl⟩:=r
  cases(show T="int"from ty)
  exact⟨typeIs_int s i t,λ_ e=>nomatch e⟩
 | ref p=>
  cases r
  rcases ty with⟨rfl,m,j⟩|⟨rfl,o,hk,k,f⟩|⟨rfl,hk⟩|⟨rfl,S,n,hk⟩
  ·obtain⟨l,_,h,_⟩:=I.list j
   refine⟨h.isList.typeIs,λa e=>?_⟩
   cases e
   obtain⟨o,n,e,c,f,_⟩:=h
   exact⟨o,e,f⟩
  ·refine⟨⟨o,I.kIn p o hk,k⟩,λa e=>?_⟩
   cases e
   exact⟨o,I.kIn _ o hk,f⟩
  ·have z:∃o,s.heap.get? p=some o/\o.ExactDict:=by
    rcases hk with⟨g,hk⟩|⟨g,hk⟩
    ·obtain⟨_,_,_,_,o,_,_,e,b,_⟩:=I.hok p _ hk
     exact⟨o,e,b⟩
    ·obtain⟨_,_,_,_,o,_,_,e,b,_⟩:=I.hok p _ hk
     exact⟨o,e,b⟩
   obtain⟨o,e,b⟩:=z
   refine⟨⟨o,e,b.1⟩,λa d=>?_⟩
   cases d
   exact⟨o,e,b.2.1⟩
  ·obtain⟨o,_,_,_,e,b,_⟩:=I.hok p _ hk
   refine⟨⟨o,e,b.1⟩,λa d=>?_⟩
   cases d
   exact⟨o,e,b.2.1⟩
 | _=>exact dI ty
def NR(K:bN)(T:String)(r:V->List V->Hp->VK->Prop)(to:TE):TE:=λσ H Q=>to σ H λx H1=>N2 K T x H1/\r x [] H1 Q
def Os(K:bN)(T:String)(r:V->List V->Hp->VK->Prop)(to:TE)(t:TA):TE:=λσ H Q=>to σ H λx H1=>N2 K T x H1/\t σ H1 λxs H2=>r x xs H2 Q
variable{o e:Expr}{es:List Expr}{to:TE}{t:TA}{name:Str}{apos cpos:Pos}{T id:String}{r:V->List V->Hp->VK->Prop}
theorem Et(pa:PlainAttrs T)(slot:Slot T name id)(hty:typeOf (.builtin id)=pure (.type "method_descriptor"))(hm:MS X id r)(ho:PE X o to)
  (hbase:attributeBase o name X.env (eval o X.env)=eval o X.env:=by rfl)(hline:(apos.endLine==cpos.line)=true:=by rfl):PE X (.Call (.Attribute o name apos) [] [] cpos) (NR X.K T r to):=by
 intro a s b H Q I h
 refine kC hbase hline (Fv (ho a s b H _ I h) λv g ⟨x,f,d,c,e,j⟩=>?_)
 obtain⟨h1,h2⟩:=Dv d c e
 exact⟨T,id,pa,slot,hty,h1,h2,fZ rfl (mc (hm a g b f x [] v [] Q d c .nil j))⟩
theorem tL(pa:PlainAttrs T)(slot:Slot T name id)(hty:typeOf (.builtin id)=pure (.type "method_descriptor"))(hm:MS X id r)(ho:PE X o to)(ha:PA X (e::es) t)
  (hbase:attributeBase o name X.env (eval o X.env)=eval o X.env:=by rfl)
  (hfew:((backTo cpos (cD (e::es) X.env)).all (λx=>!x.1)&&(backToKw cpos (keywordEach [] X.env)).all (λx=>x.1.isSome)
   && decide ((e::es).length+([]:List Keyword).length+(if([]:List Keyword).isEmpty then 0 else 1)<30))=true:=by rfl)
  (hline:(apos.endLine==cpos.line)=true:=by rfl)(hs:cD (e::es) X.env=(false,eval e X.env)::cD es X.env:=by rfl)(hplain:(backTo cpos (cD es X.env)).any (·.1)=false:=by rfl):
  PE X (.Call (.Attribute o name apos) (e::es) [] cpos) (Os X.K T r to t):=by
 intro a s b H Q I h
 refine wpAny_Call_method_late hbase hfew hline rfl (Fv (ho a s b H _ I h) λv m ⟨x,f,d,c,p,u⟩=>?_)
 obtain⟨h1,h2⟩:=Dv d c p
 refine⟨T,id,pa,slot,hty,h1,h2,?_⟩
 have hA:=ha cpos a m b f _ d u
 rw[hs]at hA ⊢
 refine fZ (by show(false||(backTo cpos (cD es X.env)).any (·.1))=false;rw[hplain] <;> rfl) (ig ?_)
 exact Fv hA λn g ⟨vs,j,l,k,q⟩=>hm a g b j x vs v n Q l c k q
end
def LH(X:Cx)(id:String)(r:V->List V->Hp->VK->Prop):Prop:=
 ∀(pins:List (bV×Obj)) (s:bS) (σ:St) (H:Hp) (x:V) (xs:List V) (v:bQ) (us:List bQ) (Q:VK),Inv X pins σ H s->RelV x v->Vals xs us->r x xs H Q->
  wpAny (model X.prog X.w) X.A (call (.builtin id) (v::us)) (EP X pins σ Q) X.xe s
theorem Vals.one:∀{x:V} {us:List bQ},Vals [x] us->∃u,us=[u]/\RelV x u
 | _,_,.cons r .nil=>⟨_,rfl,r⟩
theorem Vals.two:∀{x y:V} {us:List bQ},Vals [x,y] us->∃u v,us=[u,v]/\RelV x u/\RelV y v
 | _,_,_,.cons r (.cons q .nil)=>⟨_,_,rfl,r,q⟩
theorem Vals.zero:∀{us:List bQ},Vals [] us->us=[]
 | _,.nil=>rfl
theorem Vals.dropLast{xs:List V}{us:List bQ}(h:Vals xs us):Vals xs.dropLast us.dropLast:=by
 induction h with
 | nil=>exact .nil
 | cons r t a=>
  cases t with
  | nil=>exact .nil
  | cons q b=>exact .cons r a
theorem Vals.eraseIdx:∀{xs:List V} {us:List bQ} (i:Nat),Vals xs us->Vals (xs.eraseIdx i) (us.eraseIdx i)
 | _,_,_,.nil=> .nil
 | _,_,0,.cons _ t=>t
 | _,_,i+1,.cons r t=> .cons r (Vals.eraseIdx i t)
theorem zO{α:Type}(l:List α):l.eraseIdx (l.length-1)=l.dropLast:=by
 induction l with
 | nil=>rfl
 | cons a r c=>
  cases r with
  | nil=>rfl
  | cons b r=>
   have e:(a::b::r).length-1=((b::r).length-1)+1:=by
    have h1:(a::b::r).length=r.length+2:=rfl;have h2:(b::r).length=r.length+1:=rfl;omega
   rw[e,List.eraseIdx_cons_succ,c]
   all_goals rfl
theorem x4{α:Type}:∀(l:List α) (i:Nat),(l.eraseIdx i).length<=l.length
 | [],_=>bX _
 | _::_,0=>dJ _
 | _::r,i+1=>gE (x4 r i)
section
variable{X:Cx}{pins:List (bV×Obj)}{σ:St}{H:Hp}{s:bS}{l b:bV}{xs ys zs:List V}
theorem Inv.lset{its its':List bQ}{n:Nat}{f:Array bQ->Array bQ}{t':Nat}(I:Inv X pins σ H s)(hH:H l=some (.lst xs))
  (e:s.heap.get? l=some {cls:= .type "list",data:= .seq its.toArray n})(hf:f its.toArray=its'.toArray)(hv:Vals ys its')(hz:ys.length<=sizeLine):
  Inv X pins σ (upd H l (.lst ys)) {s with heap:=s.heap.update l (dr f),toks:=t'}:=by
 have q:=gF e f
 rw[hf]at q
 refine I.write (x:=l) (e:=l) (by rw[hH];exact trivial) (.inl rfl) (λc u b a=>(ea s.heap (dr f) (Ne.symm b)).trans a) ⟨_,q⟩ ?_
 exact⟨hz,its',_,hv,q⟩
theorem Inv.lnew{its:List bQ}{t':Nat}(I:Inv X pins σ H s)(hv:Vals ys its)(hz:ys.length<=sizeLine):
  Inv X pins σ (upd H s.heap.objs.size (.lst ys)) {s with heap:=s.heap.push {cls:= .type "list",data:= .seq its.toArray},toks:=t'}:=
 I.laid (λ_ _ q=>bU _ q) (bX _) ⟨hz,its,0,hv,b4 _ rfl⟩
theorem Inv.fresh(I:Inv X pins σ H s):H s.heap.objs.size=none:=I.hok.fresh (bX _)
theorem Inv.lstM(I:Inv X pins σ H s)(hH:H l=some (.lst xs)):xs.length<=sizeLine/\∃(its:List bQ) (n:Nat),Vals xs its/\xs.length=its.length/\s.heap.get? l=some {cls:= .type "list",data:= .seq its.toArray n}:=by
 obtain⟨z,its,n,r,e⟩:=I.hok l _ hH;exact⟨z,its,n,r,r.length,e⟩
theorem Lk{n:Nat}(h:n<=sizeLine):iI n=false:=by
 unfold iI;exact decide_eq_false (by omega)
end
section
variable{X:Cx}
def LL:V->List V->Hp->VK->Prop:=λx vs H Q=>∃l xs y,x = .ref l/\vs=[y]/\H l=some (.lst xs)/\xs.length<sizeLine/\Q .non (upd H l (.lst (xs++[y])))
theorem sq:LH X "list.append" LL:=by
 intro d s m H x vs v p Q I c g h;obtain⟨l,k,y,rfl,rfl,b,o,q⟩:=h
 cases c;obtain⟨u,rfl,f⟩:=g.one;obtain⟨z,a,n,r,j,e⟩:=I.lstM b;refine fV cK ⟨_,e,rfl⟩ md (lU _ _) (nh l a.toArray n u (by rw[cc];omega)) ⟨e,?_⟩;refine⟨.non,_,I.lset (its':=a++[u]) b e (by simp) (r.append (.cons f .nil)) ?_,rfl,q⟩;rw[cr,dB];omega
def L0:V->List V->Hp->VK->Prop:=λx vs H Q=>∃l b xs zs,x = .ref l/\vs=[.ref b]/\H l=some (.lst xs)/\H b=some (.lst zs)/\xs.length+zs.length<=sizeLine/\Q .non (upd H l (.lst (xs++zs)))
theorem mt_extend:LH X "list.extend" L0:=by
 intro p s E H x vs v J Q I k w h;obtain⟨l,b,D,L,rfl,rfl,f,m,G,q⟩:=h
 cases k;obtain⟨u,rfl,t⟩:=w.one
 cases t;obtain⟨z,c,n,r,B,e⟩:=I.lstM f;obtain⟨C,a,y,o,A,j⟩:=I.lstM m;have g:c.toArray.size+a.toArray.size<=sizeLine:=by rw[cc,cc];omega
 have d:¬(!c.toArray.isEmpty&&iI (c.toArray.size+a.toArray.size))=true:=by
  rw[Lk g,jC];exact cA
 refine fV F.slot_list_extend ⟨_,e,rfl⟩ F.entry_list_extend (F.args_list_extend_2 _ _)
  (AutoSeq1.list_extend_list_list_0 l c.toArray n b a.toArray y d (by rw[cc];omega) (by omega)) ⟨e,j,?_⟩
 refine⟨.non,_,I.lset (its':=c++a) f e (by simp) (r.append o) ?_,rfl,q⟩;rw[cr];omega
def Od:V->List V->Hp->VK->Prop:=λx vs H Q=>∃l xs y,x = .ref l/\vs=[]/\H l=some (.lst xs)/\xs[xs.length-1]?=some y/\Q y (upd H l (.lst xs.dropLast))
theorem mt_pop:LH X "list.pop" Od:=by
 intro m s w H x vs v A Q I j p h;obtain⟨l,t,y,rfl,rfl,c,k,q⟩:=h
 cases j;have d:=p.zero;subst d;obtain⟨z,a,n,r,f,e⟩:=I.lstM c;obtain⟨u,g,o⟩:=r.get k;have b:a.toArray[a.toArray.size-1]?=some u:=by
  show a.toArray[a.length-1]?=some u;rw[<-fb,<-f];exact g
 refine fV oq ⟨_,e,rfl⟩ nS (F.args_list_pop_1 _) (MeetsSeq.list_pop_last l a.toArray n u b (by rw[cc];omega)) ⟨e,?_⟩;refine⟨y,_,I.lset (its':=a.dropLast) c e ?_ r.dropLast ?_,o,q⟩
 ·show a.toArray.eraseIdxIfInBounds (a.toArray.size-1)=a.dropLast.toArray;rw[cc,i8,zO]
 ·rw[jh];omega
def Ml:V->List V->Hp->VK->Prop:=λx vs H Q=>∃l xs i k y,x = .ref l/\vs=[.int i]/\H l=some (.lst xs)/\ -(2^63)<=i/\i<2^63/\seqIndex? i xs.length=some k/\xs[k]?=some y/\Q y (upd H l (.lst (xs.eraseIdx k)))
theorem Cg:LH X "list.pop" Ml:=by
 intro o s B H x vs v C Q I f A h;obtain⟨l,g,i,k,y,rfl,rfl,b,h1,h2,hk,j,q⟩:=h
 cases f;obtain⟨u,rfl,p⟩:=A.one;obtain⟨t,rfl⟩:=p;obtain⟨z,a,n,r,d,e⟩:=I.lstM b;obtain⟨w,m,c⟩:=r.get j;refine fV oq ⟨_,e,rfl⟩ nS (F.args_list_pop_2 _ _)
  (MeetsSeq.list_pop_at l a.toArray n i t k w (fitsIndex_both h1 h2) (by rw[cc,<-d];exact hk) (by rw[<-fb];exact m) (by rw[cc];omega)) ⟨e,?_⟩
 refine⟨y,_,I.lset (its':=a.eraseIdx k) b e ?_ (r.eraseIdx k) ?_,c,q⟩
 ·show a.toArray.eraseIdxIfInBounds k=(a.eraseIdx k).toArray;rw[i8]
 ·have:=x4 g k;omega
def MC:V->List V->Hp->VK->Prop:=λx vs H Q=>∃l xs,x = .ref l/\vs=[]/\H l=some (.lst xs)/\Q .non (upd H l (.lst []))
theorem CB:LH X "list.clear" MC:=by
 intro f s m H x vs v o Q I d g h;obtain⟨l,k,rfl,rfl,a,q⟩:=h
 cases d;have c:=g.zero;subst c;obtain⟨z,b,n,r,j,e⟩:=I.lstM a;refine fV F.slot_list_clear ⟨_,e,rfl⟩ F.entry_list_clear (F.args_list_clear_1 _) (AutoSeq1.list_clear_list_0 l b.toArray n (by rw[cc];omega)) ⟨e,?_⟩;exact⟨.non,_,I.lset (its':=[]) (ys:=[]) a e rfl .nil (cM _),rfl,q⟩
def N7:R2:=λx y H Q=>∃l b xs zs,x = .ref l/\y = .ref b/\H l=some (.lst xs)/\H b=some (.lst zs)/\xs.length+zs.length<=sizeLine/\∀p,H p=none->Q (.ref p) (upd H p (.lst (xs++zs)))
theorem xV:Gw X (binaryOp .Add) N7:=by
 intro o s C H x y v u Q I g f h;obtain⟨l,b,B,F,rfl,rfl,j,k,D,q⟩:=h
 cases g
 cases f;obtain⟨z,c,n,r,w,e⟩:=I.lstM j;obtain⟨A,a,E,m,t,d⟩:=I.lstM k;refine PySem.P.add_list e d ?_ (by rw[cc,cc];omega);have p:c.toArray++a.toArray=(c++a).toArray:=by simp
 rw[p];exact⟨.ref _,_,I.lnew (t':=s.toks) (r.append m) (by rw[cr];omega),rfl,q _ I.fresh⟩
end
end L2
namespace Att
open PySem PySem.W PySem.Calls PyProof.Rows
theorem ww{P:Params}{h:Heap}:∀(ns:List Int) (vs:List bQ),WellAll P h vs (ns.map rq)->IntsAre vs ns:=by
 intro ns
 induction ns with
 | nil=>
  intro vs w;rw[List.map_nil]at w
  cases w;exact .nil
 | cons n ns c=>
  intro vs w;rw[dh]at w
  cases w with
  | cons a b=>
   cases a;exact .cons _ _ (c _ b)
theorem BM{l:OpenLaw}{n:Nat}(hn:l.most=some n){P:Params}{h:Heap}{args:List WData}{vals:List bQ}
  (hpre:l.row.toRowW.claim.pre args=true)(hwl:WellAll P h vals args):
  ∃a vs ns,vals=[b5 a]/\args=[WData.list (ns.map rq)]/\h.get? a=some {cls:= .type "list",data:= .seq vs.toArray}/\IntsAre vs ns/\ns.length<=n:=by
 have e:WShape.hasAll [] args [.list .int]=true:=(pre_splitW hpre).1
 have c:l.pre.holds [] {args:=args}=true:=(pre_splitW hpre).2
 obtain⟨d,r,rfl,h1,h2⟩:=hasAllW_cons e
 obtain rfl:=hasAllW_nil h2
 obtain⟨m,rfl,h3⟩:=hasW_list h1
 obtain⟨ns,rfl⟩:=items_int h3
 have b:ns.length<=n:=by
  unfold OpenLaw.pre at c
  have h4:(WTm.not (.lt (.lit (.int (n:Int))) (.len (.arg 0)))).holds [] {args:=[.list (ns.map .int)]}=true:=by
   have h4:=(holds_andW c).1
   rw[hn]at h4
   exact h4
  have h5:=condW_of h4 (w_not (w_lt w_lit (w_len_list (w_arg rfl))))
  rw[bP]at h5
  refine kD λq=>?_
  have f:(n:Int)<((ns.length:Nat):Int):=by omega
  first
   | (rw[decide_eq_true f]at h5;exact absurd h5 (by decide))
   | (simp at h5;omega)
 cases hwl with
 | cons g k=>
  cases k
  cases g with
  | list j hall=>exact⟨_,_,ns,rfl,rfl,j,ww ns _ hall,b⟩
theorem B6(l:OpenLaw)(args:List WData):l.row.toRowW.claim.post args (.bool true) args=true:=
 postW_of (r:=l.row.toRowW) (X:=(true==true))
  (show rg [] (.bool true) .bool=true by first|rfl|decide|simp[rg,WShape.arms,WShape.armsAll])
  (show(WTm.eq .res (.lit (.bool true))).value [] {args:=args,res:=some (.bool true),after:=args}=some (.bool (true==true))from w_eq_bool (w_res rfl) w_lit) rfl
theorem attach_call{l:OpenLaw}{n:Nat}{q:cg}{loose:List Str}{XP:(Str->Option bQ)->Heap->Prop}{YP:cC->Heap->Prop}{d:DefRec}
  (hn:l.most=some n)(hdf:d.params.defaults=[])
  (call:∀(w:cC) (s₀ s₁:bS) (mg mb:Str->Option bQ) (fa:bV) (o:Obj) (pm cd doc:bQ) (a:bV) (vs:List bQ) (ns:List Int),
   Ground q loose [] XP w s₀ mg mb s₁.heap->YP w s₁.heap->
   s₁.heap.get? fa=some o->o.data = .func (docDef d.name d.params d.body d.scope pm cd doc)->s₁.heap.CodeRec cd d.name->mg d.name=some (.ref fa)->
   s₁.heap.get? a=some {cls:= .type "list",data:= .seq vs.toArray}->IntsAre vs ns->ns.length<=n->s₁.gens = #[]->
   codeAny (model l.prog w) callerA (.call (.ref fa) ⟨[.ref a],[]⟩) (λr s'=>r = .ok (.ret (.bool true))/\OldK s₁.heap s'.heap/\s'.os=s₁.os/\AllBare s'.gens) s₁):
  WalkO q loose XP YP l.row.toRowW d [] (λf vs=>oO f vs):=by
 intro w s₀ s₁ mg mb G Y fa o pm cd doc t kV v p j m h A z x as g y B k C
 obtain rfl:t = .none:=Dflts.none m hdf
 obtain rfl:kV = .none:=Dflts.noKw m
 obtain⟨a,vs,ns,rfl,rfl,c,b,e⟩:=BM hn g k
 refine enter_call (gP (call w s₀ s₁ mg mb fa o pm cd doc a vs ns G Y v (fd_plain p) j h c b e A) λr s' u=>?_)
 obtain⟨rfl,h2,h3,h4⟩:=u
 exact⟨.inl ⟨.bool true,.bool true,[],rfl,λ_=>rfl,.bool true,B6 l _,λ_=>⟨mr.nil,λ_ s=>(nomatch s)⟩⟩,h2,h3,h4⟩
end Att
namespace L2
open PySem PySem.Spec PyProof.Rows
theorem uY:∀{vs:List bQ} {ns:List Int},IntsAre vs ns->Vals (ns.map V.int) vs
 | _,_,.nil=> .nil
 | _,_,.cons n t h=> .cons ⟨t,rfl⟩ (uY h)
def MJ(H:Hp):Prop:=∀b,H b=none\/∃o xs,H b=some (.frz o (.lst xs))
theorem Ct{P:cg}{w:cC}{K:bN}{mg mb:Str->Option bQ}{CX:Js}{k:Nat}{fa a:bV}{fd:FuncData}{x:Str}{sp:Sp}{s₁:bS}{vs:List bQ}{ns:List Int}
  (KX:K.In s₁.heap)(hns:s₁.heap.Ns eF mg)(hb:s₁.heap.Ns builtinsNs mb)(hbb:∀x:Str,x≠"__name__"->mb x=bootBuiltins x)(hlim:s₁.heap.NoLimit)(hg:s₁.gens = #[])
  (ha:s₁.heap.get? a=some {cls:= .type "list",data:= .seq vs.toArray})(hi:IntsAre vs ns)(hl:ns.length<=sizeLine)(hr:Room k callerA)
  (F:∀base:Heap,K.In base->base.Ns eF mg->FnOk P w K mg base CX k fa fd [x] sp)(hbind:∀(s:bS) (u:bQ),BindsTo s fd ⟨[u],[]⟩ [(x,u)])
  (hsp:∀H:Hp,MJ H->SqL K H a (ns.map V.int)->sp [.ref a] H (λv _=>v = .bl true) λ_ _ _=>False)
  (hCX:∀H e s',CX [] H s₁ (λ_ _ _=>False) e s'->False):
  codeAny (model P w) callerA (.call (.ref fa) ⟨[.ref a],[]⟩) (λr s'=>r = .ok (.ret (.bool true))/\OldK s₁.heap s'.heap/\s'.os=s₁.os/\AllBare s'.gens) s₁:=by
 have J:=uY hi
 have A:=hi.length
 have j:∀H:Hp,MJ H->SqL K H a (ns.map V.int)->HOk P w H s₁.heap->(∀b,H b≠none->b=a)->(H a≠none->K.lookup a=none)->
   codeAny (model P w) callerA (.call (.ref fa) ⟨[.ref a],[]⟩) (λr s'=>r = .ok (.ret (.bool true))/\OldK s₁.heap s'.heap/\s'.os=s₁.os/\AllBare s'.gens) s₁:=by
  intro H G X y hA O
  have c:∀{b:bV} {o:Obj},s₁.heap.get? b=some o->H b=none->(Jq s₁.heap H).get? b=some o:=λe n=>Db e n
  have L:∀{b:bV} {o:Obj} {l:Array DictEntry} {p:Nat},s₁.heap.get? b=some o->o.data = .dict l p->H b=none:=λ {b o l p} e d=>by
   cases q:H b with
   | none=>rfl
   | some u=>
    have B:b=a:=hA b (by rw[q];simp)
    subst B
    rw[ha]at e;cases e
    have d':ii vs.toArray _=Data.dict l p:=d
    cases d'
  have f:∀{b:bV} {m:Str->Option bQ},s₁.heap.Ns b m->(Jq s₁.heap H).Ns b m:=λ {b m} ⟨o,l,p,e,d,r⟩=>⟨o,l,p,c e (L e d),d,r⟩
  have t:K.In (Jq s₁.heap H):=λb o e=>c (KX b o e) (by
   cases q:H b with
   | none=>rfl
   | some u=>
    have B:b=a:=hA b (by rw[q];simp)
    subst B
    rw[O (by rw[q];simp)]at e;cases e)
  have R:Mod K mg (Jq s₁.heap H):=⟨t,f hns,⟨mb,f hb,hbb⟩,let⟨T,h1,h2⟩:=hlim;⟨T,f h1,h2⟩⟩
  have U:Env0 P w K mg (Jq s₁.heap H) callerA [] s₁ H:=⟨rfl,R,λb o e=>D5 e,m9 (A0 _ _),trivial,λb hb=>absurd (show b∈([]:List bV)from hb) (by simp),y,.of_eq hg⟩
  refine gP ((F _ t (f hns)).run callerA [] s₁ H ⟨[.ref a],[]⟩ [.ref a] [.ref a] _ _ hr U (hbind s₁ (.ref a)) (.cons rfl .nil) (hsp H G X)) λr s' h=>?_
  cases r with
  | error e=>exact(hCX H e s' h).elim
  | ok Z=>
   cases Z with
   | next=>exact dI h
   | brk=>exact dI h
   | cont=>exact dI h
   | ret u=>
    obtain⟨v,H',os,D,E,C,Y,q⟩:=h
    have Q:v = .bl true:=q
    subst Q
    obtain rfl:u=dH true:=Y
    refine⟨rfl,OldK.of_keep λb o e=>?_,os,D⟩
    cases q:H b with
    | none=>exact E.keep b o e q (by intro z;exact absurd (show b∈([]:List bV)from z) (by simp)) (by simp)
    | some u=>
     rcases G b with z|⟨N,xs,z⟩
     ·rw[q]at z;cases z
     ·have S:=E.frzs b N _ z
      obtain⟨I,_⟩:=y b _ z
      obtain⟨M,_⟩:=C b _ S
      rw[e]at I;cases I
      exact M
 cases hk:K.lookup a with
 | some o=>
  have e:=KX a o hk
  rw[ha]at e
  cases e
  refine j (λ_=>none) (λ_=> .inl rfl) (.inr ⟨_,vs.toArray,_,hk,rfl,rfl,rfl,by rw[cc,A];exact hl,by simpa using J⟩) (λb u z=>by have g:(none:Option HO)=some u:=z;cases g) (λb z=>absurd rfl z) λz=>absurd rfl z
 | none=>
  refine j (λb=>if b=a then some (.frz {cls:= .type "list",data:= .seq vs.toArray} (.lst (ns.map V.int)))else none) (λb=>?_) (.inl (.inr ⟨{cls:= .type "list",data:= .seq vs.toArray},if_pos rfl⟩)) (λb u z=>?_) (λb z=>?_) λ_=>hk
  ·by_cases hb:b=a
   ·exact .inr ⟨_,_,if_pos hb⟩
   ·exact .inl (if_neg hb)
  ·by_cases hb:b=a
   ·have g:=(if_pos hb).symm.trans z
    cases g
    subst hb
    exact⟨ha,by rw[bP];exact hl,vs,_,J,ha⟩
   ·have g:=(if_neg hb).symm.trans z
    cases g
  ·by_cases hb:b=a
   ·exact hb
   ·exact absurd (if_neg hb) z
theorem walk_of{l:PySem.W.OpenLaw}{n k:Nat}{q:cg}{loose:List Str}{XP:(Str->Option bQ)->Heap->Prop}{YP:cC->Heap->Prop}{d:DefRec}{K:Params->bN}{CX:cC->Js}{sp:cC->Sp}{x:Str}
  (hn:l.most=some n)(hn2:n<=sizeLine)(hdf:d.params.defaults=[])(hr:Room k callerA)
  (hY:∀(w:cC) (h:Heap),YP w h->(K w.params).In h)
  (F:∀(w:cC) (mg:Str->Option bQ) (fa:bV) (h:Heap),(K w.params).In h->h.Ns eF mg->mg d.name=some (.ref fa)->
   ∃fd:FuncData,(∀(s:bS) (u:bQ),BindsTo s fd ⟨[u],[]⟩ [(x,u)])/\
    ∀base:Heap,(K w.params).In base->base.Ns eF mg->FnOk l.prog w (K w.params) mg base (CX w) k fa fd [x] (sp w))
  (hsp:∀(w:cC) (H:Hp) (a:bV) (ns:List Int),ns.length<=n->MJ H->SqL (K w.params) H a (ns.map V.int)->sp w [.ref a] H (λv _=>v = .bl true) λ_ _ _=>False)
  (hCX:∀(w:cC) (H:Hp) (s:bS) (e:bQ) (s':bS),CX w [] H s (λ_ _ _=>False) e s'->False):
  PySem.W.WalkO q loose XP YP l.row.toRowW d [] (λf vs=>oO f vs):=by
 refine Att.attach_call hn hdf λw z p mg N fa o L O E a vs ns G Y M J I r m j c D=>?_
 have t:=hY w _ Y
 obtain⟨fd,C,y⟩:=F w mg fa _ t G.T.g r
 exact Ct t G.T.g G.T.b G.T.builtins G.T.nolimit D m j (cG c hn2) hr y C (λH A B=>hsp w H a ns c A B) λH e s'=>hCX w H p e s'
def Fw(s:Stmt):Arguments:=match s with
 | .FunctionDef _ a _ _ _ _ _ _ _ _=>a
 | _=>{posonlyargs:=[],args:=[],vararg:=none,kwonlyargs:=[],kw_defaults:=[],kwarg:=none,defaults:=[]}
def Fp(s:Stmt):List Stmt:=match s with
 | .FunctionDef _ _ b _ _ _ _ _ _ _=>b
 | _=>[]
def Ff(s:Stmt):Scope:=match s with
 | .FunctionDef _ _ _ _ _ _ sc _ _ _=>sc
 | _=>{kind:= .function,names:=[],isGenerator:=false,isCoroutine:=false}
abbrev Fs:Js:=λ_ _ _ _ _ _=>False
abbrev E0:XK:=λ_ _ _=>False
theorem Fm{X:Cx}:FS Fs X E0:=λ_ _ _ _ _ _ _ h=>h.elim
structure Fun(K:bN)(x qual:Str)(st:Stmt)(f:bV)(fd:FuncData):Prop where
 ex:∃(oc:bQ) (od:Option bV) (kV doc pm:bQ) (an:Option bV) (cdv ct:bQ) (osl:Array (Option bQ)),
  fd=fD x qual (Fw st) (Fp st) (Ff st) .none kV doc pm an cdv ct/\K.lookup f=some ⟨oc,od,.func fd,osl⟩/\lS K cdv qual=true
 kp:ie K (.ref f)=true
section
variable{P:cg}{w:cC}{K:bN}{mg:Str->Option bQ}{base:Heap}
theorem Fun.ok{x qual:Str}{st:Stmt}{f:bV}{fd:FuncData}{N ps:List Str}{k:Nat}{sp:Sp}(F:Fun K x qual st f fd)(S:Fi N ps (Ff st))(len:∀vs H Q E,sp vs H Q E->vs.length=ps.length)
  (hbody:∀(cdv:bQ) (A:cO) (outer:List Env) (s:bS) (H:Hp) (vs:List V) (Q:VK) (E:XK),Room k (A.deeper (envOfC qual (Ff st) s.heap.objs.size f cdv))->sp vs H Q E->
   ∃t,PSs (Jm Fs P w K mg base N qual (Ff st) f cdv A outer s H E).nox (Fp st) t/\t {nx:=λ_ H'=>Q .non H',rt:=Q} (start N vs) H):FnOk P w K mg base Fs (k+1) f fd ps sp:=by
 obtain⟨m,g,kV,d,j,n,cdv,l,e,rfl,lk,b⟩:=F.ex
 refine CC lk b S len λA outer s H vs Q E c a=>?_
 obtain⟨t,h,q⟩:=hbody cdv A outer s H vs Q E c a
 exact⟨t,h.nox,q⟩
theorem Fun.binds{x qual:Str}{st:Stmt}{f:bV}{fd:FuncData}{ps:List Str}(F:Fun K x qual st f fd)
  (h:∀(kV doc pm:bQ) (an:Option bV) (cdv ct:bQ) (us:List bQ),us.length=ps.length->bindArgs (fD x qual (Fw st) (Fp st) (Ff st) .none kV doc pm an cdv ct) ⟨us,[]⟩=pure (ps.zip us)):Binds K fd ps []:=by
 obtain⟨d,c,kV,doc,pm,an,cdv,ct,b,rfl,lk,a⟩:=F.ex
 exact .all (h kV doc pm an cdv ct)
theorem zg{x qual:Str}{st:Stmt}{f:bV}{oc:bQ}{od an:Option bV}{osl:Array (Option bQ)}{kV doc pm cdv ct:bQ}(l:K.lookup f=some ⟨oc,od,.func (fD x qual (Fw st) (Fp st) (Ff st) .none kV doc pm an cdv ct),osl⟩)
  (c:lS K cdv qual=true)(k:ie K (.ref f)=true):Fun K x qual st f (fD x qual (Fw st) (Fp st) (Ff st) .none kV doc pm an cdv ct):=⟨⟨oc,od,kV,doc,pm,an,cdv,ct,osl,rfl,l,c⟩,k⟩
end
theorem Fg{n:Nat}(h:n<=1000):n<sizeLine:=ec h (by decide)
section
variable{X:Cx}
theorem pv(i:Nat){x:Str}{pos:Pos}(hN:X.N[i]?=some x:=by rfl)(hv:NG X.env.scope x:=by first|exact Or.inl rfl|exact Or.inr (Or.inl rfl)|exact Or.inr (Or.inr rfl))(hd:(x==("__debug__":Str))=false:=by decide)
  (hcd:(x==("__classdict__":Str))=false:=by decide):PE X (.Name x pos) (M3 i):=EH hN hv hd hcd
end
theorem Fu{A B:Prop}(h:B):if false=true then A else B:=by
 rw[if_neg cA];exact h
theorem FG{A B:Prop}(h:A):if true=true then A else B:=by
 rw[if_pos rfl];exact h
theorem K2{c A B:Prop}[Decidable c](h1:c->A)(h2:¬c->B):if c then A else B:=by
 by_cases h:c
 ·rw[if_pos h];exact h1 h
 ·rw[if_neg h];exact h2 h
theorem Hl{c A B:Prop}[Decidable c](hc:c)(h:B):if(!decide c)=true then A else B:=by
 rw[decide_eq_true hc];exact Fu h
def Same(H H':Hp):Prop:=∀b o,H b=some o->H' b=some o
theorem Same.refl(H:Hp):Same H H:=λ_ _ h=>h
theorem Same.trans{H H1 H2:Hp}(a:Same H H1)(b:Same H1 H2):Same H H2:=λc o h=>b c o (a c o h)
theorem Same.free{H H':Hp}(e:Same H H'){l:bV}(h:H' l=Option.none):H l=Option.none:=by
 cases q:H l with
 | none=>rfl
 | some o=>
  rw[e l o q]at h
  cases h
theorem Same.seq{K:bN}{H H':Hp}{a:bV}{xs:List V}(e:Same H H')(h:SqL K H a xs):SqL K H' a xs:=by
 rcases h with(h|⟨o,h⟩)|h
 ·exact .inl (.inl (e _ _ h))
 ·exact .inl (.inr ⟨o,e _ _ h⟩)
 ·exact .inr h
def Hb(scope:Scope)(env:Env):List (Str×bV):=
 (scope.names.filterMap λx=>if x.2==dL then(env.cells.lookup x.1).map λc=>(x.1,c)else none).reverse
theorem yK{env:Env}(f:Str×gX->List (Str×bV)->Sem (ForInStep (List (Str×bV))))
  (hf:∀n k r,f (n,k) r=(if(k==dL)=true then(do let c<-cellOf env n;pure (.yield ((n,c)::r)))else pure (.yield r))):
  ∀(ns:List (Str×gX)) (cs:List (Str×bV)),(∀x∈ns,x.2 = .free->∃c,env.cells.lookup x.1=some c)->
   forIn ns cs f=pure ((ns.filterMap λx=>if x.2==dL then(env.cells.lookup x.1).map λc=>(x.1,c)else none).reverse++cs)
 | [],cs,_=>by rw[fM];rfl
 | (n,k)::r,cs,h=>by
  rw[dD,hf]
  have a:∀x∈r,x.2 = .free->∃c,env.cells.lookup x.1=some c:=λx g=>h x (b3 _ g)
  by_cases hk:k = .free
  ·subst hk
   obtain⟨c,d⟩:=h (n,.free) b0 rfl
   have e:cellOf env n=pure c:=by unfold cellOf;rw[d]
   rw[if_pos (by rfl),e,pure_bind,pure_bind]
   show forIn r ((n,c)::cs) f=_
   rw[yK f hf r _ a,fF]
   simp[d]
  ·have b:(k==dL)=false:=by simpa using hk
   rw[if_neg (by rw[b];decide),pure_bind]
   show forIn r cs f=_
   rw[yK f hf r _ a,fF]
   simp[b]
theorem AE{scope:Scope}{env:Env}(h:∀x∈scope.names,x.2 = .free->∃c,env.cells.lookup x.1=some c):closureFor scope env=pure (Hb scope env):=by
 simp only[closureFor];rw[yK (env:=env) _ (λn k r=>by cases hk:k==dL <;> simp[hk]) scope.names [] h];rw[eo];rfl
theorem uB{env:Env}{x:Str}:∀{l:List (Str×bV)} {c:bV},(∀p∈l,env.cells.lookup p.1=some p.2)->l.lookup x=some c->env.cells.lookup x=some c
 | [],_,_,e=>by simp at e
 | (n,d)::r,c,h,e=>by
  rw[dj]at e
  cases a:x==n with
  | true=>
   rw[a]at e
   have b:d=c:=Option.some.inj e
   have f:x=n:=by simpa using a
   subst f b
   exact h _ b0
  | false=>
   rw[a]at e
   exact uB (λp hp=>h p (b3 _ hp)) e
theorem zh{scope:Scope}{env:Env}{p:Str×bV}(h:p∈Hb scope env):env.cells.lookup p.1=some p.2:=by
 unfold Hb at h;rw[jd,gg]at h;obtain⟨x,_,e⟩:=h;split at e
 ·cases q:env.cells.lookup x.1 with
  | none=>rw[q]at e;cases e
  | some c=>
   rw[q]at e;have a:(x.1,c)=p:=Option.some.inj e;subst a;exact q
 ·cases e
theorem xq{scope:Scope}{env:Env}{x:Str}{c:bV}(h:(x,c)∈Hb scope env):(x,dL)∈scope.names:=by
 unfold Hb at h;rw[jd,gg]at h;obtain⟨⟨y,k⟩,b,e⟩:=h;split at e
 ·rename_i hk
  have a:k = .free:=by simpa using hk
  cases q:env.cells.lookup y with
  | none=>simp[q]at e
  | some d=>
   simp[q]at e;rw[<-e.1,<-a];exact b
 ·cases e
theorem s9{scope:Scope}{env:Env}{x:Str}{c:bV}(e:(Hb scope env).lookup x=some c):env.cells.lookup x=some c:=
 uB (λ_ hp=>zh hp) e
theorem t6{x:Str}:∀{l:List (Str×bV)},(∃c,(x,c)∈l)->∃c,l.lookup x=some c
 | [],⟨_,h⟩=>by cases h
 | (n,d)::r,⟨c,h⟩=>by
  rw[dj]
  cases a:x==n with
  | true=>exact⟨d,rfl⟩
  | false=>
   rcases cj.mp h with q|q
   ·injection q with q1 _
    rw[q1]at a
    simp at a
   ·exact t6 ⟨c,q⟩
theorem zD{scope:Scope}{env:Env}{x:Str}{c:bV}(hm:(x,dL)∈scope.names)(e:env.cells.lookup x=some c):(Hb scope env).lookup x=some c:=by
 have a:(x,c)∈Hb scope env:=by
  unfold Hb;rw[jd,gg];exact⟨(x,.free),hm,by simp[e]⟩
 obtain⟨d,b⟩:=t6 ⟨c,a⟩;have:=s9 b;rw[e]at this
 cases this;exact b
def Gb(caps:List (Option Nat))(σ:St):St:=caps.map λo=>o.bind λi=>(σ[i]?).bind id
structure CompOk(scope sc:Scope)(NX N:List Str)(caps:List (Option Nat)):Prop where
 kind:scope.kind = .function
 nd:N.Nodup
 own:∀y∈scope.names,y.2 = .cell->scope.names.lookup y.1=some .cell
 loc:∀y∈scope.names,y.2 = .local->scope.names.lookup y.1=some .local
 free:∀y∈scope.names,y.2 = .free->scope.names.lookup y.1=some .free/\(sc.names.lookup y.1=some .cell\/sc.names.lookup y.1=some .free)
 len:caps.length=N.length
 cap:∀p∈(caps.zip N),∀i,p.1=some i->NX[i]?=some p.2/\scope.names.lookup p.2=some .free
def KY(scope sc:Scope)(NX N:List Str)(caps:List (Option Nat)):Bool:=
 (scope.kind == .function)&&decide N.Nodup&&scope.names.all (λy=>y.2 != .cell||scope.names.lookup y.1==some .cell)&&scope.names.all (λy=>y.2 != .local||scope.names.lookup y.1==some .local) &&
 scope.names.all (λy=>y.2 != .free||(scope.names.lookup y.1==some .free&&(sc.names.lookup y.1==some .cell||sc.names.lookup y.1==some .free)))&&(caps.length==N.length) &&
 (caps.zip N).all (λp=>match p.1 with|none=>true|some i=>NX[i]?==some p.2&&scope.names.lookup p.2==some .free)
theorem CompOk.of{scope sc:Scope}{NX N:List Str}{caps:List (Option Nat)}(h:KY scope sc NX N caps=true):CompOk scope sc NX N caps:=by
 unfold KY at h;simp only[cH]at h;obtain⟨⟨⟨⟨⟨⟨h1,h2⟩,h3⟩,h4⟩,h5⟩,h6⟩,d⟩:=h;refine⟨by simpa using h1,of_decide_eq_true h2,λy a f=>?_,λy a b=>?_,λy a e=>?_,by simpa using h6,λp hp i c=>?_⟩
 ·have:=de.mp h3 y a;rw[f]at this;simpa using this
 ·have:=de.mp h4 y a;rw[b]at this;simpa using this
 ·have:=de.mp h5 y a;rw[e]at this;simpa using this
 ·have:=de.mp d p hp;rw[c]at this;simpa using this
def MK(scope:Scope)(C:bV)(env:Env):List (Str×bV):=cellsFrom (C+1) scope.names (Hb scope env)
theorem uy:∀(names:List (Str×gX)) (n:Nat) (acc:List (Str×bV)) {x:Str} {c:bV},(cellsFrom n names acc).lookup x=some c->(n<=c/\(x,fB)∈names)\/acc.lookup x=some c
 | [],_,_,_,_,h=> .inr h
 | (y,k)::r,n,acc,x,c,h=>by
  unfold cellsFrom at h
  split at h
  ·rename_i hk
   have b:k = .cell:=by simpa using hk
   rcases uy r (n+1) _ h with⟨h1,h2⟩|h2
   ·exact .inl ⟨by omega,b3 _ h2⟩
   ·rw[dj]at h2
    cases a:x==y with
    | true=>
     rw[a]at h2
     have e:n=c:=Option.some.inj h2
     have d:x=y:=by simpa using a
     exact .inl ⟨by omega,by rw[d,b];exact b0⟩
    | false=>rw[a]at h2;exact .inr h2
  ·rcases uy r n acc h with⟨h1,h2⟩|h2
   ·exact .inl ⟨h1,b3 _ h2⟩
   ·exact .inr h2
theorem vf:∀(names:List (Str×gX)) (n:Nat) (acc:List (Str×bV)) {x:Str},(x,fB)∉names->(cellsFrom n names acc).lookup x=acc.lookup x
 | [],_,_,_,_=>rfl
 | (y,k)::r,n,acc,x,h=>by
  unfold cellsFrom
  have b:(x,fB)∉r:=λz=>h (b3 _ z)
  split
  ·rename_i hk
   have c:k = .cell:=by simpa using hk
   rw[vf r _ _ b,dj]
   have a:(x==y)=false:=by
    cases a:x==y with
    | false=>rfl
    | true=>
     have d:x=y:=by simpa using a
     exact absurd (by rw[d,c];exact b0) h
   rw[a]
  ·exact vf r n acc b
theorem uK:∀(names:List (Str×gX)) (n:Nat) (acc:List (Str×bV)) {x:Str},((x,fB)∈names\/∃c,acc.lookup x=some c)->∃c,(cellsFrom n names acc).lookup x=some c
 | [],_,_,_,h=>by
  rcases h with h|h
  ·cases h
  ·exact h
 | (y,k)::r,n,acc,x,h=>by
  unfold cellsFrom
  split
  ·rename_i hk
   refine uK r _ _ ?_
   by_cases a:x=y
   ·subst a;exact .inr ⟨n,by simp[dj]⟩
   ·rcases h with h|⟨c,h⟩
    ·rcases cj.mp h with z|z
     ·injection z with z1 _;exact absurd z1 a
     ·exact .inl z
    ·exact .inr ⟨c,by rw[dj,show(x==y)=false by simpa using a];exact h⟩
  ·rename_i hk
   refine uK r _ _ ?_
   rcases h with h|h
   ·rcases cj.mp h with z|z
    ·injection z with _ z2
     rw[<-z2]at hk
     exact absurd rfl hk
    ·exact .inl z
   ·exact .inr h
theorem vR:∀(names:List (Str×gX)) (n:Nat) (acc:List (Str×bV)),(∀x y c,acc.lookup x=some c->acc.lookup y=some c->x=y)->(∀x c,acc.lookup x=some c->c<n)->
  ∀x y c,(cellsFrom n names acc).lookup x=some c->(cellsFrom n names acc).lookup y=some c->x=y
 | [],_,_,hi,_=>hi
 | (w,k)::r,n,acc,hi,hb=>by
  unfold cellsFrom
  split
  ·refine vR r (n+1) _ (λx y c h1 h2=>?_) (λx c h=>?_)
   ·rw[dj]at h1 h2
    cases a:x==w <;> cases b:y==w <;> rw[a]at h1 <;> rw[b]at h2
    ·exact hi x y c h1 h2
    ·cases h2;exact absurd (hb x _ h1) (cJ _)
    ·cases h1;exact absurd (hb y _ h2) (cJ _)
    ·have d:x=w:=by simpa using a
     have e:y=w:=by simpa using b
     rw[d,e]
   ·rw[dj]at h
    cases a:x==w <;> rw[a]at h
    ·exact cS (hb x c h)
    ·cases h;exact cV _
  ·exact vR r n acc hi hb
theorem wk:∀(names:List (Str×gX)) (h:Heap) (acc:List (Str×bV)) {x:Str} {c:bV},(x,c)∈cellsFrom h.objs.size names acc->(x,c)∈acc\/(h.objs.size<=c/\(pushCells h names).IsCell c none)
 | [],_,_,_,_,hm=> .inl hm
 | (y,k)::r,h,acc,x,c,hm=>by
  unfold cellsFrom at hm
  unfold pushCells
  split at hm
  ·rename_i hk
   rw[if_pos hk]
   have b:(x,c)∈cellsFrom (h.push {cls:= .type "cell",data:= .cell none}).objs.size r ((y,h.objs.size)::acc):=by rw[fL];exact hm
   rcases wk r _ _ b with z|⟨d,a⟩
   ·rcases cj.mp z with z|z
    ·injection z with _ a
     subst a
     refine .inr ⟨bX _,_,lr r _ _ _ (b4 _ rfl),rfl⟩
    ·exact .inl z
   ·rw[fL]at d
    exact .inr ⟨by omega,a⟩
  ·rename_i hk
   rw[if_neg hk]
   exact wk r h acc hm
theorem yS{M:Model}{A:cO}{E:bQ->bS->Prop}{s:bS}{scope:Scope}{globals:bV}{cl:List (Str×bV)}{qual:Str}{env:Env}{Q:Env->bS->Prop}(hcl:∀x c,(x,c)∈cl->c<s.heap.objs.size)
  (h:∀h':Heap,h'.Ns s.heap.objs.size (λ_=>none)->(∀b o,s.heap.get? b=some o->h'.get? b=some o)->(∀x c,(cellsFrom (s.heap.objs.size+1) scope.names cl).lookup x=some c->s.heap.objs.size+1<=c->h'.IsCell c none)->
   Q {scope:=scope,locals:=s.heap.objs.size,globals:=globals,cells:=cellsFrom (s.heap.objs.size+1) scope.names cl,qual:=qual,func:=none,code:=env.code,frame:=env.frame,builtins:=env.builtins} {s with heap:=h'}):
  wpAny M A (newFunctionEnv scope globals cl [] qual none .none (some env)) Q E s:=by
 simp only[newFunctionEnv,mK,if_true]
 refine bM (oj ?_)
 refine bM (wpAny_layCells _ (λl a cells=>by cases d:a==fB <;> simp[d]) _ _ _ _ ?_)
 rw[show({s with heap:=s.heap.push {cls:= .type "dict",data:= .dict #[]}}:bS).heap.objs.size=s.heap.objs.size+1 from fL ..]
 refine bM ?_
 rw[fM]
 refine bO (bO (h _ ?_ (λb o e=>lr _ _ _ _ (bU _ e)) λx c e k=>?_))
 ·refine⟨_,#[],0,lr _ _ _ _ (b4 _ rfl),rfl,?_,λx=>rfl⟩
  first|exact λe j=>by simp at j|simp
 ·have g:=dZ e
  have f:(x,c)∈cellsFrom (s.heap.push {cls:= .type "dict",data:= .dict #[]}).objs.size scope.names cl:=by rw[fL];exact g
  rcases wk _ _ _ f with z|z
  ·exact absurd (ci (hcl x c z) (Nat.le_of_succ_le k)) (cJ _)
  ·exact z.2
def Fx(X:Cx)(scope:Scope)(N:List Str)(C:bV)(s₀:bS)(H₀:Hp)(ex:List bV):Cx where
 prog:=X.prog
 w:=X.w
 K:=X.K
 mg:=X.mg
 base:=X.base
 A:=X.A
 N:=N
 s₀:=s₀
 H₀:=H₀
 env:=compEnvC scope (MK scope C X.env) C X.env
 outer:=X.stack
 stack:=X.stack
 ex:=ex
 fn:=λx=>scope.names.lookup x==some .cell
 calm:=X.calm
 pn:=[]
 xe:=λ_ _=>False
theorem vx{scope:Scope}{env:Env}{x:Str}{k:gX}(hk:k = .cell\/k = .free)(h:(relabel scope env).names.lookup x=some k):(x,dL)∈scope.names\/(x,fB)∈scope.names:=by
 have c:(x,k)∈(relabel scope env).names:=dZ h;unfold relabel at c;rw[cP]at c;obtain⟨⟨n,d⟩,b,e⟩:=c;dsimp only at e;by_cases a:(d==dL&&env.scope.kind == .function&&env.kindOf n==some .cell)=true
 ·rw[if_pos a]at e;injection e with e1 e2
  have:d = .free:=by
   rw[cH,cH]at a;simpa using a.1.1
  subst this e1;exact .inl b
 ·rw[if_neg a]at e;injection e with e1 e2
  subst e1 e2;rcases hk with hk|hk
  ·subst hk;exact .inr b
  ·subst hk;exact .inl b
theorem tT{env:Env}:∀{names:List (Str×gX)} {x:Str},names.lookup x=some .free->
  (names.map λ(n,k)=>if(k==dL&&env.scope.kind == .function&&env.kindOf n==some .cell)then(n,fB)else(n,k)).lookup x=some .cell\/
  (names.map λ(n,k)=>if(k==dL&&env.scope.kind == .function&&env.kindOf n==some .cell)then(n,fB)else(n,k)).lookup x=some .free
 | [],_,h=>by simp at h
 | (n,k)::r,x,h=>by
  have c:=@tT env r x
  rw[dh]
  dsimp only
  cases a:x==n with
  | true=>
   simp only[dj,a]at h
   cases h
   by_cases b:(dL==dL&&env.scope.kind == .function&&env.kindOf n==some .cell)=true
   ·rw[if_pos b];left;simp[dj,a]
   ·rw[if_neg b];right;simp[dj,a]
  | false=>
   simp only[dj,a]at h
   by_cases b:(k==dL&&env.scope.kind == .function&&env.kindOf n==some .cell)=true
   ·rw[if_pos b];simp only[dj,a];exact c h
   ·rw[if_neg b];simp only[dj,a];exact c h
section
variable{X:Cx}{pins:List (bV×Obj)}{σ:St}{H:Hp}{s:bS}{scope:Scope}{N:List Str}{caps:List (Option Nat)}{fp:List bV}
theorem An{h1:Heap}{tk:Nat}(I:Inv X pins σ H s)(O:CompOk scope X.env.scope X.N N caps)(f2:∀b∈fp,HJ X pins H b)(hob:∀b∈fp,b<s.heap.objs.size)
  (hns:h1.Ns (s.heap.objs.size+1) (λ_=>none))(hD:h1.get? s.heap.objs.size=some {cls:= .type "list",data:= .seq #[]})(old:∀b o,s.heap.get? b=some o->h1.get? b=some o)
  (hnew:∀x c,(MK scope (s.heap.objs.size+1) X.env).lookup x=some c->s.heap.objs.size+1+1<=c->h1.IsCell c none):
  Inv (Fx X scope N (s.heap.objs.size+1) s H fp) [(s.heap.objs.size,{cls:= .type "list",data:= .seq #[]})] (Gb caps σ) H {s with heap:=h1,toks:=tk}:=by
 have sub:∀b∈Gy X.stack,b<s.heap.objs.size:=λb f=>by
  obtain⟨_,o,A,_⟩:=I.stack.mem f
  exact b6 A
 have n:∀x c,X.env.cells.lookup x=some c->c<s.heap.objs.size:=λx c e=>by
  obtain⟨v,o,A,_⟩:=I.cell x c e
  exact b6 A
 have D:∀x c,(MK scope (s.heap.objs.size+1) X.env).lookup x=some c->(s.heap.objs.size+1+1<=c/\(x,fB)∈scope.names)\/X.env.cells.lookup x=some c:=λx c e=>by
  rcases uy _ _ _ e with z|z
  ·exact .inl z
  ·exact .inr (s9 z)
 have B:∀x,(x,dL)∈scope.names->∃c,X.env.cells.lookup x=some c:=λx d=>by
  rcases(O.free _ d rfl).2 with q|q
  ·exact I.ok.has x (.inl q)
  ·exact I.ok.has x (.inr q)
 have h:∀x,(x,dL)∈scope.names->(x,fB)∉scope.names:=λx d M=>by
  have h1:=(O.free _ d rfl).1
  have h2:=O.own _ M rfl
  dsimp only at h1 h2
  rw[h1]at h2
  cases h2
 refine⟨⟨I.ok.mod,O.kind,I.ok.glob,I.ok.blt,dJ _,λx y c h1 h2=>?_,λx C=>?_,λx c E e=>?_,I.ok.hd,I.ok.frames,.inl rfl,λb f=>⟨cF (cS (hob b f)),λx c e=>?_⟩,I.bs,?_,λb o e f=>?_,λb f R=>?_,I.stack,I.stkFree⟩,
  rfl,I.bare,Un.kept old,⟨_,hns,λi x v W t e3=>?_⟩,λx c e=>?_,I.hok.fresh (dJ _),λx c e=>?_,λp hp=>?_,I.hok.kept old,?_⟩
 ·exact vR scope.names _ (Hb scope X.env) (λx y c a b=>I.ok.inj x y c (s9 a) (s9 b)) (λx c a=>cS (cS (n x c (s9 a)))) x y c h1 h2
 ·have d:(x,dL)∈scope.names\/(x,fB)∈scope.names:=by
   rcases C with C|C
   ·exact vx (.inl rfl) C
   ·exact vx (.inr rfl) C
  rcases d with d|d
  ·obtain⟨c,M⟩:=B x d
   exact uK _ _ _ (.inr ⟨c,zD d M⟩)
  ·exact uK _ _ _ (.inl d)
 ·have P:scope.names.lookup x=some .cell:=by simpa [Fx]using E
  rcases D x c e with z|z
  ·exact cx (ci (cS (cV _)) z.1)
  ·exfalso
   have d:=dZ P
   rcases uy _ _ _ e with w|w
   ·exact absurd (ci (n x c z) (cG (hU (dJ _)) w.1)) (cJ _)
   ·have G:=xq (dZ w)
    exact h x G d
 ·rcases D x c e with z|z
  ·exact λw=>absurd (ci (hob b f) (cG (hU (dJ _)) (w▸z.1))) (cJ _)
  ·exact(f2 b f).2.2.2.2.1 x c z
 ·exact cG I.ok.bsz I.sz
 ·rcases(f2 b f).2.2.2.1 with z|z
  ·exact I.ok.noex b o e z
  ·exact absurd (ci (b6 (I.ok.bs b o e).1) z) (cJ _)
 ·rcases cj.mp (I.stkSub b R)with z|z
  ·exact(f2 b f).2.1 z
  ·exact(f2 b f).2.2.1 z
 · -- a captured name
  have hi:i<caps.length:=by
   have:=(b8.mp t).1
   unfold Gb at this
   rwa[bP]at this
  have J:∃j,caps[i]?=some (some j)/\σ[j]?=some (some v):=by
   unfold Gb at t
   rw[bZ]at t
   cases q:caps[i]? with
   | none=>rw[q]at t;cases t
   | some o=>
    rw[q]at t
    have g:(o.bind λi=>(σ[i]?).bind id)=some v:=Option.some.inj t
    cases o with
    | none=>cases g
    | some j=>
     refine⟨j,rfl,?_⟩
     cases S:σ[j]? with
     | none=>rw[nT,S]at g;cases g
     | some o2=>
      rw[nT,S]at g
      cases o2 with
      | none=>cases g
      | some v2=>cases g;rfl
  obtain⟨j,Z,V⟩:=J
  have T:N[i]?=some x:=W
  have Y:(some j,x)∈caps.zip N:=by
   have:(caps.zip N)[i]?=some (some j,x):=by
    rw[jS]
    exact⟨Z,T⟩
   exact cz this
  obtain⟨hX,E⟩:=O.cap _ Y j rfl
  have d:(x,dL)∈scope.names:=dZ E
  have L:NG X.env.scope x:=by
   rcases(O.free _ d rfl).2 with q|q
   ·exact .inr (.inl q)
   ·exact .inr (.inr q)
  obtain⟨m,hn,U⟩:=I.loc
  obtain⟨u,r,l⟩:=U j x v hX V L
  refine⟨u,r,?_⟩
  rcases l with⟨k,_⟩|⟨_,c,e,⟨o,A,F⟩⟩
  ·exfalso
   rcases(O.free _ d rfl).2 with q|q
   ·have:X.env.scope.names.lookup x=some .local:=k
    rw[q]at this;cases this
   ·have:X.env.scope.names.lookup x=some .local:=k
    rw[q]at this;cases this
  ·have Q:(Fx X scope N (s.heap.objs.size+1) s H fp).env.kindOf x=some .cell\/(Fx X scope N (s.heap.objs.size+1) s H fp).env.kindOf x=some .free:=tT E
   exact .inr ⟨Q,c,(vf _ _ _ (h x d)).trans (zD d e),⟨o,old c o A,F⟩⟩
 ·rcases D x c e with z|z
  ·exact⟨none,hnew x c e z.1⟩
  ·obtain⟨v,o,A,F⟩:=I.cell x c z
   exact⟨v,o,old c o A,F⟩
 ·rcases D x c e with z|z
  ·exact I.hok.fresh (cG (hU (dJ _)) z.1)
  ·exact I.freeC x c z
 ·have e:p=(s.heap.objs.size,{cls:= .type "list",data:= .seq #[]}):=by simpa [Fx]using hp
  subst e
  refine⟨hD,I.hok.fresh (bX _),cF (cV _),λf=>absurd (sub _ f) (cJ _),λv z=>by cases z⟩
 ·show(Gb caps σ).length=N.length
  unfold Gb
  rw[bP]
  exact O.len
end
def Nk(X:Cx)(ifs:List Expr)(t:TT):Prop:=
 ∀(pins:List (bV×Obj)) (s:bS) (σ:St) (H:Hp) (Q:Bool->Hp->Prop),Inv X pins σ H s->t σ H Q->
  wpAny (model X.prog X.w) X.A (forIn ifs true λc r=>if r=true then do let ok<-isTrue c X.env (eval c X.env);pure (jm ok)else pure (jm r)) (TP X pins σ Q) X.xe s
def Hh:TT:=λ_ H Q=>Q true H
theorem sQ{X:Cx}:Nk X [] Hh:=λ_ _ _ H _ I h=>wpAny_tests_nil ⟨H,I,h⟩
theorem uH{X:Cx}{c:Expr}{t:TT}(h:PT X c t):Nk X [c] t:=λa s d H Q I b=>wpAny_tests_one (h a s d H Q I b)
section
variable{prog:cg}{w:cC}{A:cO}{R:Result->bS->Prop}{s:bS}
theorem BZ{elt target iter:Expr}{ifs:List Expr}{scope:Scope}{pos:Pos}{it acc:bQ}{env:Env}(I:Nat->bS->Prop)
  (turn:∀n s,I n s->wpAny (model prog w) A (pyNext it) (λr s₁=>match r with
   | none=>R (.ok .next) s₁
   | some v=>wpAny (model prog w) A (letOwnedTupleGo target it v) (λ_ s₀=>wpAny (model prog w) A (assign target env v) (λ_ s₂=>
     wpAny (model prog w) A (forIn ifs true λc r=>if r=true then do let ok<-isTrue c env (eval c env);pure (jm ok)else pure (jm r)) (λok s₃=>
      if ok=true then wpAny (model prog w) A (eval elt env) (λx s₄=>
       wpAny (model prog w) A (call (.builtin "list.append") [acc,x]) (λ_ s₅=>∃m,m<n/\I m s₅) (λ_ _=>False) s₄) (λ_ _=>False) s₃
      else ∃m,m<n/\I m s₃) (λ_ _=>False) s₂) (λ_ _=>False) s₀) (λ_ _=>False) s₁) (λ_ _=>False) s)
  (n:Nat)(h:I n s):codeAny (model prog w) A (.compLoop (.ListComp elt [⟨target,iter,ifs,0⟩] scope pos) 0 it acc env) R s:=by
 refine codeAny_loop rfl I (λn s j=>?_) n h
 show wpAny _ A ((compTurn (.ListComp elt [⟨target,iter,ifs,0⟩] scope pos) 0 it acc env).onRaise (λx=>do noteFrame x env;theTreesLotGoes x)) _ _ s
 refine wpAny_noted (wpAny_noRaise ?_)
 rw[compTurn_list]
 refine bM (mm (bM (Fv (turn n s j) λr s₁ a=>?_)))
 cases r with
 | none=>exact bO a
 | some v=>
  refine bM (Fv a λ_ s₀ f=>?_)
  refine bM (Fv f λ_ s₂ d=>bM (Fv d λok s₃ b=>?_))
  cases ok with
  | false=>exact bO ⟨rfl,b⟩
  | true=>exact bM (bM (Fv b λx s₄ e=>bM (Fv e λ_ s₅ g=>bO (bO ⟨rfl,g⟩))))
end
def Keep(caps:List (Option Nat))(σ σ':St):Prop:=∀(j:Nat) (v:V),(Gb caps σ)[j]?=some (some v)->σ'[j]?=some (some v)
def GK(caps:List (Option Nat))(g:TG):Prop:=∀σ σ1 x H (Q:St->Hp->Prop),Keep caps σ σ1->g x σ1 H Q->g x σ1 H λσ2 H2=>Keep caps σ σ2/\Q σ2 H2
def NH(caps:List (Option Nat))(g:Lx):Prop:=∀σ σ1 xs H (Q:St->Hp->Prop),Keep caps σ σ1->g xs σ1 H Q->g xs σ1 H λσ2 H2=>Keep caps σ σ2/\Q σ2 H2
theorem Keep.set{caps:List (Option Nat)}{σ σ':St}{i:Nat}{x:Option V}(k:Keep caps σ σ')(h:caps[i]?=some none):Keep caps σ (σ'.set i x):=λj v e=>by
 by_cases a:i=j
 ·subst a;unfold Gb at e;rw[bZ,h]at e
  cases e
 ·rw[ia a];exact k j v e
theorem sj{caps:List (Option Nat)}{i:Nat}(h:caps[i]?=some none):GK caps (Ia i):=λ_ _ _ _ _ k q=>⟨k.set h,q⟩
theorem xo{caps:List (Option Nat)}:NH caps Ng:=λ_ _ _ _ _ k q=>⟨q.1,k,q.2⟩
theorem tO{caps:List (Option Nat)}{t:TG}{u:Lx}(mono:∀x σ H (Q Q':St->Hp->Prop),(∀σ H,Q σ H->Q' σ H)->t x σ H Q->t x σ H Q')(h1:GK caps t)(h2:NH caps u):NH caps (Ma t u):=λσ a g H Q k q=>by
 obtain⟨v,r,e,q⟩:=q;refine⟨v,r,e,?_⟩;exact mono _ _ _ _ _ (λb f ⟨c,d⟩=>h2 σ b r f Q c d) (h1 σ a v H _ k q)
theorem sU{i:Nat}:∀x σ H (Q Q':St->Hp->Prop),(∀σ H,Q σ H->Q' σ H)->Ia i x σ H Q->Ia i x σ H Q':=λ_ _ _ _ _ h q=>h _ _ q
theorem za{K:bN}{caps:List (Option Nat)}{n:Nat}{t:Lx}(h:NH caps t):GK caps (Mz K n t):=λd b x H Q k q=>by
 obtain⟨a,c,e,g,f,q⟩:=q;exact⟨a,c,e,g,f,h d b c H Q k q⟩
def Kq(its:List bQ)(n:Nat):Obj:={cls:= .type "list",data:= .seq its.toArray n}
def FR(caps:List (Option Nat))(g:TG)(tt:TT)(te:TE)(σ:St)(QQ:List V->Hp->Prop)(J:It)(H1:Hp):Prop:=
 ∃W:Nat->Nat->List V->Hp->Prop,(∃m,W 0 m [] H1)/\∀i m ys H,W i m ys H->
  (J.stop i H/\QQ ys H)\/(J.go i H/\∃N:List V->Hp->Prop,(∀ys' H',N ys' H'->∃m',m'<m/\W (i+1) m' ys' H')/\
   ∀x H',J.yld i H x H'->g x (Gb caps σ) H' λσ2 H2=>tt σ2 H2 λb H3=>if b=true then te σ2 H3 λy H4=>ys.length<sizeLine/\N (ys++[y]) H4 else N ys H3)
def Nz(caps:List (Option Nat))(wi:TI)(g:TG)(tt:TT)(te:TE):TE:=λσ H Q=>
 wi σ H (FR caps g tt te σ λys H'=>∀D,H' D=none->Q (.ref D) (upd H' D (.lst ys)))
section
variable{X:Cx}{pins:List (bV×Obj)}{σ:St}{scope:Scope}{N:List Str}{caps:List (Option Nat)}{fp:List bV}
theorem Cw{H H':Hp}{s s':bS}{σ':St}{its:List bQ}{n:Nat}{ys:List V}(I:Inv X pins σ H s)(f2:∀b∈fp,HJ X pins H b)
  (J:Inv (Fx X scope N (s.heap.objs.size+1) s H fp) [(s.heap.objs.size,Kq its n)] σ' H' s')(hv:Vals ys its)(hz:ys.length<=sizeLine):
  Inv X pins σ (upd H' s.heap.objs.size (.lst ys)) s'/\H' s.heap.objs.size=none/\H' (s.heap.objs.size+1)=none:=by
 have f:=J.pin (s.heap.objs.size,Kq its n) (dc _ (bY.mpr rfl))
 obtain⟨p,d,t,_,_⟩:=f
 have c:H s.heap.objs.size=none:=I.hok.fresh (bX _)
 have j:∀b o,s.heap.get? b=some o->b≠s.heap.objs.size:=λb o e=>cF (b6 e)
 refine⟨I.call' (ch:=fp) J.os ⟨J.base.keep,J.base.slot,λb o e m k=>?_,J.base.there,λb h e=>?_,λb o u e=>?_,λb l e=>?_⟩ (λa o e=>?_) J.bare (λb r=>?_),d,J.free⟩
 ·rw[rQ (j b o e)];exact J.base.free b o e m k
 ·rw[rQ (sd e c)];exact J.base.tups b h e
 ·rw[rQ (sd e c)];exact J.base.frzs b o u e
 ·rw[rQ (sd e c)];exact J.base.tbls b l e
 ·by_cases g:a=s.heap.objs.size
  ·subst g
   rw[rE]at e
   cases e
   exact⟨hz,its,n,hv,p⟩
  ·rw[rQ g]at e
   exact(J.hok a o e).stay (λb u _ q=>q) (λb q=>by rw[rQ (sd q d)];exact q) λb h q=>by rw[rQ (sd q d)];exact q
 ·obtain⟨_,h1,_,h3,h4,h5⟩:=f2 b r
  exact⟨h3,h1,h4,h5⟩
theorem wI{elt tg iter:Expr}{ifs:List Expr}{pos:Pos}{g:TG}{tt:TT}{te:TE}{QQ:List V->Hp->Prop}{R:bQ->bV->Result->bS->Prop}{itv:bQ}{s2:bS}(hc:X.calm=true)(O:CompOk scope X.env.scope X.N N caps)(gk:GK caps g)
  (hg:∀C s H fp,PG (Fx X scope N C s H fp) tg g)(ht:∀C s H fp,Nk (Fx X scope N C s H fp) ifs tt)(he:∀C s H fp,PE (Fx X scope N C s H fp) elt te)
  (h2:N5 X pins σ tg (FR caps g tt te σ QQ) itv s2)
  (fin:∀(D C:bV) (s':bS) (H':Hp) (ys:List V) (m:Str->Option bQ),Inv X pins σ (upd H' D (.lst ys)) s'->s'.heap.Ns C m->H' D=none->H' C=none->C≠D->X.s₀.heap.objs.size<=C->C≠X.env.locals->(∀x c,X.env.cells.lookup x=some c->c≠C)->(∀p∈X.pn++pins,p.1≠C)->
   QQ ys H'->R (.ref D) C (.ok .next) s'):
  wpAny (model X.prog X.w) X.A (newList []) (λacc s₃=>wpAny (model X.prog X.w) X.A (newFunctionEnv scope X.env.globals (Hb scope X.env) [] X.env.qual none .none (some X.env)) (λcenv s₄=>
   codeAny (model X.prog X.w) X.A (.compStart (.ListComp elt [⟨tg,iter,ifs,0⟩] scope pos) 0 itv acc {cenv with scope:=relabel scope X.env}) (R acc cenv.locals) s₄) X.xe s₃) X.xe s2:=by
 obtain⟨it,fp,tn,J,E,e,I,T,an,f2,W,⟨m0,w0⟩,av⟩:=h2
 subst e
 have L:∀x c,X.env.cells.lookup x=some c->c<s2.heap.objs.size:=λx c e=>by
  obtain⟨v,o,ho,_⟩:=I.cell x c e
  exact b6 ho
 refine d5 (yS (λx c S=>by rw[fL];exact cS (L x c (zh S))) (λB j l h=>?_))
 dsimp only at j l h ⊢
 have P:∀b∈fp,b<s2.heap.objs.size:=λb a=>by
  obtain⟨o,ho,_⟩:=T.obj _ _ an b a
  exact b6 ho
 generalize hH2:s2.heap.push {cls:= .type "list",dict:=none,data:= .seq ([]:List bQ).toArray}=G2 at j l h ⊢
 have hC:G2.objs.size=s2.heap.objs.size+1:=by rw[<-hH2,fL]
 rw[hC]at j h ⊢
 have ao:∀b o,s2.heap.get? b=some o->B.get? b=some o:=λb o e=>l b o (hH2▸bU _ e)
 have hD:B.get? s2.heap.objs.size=some {cls:= .type "list",data:= .seq #[]}:=l _ _ (hH2▸b4 _ rfl)
 have I0:=An (scope:=scope) (N:=N) (caps:=caps) (fp:=fp) (tk:=s2.toks) I O f2 P j hD ao h
 have am:tn 0 B:=T.keep _ _ _ an λb _ o e=>ao b o e
 have f0:∀{pins':List (bV×Obj)} {H':Hp},(∀p∈pins',p.1=s2.heap.objs.size)->(∀b∈fp,H' b=none)->∀b∈fp,HJ (Fx X scope N (s2.heap.objs.size+1) s2 E fp) pins' H' b:=λ {pins' H'} hp hn b a=>by
  obtain⟨_,k1,k2,k3,k4,k5⟩:=f2 b a
  refine⟨hn b a,cF (cS (P b a)),λS=>?_,.inl a,λx c e=>by
   rcases uy _ _ _ e with z|z
   ·exact λw=>absurd (ci (P b a) (cG (hU (dJ _)) (w▸z.1))) (cJ _)
   ·exact k4 x c (s9 z),λp S=>?_⟩
  ·rcases cj.mp (I.stkSub b S)with z|z
   ·exact k1 z
   ·exact k2 z
  ·have q:=hp p (by simpa [Fx]using S)
   rw[q]
   exact gO (P b a)
 have ah:codeAny (model X.prog X.w) X.A (.compLoop (.ListComp elt [⟨tg,iter,ifs,0⟩] scope pos) 0 (.ref it) (.ref s2.heap.objs.size) (Fx X scope N (s2.heap.objs.size+1) s2 E fp).env)
   (R (.ref s2.heap.objs.size) (s2.heap.objs.size+1)) {s2 with heap:=B}:=by
  refine BZ (λn s'=>∃i ys f k H',Inv (Fx X scope N (s2.heap.objs.size+1) s2 E fp) [(s2.heap.objs.size,Kq f k)] (Gb caps σ) H' s'/\Vals ys f/\ys.length<=sizeLine/\tn i s'.heap/\(∀b∈fp,H' b=none)/\W i n ys H')
   ?_ m0 ⟨0,[],[],0,E,I0,.nil,cM _,am,λb a=>(f2 b a).1,w0⟩
  rintro n s3 ⟨i,ys,f,k,H3,I3,v3,z3,ak,aq,w3⟩
  have ae:∀p∈[(s2.heap.objs.size,Kq f k)],p.1=s2.heap.objs.size:=λp hp=>by rw[bY.mp hp]
  rcases av i n ys H3 w3 with⟨stop,qn⟩|⟨go,M,hM,ar⟩
  ·refine Fv (T.done (Fx X scope N (s2.heap.objs.size+1) s2 E fp) rfl rfl rfl hc i _ s3 _ H3 _ I3 (f0 ae aq) ak stop) λr s4 ⟨hr,I4⟩=>?_
   subst hr
   obtain⟨E1,E2,E3⟩:=Cw I f2 I4 v3 z3
   obtain⟨m,S,_⟩:=I4.loc
   refine fin _ _ s4 H3 ys m E1 S E2 E3 (gO (cV _)) (hU I.sz) (gO (cS I.lt)) (λx c e=>?_) (λp hp=>?_) qn
   ·obtain⟨v,o,ho,_⟩:=I.cell x c e
    exact cF (cS (b6 ho))
   ·exact cF (cS (b6 (I.pin p hp).1))
  ·refine Fv (T.item (Fx X scope N (s2.heap.objs.size+1) s2 E fp) rfl rfl rfl hc i _ s3 _ H3 _ I3 (f0 ae aq) ak go) λr s4 ⟨u,hr,h4⟩=>?_
   subst hr
   refine Fv h4 λ_ s5 ⟨x,H5,I5,r5,y5,af,ax⟩=>?_
   have az:=I5.pinned (f0 ae ax) (T.obj _ _ af)
   refine Fv (hg _ _ _ _ _ s5 _ H5 x u _ az r5 (gk σ _ x H5 _ (λ_ _ e=>e) (ar x H5 y5))) λ_ s6 ⟨U,H6,I6,kp,q6⟩=>?_
   refine Fv (ht _ _ _ _ _ s6 U H6 _ I6 q6) λok s7 ⟨H7,I7,q7⟩=>?_
   have ac:∀{ap:St} {G:Hp} {t:bS} {ai:List V},Inv (Fx X scope N (s2.heap.objs.size+1) s2 E fp) ([(s2.heap.objs.size,Kq f k)]++IF fp s5.heap) ap G t->M ai G->
     tn (i+1) t.heap/\(∀b∈fp,G b=none)/\∃Z,Z<n/\W (i+1) Z ai G:=λ {ap G t ai} Y m8=>by
    refine⟨T.keep _ _ _ af λb a o e=>(Y.pin (b,o) (dc _ (dc _ (ux a e)))).1,λb a=>?_,hM _ _ m8⟩
    obtain⟨o,e,d⟩:=T.obj _ _ af b a
    exact(Y.pin (b,o) (dc _ (dc _ (ux a e)))).2.1
   have ab:(Gb caps σ).length=U.length:=by rw[I6.len];exact I3.len
   cases ok with
   | false=>
    have aa:M ys H7:=q7
    obtain⟨b1,b2,Z,ag,w'⟩:=ac I7 aa
    exact⟨Z,ag,i+1,ys,f,k,H7,(I7.weak ab kp).unpinned,v3,z3,b1,b2,w'⟩
   | true=>
    have aa:te U H7 λy H4=>ys.length<sizeLine/\M (ys++[y]) H4:=q7
    refine Fv (he _ _ _ _ _ s7 U H7 _ I7 aa) λQ t ⟨y,G,Y,r8,aA,m8⟩=>?_
    obtain⟨b1,b2,Z,ag,w'⟩:=ac Y m8
    have au:=Y.pin (s2.heap.objs.size,Kq f k) (dc _ (gw _ (bY.mpr rfl)))
    obtain⟨e8,al,aj,aw,_⟩:=au
    have aB:=v3.length
    refine fV cK ⟨_,e8,rfl⟩ md (lU _ _) (nh s2.heap.objs.size f.toArray k Q (by rw[cc];omega)) ⟨e8,?_⟩
    have q:=gF e8 (·.push Q)
    rw[show f.toArray.push Q=(f++[Q]).toArray by simp]at q
    obtain⟨k',q⟩:∃k',(t.heap.update s2.heap.objs.size (dr (·.push Q))).get? s2.heap.objs.size=some (Kq (f++[Q]) k'):=⟨_,q⟩
    have I9:Inv (Fx X scope N (s2.heap.objs.size+1) s2 E fp) [] (Gb caps σ) G t:=(Y.weak ab kp).pins_of (pins':=[]) λp hp=>nomatch hp
    have ay:=I9.turned (h':=t.heap.update s2.heap.objs.size (dr (·.push Q))) (t':=t.toks) (it:=s2.heap.objs.size) (λb o a e=>(ea t.heap _ (Ne.symm a)).trans e) al aj (.inr (bX _))
     (λx c e z=>by
      rcases uy _ _ _ e with w|w
      ·exact absurd (ci (cS (cV _)) (z▸w.1)) (cJ _)
      ·exact absurd (L x c (s9 w)) (by rw[z];exact cJ _)) (λp hp=>nomatch hp)
    refine⟨Z,ag,i+1,ys++[y],f++[Q],k',G,ay.pins_of λp hp=>?_,v3.append (.cons r8 .nil),by rw[cr,dB];omega,T.keep _ _ _ b1 λb a o e=>?_,b2,w'⟩
    ·rw[bY.mp hp]
     exact⟨q,al,aj,aw,λv z=>by cases z⟩
    ·exact(ea t.heap _ (gO (P b a))).trans e
 exact codeAny_compStart_list ah (T.self _ _ _ _ _ am ah)
theorem sS{elt tg iter:Expr}{ifs:List Expr}{pos:Pos}{wi:TI}{g:TG}{tt:TT}{te:TE}(hc:X.calm=true)(O:CompOk scope X.env.scope X.N N caps)(gk:GK caps g)(hi:PI X tg iter wi)
  (hg:∀C s H fp,PG (Fx X scope N C s H fp) tg g)(ht:∀C s H fp,Nk (Fx X scope N C s H fp) ifs tt)(he:∀C s H fp,PE (Fx X scope N C s H fp) elt te)
  (hs:∀x,foldedSetIterable iter X.env x=pure x:=by intro _;rfl):PE X (.ListComp elt [⟨tg,iter,ifs,0⟩] scope pos) (Nz caps wi g tt te):=by
 intro a s j H Q I h
 rw[eval_ListComp]
 have d:closureFor scope X.env=pure (Hb scope X.env):=AE λx E L=>by
  rcases(O.free x E L).2 with q|q
  ·exact I.ok.has x.1 (.inl q)
  ·exact I.ok.has x.1 (.inr q)
 refine kb (use:=none) rfl hs d O.kind O.loc (Fv (hi a s j H _ I h) λv U h1=>Fv h1 λM P h2=>?_)
 refine wI (R:=λc C=>compPost (model X.prog X.w) X.A X.xe none (EP X a j Q) c C) hc O gk hg ht he h2 ?_
 intro D C F T S m B t y z n p r f l u
 refine⟨m,t,λh' k=>?_⟩
 have G:=B.turned (h':=h') (t':=F.toks) (it:=C) (λb o J e=>k.extBut b o J e) (by rw[rQ n];exact z) r (.inr p) f l
 exact⟨.ref D,_,G,rfl,u D y⟩
def LF(i:Nat)(caps:List (Option Nat))(wi:TI)(g:TG)(tt:TT)(te:TE):TS:=λD σ H=>
 wi σ H (FR caps g tt te σ λys H'=>∀d,H' d=none->D.nx (σ.set i (some (.ref d))) (upd H' d (.lst ys)))
theorem tq{i:Nat}{y:Str}{py spos:Pos}{elt tg iter:Expr}{ifs:List Expr}{pos:Pos}{wi:TI}{g:TG}{tt:TT}{te:TE}(hN:X.N.Nodup)(hy:X.N[i]?=some y)(hl:X.env.scope.names.lookup y=some .local)
  (hsw:swapsWith (.ListComp elt [⟨tg,iter,ifs,0⟩] scope pos) (some (.Name y py)) spos.line X.env=pure true)
  (hc:X.calm=true)(O:CompOk scope X.env.scope X.N N caps)(gk:GK caps g)(hi:PI X tg iter wi)
  (hg:∀C s H fp,PG (Fx X scope N C s H fp) tg g)(ht:∀C s H fp,Nk (Fx X scope N C s H fp) ifs tt)(he:∀C s H fp,PE (Fx X scope N C s H fp) elt te)
  (hs:∀x,foldedSetIterable iter X.env x=pure x:=by intro _;rfl):PS X (.Assign [.Name y py] (.ListComp elt [⟨tg,iter,ifs,0⟩] scope pos) spos) (LF i caps wi g tt te):=by
 intro c s W H D I h
 rw[exec_Assign_Name_used _ _ _ _ hsw]
 refine bM (mm (bM ?_))
 show wpAny _ X.A (do let _<-comprehension (.ListComp elt [⟨tg,iter,ifs,0⟩] scope pos) scope X.env _ (newList []) false (eval iter X.env) (some (assign (.Name y py) X.env))) _ _ s
 have p:closureFor scope X.env=pure (Hb scope X.env):=AE λx V hf=>by
  rcases(O.free x V hf).2 with q|q
  ·exact I.ok.has x.1 (.inl q)
  ·exact I.ok.has x.1 (.inr q)
 refine bM (Fv (kb (use:=some (assign (.Name y py) X.env)) (Q:=λ_ f=>SP X c D .next f) rfl hs p O.kind O.loc
  (Fv (hi c s W H _ I h) λv s1 h1=>Fv h1 λaa s2 h2=>?_)) λ_ f T=>bO (bO T))
 refine wI (R:=λn C=>compPost (model X.prog X.w) X.A X.xe (some (assign (.Name y py) X.env)) (λ_ f=>SP X c D .next f) n C) hc O gk hg ht he h2 ?_
 intro d C f H' ys m U J P S E G k j B L
 show wpAny _ X.A (assign (.Name y py) X.env (.ref d)) _ _ _
 refine m4 (xX (v:= .ref d) U hN hy (.inl hl) rfl (λF r ⟨a,l,M⟩=>?_) (.inr hl))
 have u:C≠a:=by
  rcases M with z|z
  ·rw[z];exact k
  ·exact λq=>j y a z q.symm
 refine⟨m,J.sameBut l u,λh' t=>?_⟩
 have Y:=r.turned (h':=h') (t':=F.toks) (it:=C) (λb o Z e=>t.extBut b o Z e) (by rw[rQ E];exact S) k (.inr G) j B
 exact⟨_,_,Y,L d P⟩
end
structure Dn(P:cg)(w:cC)(K:bN)(mg:Str->Option bQ)(base:Heap)(CX:Js)(k:Nat)(x:Str)(ps:List Str)(sp:Sp):Prop where
 ex:∃f fd,FnOk P w K mg base CX k f fd ps sp/\mg x=some (.ref f)/\ie K (.ref f)=true/\Binds K fd ps []
theorem sf{X:Cx}{CX:Js}{k j:Nat}{x:Str}{ps:List Str}{sp:Sp}{E:XK}{p pos:Pos}{e:Expr}{es:List Expr}{t:TA}(D:Dn X.prog X.w X.K X.mg X.base CX k x ps sp)(hr:Room j X.A)(hk:k<=j)(hg:Gl X x)(hx:FS CX X E)
  (ha:PA X (e::es) t)(hdb:(x==("__debug__":Str))=false:=by decide)(he:cD (e::es) X.env=(false,eval e X.env)::cD es X.env:=by rfl)(hpl:(backTo pos (cD es X.env)).any (·.1)=false:=by rfl):
  PE X (.Call (.Name x p) (e::es) [] pos) (Mb sp [] E t):=by
 obtain⟨f,c,F,m,a,b⟩:=D.ex
 exact DH F (hr.mono hk) hg m a b .nil hx ha hdb he hpl
def Def(K:bN)(mg:Str->Option bQ)(x:Str)(st:Stmt):Prop:=∃f fd,Fun K x x st f fd/\mg x=some (.ref f)
section
variable{P:cg}{w:cC}{K:bN}{mg:Str->Option bQ}{base:Heap}
theorem Def.ok{x:Str}{st:Stmt}{N ps:List Str}{k:Nat}{sp:Sp}(F:Def K mg x st)(S:Fi N ps (Ff st))(len:∀vs H Q E,sp vs H Q E->vs.length=ps.length)
  (hb:∀(kV doc pm:bQ) (an:Option bV) (cdv ct:bQ) (us:List bQ),us.length=ps.length->bindArgs (fD x x (Fw st) (Fp st) (Ff st) .none kV doc pm an cdv ct) ⟨us,[]⟩=pure (ps.zip us))
  (hbody:∀(f:bV) (cdv:bQ) (A:cO) (outer:List Env) (s:bS) (H:Hp) (vs:List V) (Q:VK) (E:XK),Room k (A.deeper (envOfC x (Ff st) s.heap.objs.size f cdv))->sp vs H Q E->
   ∃t,PSs (Jm Fs P w K mg base N x (Ff st) f cdv A outer s H E).nox (Fp st) t/\t {nx:=λ_ H'=>Q .non H',rt:=Q} (start N vs) H):Dn P w K mg base Fs (k+1) x ps sp:=by
 obtain⟨f,a,F,m⟩:=F
 exact⟨f,a,F.ok S len (hbody f),m,F.kp,F.binds hb⟩
theorem Def.nothing{x:Str}{st:Stmt}{ps:List Str}(F:Def K mg x st)
  (hb:∀(kV doc pm:bQ) (an:Option bV) (cdv ct:bQ) (us:List bQ),us.length=ps.length->bindArgs (fD x x (Fw st) (Fp st) (Ff st) .none kV doc pm an cdv ct) ⟨us,[]⟩=pure (ps.zip us)):
  Dn P w K mg base Fs 0 x ps (λ_ _ _ _=>False):=by
 obtain⟨f,a,F,m⟩:=F
 exact⟨f,a,⟨λ_ _ _ _ h=>h.elim,λ_ _ _ _ _ _ _ _ _ _ _ _ _ h=>h.elim⟩,m,F.kp,F.binds hb⟩
theorem Dn.imp{CX:Js}{k:Nat}{x:Str}{ps:List Str}{sp sp':Sp}(D:Dn P w K mg base CX k x ps sp)(h:∀vs H Q E,sp' vs H Q E->sp vs H Q E):Dn P w K mg base CX k x ps sp':=by
 obtain⟨f,a,F,r⟩:=D.ex;exact⟨f,a,F.imp h,r⟩
end
def L3(K:bN)(mg:Str->Option bQ)(x:Str)(xs:List V):Prop:=∃a,mg x=some (.ref a)/\∀H,SqT K H a xs
def L7(K:bN)(xs:List V):TE:=λ_ H Q=>∀a,(∀H,SqT K H a xs)->Q (.ref a) H
theorem uj{X:Cx}{x:Str}{xs:List V}{pos:Pos}(h:L3 X.K X.mg x xs)(hg:Gl X x:=by rfl)(hd:(x==("__debug__":Str))=false:=by decide):PE X (.Name x pos) (L7 X.K xs):=λ_ _ _ H _ I q=>by
 obtain⟨a,m,r⟩:=h;exact uF I hg m ⟨.ref a,H,I,rfl,q a r⟩ hd
theorem BC{X:Cx}{x:Str}{i:Int}{pos:Pos}(h:∃t,X.mg x=some (.int i t))(hg:Gl X x:=by rfl)(hd:(x==("__debug__":Str))=false:=by decide):PE X (.Name x pos) (tC (.int i)):=λ_ _ _ H _ I q=>by
 obtain⟨t,m⟩:=h;exact uF I hg m ⟨.int i,H,I,⟨t,rfl⟩,q⟩ hd
theorem Fo{c A B:Prop}[Decidable c](hc:¬c)(h:B):if decide c=true then A else B:=by rw[if_neg (by simpa using hc)];exact h
theorem FC{c A B:Prop}[Decidable c](hc:c)(h:A):if decide c=true then A else B:=by rw[if_pos (by simpa using hc)];exact h
theorem FD{c A B:Prop}[Decidable c](h1:c->A)(h2:¬c->B):if decide c=true then A else B:=by
 by_cases h:c
 ·exact FC h (h1 h)
 ·exact Fo h (h2 h)
theorem ID{c A B:Prop}[Decidable c](h1:¬c->A)(h2:c->B):if(!decide c)=true then A else B:=by
 by_cases h:c
 ·rw[if_neg (by simpa using h)];exact h2 h
 ·rw[if_pos (by simpa using h)];exact h1 h
theorem Ol{i j:Int}(h:i≠j):V.int i≠V.int j:=λz=>h (V.int.inj z)
theorem Kn{i j:Int}(h:V.int i=V.int j):i=j:=V.int.inj h
theorem ut{k:Int}{m:Nat}(h:k.natAbs<2^m):me k<=m:=by
 unfold me;split
 ·exact cM _
 ·rcases Nat.eq_zero_or_pos k.natAbs with h0|hp
  ·rename_i hz
   exact absurd (by simpa using h0) (by simpa using hz)
  ·have:k.natAbs.log2<m:=(ol (gO hp)).mpr h;omega
theorem Nd{i j:Int}{m n:Nat}(hi:i.natAbs<2^m)(hj:j.natAbs<2^n)(h:m+n<=134217728):IntMulOk i j:=IntMulOk.of_le (ut hi) (ut hj) h
section
variable{X:Cx}
theorem sK:Gw X (binaryOp .Mult) (rI IntMulOk λi j=> .int (i*j)):=NI λ_ _ _ _ _ _ _ c h=>mul_int h c
theorem Be:Gw X (binaryOp .FloorDiv) (rI (λ_ j=>j≠0/\j.natAbs<2^9000) λi j=> .int (i.fdiv j)):=NI λi j _ _ _ _ _ c h=>
 qf c.1 h (Or.inl (kc ((ol (by have:=c.1;omega)).mpr c.2)))
theorem sW:Gw X (binaryOp .FloorDiv) (rI (λ_ j=>0<j/\j.natAbs<2^9000) λi j=> .int (i/j)):=NI λi j _ _ _ _ _ c h=>
 qf (by have:=c.1;omega) (by rw[ij _ (by have:=c.1;omega)];exact h) (Or.inl (kc ((ol (by have:=c.1;omega)).mpr c.2)))
theorem c9{n:Int}(h0:0<n)(h:n.natAbs<2^64):0<n/\n.natAbs<2^9000:=⟨h0,ci h (dM (by decide) (by decide))⟩
theorem Lz{i j:Int}(h:i.natAbs<2^64):IntMulOk i j:=IntMulOk.of_left (ut h)
theorem LK{i j:Int}(h:j.natAbs<2^64):IntMulOk i j:=IntMulOk.of_right (ut h)
theorem tZ{x:Str}{T:String}{pos:Pos}(hg:Gl X x)(hm:X.mg x=none)(hv:bootBuiltins x=some (.type T))(hn:x≠"__name__":=by decide)(hd:(x==("__debug__":Str))=false:=by decide):PE X (.Name x pos) (tC (.ty T)):=D8 hg hm hv rfl hn hd
def LJ:V->List V->Hp->VK->Prop:=λx vs H Q=>∃l xs i y,x = .ref l/\vs=[.int i,y]/\H l=some (.lst xs)/\0<=i/\i<=(xs.length:Int)/\xs.length<sizeLine/\Q .non (upd H l (.lst (xs.take i.toNat++y::xs.drop i.toNat)))
theorem yi:LH X "list.insert" LJ:=by
 intro k s w H x vs v B Q I g m h;obtain⟨l,p,i,y,rfl,rfl,d,h0,h1,A,q⟩:=h
 cases g;obtain⟨u,c,rfl,⟨tk,rfl⟩,f⟩:=m.two;obtain⟨z,a,n,r,o,e⟩:=I.lstM d;have t:=GB;have b:¬(!jD i)=true:=by
  unfold jD;simp only[nj,Bool.not_eq_false];simp only[cH,decide_eq_true_eq];omega
 refine fV F.slot_list_insert ⟨_,e,rfl⟩ F.entry_list_insert (F.args_list_insert_3 _ _ _) (lu l a.toArray n i tk c b (by rw[cc];omega)) ⟨e,?_⟩;refine⟨.non,_,I.lset (its':=a.take i.toNat++c::a.drop i.toNat) d e ?_ (Vals.append (r.take _) (.cons f (r.drop _))) ?_,rfl,q⟩
 ·have j:(if i<0 then(i+(a.toArray.size:Int)).toNat else min i.toNat a.toArray.size)=i.toNat:=by
   rw[if_neg (by omega),cc];omega
  show(a.toArray.extract 0 _).push c++a.toArray.extract _=_;rw[j];apply oP;simp[Array.toList_extract,List.extract];exact dz (by rw[dP];omega)
 ·rw[cr,cZ,cf,dP];omega
def tyOf(K:bN)(H:Hp)(x:V)(t:String):Prop:=match x with
 | .non=>t="NoneType"
 | .bl _=>t="bool"
 | .int _=>t="int"
 | .str _=>t="str"
 | .ref a=>(t="list"/\∃xs,SqL K H a xs)\/(t="tuple"/\∃xs,SqT K H a xs)
 | _=>False
def Ie(t T:String):Bool:=t==T||(t=="bool"&&T=="int")
def LA:List String:=["NoneType","bool","int","str","list","tuple"]
def LB:List String:=["bool","int","str","list","tuple"]
theorem B1{pins:List (bV×Obj)}{σ:St}{H:Hp}{s:bS}{A:cO}{E:bQ->bS->Prop}{Q:bQ->bS->Prop}{c:bQ}{b:Bool}{x:V}{u:bQ}{t:String}(I:Inv X pins σ H s)(rx:RelV x u)(ty:tyOf X.K H x t)
  (e:fe X.K (.type t) c=some b)(h:∀tk,Q (.bool b) {s with toks:=tk}):wpAny (model X.prog X.w) A (call (.builtin "isinstance") [u,c]) Q E s:=by
 cases x with
 | non=>cases(show u=bQ.none from rx);cases(show t="NoneType"from ty);exact fW nk I.kIn True.intro e (λz=>nomatch z) h
 | bl y=>cases(show u=dH y from rx);cases(show t="bool"from ty);exact fW nl I.kIn True.intro e (λz=>nomatch z) h
 | int i=>obtain⟨tk,q⟩:=(show ∃t,u=dn i t from rx);cases q;cases(show t="int"from ty);exact fW nU I.kIn True.intro e (λz=>nomatch z) h
 | str y=>obtain⟨tk,q⟩:=(show ∃t,u=g7 y t from rx);cases q;cases(show t="str"from ty);exact fW nV I.kIn True.intro e (λz=>nomatch z) h
 | ref a=>
  cases(show u=b5 a from rx)
  rcases ty with⟨rfl,g,d⟩|⟨rfl,g,d⟩
  ·obtain⟨f,_,⟨o,n,h1,h2,_⟩,_⟩:=I.list d
   exact fW nq I.kIn ⟨o,h1,h2⟩ e (λz=>nomatch z) h
  ·obtain⟨f,_,⟨o,h1,h2,_⟩,_⟩:=I.tuple d
   exact fW mL I.kIn ⟨o,h1,h2⟩ e (λz=>nomatch z) h
 | byt _=>exact ty.elim
 | flt _=>exact ty.elim
 | ty _=>exact ty.elim
theorem v7{K:bN}{H:Hp}{x:V}{t:String}(h:tyOf K H x t):t∈LA:=by
 cases x with
 | non=>cases(show t="NoneType"from h);decide
 | bl _=>cases(show t="bool"from h);decide
 | int _=>cases(show t="int"from h);decide
 | str _=>cases(show t="str"from h);decide
 | ref a=>rcases h with⟨rfl,_⟩|⟨rfl,_⟩ <;> decide
 | byt _=>exact h.elim
 | flt _=>exact h.elim
 | ty _=>exact h.elim
theorem Bj{K:bN}{t T:String}(ht:t∈LA)(hT:T∈LB):fe K (.type t) (.type T)=some (Ie t T):=by
 simp only[LA,LB,cj,gG,or_false]at ht hT;rcases ht with rfl|rfl|rfl|rfl|rfl|rfl <;> rcases hT with rfl|rfl|rfl|rfl|rfl <;> (unfold fe lV PySem.W.subIn;kernel_rfl)
theorem sC:FW X (.builtin "isinstance") (λxs H Q=>∃x T t,xs=[x,.ty T]/\T∈LB/\tyOf X.K H x t/\Q (.bl (Ie t T)) H):=by
 intro c s f H xs g Q I r h;obtain⟨x,T,t,rfl,d,ty,q⟩:=h;obtain⟨u,b,rfl,a,e⟩:=Kb r
 cases(show b=cX T from e);exact B1 I a ty (Bj (v7 ty) d) λtk=>⟨.bl _,H,I.tok tk,rfl,q⟩
end
theorem Same.tup{K:bN}{H H':Hp}{a:bV}{xs:List V}(e:Same H H')(h:SqT K H a xs):SqT K H' a xs:=by
 rcases h with(h|⟨o,h⟩)|h
 ·exact .inl (.inl (e _ _ h))
 ·exact .inl (.inr ⟨o,e _ _ h⟩)
 ·exact .inr h
theorem mJ{H:Hp}{p:bV}(h:H p=none)(o:HO):Same H (upd H p o):=λb u q=>by rw[rQ (sd q h)];exact q
theorem Same.over{H H':Hp}{p:bV}(e:Same H H')(h:H p=none)(o:HO):Same H (upd H' p o):=λb u q=>by
 rw[rQ (sd q h)];exact e b u q
def IsF(K:bN)(H:Hp)(v:V)(p:Int×Int):Prop:=∃a,v = .ref a/\SqT K H a [.int p.1,.int p.2]
theorem IsF.mono{K:bN}{H H':Hp}{v:V}{p:Int×Int}(e:Same H H')(h:IsF K H v p):IsF K H' v p:=by
 obtain⟨a,rfl,q⟩:=h;exact⟨a,rfl,e.tup q⟩
theorem uQ{K:bN}{H:Hp}{a p:bV}{xs ys zs:List V}(h:SqT K H a xs)(hp:H p=some (.lst ys)):SqT K (upd H p (.lst zs)) a xs:=by
 rcases h with(h|⟨o,h⟩)|h
 ·exact .inl (.inl (by rw[rQ (uk h hp (by intro z;cases z))];exact h))
 ·exact .inl (.inr ⟨o,by rw[rQ (uk h hp (by intro z;cases z))];exact h⟩)
 ·exact .inr h
theorem IsF.over{K:bN}{H:Hp}{v:V}{p:bV}{ys zs:List V}{q:Int×Int}(h:IsF K H v q)(hp:H p=some (.lst ys)):IsF K (upd H p (.lst zs)) v q:=by
 obtain⟨a,rfl,h⟩:=h;exact⟨a,rfl,uQ h hp⟩
theorem Paired.get{α β:Type}{F:α->β->Prop}:∀{xs:List α} {ys:List β} {i:Nat} {y:β},cT F xs ys->ys[i]?=some y->∃x,xs[i]?=some x/\F x y
 | _,_,_,_,.nil,e=>by simp at e
 | _,_,0,_,.cons r _,e=>by simp at e;subst e;exact⟨_,rfl,r⟩
 | _,_,i+1,y,.cons _ t,e=>by
  obtain⟨x,h1,h2⟩:=Paired.get (i:=i) t (by simpa using e)
  exact⟨x,by simpa using h1,h2⟩
theorem Paired.get'{α β:Type}{F:α->β->Prop}:∀{xs:List α} {ys:List β} {i:Nat} {x:α},cT F xs ys->xs[i]?=some x->∃y,ys[i]?=some y/\F x y
 | _,_,_,_,.nil,e=>by simp at e
 | _,_,0,_,.cons r _,e=>by simp at e;subst e;exact⟨_,rfl,r⟩
 | _,_,i+1,y,.cons _ t,e=>by
  obtain⟨x,h1,h2⟩:=Paired.get' (i:=i) t (by simpa using e)
  exact⟨x,by simpa using h1,h2⟩
theorem Paired.app{α β:Type}{F:α->β->Prop}:∀{xs xs':List α} {ys ys':List β},cT F xs ys->cT F xs' ys'->cT F (xs++xs') (ys++ys')
 | _,_,_,_,.nil,t=>t
 | _,_,_,_,.cons r s,t=> .cons r (Paired.app s t)
theorem tJ{α:Type}{xs:List α}{i:Int}{v:α}(h0:0<=i)(h:xs[i.toNat]?=some v):HU xs i=some v:=by
 have e:i=((i.toNat:Nat):Int):=by omega
 rw[e];exact sM h
theorem tV{ns:List Int}{i:Nat}(h:i<ns.length):(ns.map V.int)[i]?=some (.int (ns.getD i 0)):=by
 simp[h]
theorem xu{c:TT}{tb:TS}{D:Ic}{σ:St}{H:Hp}(Pv:Nat->St->Hp->Prop)(h0:∃m,Pv m σ H)
  (hs:∀m σ H,Pv m σ H->c σ H λb H1=>if b=true then tb {D with nx:=λσ' H'=>∃m',m'<m/\Pv m' σ' H',ct:=λσ' H'=>∃m',m'<m/\Pv m' σ' H',bk:=D.nx} σ H1 else D.nx σ H1)
  (mono:∀σ H Q Q',(∀b H1,Q b H1->Q' b H1)->c σ H Q->c σ H Q'):Lw c tb D σ H:=by
 refine⟨Pv,h0,λm σ H p=>?_⟩
 refine mono σ H _ _ (λb H1 q=>?_) (hs m σ H p)
 cases b with
 | true=>exact⟨_,λσ' H' z=>z,q⟩
 | false=>exact q
end L2
namespace FQ
structure NK(p:Int×Int):Prop where
 pos:0<p.2
 cop:Int.gcd p.1 p.2=1
def red(t b:Int):Int×Int:=(t*b.sign/(Int.gcd t b:Int),b*b.sign/(Int.gcd t b:Int))
theorem gcd_turn{a b:Int}:Int.gcd b (a%b)=Int.gcd a b:=by
 have h:=Int.gcd_add_mul_left_right b (a%b) (a/b);rw[Int.emod_add_mul_ediv]at h;rw[<-h,nr]
theorem wG{k m n:Int}(h:Int.gcd k m=1)(d:k ∣ m*n):k ∣ n:=by
 have h1:k.natAbs ∣ m.natAbs*n.natAbs:=by
  have:=lD.mpr d;rwa[jE]at this
 exact lD.mp (nM h h1)
theorem vL{t b:Int}(hb:b≠0):∃u v:Int,t*b.sign=u*(Int.gcd t b:Int)/\b*b.sign=v*(Int.gcd t b:Int)/\red t b=(u,v)/\0<v/\Int.gcd u v=1:=by
 have l:0<Int.gcd t b:=eA _ hb;have d:(0:Int)<(Int.gcd t b:Int):=by omega
 have g:(Int.gcd t b:Int) ∣ t:=Int.gcd_dvd_left ..;have f:(Int.gcd t b:Int) ∣ b:=Int.gcd_dvd_right ..;obtain⟨u,c⟩:=g;obtain⟨v,a⟩:=f;refine⟨u*b.sign,v*b.sign,?_,?_,?_,?_,?_⟩
 ·rw[fk,f3 u,<-c]
 ·rw[fk,f3 v,<-a]
 ·unfold red
  congr 1
  ·apply jF (by omega);rw[fk,f3 u,<-c]
  ·apply jF (by omega);rw[fk,f3 v,<-a]
 ·have h1:0<b*b.sign:=by rw[Int.mul_sign_self];omega
  have h2:b*b.sign=(v*b.sign)*(Int.gcd t b:Int):=by rw[fk,f3 v,<-a]
  rw[h2]at h1;rcases Int.lt_or_le 0 (v*b.sign)with h|h
  ·exact h
  ·exact absurd h1 (rh.mpr (Int.mul_nonpos_of_nonpos_of_nonneg h (ef d)))
 ·have j:b.sign=1\/b.sign = -1:=by
   rcases jG hb with h|h
   ·exact .inr (gi h)
   ·exact .inl (gR h)
  have k:Int.gcd u v=1:=by
   have e:=Int.gcd_mul_left (Int.gcd t b:Int) u v;rw[<-c,<-a,iM]at e;have:Int.gcd t b*1=Int.gcd t b*Int.gcd u v:=by rw[qI];exact e
   exact(Nat.eq_of_mul_eq_mul_left l this).symm
  rcases j with h|h <;> rw[h] <;> simp[k]
theorem red_low{t b:Int}(hb:b≠0):NK (red t b):=by
 obtain⟨u,v,_,_,e,h1,h2⟩:=vL (t:=t) hb;rw[e];exact⟨h1,h2⟩
theorem red_worth{t b:Int}(hb:b≠0):(red t b).1*b=t*(red t b).2:=by
 obtain⟨u,v,h1,h2,e,_,_⟩:=vL (t:=t) hb;rw[e];have d:(Int.gcd t b:Int)≠0:=by have:=eA t hb;omega
 have c:b.sign≠0:=by simpa using hb
 have a:(u*b)*((Int.gcd t b:Int)*b.sign)=(t*v)*((Int.gcd t b:Int)*b.sign):=by
  calc (u*b)*((Int.gcd t b:Int)*b.sign)=(u*(Int.gcd t b:Int))*(b*b.sign):=by ac_rfl
   _=(t*b.sign)*(v*(Int.gcd t b:Int)):=by rw[<-h1,<-h2]
   _=(t*v)*((Int.gcd t b:Int)*b.sign):=by ac_rfl
 exact gj (cW d c) a
theorem wU{p q:Int×Int}(hp:NK p)(hq:NK q)(h:p.1*q.2=q.1*p.2):p=q:=by
 obtain⟨a,b⟩:=p;obtain⟨c,d⟩:=q;obtain⟨m,g⟩:=hp;obtain⟨l,f⟩:=hq;dsimp only at *;have j:b ∣ d:=by
  have:b ∣ a*d:=⟨c,by rw[h,f3]⟩;exact wG (by rw[nr];exact g) this
 have k:d ∣ b:=by
  have:d ∣ c*b:=⟨a,by rw[<-h,f3]⟩;exact wG (by rw[nr];exact f) this
 have e:b=d:=Int.dvd_antisymm (by omega) (by omega) j k;subst e;have:a=c:=gj (by omega) h;rw[this]
theorem red_eq{t b t' b':Int}(hb:b≠0)(hb':b'≠0)(h:t*b'=t'*b):red t b=red t' b':=by
 refine wU (red_low hb) (red_low hb') ?_;have c:=red_worth (t:=t) hb;have d:=red_worth (t:=t') hb';have a:((red t b).1*(red t' b').2)*(b*b')=((red t' b').1*(red t b).2)*(b*b'):=by
  calc ((red t b).1*(red t' b').2)*(b*b')=((red t b).1*b)*((red t' b').2*b'):=by ac_rfl
   _=(t*(red t b).2)*((red t' b').2*b'):=by rw[c]
   _=(t*b')*((red t b).2*(red t' b').2):=by ac_rfl
   _=(t'*b)*((red t b).2*(red t' b').2):=by rw[h]
   _=(t'*(red t' b').2)*((red t b).2*b):=by ac_rfl
   _=((red t' b').1*b')*((red t b).2*b):=by rw[d]
   _=((red t' b').1*(red t b).2)*(b*b'):=by ac_rfl
 exact gj (cW hb hb') a
theorem red_eq_iff{t b:Int}(hb:b≠0){p:Int×Int}(hp:NK p)(h:p.1*b=t*p.2):red t b=p:=by
 refine wU (red_low hb) hp ?_;have c:=red_worth (t:=t) hb;have a:((red t b).1*p.2)*b=(p.1*(red t b).2)*b:=by
  calc ((red t b).1*p.2)*b=((red t b).1*b)*p.2:=by ac_rfl
   _=(t*p.2)*(red t b).2:=by rw[c];ac_rfl
   _=(p.1*(red t b).2)*b:=by rw[<-h];ac_rfl
 exact gj hb a
theorem red_small{t b:Int}(hb:b≠0):(red t b).1.natAbs<=t.natAbs/\(red t b).2.natAbs<=b.natAbs:=by
 obtain⟨u,v,h1,h2,e,_,_⟩:=vL (t:=t) hb;rw[e];have d:1<=Int.gcd t b:=eA _ hb;have f:b.sign.natAbs=1:=by
  rcases jG hb with h|h
  ·rw[gi h];rfl
  ·rw[gR h];rfl
 have c:=congrArg ri h1;have a:=congrArg ri h2;rw[jE,jE,f,qI,iM]at c a;constructor
 ·show u.natAbs<=_;rw[c];exact kE _ d
 ·show v.natAbs<=_;rw[a];exact kE _ d
theorem fdiv_red{t b:Int}(hb:b≠0):((t.fdiv ((Int.gcd t b:Int)*b.sign),b.fdiv ((Int.gcd t b:Int)*b.sign)):Int×Int)=red t b:=by
 obtain⟨u,v,h1,h2,e,_,_⟩:=vL (t:=t) hb;rw[e];have k:(Int.gcd t b:Int)≠0:=by have:=eA t hb;omega
 have j:b.sign≠0:=by simpa using hb
 have a:b.sign*b.sign=1:=by
  rcases jG hb with h|h
  ·rw[gi h];rfl
  ·rw[gR h];rfl
 have g:t=u*((Int.gcd t b:Int)*b.sign):=by
  calc t=t*(b.sign*b.sign):=by rw[a,gL]
   _=(t*b.sign)*b.sign:=by ac_rfl
   _=u*((Int.gcd t b:Int)*b.sign):=by rw[h1];ac_rfl
 have f:b=v*((Int.gcd t b:Int)*b.sign):=by
  calc b=b*(b.sign*b.sign):=by rw[a,gL]
   _=(b*b.sign)*b.sign:=by ac_rfl
   _=v*((Int.gcd t b:Int)*b.sign):=by rw[h2];ac_rfl
 generalize hd:(Int.gcd t b:Int)*b.sign=d at g f ⊢;have c:d≠0:=by rw[<-hd];exact cW k j
 rw[g,f,mf _ c,mf _ c]
end FQ
namespace LM
def cellAt(ns:List Int)(k:Int):Int:=if k<ns.length then ns.getD k.toNat 0 else 0
def oddGo(n:Int):Nat->List Int×Int
 | 0=>([],n)
 | k+1=>((oddGo n k).1++[(oddGo n k).2%5040],(oddGo n k).2/5040)
def evenX(n k:Int):Int:=(n*n+48271*n+k+1)%2147483647
def evenGo(n:Int):Nat->List Int×Int
 | 0=>([],n)
 | k+1=>((evenGo n k).1++[evenX (evenGo n k).2 k],evenX (evenGo n k).2 k)
def mixed(c:Int)(m:Nat):List Int:=if c%2=1 then(oddGo (c/2) m).1 else(evenGo ((c/2%2147483647*16807+11)%2147483647) m).1
theorem oddGo_len(n:Int):∀m,(oddGo n m).1.length=m
 | 0=>rfl
 | m+1=>by simp[oddGo,oddGo_len n m]
theorem evenGo_len(n:Int):∀m,(evenGo n m).1.length=m
 | 0=>rfl
 | m+1=>by simp[evenGo,evenGo_len n m]
theorem mixed_len(c:Int)(m:Nat):(mixed c m).length=m:=by
 unfold mixed;split <;> simp[oddGo_len,evenGo_len]
theorem Cy(n k:Int):0<=evenX n k/\evenX n k<2147483647:=⟨cY _ (by decide),cQ _ (by decide)⟩
theorem evenGo_num(n:Int)(h0:0<=n)(h1:n<2147483647):∀m,0<=(evenGo n m).2/\(evenGo n m).2<2147483647
 | 0=>⟨h0,h1⟩
 | m+1=>Cy _ _
def ins(xs:List Int)(i:Nat)(x:Int):List Int:=xs.take i++x::xs.drop i
theorem CH(xs:List Int)(i:Nat)(x:Int):(ins xs i x).Perm (x::xs):=by
 unfold ins;refine nW.trans ?_;rw[lE]
def permGo(num:Int):Nat->List Int×Int
 | 0=>([],num)
 | k+1=>(ins (permGo num k).1 ((permGo num k).2%(k+1)).toNat k,(permGo num k).2/(k+1))
def perm(num:Int)(n:Nat):List Int:=(permGo num n).1
theorem perm_succ_perm:∀(num:Int) (n:Nat),(perm num n).Perm ((cp n).map gH)
 | _,0=>ik _
 | num,n+1=>by
  unfold perm
  rw[fG,cb]
  refine(CH _ _ _).trans ?_
  refine qb.trans ?_ List.perm_append_comm
  exact(perm_succ_perm num n).cons _
theorem perm_len(num:Int)(n:Nat):(perm num n).length=n:=by
 have:=(perm_succ_perm num n).length_eq;simpa using this
theorem wD(row:List Int):(cp row.length).map (λi=>row.getD i 0)=row:=by
 apply kF
 ·simp
 ·intro i h1 h2;simp at h1;simp[h1]
def addOne(r:List Int)(t:Int)(w:Int):List Int:=r.set t.toNat (r.getD t.toNat 0+w)
theorem Ac(r:List Int)(t w:Int):(addOne r t w).length=r.length:=by simp[addOne]
def addDeal(M:List (List Int))(o:List Int)(w:Int):List (List Int):=qg (λr t=>addOne r t w) M o
end LM
namespace L2
open PySem PySem.Spec PyProof.Rows
def KT:Sp:=λvs H Q _=>∃i:Int,vs=[.int i]/\Q (.bl true) H
def L4:Sp:=λvs H Q _=>∃i j:Int,vs=[.int i,.int j]/\Q (.int (Int.gcd i j:Int)) H
def Lf(p:Int×Int):HO:= .tup [.int p.1,.int p.2]
def Sz(n:Nat)(p:Int×Int):Prop:=p.1.natAbs<2^n/\p.2.natAbs<2^n/\p.2≠0
def G0(x y:Int×Int):Int×Int:=FQ.red (x.1*y.2+y.1*x.2) (x.2*y.2)
def Ky(x y:Int×Int):Int×Int:=FQ.red (x.1*y.2-y.1*x.2) (x.2*y.2)
def Kl(x y:Int×Int):Int×Int:=FQ.red (x.1*y.1) (x.2*y.2)
def IR(f:(Int×Int)->(Int×Int)->(Int×Int))(K:bN):Sp:=λvs H Q _=>∃a b x y,vs=[.ref a,.ref b]/\SqT K H a [.int x.1,.int x.2]/\SqT K H b [.int y.1,.int y.2]/\Sz 4000 x/\Sz 4000 y/\
 ∀p H',Same H H'->H' p=some (Lf (f x y))->Q (.ref p) H'
def Km(K:bN):Sp:=λvs H Q _=>∃a ns k,vs=[.ref a,.int k]/\SqL K H a (ns.map V.int)/\0<=k/\Q (.int (LM.cellAt ns k)) H
def KJ:Sp:=λvs H Q _=>∃(c:Int) (m:Nat),vs=[.int c,.int m]/\m<=63/\∀p H',Same H H'->H p=none->H' p=some (.lst ((LM.mixed c m).map V.int))->Q (.ref p) H'
def Lh:Sp:=λvs H Q _=>∃(num:Int) (n:Nat),vs=[.int num,.int n]/\n<=63/\∀p H',Same H H'->H p=none->H' p=some (.lst ((LM.perm num n).map V.int))->Q (.ref p) H'
def IX:Sp:=λvs H Q _=>∃i j:Int,vs=[.int i,.int j]/\0<=j/\Q (.int (Int.gcd i j:Int)) H
def JN:Sp:=λvs H Q _=>∃t b:Int,vs=[.int t,.int b]/\0<b/\b.natAbs<2^9000/\∀p H',Same H H'->H' p=some (Lf (FQ.red t b))->Q (.ref p) H'
theorem EL{t b:Int}(hb:b≠0):Int.gcd t b<=b.natAbs:=Nat.le_of_dvd (by omega) (Int.gcd_dvd_natAbs_right ..)
theorem vo{t b:Int}(hb:b≠0)(hz:b.natAbs<2^9000):
  (b<0->(-(Int.gcd t b:Int)≠0/\(-(Int.gcd t b:Int)).natAbs<2^9000)/\t.fdiv (-(Int.gcd t b:Int))=(FQ.red t b).1/\b.fdiv (-(Int.gcd t b:Int))=(FQ.red t b).2)/\
  (¬b<0->((Int.gcd t b:Int)≠0/\(Int.gcd t b:Int).natAbs<2^9000)/\t.fdiv (Int.gcd t b:Int)=(FQ.red t b).1/\b.fdiv (Int.gcd t b:Int)=(FQ.red t b).2):=by
 have d:0<Int.gcd t b:=eA _ hb
 have c:=EL (t:=t) hb
 have e:=FQ.fdiv_red (t:=t) hb
 constructor
 ·intro a
  rw[gi a,Int.mul_neg_one]at e
  exact⟨⟨by omega,by rw[Int.natAbs_neg,iM];exact ec c hz⟩,congrArg Prod.fst e,congrArg Prod.snd e⟩
 ·intro a
  rw[gR (by omega),gL]at e
  exact⟨⟨by omega,by rw[iM];exact ec c hz⟩,congrArg Prod.fst e,congrArg Prod.snd e⟩
theorem Ah{a b m n:Nat}(h1:a<2^m)(h2:b<2^n):a*b<2^(m+n):=by
 rw[Nat.pow_add];exact Nat.mul_lt_mul'' h1 h2
theorem vF{a b:Int}{m n:Nat}(h1:a.natAbs<2^m)(h2:b.natAbs<2^n):(a*b).natAbs<2^(m+n):=by
 rw[jE];exact Ah h1 h2
theorem v9{a:Int}{m n:Nat}(h:a.natAbs<2^m)(hmn:m<=n):a.natAbs<2^n:=ci h (dM (by decide) hmn)
theorem IU{a b:Int}(h1:a.natAbs<2^4000)(h2:b.natAbs<2^4000):IntMulOk a b:=Nd h1 h2 (by decide)
theorem Mq{a b:Int}(h1:a.natAbs<2^4000)(h2:b.natAbs<2^4000):(a*b).natAbs<2^9000:=v9 (vF h1 h2) (by decide)
mutual
inductive Rep(K:bN)(H:Hp):V->il->Prop
 | non:Rep K H .non .none
 | bl (b:Bool):Rep K H (.bl b) (.bool b)
 | int (i:Int):Rep K H (.int i) (.int i)
 | str (x:Str):Rep K H (.str x) (.str x)
 | lst {a:bV} {xs:List V} {ds:List il}:SqL K H a xs->Reps K H xs ds->xs.length<=1000->Rep K H (.ref a) (.list ds)
 | tup {a:bV} {xs:List V} {ds:List il}:SqT K H a xs->Reps K H xs ds->xs.length<=1000->Rep K H (.ref a) (.tuple ds)
inductive Reps(K:bN)(H:Hp):List V->List il->Prop
 | nil:Reps K H [] []
 | cons {x:V} {d:il} {xs:List V} {ds:List il}:Rep K H x d->Reps K H xs ds->Reps K H (x::xs) (d::ds)
end
section
variable{X:Cx}{pins:List (bV×Obj)}{σ:St}{H:Hp}{s:bS}
mutual
theorem Rep.reads(I:Inv X pins σ H s){x:V}{d:il}{u:bQ}(r:Rep X.K H x d)(q:RelV x u):∃as,Reads s.heap u d as:=by
 cases r with
 | non=>cases(show u=bQ.none from q);exact⟨_,.none⟩
 | bl b=>cases(show u=dH b from q);exact⟨_,.bool b⟩
 | int i=>obtain⟨t,e⟩:=(show ∃t,u=dn i t from q);cases e;exact⟨_,.int i t⟩
 | str x=>obtain⟨t,e⟩:=(show ∃t,u=g7 x t from q);cases e;exact⟨_,.str x t⟩
 | @lst a xs ds hq hs hl=>
  cases(show u=b5 a from q);obtain⟨g,c,⟨o,n,h1,h2,_,h3⟩,_⟩:=I.list hq;obtain⟨as,f⟩:=Reps.reads I hs c;exact⟨_,.list h1 h2 h3 (by simpa using f)⟩
 | @tup a xs ds hq hs hl=>
  cases(show u=b5 a from q);obtain⟨g,c,⟨o,h1,h2,n,h3⟩,_⟩:=I.tuple hq;obtain⟨as,f⟩:=Reps.reads I hs c;exact⟨_,.tuple h1 h2 h3 (by simpa using f)⟩
theorem Reps.reads(I:Inv X pins σ H s){xs:List V}{ds:List il}{us:List bQ}(r:Reps X.K H xs ds)(q:Vals xs us):∃as,ReadsAll s.heap us ds as:=by
 cases r with
 | nil=>cases q;exact⟨_,.nil⟩
 | cons r a=>
  cases q with
  | cons q b=>
   obtain⟨as,h1⟩:=Rep.reads I r q;obtain⟨c,h2⟩:=Reps.reads I a b;exact⟨_,.cons h1 h2⟩
end
def M8(K:bN):R2:=λx y H Q=>∃d e,Rep K H x d/\Rep K H y e/\eg d=true/\eg e=true/\Q (.bl (eh d e)) H
def Nu(K:bN):R2:=λx y H Q=>∃d e,Rep K H x d/\Rep K H y e/\eg d=true/\eg e=true/\Q (.bl (!eh d e)) H
theorem vb{k:Nat}(hr:Room k X.A):Gw X (compareOp .Eq) (M8 X.K):=by
 intro g s m H x y v u Q I b a h;obtain⟨d,e,l,f,j,c,q⟩:=h;obtain⟨as,h1⟩:=l.reads I b;obtain⟨n,h2⟩:=f.reads I a;exact eq_dataH h1 h2 j c hr.units ⟨.bl _,H,I,rfl,q⟩
theorem vW{k:Nat}(hr:Room k X.A):Gw X (compareOp .NotEq) (Nu X.K):=by
 intro g s m H x y v u Q I b a h;obtain⟨d,e,l,f,j,c,q⟩:=h;obtain⟨as,h1⟩:=l.reads I b;obtain⟨n,h2⟩:=f.reads I a;exact ne_dataH h1 h2 j c hr.units ⟨.bl _,H,I,rfl,q⟩
end
theorem Reps.length{K:bN}{H:Hp}:∀{xs:List V} {ds:List il},Reps K H xs ds->xs.length=ds.length
 | _,_,.nil=>rfl
 | _,_,.cons _ r=>by simp[Reps.length r]
theorem Reps.get{K:bN}{H:Hp}:∀{xs:List V} {ds:List il} {i:Nat} {d:il},Reps K H xs ds->ds[i]?=some d->∃x,xs[i]?=some x/\Rep K H x d
 | _,_,_,_,.nil,e=>by simp at e
 | _,_,0,_,.cons r _,e=>by simp at e;subst e;exact⟨_,rfl,r⟩
 | _,_,i+1,d,.cons _ t,e=>by
  obtain⟨x,h1,h2⟩:=Reps.get (i:=i) t (by simpa using e)
  exact⟨x,by simpa using h1,h2⟩
def dF(p:Int×Int):il:= .tuple [.int p.1,.int p.2]
theorem IsF.rep{K:bN}{H:Hp}{v:V}{p:Int×Int}(h:IsF K H v p):Rep K H v (dF p):=by
 obtain⟨a,rfl,q⟩:=h;exact .tup q (.cons (.int _) (.cons (.int _) .nil)) (by simp)
theorem Paired.len{α β:Type}{F:α->β->Prop}{xs:List α}{ys:List β}(h:cT F xs ys):xs.length=ys.length:=ml h
theorem wT{lo:Int}{n:Nat}{caps:List (Option Nat)}{g:TG}{tt:TT}{te:TE}{σ:St}{QQ:List V->Hp->Prop}{H:Hp}(Pv:Nat->List V->Hp->Prop)(h0:Pv 0 [] H)
  (hs:∀i ys H,i<n->Pv i ys H->g (.int (lo+i)) (Gb caps σ) H λσ2 H2=>tt σ2 H2 λb H3=>if b=true then te σ2 H3 λy H4=>ys.length<sizeLine/\Pv (i+1) (ys++[y]) H4 else Pv (i+1) ys H3)
  (hd:∀ys H,Pv n ys H->QQ ys H):FR caps g tt te σ QQ (LX lo n) H:=by
 refine⟨λi m ys H=>m=n-i/\i<=n/\Pv i ys H,⟨n,by simp,cM _,h0⟩,?_⟩
 rintro i m ys H ⟨rfl,h,p⟩
 by_cases a:i<n
 ·refine .inr ⟨a,Pv (i+1),λf d c=>⟨n-(i+1),by omega,rfl,a,c⟩,λx d y=>?_⟩
  obtain⟨e,y⟩:=y
  subst e y
  exact hs i ys _ a p
 ·have e:i=n:=by omega
  subst e
  exact .inl ⟨bX _,hd ys H p⟩
theorem wm{K:bN}{a:bV}{xs:List V}{caps:List (Option Nat)}{g:TG}{tt:TT}{te:TE}{σ:St}{QQ:List V->Hp->Prop}{H:Hp}(Pv:Nat->List V->Hp->Prop)(h0:Pv 0 [] H)
  (hl:∀i ys H,i<=xs.length->Pv i ys H->SqL K H a xs)
  (hs:∀i x ys H,xs[i]?=some x->Pv i ys H->g x (Gb caps σ) H λσ2 H2=>tt σ2 H2 λb H3=>if b=true then te σ2 H3 λy H4=>ys.length<sizeLine/\Pv (i+1) (ys++[y]) H4 else Pv (i+1) ys H3)
  (hd:∀ys H,Pv xs.length ys H->QQ ys H):FR caps g tt te σ QQ (Mm K a) H:=by
 refine⟨λi m ys H=>m=xs.length-i/\i<=xs.length/\Pv i ys H,⟨xs.length,by simp,cM _,h0⟩,?_⟩
 rintro i m ys H ⟨rfl,d,p⟩
 have q:=hl i ys H d p
 by_cases c:i<xs.length
 ·refine .inr ⟨⟨xs,xs[i],q,by simp[c]⟩,Pv (i+1),λj h f=>⟨xs.length-(i+1),by omega,rfl,c,f⟩,λx h y=>?_⟩
  obtain⟨e,y⟩:=y
  subst e
  exact hs i x ys _ (y xs q) p
 ·have e:i=xs.length:=by omega
  subst e
  exact .inl ⟨⟨xs,q,bX _⟩,hd ys H p⟩
theorem uX{K:bN}{a:bV}{xs:List V}{caps:List (Option Nat)}{g:TG}{tt:TT}{te:TE}{σ:St}{QQ:List V->Hp->Prop}{H:Hp}(Pv:Nat->List V->Hp->Prop)(h0:Pv 0 [] H)
  (hl:∀i ys H,i<=xs.length->Pv i ys H->SqT K H a xs)
  (hs:∀i x ys H,xs[i]?=some x->Pv i ys H->g x (Gb caps σ) H λσ2 H2=>tt σ2 H2 λb H3=>if b=true then te σ2 H3 λy H4=>ys.length<sizeLine/\Pv (i+1) (ys++[y]) H4 else Pv (i+1) ys H3)
  (hd:∀ys H,Pv xs.length ys H->QQ ys H):FR caps g tt te σ QQ (Mp K a) H:=by
 refine⟨λi m ys H=>m=xs.length-i/\i<=xs.length/\Pv i ys H,⟨xs.length,by simp,cM _,h0⟩,?_⟩
 rintro i m ys H ⟨rfl,d,p⟩
 have q:=hl i ys H d p
 by_cases c:i<xs.length
 ·refine .inr ⟨⟨xs,xs[i],q,by simp[c]⟩,Pv (i+1),λj h f=>⟨xs.length-(i+1),by omega,rfl,c,f⟩,λx h y=>?_⟩
  obtain⟨e,y⟩:=y
  subst e
  exact hs i x ys _ (y xs q) p
 ·have e:i=xs.length:=by omega
  subst e
  exact .inl ⟨⟨xs,q,bX _⟩,hd ys H p⟩
theorem t5{σ:St}{H:Hp}{A:Hp->Prop}{B:Hp->Prop}:(Hh σ H λb H3=>if b=true then A H3 else B H3)=A H:=by
 unfold Hh;exact if_pos rfl
theorem ud{lo:Int}{n:Nat}{caps:List (Option Nat)}{g:TG}{te:TE}{σ:St}{QQ:List V->Hp->Prop}{H:Hp}(Pv:Nat->List V->Hp->Prop)(h0:Pv 0 [] H)
  (hs:∀i ys H,i<n->Pv i ys H->g (.int (lo+i)) (Gb caps σ) H λσ2 H2=>te σ2 H2 λy H4=>ys.length<sizeLine/\Pv (i+1) (ys++[y]) H4)
  (hd:∀ys H,Pv n ys H->QQ ys H):FR caps g Hh te σ QQ (LX lo n) H:=
 wT Pv h0 (λi ys H a p=>by simp only[t5];exact hs i ys H a p) hd
theorem tm{K:bN}{a:bV}{xs:List V}{caps:List (Option Nat)}{g:TG}{te:TE}{σ:St}{QQ:List V->Hp->Prop}{H:Hp}(Pv:Nat->List V->Hp->Prop)(h0:Pv 0 [] H)
  (hl:∀i ys H,i<=xs.length->Pv i ys H->SqL K H a xs)
  (hs:∀i x ys H,xs[i]?=some x->Pv i ys H->g x (Gb caps σ) H λσ2 H2=>te σ2 H2 λy H4=>ys.length<sizeLine/\Pv (i+1) (ys++[y]) H4)
  (hd:∀ys H,Pv xs.length ys H->QQ ys H):FR caps g Hh te σ QQ (Mm K a) H:=
 wm Pv h0 hl (λi x ys H b p=>by simp only[t5];exact hs i x ys H b p) hd
theorem yb{K:bN}{a:bV}{xs:List V}{caps:List (Option Nat)}{g:TG}{te:TE}{σ:St}{QQ:List V->Hp->Prop}{H:Hp}(Pv:Nat->List V->Hp->Prop)(h0:Pv 0 [] H)
  (hl:∀i ys H,i<=xs.length->Pv i ys H->SqT K H a xs)
  (hs:∀i x ys H,xs[i]?=some x->Pv i ys H->g x (Gb caps σ) H λσ2 H2=>te σ2 H2 λy H4=>ys.length<sizeLine/\Pv (i+1) (ys++[y]) H4)
  (hd:∀ys H,Pv xs.length ys H->QQ ys H):FR caps g Hh te σ QQ (Mp K a) H:=
 uX Pv h0 hl (λi x ys H b p=>by simp only[t5];exact hs i x ys H b p) hd
theorem xf{a b T:Int}(hT:T≠0):G0 (FQ.red a T) (FQ.red b T)=FQ.red (a+b) T:=by
 have h1:=FQ.red_worth (t:=a) hT;have h2:=FQ.red_worth (t:=b) hT;have c:=(FQ.red_low (t:=a) hT).pos;have d:=(FQ.red_low (t:=b) hT).pos;unfold G0;refine FQ.red_eq (cW (by omega) (by omega)) hT ?_;generalize FQ.red a T=p at *;generalize FQ.red b T=q at *
 calc (p.1*q.2+q.1*p.2)*T=(p.1*T)*q.2+(q.1*T)*p.2:=by rw[gy];ac_rfl
  _=(a*p.2)*q.2+(b*q.2)*p.2:=by rw[h1,h2]
  _=(a+b)*(p.2*q.2):=by rw[gy];ac_rfl
theorem vI{T:Int}(hT:T≠0):FQ.red 0 T=(0,1):=FQ.red_eq_iff hT ⟨by decide,by decide⟩ (by simp)
theorem yV{T:Int}(hT:T≠0):FQ.red T T=(1,1):=FQ.red_eq_iff hT ⟨by decide,by decide⟩ (by simp)
theorem vX{a T:Int}(hT:T≠0)(h1:a.natAbs<2^100)(h2:T.natAbs<2^100):Sz 4000 (FQ.red a T):=by
 have s:=FQ.red_small (t:=a) hT;have p:=(FQ.red_low (t:=a) hT).pos;refine⟨ec s.1 (ci h1 (dM (by decide) (by decide))),ec s.2 (ci h2 (dM (by decide) (by decide))),by omega⟩
def KI(K:bN):Sp:=λvs H Q _=>∃(a:bV) (ns:List Int),vs=[.ref a]/\SqL K H a (ns.map V.int)/\ns.length<=63/\∀H',Q (.bl true) H'
def GQ:Nat->il->Bool
 | _,.none=>true
 | _,.bool _=>true
 | _,.int _=>true
 | _,.str x=>eg (.str x)
 | n+1,.tuple ds=>ds.all (GQ n)
 | n+1,.list ds=>ds.all (GQ n)
 | _,_=>false
def Kr(K:bN)(n:Nat):Sp:=λvs H Q _=>∃v u d,vs=[v,u]/\Rep K H v d/\Rep K H u d/\GQ n d=true/\Q (.bl true) H
def Li(sp:Nat->Sp):Nat->Sp
 | 0=>λ_ _ _ _=>False
 | n+1=>sp n
structure Flies(P:cg)(w:cC)(outer:List Env)(H:Hp)(s:bS)(a C:bV)(B:Heap)(a0:bQ)(H':Hp)(s':bS):Prop where
 os:s'.os=s.os
 bare:AllBare s'.gens
 un:Un (Gy outer) [] H H' s.heap s'.heap
 hok:HOk P w H' B
 keep:∀b o,s.heap.get? b=some o->H b=none->b∉Gy outer->B.get? b=some o
 has:∀b o,s.heap.get? b=some o->b∉Gy outer->∃o',B.get? b=some o'
 fly:kY B outer a (.ref C) a0 s'.heap
def GM(P:cg)(w:cC):Js:=λouter H s E e s'=>∃a C B a0 H',e = .ref a/\Flies P w outer H s a C B a0 H' s'/\E (.ref C) none H'
theorem ObjOk.is{P:cg}{w:cC}{H:Hp}{h:Heap}{a:bV}{o:HO}(x:ObjOk P w H h a o):∃u,h.get? a=some u:=by
 cases o with
 | lst c=>obtain⟨_,_,_,_,e⟩:=x;exact⟨_,e⟩
 | tup c=>obtain⟨_,_,_,o,e,_⟩:=x;exact⟨_,e⟩
 | dK b=>obtain⟨_,_,_,_,o,_,_,e,_⟩:=x;exact⟨_,e⟩
 | dT b=>obtain⟨_,_,_,_,o,_,_,e,_⟩:=x;exact⟨_,e⟩
 | set S n=>obtain⟨o,_,_,_,e,_⟩:=x;exact⟨_,e⟩
 | ins C g d=>obtain⟨_,_,_,e,_⟩:=x;exact⟨_,e⟩
 | own y=>obtain⟨_,e⟩:=x;exact⟨_,e⟩
 | xd d=>obtain⟨_,⟨_,_,_,e,_⟩,_⟩:=x;exact⟨_,e⟩
 | rng lo m=>obtain⟨_,_,_,e⟩:=x;exact⟨_,e⟩
 | frz j u=>obtain⟨e,_⟩:=x;exact⟨_,e⟩
 | tbl k=>exact⟨_,(show h.get? a=some _ from x)⟩
 | met f y=>exact⟨_,(show h.get? a=some _ from x)⟩
 | ext l=>obtain⟨_,⟨_,e⟩,_⟩:=x;exact⟨_,e⟩
theorem Flies.free{P:cg}{w:cC}{outer:List Env}{H H':Hp}{s s':bS}{a C:bV}{B:Heap}{a0:bQ}(f:Flies P w outer H s a C B a0 H' s'):H' a=none:=by
 cases q:H' a with
 | none=>rfl
 | some o=>
  obtain⟨x,b⟩:=(f.hok a o q).is;rw[f.fly.2.1]at b;cases b
theorem Dc{P:cg}{w:cC}{H:Hp}{h:Heap}{l:List bV}(x:HOk P w H h)(n:∀b∈l,H b=none):HOk P w H (lm h l):=λa o e=>
 (x a o e).stay (λb u c q=>fY _ q λz=>by
  rcases c with rfl|c
  ·rw[n _ z]at e;cases e
  ·rw[n _ z]at c;cases c) (λ_ q=>q) λ_ _ q=>q
section
variable{P:cg}{w:cC}{K:bN}{mg:Str->Option bQ}{base:Heap}{N:List Str}{qual:Str}{scope:Scope}{f:bV}{cd:bQ}{A:cO}{outer:List Env}{s₀:bS}{H₀:Hp}{E:XK}
abbrev Jy(P:cg)(w:cC)(K:bN)(mg:Str->Option bQ)(base:Heap)(N:List Str)(qual:Str)(scope:Scope)(f:bV)(cd:bQ)(A:cO)(outer:List Env)(s₀:bS)(H₀:Hp)(E:XK):Cx:=Jm (GM P w) P w K mg base N qual scope f cd A outer s₀ H₀ E
theorem xm{env:Env}{l:List Env}{L:bV}(h:env.frame=some L):Gy (env::l)=L::Gy l:=by unfold Gy;rw[fF,h]
theorem yQ{pins:List (bV×Obj)}{σ:St}{H:Hp}{s:bS}{h':Heap}{e C:bV}{vs:List bQ}(I:Inv (Jy P w K mg base N qual scope f cd A outer s₀ H₀ E) pins σ H s)(hx:Heap.MadeExcOf s.heap h' e (.ref C) vs)(hE:E (.ref C) none H):
  (Jy P w K mg base N qual scope f cd A outer s₀ H₀ E).xe (.ref e) {s with heap:=h'}:=by
 have F:(envOfC qual scope s₀.heap.objs.size f cd).frame=some s₀.heap.objs.size:=rfl
 have O:(Jy P w K mg base N qual scope f cd A outer s₀ H₀ E).stack=envOfC qual scope s₀.heap.objs.size f cd::outer:=rfl
 have B:∀k∈(envOfC qual scope s₀.heap.objs.size f cd::outer),∀b,k.frame=some b->b∈Gy (envOfC qual scope s₀.heap.objs.size f cd::outer):=λk M b a=>gg.mpr ⟨k,M,a⟩
 have J:s.heap.FunFrames base (envOfC qual scope s₀.heap.objs.size f cd::outer):=I.stack
 have y:∀b∈Gy (envOfC qual scope s₀.heap.objs.size f cd::outer),H b=none:=I.stkFree
 have c:∀b o,s₀.heap.get? b=some o->b∉Gy outer->b∉Gy (envOfC qual scope s₀.heap.objs.size f cd::outer):=λb o q nb=>by
  rw[xm F]
  intro z
  rcases cj.mp z with z|z
  ·exact absurd (b6 q) (by rw[z];exact cJ _)
  ·exact nb z
 have U:Un (Gy outer) [] H₀ H s₀.heap s.heap:=I.base
 show wpAny _ _ (leaving _ _) _ _ _
 refine wpAny_leaves_madeW (base:=lm s.heap (Gy (envOfC qual scope s₀.heap.objs.size f cd::outer))) (h:=s.heap) I.ok.frames F (λb o q=>mE _ q) (PySem.W.funFrames_hide J B) hx λQ t v _ _ x=>?_
 have g:=v.1
 refine⟨e,C,_,_,H,rfl,⟨I.os,I.bare,⟨λb o q n nb _=>?_,λb o q n a _=>?_,λb o q n D=>U.free b o q n D,λb o q _=>?_,U.tups,U.frzs,U.tbls⟩,Dc I.hok y,λb o q n nb=>?_,λb o q nb=>?_,v⟩,hE⟩
 ·exact g _ _ (fY _ (U.keep b o q n nb (by simp)) (c b o q nb))
 ·obtain⟨L,l⟩:=U.slot b o q n a (by simp)
  obtain⟨_,m,d,j⟩:=I.funs.mem a
  have G:m={o with slots:=L}:=Option.some.inj (d.symm.trans l)
  obtain⟨r,p⟩:=x b m (hx.keeps _ _ d) j
  rw[G]at p
  exact⟨r,p⟩
 ·obtain⟨u,l⟩:=U.there b o q (by simp)
  by_cases a:b∈Gy outer
  ·obtain⟨_,m,d,j⟩:=I.funs.mem a
   obtain⟨r,p⟩:=x b m (hx.keeps _ _ d) j
   exact⟨_,p⟩
  ·exact⟨u,g _ _ (fY _ l (c b o q a))⟩
 ·exact fY _ (U.keep b o q n nb (by simp)) (c b o q nb)
 ·obtain⟨u,l⟩:=U.there b o q (by simp)
  exact⟨u,fY _ l (c b o q nb)⟩
theorem Kf{E':XK}(hE:∀c d H',E' c d H'->E c d H'):FS (GM P w) (Jy P w K mg base N qual scope f cd A outer s₀ H₀ E) E':=by
 intro X σ H s e L I Z;obtain⟨a,C,B,a0,H',rfl,F,q⟩:=Z;have y:(envOfC qual scope s₀.heap.objs.size f cd).frame=some s₀.heap.objs.size:=rfl;have r:∀b o,s₀.heap.get? b=some o->b∉Gy outer->b∉Gy (envOfC qual scope s₀.heap.objs.size f cd::outer):=λb o q nb=>by
  rw[xm y];intro z;rcases cj.mp z with z|z
  ·exact absurd (b6 q) (by rw[z];exact cJ _)
  ·exact nb z
 have sub:∀b∈Gy outer,b∈Gy (envOfC qual scope s₀.heap.objs.size f cd::outer):=λb g=>by rw[xm y];exact b3 _ g
 have U:Un (Gy outer) [] H₀ H s₀.heap s.heap:=I.base;have p:Un (Gy (envOfC qual scope s₀.heap.objs.size f cd::outer)) [] H H' s.heap L.heap:=F.un;have Y:L.heap.FunFrames B (envOfC qual scope s₀.heap.objs.size f cd::outer):=F.fly.2.2.1;show wpAny _ _ (leaving _ _) _ _ _;refine wpAny_leaves_onW I.ok.frames y F.fly λO D T=>?_;have l:=D.1;have R:∀b o,s₀.heap.get? b=some o->H₀ b=none->b∉Gy outer->B.get? b=some o:=λb o q n nb=>F.keep b o (U.keep b o q n nb (by simp)) (U.free b o q n (by simp)) (r b o q nb);have J:∀b o,s₀.heap.get? b=some o->b∉Gy outer->∃j,B.get? b=some j:=λb o q nb=>by
  obtain⟨j,h⟩:=U.there b o q (by simp);exact F.has b j h (r b o q nb)
 have k:∀b o,s₀.heap.get? b=some o->H₀ b=none->b∈Gy outer->∃k,O.get? b=some {o with slots:=k}:=λb o q n g=>by
  obtain⟨k,h⟩:=U.slot b o q n g (by simp);obtain⟨aa,q2⟩:=p.slot b _ h (U.free b o q n (by simp)) (sub b g) (by simp);obtain⟨_,o2,t,M⟩:=Y.mem (sub b g);have v:=Option.some.inj (t.symm.trans q2);obtain⟨x,Q⟩:=T b o2 t M;rw[v]at Q;exact⟨x,Q⟩
 refine⟨a,C,B,a0,H',rfl,⟨F.os.trans I.os,F.bare,⟨λb o q n nb _=>l _ _ (R b o q n nb),λb o q n g _=>k b o q n g,λb o q n m=>?_,λb o q _=>?_,λb G q=>p.tups b G (U.tups b G q),λb o u q=>p.frzs b o u (U.frzs b o u q),λb V q=>?_⟩,F.hok,R,J,D⟩,hE _ _ _ q⟩
 ·obtain⟨j,h⟩:=U.there b o q m;exact p.free b j h (U.free b o q n m) m
 ·by_cases g:b∈Gy outer
  ·obtain⟨k,h⟩:=k b o q (I.ok.frf b g) g;exact⟨_,h⟩
  ·obtain⟨j,h⟩:=J b o q g;exact⟨j,l _ _ h⟩
 ·obtain⟨S,W⟩:=U.tbls b V q;obtain⟨m2,v⟩:=p.tbls b _ W;exact⟨S++m2,by rw[v,mF]⟩
end
def MQ:List bQ:=[.type "ValueError",.type "Exception",.type "BaseException",.type "object"]
structure HL(K:bN)(mg:Str->Option bQ)(x:Str)(C:bV):Prop where
 bound:mg x=some (.ref C)
 exc:f8 K C MQ "ValueError.__new__"=true
theorem xC{K:bN}{h:Heap}{C:bV}{bmB:List bQ}{nid:String}(X:K.In h)(q:f8 K C bmB nid=true):
  ∃bm N nm qn bs hdct sn sub ab col dd k0 k1 k2 k3 k5 mN,h.get? C=some (excClassObj nm qn C N bs bm hdct sn sub ab col dd k0 k1 k2 k3 k5 nid)/\h.Ns N mN/\mN "__init__"=none/\OwnTail h bmB bm:=by
 unfold f8 at q
 split at q
 ·rename_i dd cd sl hlk
  split at q
  ·rename_i C' bm u0 u1 u2 u3 n u5 hmro hsl
   simp only[cH,beq_iff_eq,nj]at q
   obtain⟨⟨⟨⟨⟨rfl,rfl⟩,b⟩,f⟩,a⟩,c⟩:=q
   obtain⟨nm,bs,g,e,qn,d,sn,sub,ab,col,j⟩:=cd
   dsimp only at hmro b a c
   subst hmro b
   obtain⟨l⟩:=sl
   simp only at hsl
   subst hsl
   exact⟨bm,e,nm,qn,bs,d,sn,sub,ab,col,dd,u0,u1,u2,u3,u5,_,X _ _ hlk,.of_isNs (PySem.W.isNs_of_in X a),PySem.W.nsMap_none_of_in X a c,PySem.W.tail_of_in X f⟩
  ·cases q
 ·cases q
section
variable{P:cg}{w:cC}{K:bN}{mg:Str->Option bQ}{base:Heap}{N:List Str}{qual:Str}{scope:Scope}{f:bV}{cd:bQ}{A:cO}{outer:List Env}{s₀:bS}{H₀:Hp}{E:XK}
def MF(C:bV)(E:XK)(t:TA):TS:=λ_ σ H=>t σ H λvs H1=>vs.length<=sizeLine/\E (.ref C) none H1
theorem uc{x:Str}{C:bV}{e₀:Expr}{es:List Expr}{np cpos pos:Pos}{t:TA}(hC:HL K mg x C)(hg:Gl (Jy P w K mg base N qual scope f cd A outer s₀ H₀ E) x)
  (ha:PA (Jy P w K mg base N qual scope f cd A outer s₀ H₀ E).nox (e₀::es) t)
  (hd:(x==("__debug__":Str))=false:=by decide)(he:cD (e₀::es) (Jy P w K mg base N qual scope f cd A outer s₀ H₀ E).env=(false,eval e₀ (Jy P w K mg base N qual scope f cd A outer s₀ H₀ E).env)::cD es (Jy P w K mg base N qual scope f cd A outer s₀ H₀ E).env:=by rfl)
  (hpl:(backTo cpos (cD es (Jy P w K mg base N qual scope f cd A outer s₀ H₀ E).env)).any (·.1)=false:=by rfl):
  PS (Jy P w K mg base N qual scope f cd A outer s₀ H₀ E) (.Raise (some (.Call (.Name x np) (e₀::es) [] cpos)) none pos) (MF C E t):=by
 intro b s o H D I h
 obtain⟨bm,p,nm,n,bs,hdct,sn,sub,ab,col,dd,k0,k1,k2,k3,k5,mN,g,j,c,T⟩:=xC I.ok.mod.kin hC.exc
 refine wpAny_Raise_call_subT (C:=C) (nm:=nm) (q:=n) (N:=p) (bs:=bs) (bm:=bm) (hdct:=hdct) (sn:=sn) (sub:=sub) (ab:=ab) (col:=col) (dd:=dd) (k0:=k0) (k1:=k1) (k2:=k2) (k3:=k3) (k5:=k5) (mN:=mN) (bmB:=MQ) (newId:="ValueError.__new__")
  PySem.F.excBase_ValueError (T.hasType (by decide)) (I.ok.hd rfl) (by rw[he];exact hpl) c (uF I hg hC.bound ⟨rfl,?_⟩ hd)
 have z:=ha cpos b s o H _ (I.wish _) h
 have d:cD (e₀::es) (Jy P w K mg base N qual scope f cd A outer s₀ H₀ E).nox.env=(false,eval e₀ (Jy P w K mg base N qual scope f cd A outer s₀ H₀ E).env)::cD es (Jy P w K mg base N qual scope f cd A outer s₀ H₀ E).env:=he
 rw[d]at z
 rw[he]
 refine ig ?_
 refine eO z (λy v h1=>?_) λ_ _ z=>dI z
 obtain⟨vs,u,a,r,k,m⟩:=h1
 have a:=a.unwish
 exact⟨rfl,by rw[<-r.length];exact k,a.bk _ _ g,j.keeps a.bk,T.keeps a.bk,λB e l=>yQ a l m⟩
end
section
variable{M:Model}{A:cO}{E:bQ->bS->Prop}{K:bN}{h:Heap}{g:Array GenState}{d:Drawn}{t:Nat}{os:OsState}{a C CW:bV}{oe:Obj}
theorem ym{Q:Bool->bS->Prop}(X:K.In h)(qW:f8 K CW MQ "ValueError.__new__"=true)(hm:d6 K C (.ref CW)=some true)(ha:h.get? a=some oe)(hc:oe.cls = .ref C)
  (hq:Q true ⟨h,g,d,t,os⟩):wpAny M A (excMatches (.ref a) (.ref CW)) Q E ⟨h,g,d,t,os⟩:=by
 obtain⟨e,D,o,p,w,j,s,sub,u,k,n,v,r,q,x,B,y,b,m,l,T⟩:=xC X qW
 have f:e.contains (.type "BaseException")=true:=T.hasType (by decide)
 have c:(b5 CW::e).contains (.type "BaseException")=true:=by rw[List.contains_cons,f,Bool.or_true]
 have z:=tc_notTuple
 have L:=ju (M:=M) X hm
 unfold excMatches
 repeat (first|(with_reducible refine nt ha ?_;rw[hc])|with_reducible refine nt b ?_|(with_reducible refine wpAny_isSubtype_exc b ?_;rw[c])|with_reducible refine L.at ?_|wp_step)
 exact hq
end
def Kg(C a:bV):HO:= .ext λh=>∃o,h.get? a=some o/\o.cls = .ref C/\∃vs,o.data = .fields vs
section
variable{X:Cx}{pins:List (bV×Obj)}{σ:St}{H:Hp}{s:bS}
theorem Inv.caught{a C:bV}{B:Heap}{a0:bQ}{H':Hp}{s':bS}{h6:Heap}(I:Inv X pins σ H s)(F:Flies X.prog X.w X.stack H s a C B a0 H' s')(fl:kY B X.stack a (.ref C) a0 h6)(up:s'.heap.UpToSlots h6):
  Inv X pins σ (upd H' a (Kg C a)) {s' with heap:=h6}:=by
 have fr:=F.free
 have l:=F.un
 have N:=F.fly.2.2.1
 obtain⟨A,vs,j,G,r,_⟩:=fl.first
 have h:∀b u,H' b=some u->b≠a:=λb u q z=>by rw[z,fr]at q;cases q
 have y:∀b o,s.heap.get? b=some o->H b=none->b≠a:=λb o q n z=>by
  by_cases e:b∈Gy X.stack
  ·obtain⟨_,t,d,g⟩:=fl.2.2.1.mem e
   rw[z,j]at d
   cases d
   exact g _ r
  ·have:=F.keep b o q n e
   rw[z,fl.2.1]at this
   cases this
 refine I.call' (s':={s' with heap:=h6}) (ch:=[]) F.os ⟨λb o q n nb _=>fl.1 _ _ (F.keep b o q n nb),λb o q n e _=>?_,λb o q n L=>?_,λb o q _=>?_,λb D q=>?_,λb o u q=>?_,λb M q=>?_⟩ ?_ F.bare (λb z=>absurd z (by simp))
 ·obtain⟨Q,m⟩:=l.slot b o q n e (by simp)
  obtain⟨_,t,d,g⟩:=N.mem e
  have J:=Option.some.inj (d.symm.trans m)
  obtain⟨E,p⟩:=up b t d g
  rw[J]at p
  exact⟨E,p⟩
 ·rw[rQ (y b o q n)]
  exact l.free b o q n L
 ·by_cases e:b∈Gy X.stack
  ·obtain⟨_,t,d,g⟩:=fl.2.2.1.mem e
   exact⟨_,d⟩
  ·obtain⟨O,m⟩:=F.has b o q e
   exact⟨O,fl.1 _ _ m⟩
 ·have f:=l.tups b D q
  rw[rQ (h _ _ f)];exact f
 ·have f:=l.frzs b o u q
  rw[rQ (h _ _ f)];exact f
 ·obtain⟨x,f⟩:=l.tbls b M q
  exact⟨x,by rw[rQ (h _ _ f)];exact f⟩
 ·intro b u q
  by_cases e:b=a
  ·subst e
   rw[rE]at q
   cases q
   exact⟨⟨A,j,G,vs,r⟩,⟨A,j⟩,λh1 h2 ⟨o,m,p,P⟩ k=>⟨o,k o m,p,P⟩⟩
  ·rw[rQ e]at q
   exact(F.hok b u q).stay (λc v _ z=>fl.1 _ _ z) (λc z=>by rw[rQ (h _ _ z)];exact z) λc D z=>by rw[rQ (h _ _ z)];exact z
theorem uL{M:Model}{A:cO}{E:bQ->bS->Prop}{i:Nat}{x:Str}{pos:Pos}{Q:Unit->bS->Prop}(I:Inv X pins σ H s)(hN:X.N.Nodup)(hi:X.N[i]?=some x)(hk:X.env.scope.names.lookup x=some .local)
  (h:∀s',Inv X pins (σ.set i none) H s'->Q () s'):wpAny M A (do bindName X.env x .none;unbindBehindTheSuite X.env x pos) Q E s:=by
 obtain⟨m,P,J⟩:=id I.loc
 have l:(X.env.scope.kind == .class||(X.env.scope.kind == .module&&X.env.locals != X.env.globals))=false:=by rw[I.ok.kind];rfl
 have u:i<σ.length:=by rw[I.len];exact(b8.mp hi).1
 have t:∀b o,X.s₀.heap.get? b=some o->b≠X.env.locals:=λb o q=>cF (ci (b6 q) I.ok.above)
 refine wpAny_nameGoes_keeps hk P l λY v F a=>?_
 refine h _ ⟨I.ok,I.os,I.bare,⟨λb o e n w f=>(a.2 b (t b o e)).trans (I.base.keep b o e n w f),λb o e n w f=>?_,I.base.free,λb o e f=>?_,I.base.tups,I.base.frzs,I.base.tbls⟩,⟨_,F,λj y W D g O=>?_⟩,λy c e=>?_,I.free,I.freeC,λp hp=>?_,λb G q=>?_,by simpa using I.len⟩
 ·obtain⟨S,q⟩:=I.base.slot b o e n w f
  exact⟨S,(a.2 b (t b o e)).trans q⟩
 ·obtain⟨U,q⟩:=I.base.there b o e f
  exact⟨U,(a.2 b (t b o e)).trans q⟩
 ·by_cases r:j=i
  ·subst r
   rw[iT u]at g
   cases g
  ·rw[ia (Ne.symm r)]at g
   obtain⟨R,V,q⟩:=J j y W D g O
   refine⟨R,V,?_⟩
   rcases q with⟨k,e⟩|⟨k,c,e,z⟩
   ·have L:y≠x:=λz=>r (w9 hN D (z▸hi))
    exact .inl ⟨k,by dsimp only;rw[if_neg L];exact e⟩
   ·exact .inr ⟨k,c,e,z.sameBut a (I.cne y c e)⟩
 ·obtain⟨B,z⟩:=I.cell y c e
  exact⟨B,z.sameBut a (I.cne y c e)⟩
 ·obtain⟨e,n,C,nf,d⟩:=I.pin p hp
  exact⟨(a.2 p.1 C).trans e,n,C,nf,d⟩
 ·refine(I.hok b G q).stay (λc B T z=>(a.2 c ?_).trans z) (λ_ z=>z) λ_ _ z=>z
  rintro rfl
  rcases T with z|z
  ·rw[<-z,I.free]at q;cases q
  ·rw[I.free]at z;cases z
end
def Cx.hold(X:Cx)(a:bV):Cx:={X with A:=X.A.mark (some (.ref a)),calm:=false,xe:=λ_ _=>False}
theorem Cx.Ok.hold{X:Cx}(ok:X.Ok)(a:bV):(X.hold a).Ok:=
 ⟨ok.mod,ok.kind,ok.glob,ok.blt,ok.above,ok.inj,ok.has,ok.cab,(λz=>by cases z),ok.frames,ok.stk,ok.exf,ok.bs,ok.bsz,ok.noex,ok.exfs,ok.funs,ok.frf⟩
section
variable{X:Cx}{pins:List (bV×Obj)}{σ:St}{H:Hp}{s:bS}
theorem Inv.hold(I:Inv X pins σ H s)(a:bV):Inv (X.hold a) pins σ H s:=⟨I.ok.hold a,I.os,I.bare,I.base,I.loc,I.cell,I.free,I.freeC,I.pin,I.hok,I.len⟩
theorem Inv.unhold{a:bV}(ok:X.Ok)(I:Inv (X.hold a) pins σ H s):Inv X pins σ H s:=⟨ok,I.os,I.bare,I.base,I.loc,I.cell,I.free,I.freeC,I.pin,I.hok,I.len⟩
end
def Nj(X:Cx)(e:Expr)(t:XK->TE):Prop:=∀(pins:List (bV×Obj)) (s:bS) (σ:St) (H:Hp) (Q:VK) (E:XK) (xe:bQ->bS->Prop),Inv X pins σ H s->
 (∀H1 s1 e' s',Inv X pins σ H1 s1->GM X.prog X.w X.stack H1 s1 E e' s'->xe e' s')->t E σ H Q->wpAny (model X.prog X.w) X.A (eval e X.env) (EP X pins σ Q) xe s
def MO(X:Cx)(sts:List Stmt)(t:XK->TS):Prop:=∀(pins:List (bV×Obj)) (s:bS) (σ:St) (H:Hp) (D:Ic) (E:XK) (xe:bQ->bS->Prop),Inv X pins σ H s->
 (∀H1 s1 e' s',Inv X pins σ H1 s1->GM X.prog X.w X.stack H1 s1 E e' s'->xe e' s')->t E D σ H->wpAny (model X.prog X.w) X.A (execs sts X.env) (SP X pins D) xe s
section
variable{X:Cx}
theorem A8{i:Nat}{x:Str}{e:Expr}{te:XK->TE}{pos pos':Pos}(hN:X.N.Nodup)(hi:X.N[i]?=some x)(hx:Loc X.env.scope x)(he:Nj X e te)(hs:swapsWith e (some (.Name x pos')) pos.line X.env=pure false:=by rfl)(hf:X.fn x=true\/X.env.scope.names.lookup x=some .local:=by first|exact .inl rfl|exact .inr rfl|assumption):
  MO X [.Assign [.Name x pos'] e pos] (λE=>Ln (te E) (Ia i)):=by
 intro a s j H D E d I c h
 refine iy (eO (Q:=SP X a D) (m5 (Fv (he a s j H _ E d I c h) λv k ⟨y,b,n,l,m⟩=>vK n hN hi hx l (λo g=>⟨_,b,g,m⟩) hf) hs) (λf k q=>?_) λ_ _ z=>z)
 cases f with
 | next=>exact fS q
 | ret v=>exact q
 | brk=>exact q
 | cont=>exact q
theorem En{e:Expr}{te:XK->TE}{pos:Pos}(he:Nj X e te)(hs:swapsWith e none pos.line X.env=pure false:=by rfl):MO X [.Expr e pos] (λE=>L9 (te E)):=by
 intro a s b H D E g I d h;refine iy (eO (Q:=SP X a D) (oJ (Fv (he a s b H _ E g I d h) λv j ⟨x,c,l,m,k⟩=>⟨b,c,l,k⟩) I.quiet hs) (λf j q=>?_) λ_ _ z=>z)
 cases f with
 | next=>exact fS q
 | ret v=>exact q
 | brk=>exact q
 | cont=>exact q
def NU(K:bN)(CW:bV)(ni:Nat)(tb:XK->TS)(ts:TS):TS:=λD σ H=>
 tb (λc _ H1=>∃C,c = .ref C/\d6 K C (.ref CW)=some true/\∀a,H1 a=none->
  ts {nx:=λσ' H'=>D.nx (σ'.set ni none) H',rt:=D.rt,bk:=λσ' H'=>D.bk (σ'.set ni none) H',ct:=λσ' H'=>D.ct (σ'.set ni none) H'} (σ.set ni (some (.ref a))) (upd H1 a (Kg C a))) D σ H
theorem Di{W n:Str}{CW:bV}{ni:Nat}{body suite:List Stmt}{b₀:Stmt}{np hpos pos:Pos}{tb:XK->TS}{ts:TS}(hst:X.stack=X.env::X.outer)(hfr:X.env.frame=some X.env.locals)(hN:X.N.Nodup)(hn:X.N[ni]?=some n)(hnl:X.env.scope.names.lookup n=some .local)
  (hW:HL X.K X.mg W CW)(hg:Gl X W)(hb:MO X body tb)(hs:∀a,PSs (X.hold a) (b₀::suite) ts)(hd:(W==("__debug__":Str))=false:=by decide):
  PS X (.Try body [.ExceptHandler (some (.Name W np)) (some n) (b₀::suite) hpos] [] [] pos) (NU X.K CW ni tb ts):=by
 intro c s σ H D I h
 refine wpAny_Try_except (eO (hb c s σ H D _ (λe L=>wpAny (model X.prog X.w) X.A (noteFrame e X.env) (λ_ E=>wpAny (model X.prog X.w) X.A (setFlight e none) (λ_ t=>wpAny (model X.prog X.w) X.A (handleBy e X.env [.ExceptHandler (some (.Name W np)) (some n) (b₀::suite) hpos]) (SP X c D) X.xe t) X.xe E) X.xe L) I ?_ h) (λf s1 q=>?_) λ_ _ z=>z)
 ·rintro H1 s1 e' s' M ⟨a,C,B,S,k,rfl,F,C',Q,Y,hk⟩
  cases Q
  have R:=F.fly
  have b:=M.ok.frames
  rw[hst]at R b
  refine wpAny_looks_onW b hfr R λh4 o m=>?_
  refine wpAny_landsW o λh5 j l=>?_
  have y:kY B X.stack a (.ref C) S h5:=by rw[hst];exact j
  have G:=M.caught F y (m.trans l)
  obtain⟨oe,ho,hc⟩:=j.there
  have T:h5.Ns X.env.globals X.mg:=by rw[I.ok.glob];exact G.mod.glob.keeps G.bk
  refine wpAny_handleBy_cons (codeAny_handlers_test (ib I.ok.kind hg (kz T hW.bound ?_) hd)) (by intro q;cases q)
  refine ym G.kIn hW.exc Y ho hc (codeAny_handlers_suite_as ?_)
  refine lands_againW j λh6 O P=>?_
  have p:kY B X.stack a (.ref C) S h6:=by rw[hst];exact O
  have V:=M.caught F p ((m.trans l).trans P)
  refine vK (X:=X.hold a) (v:= .ref a) (V.hold a) hN hn (.inl hnl) rfl (λU Z=>?_) (.inr hnl)
  refine eO (hs a c U _ _ _ Z (hk a F.free)) (λf s8 q=>?_) λ_ _ z=>dI z
  show wpAny _ X.A (do bindName X.env n .none;unbindBehindTheSuite X.env n hpos) _ _ _
  cases f with
  | next=>obtain⟨g,k,J,q⟩:=q;exact uL (J.unhold I.ok) hN hn hnl λx d=>⟨_,_,d,q⟩
  | brk=>obtain⟨g,k,J,q⟩:=q;exact uL (J.unhold I.ok) hN hn hnl λx d=>⟨_,_,d,q⟩
  | cont=>obtain⟨g,k,J,q⟩:=q;exact uL (J.unhold I.ok) hN hn hnl λx d=>⟨_,_,d,q⟩
  | ret u=>obtain⟨v,g,k,J,r,q⟩:=q;exact uL (J.unhold I.ok) hN hn hnl λx d=>⟨v,_,_,d,r,q⟩
 ·cases f with
  | next=>exact fS q
  | ret v=>exact q
  | brk=>exact q
  | cont=>exact q
end
structure L8(K:bN)(C:bV):Prop where
 exc:f8 K C MQ "ValueError.__new__"=true
 ga:eP K (.ref C) "__getattribute__"=some (some (.builtin "BaseException.__getattribute__"))
 noG:eP K (.ref C) "__getattr__"=some none
 cl:eP K (.ref C) "__class__"=some (some (.builtin "object.__class__"))
 mo:d6 K C (.type "object")=some true
 sg:PySem.W.specialIn K (.builtin "object.__class__") "__get__"=some (some (.builtin "getset_descriptor.__get__"))
 tk:PySem.W.takesIn K (.builtin "object.__class__")=some true
 mB:d6 K C (.type "BaseException")=some true
section
variable{prog:cg}{w:cC}{A:cO}{E:bQ->bS->Prop}{K:bN}{h:Heap}{g:Array GenState}{d:Drawn}{t:Nat}{os:OsState}{a C:bV}{o:Obj}
theorem EB{R:Result->bS->Prop}{tp:bQ}(X:K.In h)(F:L8 K C)(ha:h.get? a=some o)(hc:o.cls = .ref C)(hq:R (.ok (.ret (.ref C))) ⟨h,g,d,t,os⟩):
  codeAny (model prog w) A (.call (.builtin "getset_descriptor.__get__") ⟨[.builtin "object.__class__",.ref a,tp],[]⟩) R ⟨h,g,d,t,os⟩:=by
 have b:f9 (model prog w) h (typeOf (.ref a)) (.ref C):=hc▸(f9.ld ha).andThen .now
 have c:=ju (M:=model prog w) X F.mo
 refine im mM.plain q5 (mM.check _ _ _ _ _ _ _ _ qy (rj _ _ _) ?_)
 unfold Builtin.«getset_descriptor.__get__» mO
 rw[PySem.W.dga_obj]
 refine bM (bO ?_)
 unfold ma kG kU isInstance
 simp only[qh]
 repeat lk
 refine⟨gl _ (by decide +kernel),dS qi ?_⟩
 unfold Builtin.«object.__class__» shownTypeOf
 repeat lk
 exact hq
theorem CU{tk:Tok}{Q:Fin->bS->Prop}(X:K.In h)(F:L8 K C)(ha:h.get? a=some o)(hc:o.cls = .ref C)(hq:Q (.done (.ret (.ref C))) ⟨h,g,d,t,os⟩):
  wpAny (model prog w) A (Builtin.«object.__getattribute__» ⟨[.ref a,.str "__class__" tk],[]⟩) Q E ⟨h,g,d,t,os⟩:=by
 have b:f9 (model prog w) h (typeOf (.ref a)) (.ref C):=hc▸(f9.ld ha).andThen .now
 have e:=ic (M:=model prog w) X F.cl
 have c:=PySem.W.looks_specialIn (M:=model prog w) X F.sg
 unfold Builtin.«object.__getattribute__»
 repeat (first|with_reducible refine gh ?_|lk)
 refine EB X F ha hc ?_
 repeat lk
 exact hq
theorem DM{tk:Tok}{R:Result->bS->Prop}(X:K.In h)(F:L8 K C)(ha:h.get? a=some o)(hc:o.cls = .ref C)(hq:R (.ok (.ret (.ref C))) ⟨h,g,d,t,os⟩):
  codeAny (model prog w) A (.call (.builtin "BaseException.__getattribute__") ⟨[.ref a,.str "__class__" tk],[]⟩) R ⟨h,g,d,t,os⟩:=by
 refine im jH.ga.plain PySem.F.entry_bexc_ga ?_
 have f:f9 (model prog w) h (typeOf (.ref a)) (.ref C):=hc▸(f9.ld ha).andThen .now
 have j:=ju (M:=model prog w) X F.mB
 have b:builtinKind "BaseException.__getattribute__"=some .slot:=by decide +kernel
 have c:splitId "BaseException.__getattribute__"=some ("BaseException","__getattribute__"):=by decide +kernel
 have e:=PySem.F.args_bexc_ga (.ref a) (.str "__class__" tk)
 simp only[checkBuiltinCall,b,c]
 refine bM ?_
 unfold isInstance
 repeat (first|with_reducible refine CU X F ha hc ?_|lk)
 exact hq
theorem DW{Q:Option bQ->bS->Prop}(X:K.In h)(F:L8 K C)(ha:h.get? a=some o)(hc:o.cls = .ref C)(hq:Q (some (.ref C)) ⟨h,g,d,t+1,os⟩):
  wpAny (model prog w) A (getAttr? (.ref a) "__class__") Q E ⟨h,g,d,t,os⟩:=by
 have e:f9 (model prog w) h (typeOf (.ref a)) (.ref C):=hc▸(f9.ld ha).andThen .now
 have f:=ic (M:=model prog w) X F.ga
 have c:=ic (M:=model prog w) X F.noG
 have b:(onTheHeap (b5 C)&&jf "BaseException.__getattribute__"==jf "object.__getattribute__")=false:=by
  have z:(jf "BaseException.__getattribute__"==jf "object.__getattribute__")=false:=by decide +kernel
  rw[z,jC]
 unfold getAttr? getAttrBy? getAttrBy
 refine bM (wpAny_mkText (bM (gb (cR (bM (e.at (bM (f.at ?_))))))))
 dsimp only
 rw[if_neg (by rw[b];decide)]
 unfold getAttrByItsOwn
 refine bM ?_
 unfold hookBefore
 rw[if_pos (by rfl)]
 refine c.at ?_
 refine bM (gb (cR ?_))
 unfold callGetattribute
 rw[if_neg (by decide)]
 unfold boundAndCalled
 rw[jH.ga.bind (.ref a)]
 refine bM (bO ?_)
 refine gh (DM X F ha hc ?_)
 refine eR (a:=b5 C) rfl ?_
 exact bO hq
theorem zp(F:L8 K C):PySem.W.KitX K (.ref a) (.ref C) (λh=>∃o,h.get? a=some o/\o.cls = .ref C) where
 ty:=λ_ _ _ ⟨o,f,j⟩=>j▸(f9.ld f).andThen .now
 it:=λM h X _=>by
  obtain⟨O,P,r,u,J,c,B,sub,G,p,m,H,y,x,L,I,N,b,_⟩:=xC X F.exc
  intro V S T Y k q
  unfold isType loadHead
  exact bM (oK (k _ _ b) (bO q))
 ne:=λh v m R n Z X l=>by
  obtain⟨O,P,r,u,J,c,B,sub,G,p,m,H,y,x,L,I,N,b,_⟩:=xC X F.exc
  refine nu.mpr λq=>?_
  have e:C=v:=b5.inj (beq_iff_eq.mp q)
  rw[e,l]at b
  have z:=congrArg rC (Option.some.inj b)
  exact nomatch z
 ca:=λ {D w A E Q s} X ⟨o,f,j⟩ k=>by
  obtain⟨U,g,d,t,os⟩:=s
  exact DW X F f j k
end
section
variable{X:Cx}
theorem tF:FW X (.builtin "isinstance") (λxs H Q=>∃a C c b,xs=[.ref a,c]/\H a=some (Kg C a)/\L8 X.K C/\((∃W,c = .ref W/\fe X.K (.ref C) (.ref W)=some b)\/(∃T,c = .ty T/\fe X.K (.ref C) (.type T)=some b))/\Q (.bl b) H):=by
 intro l s m H xs n Q I r h;obtain⟨a,C,c,b,rfl,k,F,hk,q⟩:=h;obtain⟨u,d,rfl,j,g⟩:=Kb r
 cases(show u=b5 a from j);obtain⟨⟨o,e,f,_⟩,_,_⟩:=I.hok a _ k;rcases hk with⟨W,rfl,hk⟩|⟨T,rfl,hk⟩
 ·cases(show d=b5 W from g);exact fW (zp F) I.kIn ⟨o,e,f⟩ hk (λz=>nomatch z) λtk=>⟨.bl b,H,I.tok tk,rfl,q⟩
 ·cases(show d=cX T from g);exact fW (zp F) I.kIn ⟨o,e,f⟩ hk (λz=>nomatch z) λtk=>⟨.bl b,H,I.tok tk,rfl,q⟩
theorem u9{x:Str}{C:bV}{pos:Pos}(h:HL X.K X.mg x C)(hg:Gl X x:=by rfl)(hd:(x==("__debug__":Str))=false:=by decide):PE X (.Name x pos) (tC (.ref C)):=Ec hg h.bound rfl hd
end
section
variable{P:cg}{w:cC}{K:bN}{mg:Str->Option bQ}{base:Heap}
theorem Def.okE{x:Str}{st:Stmt}{N ps:List Str}{k:Nat}{sp:Sp}(F:Def K mg x st)(S:Fi N ps (Ff st))(len:∀vs H Q E,sp vs H Q E->vs.length=ps.length)
  (hb:∀(kV doc pm:bQ) (an:Option bV) (cdv ct:bQ) (us:List bQ),us.length=ps.length->bindArgs (fD x x (Fw st) (Fp st) (Ff st) .none kV doc pm an cdv ct) ⟨us,[]⟩=pure (ps.zip us))
  (hbody:∀(f:bV) (cdv:bQ) (A:cO) (outer:List Env) (s:bS) (H:Hp) (vs:List V) (Q:VK) (E:XK),Room k (A.deeper (envOfC x (Ff st) s.heap.objs.size f cdv))->sp vs H Q E->
   ∃t,PSs (Jy P w K mg base N x (Ff st) f cdv A outer s H E) (Fp st) t/\t {nx:=λ_ H'=>Q .non H',rt:=Q} (start N vs) H):Dn P w K mg base (GM P w) (k+1) x ps sp:=by
 obtain⟨f,j,F,m⟩:=F
 have c:=F.binds hb
 have e:=F.kp
 obtain⟨l,h,kV,doc,pm,an,cdv,ct,g,rfl,lk,b⟩:=F.ex
 exact⟨f,_,CC lk b S len λA outer s H vs Q E d a=>hbody f cdv A outer s H vs Q E d a,m,e,c⟩
theorem JQ{X:Cx}:FS (GM X.prog X.w) X E0:=λ_ _ _ _ _ _ _ ⟨_,_,_,_,_,_,_,z⟩=>z.elim
end
structure Xs where
 WishError:bV
 NoFraction:bV
 NoWishes:bV
 NoTable:bV
 NoPick:bV
 NoOrder:bV
 NoRoll:bV
 NoPerson:bV
 Unready:bV
 NoWay:bV
theorem DE{K:bN}{C:bV}{bmB:List bQ}{nid:String}(q:f8 K C bmB nid=true):∃(d:Option bV) (cd:ClassData) (sl:Array (Option bQ)) (bm:List bQ),K.lookup C=some ⟨.type "type",d,.cls cd,sl⟩/\cd.mro = .ref C::bm:=by
 unfold f8 at q;split at q
 ·rename_i dd cd sl hlk
  split at q
  ·rename_i C' bm u0 u1 u2 u3 n u5 hmro hsl
   simp only[cH,beq_iff_eq]at q;obtain⟨⟨⟨⟨⟨rfl,_⟩,_⟩,_⟩,_⟩,_⟩:=q;exact⟨dd,cd,sl,bm,hlk,hmro⟩
  ·cases q
 ·cases q
theorem EF{K:bN}{C W:bV}{b:Bool}(qW:f8 K W MQ "ValueError.__new__"=true)(m:d6 K C (.ref W)=some b):fe K (.ref C) (.ref W)=some b:=by
 obtain⟨d,g,k,j,c,e⟩:=DE qW;have a:pP K W=some g:=by unfold pP;rw[c]
 unfold fe;by_cases h:C=W
 ·subst h;rw[if_pos (by simp)];unfold d6 at m;rw[a]at m;simp[e]at m;rw[m]
 ·rw[if_neg (by simpa using h)];unfold lV;have f:oM K (.ref W)=some (.type "type"):=by
   show(K.lookup W).map _=_;rw[c];rfl
  simp only[a,f,mK,beq_self_eq_true,pQ,if_true];exact m
theorem DA{K:bN}{C:bV}{b:Bool}(m:d6 K C (.type "ValueError")=some b):fe K (.ref C) (.type "ValueError")=some b:=by
 unfold fe;rw[if_neg (by simp)];unfold lV;dsimp only;rw[if_pos (by decide +kernel)];exact m
def FV(x:Xs):Sp:=λvs H Q E=>∃t b:Int,vs=[.int t,.int b]/\(b=0->E (.ref x.NoFraction) none H)/\(b≠0->b.natAbs<2^9000/\∀p H',Same H H'->H' p=some (Lf (FQ.red t b))->Q (.ref p) H')
def Ir(K:bN):Sp:=λvs H Q _=>∃a b x y,vs=[.ref a,.ref b]/\SqT K H a [.int x.1,.int x.2]/\SqT K H b [.int y.1,.int y.2]/\Sz 4000 x/\Sz 4000 y/\Q (.bl (decide (x.1*y.2<y.1*x.2))) H
theorem Sz.up{m n:Nat}{p:Int×Int}(h:Sz m p)(hmn:m<=n):Sz n p:=⟨v9 h.1 hmn,v9 h.2.1 hmn,h.2.2⟩
theorem Ca{a b:Int}{m:Nat}(h1:a.natAbs<2^m)(h2:b.natAbs<2^m):(a+b).natAbs<2^(m+1):=by
 have:=Int.natAbs_add_le a b;rw[qj];omega
section
variable{X:Cx}
theorem Eg{xs:List V}{us:List bQ}(r:Vals xs us){i:Nat}{u:bQ}(h:us[i]?=some u):∃x,xs[i]?=some x/\RelV x u:=by
 have b:=r.length;have c:i<us.length:=(b8.mp h).1;have e:xs[i]?=some xs[i]:=by simp[show i<xs.length by omega]
 obtain⟨a,h1,h2⟩:=r.get e;rw[h]at h1
 cases h1;exact⟨_,e,h2⟩
theorem zi(hc:X.calm=true):FW X (.builtin "all") (λxs H Q=>∃(p:bV) (bs:List Bool),xs=[.ref p]/\SqL X.K H p (bs.map V.bl)/\Q (.bl (bs.all id)) H):=by
 intro D s F H xs J Q I r h;obtain⟨p,bs,rfl,C,q⟩:=h;obtain⟨u,rfl,g⟩:=F6 r
 cases(show u=b5 p from g);obtain⟨c,z,k,G⟩:=I.list C;have t:=z.length;rw[bP]at t;have hp:p<s.heap.objs.size:=by obtain⟨_,e,_⟩:=k.isList;exact b6 e
 have n:TruthOf X.prog X.w X.A.in1 (λi v=>c.toArray[i]?=some v) (λi=>bs.getD i false):=λi v s Q E j m=>by
  dsimp only at j m;rw[ja]at j;obtain⟨x,a,g⟩:=Eg z j;rw[bZ]at a
  cases l:bs[i]? with
  | none=>rw[l]at a;cases a
  | some b=>
   rw[l]at a
   cases a
   cases(show v=dH b from g);have e:bs.getD i false=b:=by simp[bR,l]
   rw[e]at m;exact bO m
 refine call_all_walk (hO k.isList ⟨s.heap.objs.size,_,_,_,_,_,_,rfl,oQ (A:=X.A.in1) (I.ok.hd hc) s.heap.objs.size p (cF hp) c.toArray,⟨⟨_,b4 _ rfl,rfl,rfl⟩,k.isList.push _⟩,n,λL tk hk=>?_⟩);have e:(cp c.toArray.size).all (λi=>bs.getD i false)=bs.all id:=by
  rw[cc,<-t];apply fT.mpr;rw[de,de];constructor
  ·intro h x a;obtain⟨i,d,rfl⟩:=dW.mp a;have:=h i (dq.mpr d);simpa [d]using this
  ·intro h i d;have f:=dq.mp d;have:=h bs[i] (cm f);simpa [f]using this
 rw[e];refine⟨.bl _,H,I.kept λb o B=>hk b o (λy=>?_) (bU _ B),rfl,q⟩;rw[bY]at y;subst y;exact absurd (b6 B) (cJ _)
theorem vB{ns:List Int}:∀{vs:List bQ},Vals (ns.map V.int) vs->IntsAre vs ns:=by
 induction ns with
 | nil=>intro vs r;cases r;exact .nil
 | cons n ns b=>
  intro vs r
  cases r with
  | cons r a=>
   obtain⟨t,rfl⟩:=(show ∃t,_=dn n t from r);exact .cons _ _ (b a)
theorem vY{prog:cg}{w:cC}{A:cO}{E:bQ->bS->Prop}{s:bS}{l:bV}{vs:List bQ}{Q:List bQ->bS->Prop}(ht:IsTup s.heap l vs.toArray)(hsz:vs.length<=sizeLine)
  (h:Q vs {s with heap:=(s.heap.push (seqObj "list" #[] 0)).update s.heap.objs.size (dr (· ++ vs.toArray))}):wpAny (model prog w) A (collect (.ref l)) Q E s:=by
 obtain⟨o,f,c,n,d⟩:=ht
 have b:(s.heap.push (seqObj "list" #[] 0)).get? l=some o:=bU _ f
 have a:(s.heap.push (seqObj "list" #[] 0)).get? s.heap.objs.size=some (seqObj "list" #[] 0):=b4 _ rfl
 unfold collect
 refine bM (jI (dS lF ?_))
 change wpAny _ _ (do again (.builtin "list.__iadd__" ⟨[<-newList [],.ref l],[]⟩)) _ _ s
 refine bM (iJ (bO ⟨gl _ (by decide +kernel),dS nv ?_⟩))
 change wpAny _ _ (fA (.ref s.heap.objs.size) (.ref l) (.ref s.heap.objs.size)) _ _ {s with heap:=s.heap.push (seqObj "list" #[] 0)}
 unfold fA
 refine bM (gS (T:="tuple") ⟨o,b,c⟩ ?_)
 rw[if_pos (by rw[show(cX "tuple"==cX "tuple")=true from rfl];simp)]
 refine bM (ql b d ?_)
 refine bM (ql (xs:= #[]) (n:=0) a rfl ?_)
 rw[if_neg (by simp)]
 refine bM (g8 (xs:= #[]) (n:=0) a rfl ?_ (cM _) (by change (#[]++vs.toArray).size<=sizeLine+1;simp only[Array.size_append,cc,lx];omega))
 refine bO ?_
 change wpAny (model prog w) A (do
   let o<-load s.heap.objs.size
   match o.data with
   | .seq xs _=>pure xs.toList
   | _=>unsupported "internal:collect") Q E {s with heap:=(s.heap.push (seqObj "list" #[] 0)).update s.heap.objs.size (dr (· ++ vs.toArray))}
 refine bM (wpAny_load (get?_update_seq a _) ?_)
 change wpAny _ _ (pure ((#[]:Array bQ)++vs.toArray).toList) Q E _
 have e:((#[]:Array bQ)++vs.toArray).toList=vs:=by simp
 rw[e]
 exact bO h
theorem Ap{prog:cg}{w:cC}{A:cO}{E:bQ->bS->Prop}{s:bS}{l:bV}{vs:List bQ}{ns:List Int}{Q:bQ->bS->Prop}(ht:IsTup s.heap l vs.toArray)(hI:IntsAre vs ns)(h64:vs.length<64)
  (h:∀(out:Array bQ) (ns':List Int),IntsAre out.toList ns'->ns'.Perm ns->ns'.Pairwise (· <= ·)->Q (.ref (s.heap.objs.size+1)) {s with heap:=sortedAll s.heap vs out}):
  wpAny (model prog w) A (call (.builtin "sorted") [.ref l]) Q E s:=by
 have a:((s.heap.push (seqObj "list" #[] 0)).update s.heap.objs.size (dr (· ++ vs.toArray))).objs.size=s.heap.objs.size+1:=by rw[nX,kZ]
 have b:(((s.heap.push (seqObj "list" #[] 0)).update s.heap.objs.size (dr (· ++ vs.toArray))).push (seqObj "list" vs.toArray 0)).get? (s.heap.objs.size+1)=some (seqObj "list" vs.toArray 0):=by
  rw[<-a];exact b4 _ rfl
 refine gu om nw ny (nA _) ?_
 unfold Builtin.«sorted»
 refine bM (m:=checkCount "sorted" 1 1 _) (bO ?_)
 have d:vs.length<=sizeLine:=cx (Fg (by omega))
 refine bM (vY ht d (bM (iJ ?_)))
 change wpAny _ _ _ _ _ {s with heap:=((s.heap.push (seqObj "list" #[] 0)).update s.heap.objs.size (dr (· ++ vs.toArray))).push (seqObj "list" vs.toArray 0)}
 rw[a]
 refine bM (cR (df lW ⟨_,b,rfl⟩ ly (oR b hI h64 λout ns' c f e=>⟨_,rfl,?_⟩) (lX _)))
 exact bO ⟨_,rfl,h out ns' c f e⟩
theorem yA:FW X (.builtin "sorted") (λxs H Q=>∃(p:bV) (ns:List Int),xs=[.ref p]/\(SqL X.K H p (ns.map V.int)\/SqT X.K H p (ns.map V.int))/\ns.length<64/\∀(l:bV) (ns':List Int),H l=none->ns'.Perm ns->ns'.Pairwise (· <= ·)->Q (.ref l) (upd H l (.lst (ns'.map V.int)))):=by
 intro k s v H xs C Q I r h;obtain⟨p,ns,rfl,f,B,q⟩:=h;obtain⟨u,rfl,n⟩:=F6 r
 cases(show u=b5 p from n);have fin:∀(a:List bQ),Vals (ns.map V.int) a->∀(d:Array bQ) (ns':List Int),IntsAre d.toList ns'->ns'.Perm ns->ns'.Pairwise (· <= ·)->EP X k v Q (.ref (s.heap.objs.size+1)) {s with heap:=sortedAll s.heap a d}:=λa c d ns' t m z=>by
  obtain⟨e,A⟩:=qm s.heap a d;refine⟨.ref (s.heap.objs.size+1),_,I.laid (t':=s.toks) (λb o y=>pR y) (dJ _) (show ObjOk X.prog X.w _ _ _ (.lst (ns'.map V.int))from⟨?_,d.toList,e,uY t,by rw[A]⟩),rfl,q _ ns' (I.hok.fresh (dJ _)) m z⟩;rw[bP,m.length_eq];exact cx (Fg (by omega))
 rcases f with f|f
 ·obtain⟨a,c,j,x⟩:=I.list f;have g:=c.length;rw[bP]at g;exact sorted_ints j.isList (vB c) (by omega) (fin a c)
 ·obtain⟨a,c,j,x⟩:=I.tuple f;have g:=c.length;rw[bP]at g;exact Ap j (vB c) (by omega) (fin a c)
theorem zL{pins:List (bV×Obj)}{σ:St}{H:Hp}{s:bS}{A:cO}{E:bQ->bS->Prop}{Q:bQ->bS->Prop}{tp:bV}{dd:Option bV}{its:List bQ}{n:Nat}{sl:Array (Option bQ)}{b:Bool}{x:V}{u:bQ}{t:String}(I:Inv X pins σ H s)(rx:RelV x u)(ty:tyOf X.K H x t)
  (htp:s.heap.get? tp=some ⟨.type "tuple",dd,.seq its.toArray n,sl⟩)(e:oS X.K (.type t) its=some b)(h:∀tk,Q (.bool b) {s with toks:=tk}):wpAny (model X.prog X.w) A (call (.builtin "isinstance") [u,.ref tp]) Q E s:=by
 cases x with
 | non=>cases(show u=bQ.none from rx);cases(show t="NoneType"from ty);exact gY nk I.kIn True.intro htp e (λz=>nomatch z) h
 | bl y=>cases(show u=dH y from rx);cases(show t="bool"from ty);exact gY nl I.kIn True.intro htp e (λz=>nomatch z) h
 | int i=>obtain⟨tk,q⟩:=(show ∃t,u=dn i t from rx);cases q;cases(show t="int"from ty);exact gY nU I.kIn True.intro htp e (λz=>nomatch z) h
 | str y=>obtain⟨tk,q⟩:=(show ∃t,u=g7 y t from rx);cases q;cases(show t="str"from ty);exact gY nV I.kIn True.intro htp e (λz=>nomatch z) h
 | ref a=>
  cases(show u=b5 a from rx)
  rcases ty with⟨rfl,f,d⟩|⟨rfl,f,d⟩
  ·obtain⟨c,_,⟨o,g,h1,h2,_⟩,_⟩:=I.list d
   exact gY nq I.kIn ⟨o,h1,h2⟩ htp e (λz=>nomatch z) h
  ·obtain⟨c,_,⟨o,h1,h2,_⟩,_⟩:=I.tuple d
   exact gY mL I.kIn ⟨o,h1,h2⟩ htp e (λz=>nomatch z) h
 | byt _=>exact ty.elim
 | flt _=>exact ty.elim
 | ty _=>exact ty.elim
theorem BD:FW X (.builtin "isinstance") (λxs H Q=>∃x p t,xs=[x,.ref p]/\SqT X.K H p [.ty "list",.ty "tuple"]/\tyOf X.K H x t/\Q (.bl (Ie t "list"||Ie t "tuple")) H):=by
 intro m s C H xs E Q I r h;obtain⟨x,p,t,rfl,g,ty,q⟩:=h;obtain⟨u,f,rfl,d,w⟩:=Kb r
 cases(show f=b5 p from w);obtain⟨c,v,⟨o,h1,h2,n,h3⟩,_⟩:=I.tuple g;have e:c=[cX "list",cX "tuple"]:=by
  cases v with
  | cons y a=>
   cases a with
   | cons l a=>
    cases a
    cases(show _=cX "list"from y)
    cases(show _=cX "tuple"from l);rfl
 subst e;obtain⟨D,B,A,z⟩:=o;dsimp only at h2 h3;subst h2 h3;refine zL I d ty h1 (b:=Ie t "list"||Ie t "tuple") ?_ λtk=>⟨.bl _,H,I.tok tk,rfl,q⟩;have k:=Bj (K:=X.K) (T:="list") (v7 ty) (by decide);have j:=Bj (K:=X.K) (T:="tuple") (v7 ty) (by decide);simp only[oS,k,j]
 cases Ie t "list" <;> cases Ie t "tuple" <;> rfl
end
mutual
theorem Bv:∀(n:Nat) (d:il),GQ n d=true->d.canLay0=true/\d.depth<=n
 | _,.none,_=>by simp[io,iz]
 | _,.bool _,_=>by simp[io,iz]
 | _,.int _,_=>by simp[io,iz]
 | n,.str x,h=>by
  have a:eg (.str x)=true:=by cases n <;> simpa [GQ]using h
  exact⟨SeqAt.canLay_of_shaped a,by simp[iz]⟩
 | n+1,.tuple ds,h=>by
  have:=xJ n ds (by simpa [GQ]using h)
  simp[io,iz,this]
 | n+1,.list ds,h=>by
  have:=xJ n ds (by simpa [GQ]using h)
  simp[io,iz,this]
 | 0,.tuple _,h=>by simp[GQ]at h
 | 0,.list _,h=>by simp[GQ]at h
 | 0,.dict _,h=>by simp[GQ]at h
 | _+1,.dict _,h=>by simp[GQ]at h
theorem xJ:∀(n:Nat) (ds:List il),(∀d∈ds,GQ n d=true)->j1 ds=true/\lz ds<=n
 | n,[],_=>by simp[j1,lz]
 | n,d::ds,h=>by
  have h1:=Bv n d (h d b0)
  have h2:=xJ n ds λx a=>h x (b3 _ a)
  simp only[j1,lz,h1.1,h2.1,pQ,true_and]
  omega
end
theorem sx{n:Nat}{d:il}(h:GQ n d=true)(hn:n<=64):eg d=true:=by
 have:=Bv n d h;unfold eg;rw[this.1];simp;omega
theorem tyOf.mono{K:bN}{H H':Hp}{x:V}{t:String}(e:Same H H')(h:tyOf K H x t):tyOf K H' x t:=by
 cases x with
 | ref a=>
  rcases h with⟨h1,b,c⟩|⟨h1,b,c⟩
  ·exact .inl ⟨h1,b,e.seq c⟩
  ·exact .inr ⟨h1,b,e.tup c⟩
 | non=>exact h
 | bl _=>exact h
 | int _=>exact h
 | str _=>exact h
 | byt _=>exact h
 | flt _=>exact h
 | ty _=>exact h
theorem EY{X:Cx}{tg l:Expr}{tl:TE}(hl:PE X l tl):PI X tg l (λσ H R=>Mc X.K tl σ H R\/NF X.K tl σ H R):=by
 intro a s σ H R I h;rcases h with h|h
 ·exact tE hl a s σ H R I h
 ·exact vP hl a s σ H R I h
section
variable{X:Cx}{K:bN}
theorem xD(h:X.K=K):FW X (.type "list") (λxs H Q=>∃p ys,xs=[.ref p]/\(SqL K H p ys\/SqT K H p ys)/\∀l,H l=none->Q (.ref l) (upd H l (.lst ys))):=by subst h;exact sT
theorem t9(h:X.K=K):IxR X (MA K):=by subst h;exact rY
theorem xi(h:X.K=K):IxR X (Mx K):=by subst h;exact rZ
theorem u8(h:X.K=K):FW X (.builtin "len") (λxs H Q=>∃p ys,xs=[.ref p]/\(SqL K H p ys\/SqT K H p ys)/\Q (.int ys.length) H):=by subst h;exact rV
theorem DL{k:Nat}(h:X.K=K)(hr:Room k X.A):Gw X (compareOp .Eq) (M8 K):=by subst h;exact vb hr
theorem Bd{k:Nat}(h:X.K=K)(hr:Room k X.A):Gw X (compareOp .NotEq) (Nu K):=by subst h;exact vW hr
theorem u7(h:X.K=K):Gw X (compareOp .NotIn) (NV K true):=by subst h;exact tI
theorem vD{x:Str}{xs:List V}{pos:Pos}(e:X.K=K)(h:L3 K X.mg x xs)(hg:Gl X x:=by rfl)(hd:(x==("__debug__":Str))=false:=by decide):PE X (.Name x pos) (L7 K xs):=by subst e;exact uj h hg hd
structure NW(X:Cx)(st:Stmt)(t:TS):Prop where
 h:PS X st t
structure K6(X:Cx)(ss:List Stmt)(t:TS):Prop where
 h:PSs X ss t
theorem Ev{ss:List Stmt}{t:TS}(h:PSs X ss t):K6 X ss t:=⟨h⟩
theorem vH{st:Stmt}{ss:List Stmt}{t u:TS}(h1:PS X st t)(h2:K6 X ss u):K6 X (st::ss) (LY t u):=⟨rF h1 h2.h⟩
theorem AV{st:Stmt}{ss:List Stmt}{t u:TS}(h1:NW X st t)(h2:K6 X ss u):K6 X (st::ss) (LY t u):=⟨rF h1.h h2.h⟩
end
end L2
namespace LM
def rng(n:Nat):List Int:=(cp n).map gH
theorem rng_len(n:Nat):(rng n).length=n:=by simp[rng]
theorem mem_rng{n:Nat}{x:Int}:x∈rng n↔0<=x/\x<n:=by
 unfold rng;simp only[cP,dq];constructor
 ·rintro⟨a,h,rfl⟩;simp;omega
 ·rintro⟨h0,h1⟩;exact⟨x.toNat,by omega,by simp;omega⟩
theorem Ao(n:Nat):(rng n).Pairwise (· <= ·):=by
 unfold rng;rw[iX];refine j2 ?_ (k6 (n:=n));intro a b h;simp;omega
theorem rng_nodup(n:Nat):(rng n).Nodup:=by
 unfold rng;rw[List.nodup_iff_pairwise_ne,iX];refine j2 ?_ (k6 (n:=n));intro a b h z;have:a=b:=gH.inj z;omega
theorem yC{a b r:List Int}(ha:a.Perm r)(hs:a.Pairwise (· <= ·))(hr:r.Pairwise (· <= ·)):a=r:=
 kd (λx y _ _ h1 h2=>Int.le_antisymm h1 h2) hs hr ha
end LM
namespace L2
open PySem PySem.Spec PyProof.Rows
def IV(K:bN):Sp:=λvs H Q _=>∃v t,vs=[v]/\tyOf K H v t/\∀H',Same H H'->Q (.bl (Ie t "list"||Ie t "tuple")) H'
def J6(K:bN):Sp:=λvs H Q _=>∃a us,vs=[.ref a]/\(SqL K H a us\/SqT K H a us)/\∀H',Same H H'->Q (.bl (decide (1<=us.length/\us.length<=6))) H'
theorem SqL.over{K:bN}{H:Hp}{a p:bV}{o:HO}{xs:List V}(h:SqL K H a xs)(hne:a≠p):SqL K (upd H p o) a xs:=by
 rcases h with(h|⟨u,h⟩)|h
 ·exact .inl (.inl (by rw[rQ hne];exact h))
 ·exact .inl (.inr ⟨u,by rw[rQ hne];exact h⟩)
 ·exact .inr h
def fr(T:Int)(m:List Int):List (Int×Int):=m.map λx=>FQ.red x T
def RwFT(K:bN)(H:Hp)(T:Int)(v:V)(m:List Int):Prop:=∃a gs,v = .ref a/\SqT K H a gs/\cT (IsF K H) gs (fr T m)
theorem rW{K:bN}{H H':Hp}{gs:List V}{ps:List (Int×Int)}(e:Same H H')(h:cT (IsF K H) gs ps):cT (IsF K H') gs ps:=Paired.mapP h λ_ _ q=>q.mono e
theorem RwFT.mono{K:bN}{H H':Hp}{T:Int}{v:V}{m:List Int}(e:Same H H')(h:RwFT K H T v m):RwFT K H' T v m:=by
 obtain⟨a,b,rfl,q,c⟩:=h;exact⟨a,b,rfl,e.tup q,rW e c⟩
end L2
namespace LN
open LM
def Pm(n:Nat)(l:List Int):Prop:=l.Perm (rng n)
theorem Pm.len{n:Nat}{l:List Int}(h:Pm n l):l.length=n:=by rw[q8 h,rng_len]
theorem Pm.mem{n:Nat}{l:List Int}(h:Pm n l){x:Int}:x∈l↔0<=x/\x<n:=by rw[rl h];exact mem_rng
theorem Pm.nodup{n:Nat}{l:List Int}(h:Pm n l):l.Nodup:=(q9 h).mpr (rng_nodup n)
theorem findSome_snoc{α:Type}{f:Nat->Option α}{i:Nat}(h:(cp i).findSome? f=none):(cp (i+1)).findSome? f=f i:=by
 rw[fG,lG,h];simp
theorem findSome_up{α:Type}{f:Nat->Option α}{i n:Nat}{r:α}(h:(cp i).findSome? f=some r)(hn:i<=n):(cp n).findSome? f=some r:=by
 have e:cp n=cp i++(cp (n-i)).map (i + ·):=by
  rw[<-List.range_add]
  congr 1
  omega
 rw[e,lG,h];rfl
end LN
namespace L2
open PySem PySem.Spec PyProof.Rows
section
variable{X:Cx}{pins:List (bV×Obj)}{σ:St}{H:Hp}{s:bS}{h':Heap}
theorem Inv.turnedL{t':Nat}{fp:List bV}(I:Inv X pins σ H s)(k:∀b o,b∉fp->s.heap.get? b=some o->h'.get? b=some o)(hf:∀b∈fp,HJ X pins H b):Inv X pins σ H {s with heap:=h',toks:=t'}:=by
 have d:∀b u,H b=some u->b∉fp:=λb u e z=>by rw[(hf b z).1]at e;cases e
 refine I.step (g':=s.gens) (d':=s.drawn) (ch:=fp) (λb p=>?_) (λb o _ _ a e _=>k b o a e) (λb o _ _ a e _=>⟨o.slots,k b o a e⟩) (λ_ _ _ _ n=>n)
  (λb o a e=>⟨o,k b o a e⟩) (λ_ _ e=>e) (λ_ _ _ e=>e) (λb B e=>⟨#[],by rw[e];simp⟩) (λm f=>?_) (λb u e=>?_) I.bare
 ·obtain⟨A,x,y,h,g,w⟩:=hf b p;exact⟨h,x,g,w⟩
 ·obtain⟨o,j,t,l,r⟩:=f;exact⟨o,j,t,k _ o (λz=>(hf _ z).2.1 rfl) l,r⟩
 ·refine(I.hok b u e).stay (λc v a q=>k c v ?_ q) (λ_ q=>q) λ_ _ q=>q;rcases a with z|z
  ·rw[z];exact d b u e
  ·exact d c _ z
theorem tU{h:Heap}{o u:Obj}{b:bV}(e:(h.push o).get? b=some u)(ho:o.isFreed=false):h.get? b=some u\/(b=h.objs.size/\u=o):=by
 rcases nB b h.objs.size with q|q|q
 ·left
  cases a:h.get? b with
  | some f=>rw[bU _ a]at e;exact e
  | none=>
   exfalso;unfold Heap.get? at a e;unfold kH at e;simp only[Array.getElem?_push]at e;rw[if_neg (by omega)]at e;rw[a]at e
   cases e
 ·right
  subst q;rw[b4 _ ho]at e
  cases e;exact⟨rfl,rfl⟩
 ·exfalso;have c:(h.push o).objs.size=h.objs.size+1:=by unfold kH;simp
  have d:b<h.objs.size+1:=by rw[<-c];exact b6 e
  exact cJ _ (ci q (Nat.le_of_lt_succ d))
def MB(K:bN)(a:bV):It:=
 ⟨λi H=>∃xs x,SqL K H a xs/\xs[i]?=some x,λi H x H'=>∃y t,(∀xs,SqL K H a xs->xs[i]?=some y)/\x = .ref t/\H t=none/\H'=upd H t (.tup [.int i,y]),λi H=>∃xs,SqL K H a xs/\xs.length<=i⟩
theorem Bf{P:cg}{w:cC}{K:bN}{elts:List Expr}{x1:Nat}{pos:Pos}(a it e:bV)(hne:e≠it):JX P w K (.Tuple elts x1 pos) (MB K a) [e,it] e (λi h=>(∃old,IsEnum h e it i old)/\h.IsListIter it a i) where
 mem:=by simp
 obj:=λi h st b f=>by
  obtain⟨⟨old,j⟩,o,l,c,d⟩:=st
  rcases cj.mp f with z|z
  ·subst z
   exact⟨_,j,λv z=>by cases z⟩
  ·have e:=bY.mp z
   subst e
   exact⟨o,l,λv z=>by rw[d]at z;cases z⟩
 keep:=λi h n st k=>by
  obtain⟨⟨old,j⟩,l⟩:=st
  exact⟨⟨old,k e (by simp) _ j⟩,l.at λo q=>k it (by simp) o q⟩
 item:=by
  intro X F B y O i g s t H E I D st G
  subst F B y
  obtain⟨V,x,r,A⟩:=G
  obtain⟨M,C,p,hz⟩:=I.list r
  obtain⟨u,S,ru⟩:=C.get A
  obtain⟨⟨old,j⟩,l⟩:=st
  refine wpAny_pyNext_enum_item j l p.isList (x:=u) (by simpa using S) hne λn so T Q aa U=>?_
  have N:∀b o,s.heap.get? b=some o->b≠s.heap.objs.size:=λb o q=>cF (b6 q)
  have le:e≠s.heap.objs.size:=N _ _ j
  have Y:it≠s.heap.objs.size:=by obtain⟨o,q,_⟩:=l;exact N _ _ q
  have Z:H s.heap.objs.size=none:=I.hok.fresh (bX _)
  have I0:Inv X g t (upd H s.heap.objs.size (.tup [.int i,x])) {s with heap:=s.heap.push {cls:= .type "tuple",data:= .seq #[.int i s.toks,u]},toks:=s.toks}:=
   I.laid (t':=s.toks) (λb o q=>bU _ q) (bX _) ⟨by show 2<=sizeLine;decide,[.int i s.toks,u],.cons ⟨_,rfl⟩ (.cons ru .nil),⟨_,b4 _ rfl,rfl,_,rfl⟩⟩
  have m:∀b∈[e,it],HJ X g (upd H s.heap.objs.size (.tup [.int i,x])) b:=λb f=>by
   have q:=D b f
   refine⟨?_,q.2⟩
   have J:b≠s.heap.objs.size:=by
    rcases cj.mp f with z|z
    ·rw[z];exact le
    ·rw[bY.mp z];exact Y
   rw[rQ J]
   exact q.1
  have I1:Inv X g t (upd H s.heap.objs.size (.tup [.int i,x])) {s with heap:=n,toks:=s.toks+1}:=
   Inv.turnedL (s:={s with heap:=s.heap.push {cls:= .type "tuple",data:= .seq #[.int i s.toks,u]},toks:=s.toks}) I0 (fp:=[e,it]) (t':=s.toks+1) (λb o f q=>by
    rcases tU q rfl with q|⟨rfl,rfl⟩
    ·exact U b o (λz=>f (by simp[z])) (λz=>f (by simp[z])) q
    ·exact Q) m
  refine⟨_,rfl,wpAny_letOwnedTupleGo_enum (s:={s with heap:=n,toks:=s.toks+1}) so λh2 R L=>?_⟩
  have I2:Inv X g t (upd H s.heap.objs.size (.tup [.int i,x])) {s with heap:=h2,toks:=s.toks+1}:=
   Inv.turnedL (s:={s with heap:=n,toks:=s.toks+1}) I1 (fp:=[e,it]) (t':=s.toks+1) (λb o f q=>(L.2 b (λz=>f (by simp[z]))).trans q) m
  refine⟨.ref s.heap.objs.size,_,I2,rfl,⟨x,_,λys hy=>by rw[I.list_inj hy r];exact A,rfl,Z,rfl⟩,⟨⟨_,R⟩,T.at λo q=>(L.2 it (Ne.symm hne)).trans q⟩,λb f=>(m b f).1⟩
 done:=by
  intro X F B y O i g s t H E I D st G
  subst F B y
  obtain⟨V,r,A⟩:=G
  obtain⟨M,C,p,hz⟩:=I.list r
  obtain⟨⟨old,j⟩,l⟩:=st
  have hl:=C.length
  exact wpAny_pyNext_enum_end (I.ok.hd O) j l p.isList (by simp;omega) λn eb=>⟨rfl,I.turnedL (fp:=[e,it]) (t':=s.toks) (λb o f q=>eb b o (λz=>f (by simp[z])) q) D⟩
 self:=λ_ _ _ _ _ st h=>by
  obtain⟨⟨old,j⟩,l⟩:=st
  exact nC j h
def Np(K:bN)(ta:TA):TI:=λσ H R=>ta σ H λvs H1=>∃a,vs=[.ref a]/\(∃xs,SqL K H1 a xs)/\R (MB K a) H1
theorem AN{elts:List Expr}{x1:Nat}{tpos:Pos}{a:Expr}{ta:TA}{p pos:Pos}(hg:Gl X "enumerate")(hm:X.mg "enumerate"=none)(ha:PA X [a] ta)(hs:cD [a] X.env=[(false,eval a X.env)]:=by rfl):
  PI X (.Tuple elts x1 tpos) (.Call (.Name "enumerate" p) [a] [] pos) (Np X.K ta):=by
 intro d s k H R I h
 refine rk (tY I hg hm oG (du (Fv (ha pos d s k H _ I h) λG f ⟨vs,j,c,y,A⟩=>?_) hs rfl))
 obtain⟨l,e,⟨D,u⟩,q⟩:=A
 subst e
 cases y with
 | cons r n=>
  cases n
  cases r
  obtain⟨B,E,t,F⟩:=c.list u
  refine call_enumerate_list t.isList λm g o C v=>?_
  refine nC (s:={f with heap:=m}) g ?_
  have w:Inv X d k j {f with heap:=m}:=c.kept (t':=f.toks) v
  refine⟨_,[f.heap.objs.size+1,f.heap.objs.size],_,_,j,rfl,w,Bf l _ _ (Nat.succ_ne_self _),⟨⟨_,g⟩,o⟩,λb x=>?_,q⟩
  rcases cj.mp x with z|z
  ·subst z
   exact c.fpOk (dJ _) (c.hok.fresh (dJ _))
  ·rw[bY.mp z]
   exact c.fpOk (bX _) (c.hok.fresh (bX _))
end
section
variable{X:Cx}{K:bN}
theorem xH{es:List Expr}{k:Nat}{pos:Pos}{t:Lx}(hK:X.K=K)(n:Nat)(hc:X.calm=true)(h:Nf X es t)(hn:(assignEach es X.env).length=n:=by rfl)(hst:(assignEach es X.env).findIdx? (·.1)=none:=by rfl):
  PG X (.Tuple es k pos) (Mz K n t):=by subst hK;exact yp hc h hn hst
theorem Dp{T:String}{name:Str}{id:String}{r:V->List V->Hp->VK->Prop}{o e:Expr}{es:List Expr}{apos cpos:Pos}{to:TE}{t:TA}(hK:X.K=K)(pa:PlainAttrs T)(slot:Slot T name id)(hty:typeOf (.builtin id)=pure (.type "method_descriptor"))(hm:MS X id r)(ho:PE X o to)(ha:PA X (e::es) t)
  (hbase:attributeBase o name X.env (eval o X.env)=eval o X.env:=by rfl)
  (hfew:((backTo cpos (cD (e::es) X.env)).all (λx=>!x.1)&&(backToKw cpos (keywordEach [] X.env)).all (λx=>x.1.isSome)
   && decide ((e::es).length+([]:List Keyword).length+(if([]:List Keyword).isEmpty then 0 else 1)<30))=true:=by rfl)
  (hline:(apos.endLine==cpos.line)=true:=by rfl)(hs:cD (e::es) X.env=(false,eval e X.env)::cD es X.env:=by rfl)(hplain:(backTo cpos (cD es X.env)).any (·.1)=false:=by rfl):
  PE X (.Call (.Attribute o name apos) (e::es) [] cpos) (Os K T r to t):=by subst hK;exact tL pa slot hty hm ho ha hbase hfew hline hs hplain
end
theorem Ch{K:bN}{a:bV}{xs:List V}{g:TG}{tb:TS}{D:Ic}{σ:St}{H:Hp}(Pv:Nat->St->Hp->Prop)(h0:Pv 0 σ H)(hl:∀i σ H,i<=xs.length->Pv i σ H->SqL K H a xs)
  (hs:∀i x σ H t,xs[i]?=some x->H t=none->Pv i σ H->g (.ref t) σ (upd H t (.tup [.int i,x])) λσ2 H2=>tb {D with nx:=Pv (i+1),ct:=Pv (i+1),bk:=D.nx} σ2 H2)(hd:∀σ H,Pv xs.length σ H->D.nx σ H):
  ∃W:Nat->Nat->St->Hp->Prop,(∃m,W 0 m σ H)/\∀i m σ H,W i m σ H->
   ((MB K a).stop i H/\D.nx σ H)\/((MB K a).go i H/\∃N:St->Hp->Prop,(∀σ' H',N σ' H'->∃m',m'<m/\W (i+1) m' σ' H')/\∀x H',(MB K a).yld i H x H'->g x σ H' λσ2 H2=>tb {D with nx:=N,ct:=N,bk:=D.nx} σ2 H2):=by
 refine⟨λi m σ H=>m=xs.length-i/\i<=xs.length/\Pv i σ H,⟨xs.length,by simp,cM _,h0⟩,?_⟩
 rintro i m σ H ⟨rfl,c,p⟩
 have q:=hl i σ H c p
 by_cases b:i<xs.length
 ·refine .inr ⟨⟨xs,xs[i],q,by simp[b]⟩,Pv (i+1),λσ' H' d=>⟨xs.length-(i+1),by omega,rfl,b,d⟩,λx H' y=>?_⟩
  obtain⟨y,t,h1,rfl,h3,rfl⟩:=y
  exact hs i y σ H t (h1 xs q) h3 p
 ·have e:i=xs.length:=by omega
  subst e
  exact .inl ⟨⟨xs,q,bX _⟩,hd σ H p⟩
theorem AG{K:bN}{a:bV}{xs:List V}{caps:List (Option Nat)}{g:TG}{tt:TT}{te:TE}{σ:St}{QQ:List V->Hp->Prop}{H:Hp}(Pv:Nat->List V->Hp->Prop)(h0:Pv 0 [] H)
  (hl:∀i ys H,i<=xs.length->Pv i ys H->SqL K H a xs)
  (hs:∀i x ys H t,xs[i]?=some x->H t=none->Pv i ys H->g (.ref t) (Gb caps σ) (upd H t (.tup [.int i,x])) λσ2 H2=>tt σ2 H2 λb H3=>if b=true then te σ2 H3 λy H4=>ys.length<sizeLine/\Pv (i+1) (ys++[y]) H4 else Pv (i+1) ys H3)
  (hd:∀ys H,Pv xs.length ys H->QQ ys H):FR caps g tt te σ QQ (MB K a) H:=by
 refine⟨λi m ys H=>m=xs.length-i/\i<=xs.length/\Pv i ys H,⟨xs.length,by simp,cM _,h0⟩,?_⟩
 rintro i m ys H ⟨rfl,d,p⟩
 have q:=hl i ys H d p
 by_cases c:i<xs.length
 ·refine .inr ⟨⟨xs,xs[i],q,by simp[c]⟩,Pv (i+1),λj h f=>⟨xs.length-(i+1),by omega,rfl,c,f⟩,λx h y=>?_⟩
  obtain⟨y,t,h1,rfl,h3,rfl⟩:=y
  exact hs i y ys H t (h1 xs q) h3 p
 ·have e:i=xs.length:=by omega
  subst e
  exact .inl ⟨⟨xs,q,bX _⟩,hd ys H p⟩
theorem Aj{K:bN}{a:bV}{xs:List V}{caps:List (Option Nat)}{g:TG}{te:TE}{σ:St}{QQ:List V->Hp->Prop}{H:Hp}(Pv:Nat->List V->Hp->Prop)(h0:Pv 0 [] H)
  (hl:∀i ys H,i<=xs.length->Pv i ys H->SqL K H a xs)
  (hs:∀i x ys H t,xs[i]?=some x->H t=none->Pv i ys H->g (.ref t) (Gb caps σ) (upd H t (.tup [.int i,x])) λσ2 H2=>te σ2 H2 λy H4=>ys.length<sizeLine/\Pv (i+1) (ys++[y]) H4)
  (hd:∀ys H,Pv xs.length ys H->QQ ys H):FR caps g Hh te σ QQ (MB K a) H:=
 AG Pv h0 hl (λi x ys H t c b p=>by simp only[t5];exact hs i x ys H t c b p) hd
def IsR(K:bN)(H:Hp)(v:V)(row:List Int):Prop:=∃a,v = .ref a/\SqT K H a (row.map V.int)
theorem IsR.mono{K:bN}{H H':Hp}{v:V}{row:List Int}(e:Same H H')(h:IsR K H v row):IsR K H' v row:=by
 obtain⟨a,rfl,q⟩:=h;exact⟨a,rfl,e.tup q⟩
def FJ(x y:Int×Int):Bool:=decide (x.1*y.2<y.1*x.2)
mutual
theorem xw:∀(n:Nat) (d:il),GQ n d=true->eh d d=true
 | _,.none,_=>by simp[eh]
 | _,.bool _,_=>by simp[eh]
 | _,.int _,_=>by simp[eh]
 | n,.str x,h=>by simp[eh]
 | n+1,.tuple ds,h=>by
  have:=wz n ds (by simpa [GQ]using h)
  simp[eh,this]
 | n+1,.list ds,h=>by
  have:=wz n ds (by simpa [GQ]using h)
  simp[eh,this]
 | 0,.tuple _,h=>by simp[GQ]at h
 | 0,.list _,h=>by simp[GQ]at h
 | 0,.dict _,h=>by simp[GQ]at h
 | _+1,.dict _,h=>by simp[GQ]at h
theorem wz:∀(n:Nat) (ds:List il),(∀d∈ds,GQ n d=true)->gc ds ds=true
 | n,[],_=>by simp[gc]
 | n,d::ds,h=>by
  have h1:=xw n d (h d b0)
  have h2:=wz n ds λx a=>h x (b3 _ a)
  simp[gc,h1,h2]
end
end L2
namespace EM
open LM
def at0(ms:List Int)(t:Int):Int:=ms.getD t.toNat 0
def best(ms:List Int)(w:List Int):Int:=(w.filter λt=>decide (at0 ms t≠0)).headD 0
def dishes(W:List (List Int))(ms:List Int):List Int:=W.map (best ms)
def cnt(ds:List Int)(t:Int):Int:=(ds.count t:Nat)
def Gc(ds ms:List Int):Int->List Int->Int
 | s,[]=>s
 | s,t::r=>Gc ds ms (if at0 ms t*cnt ds s<at0 ms s*cnt ds t then t else s) r
def pick(ds ms:List Int):Int:=Gc ds ms (ds.headD 0) ds
def nextMs(ds ms:List Int):List Int:=(rng ms.length).map λj=>at0 ms j*cnt ds (pick ds ms)-cnt ds j*at0 ms (pick ds ms)
structure Course where
 m:Int
 D:Int
 ds:List Int
 gone:List Int
def goneOf(ds ms':List Int):List Int:=(rng ms'.length).filter λt=>decide (t∈ds)&&decide (at0 ms' t=0)
def GY(W:List (List Int))(D:Int)(ms:List Int):Course:=
 ⟨at0 ms (pick (dishes W ms) ms),D*cnt (dishes W ms) (pick (dishes W ms) ms),dishes W ms,goneOf (dishes W ms) (nextMs (dishes W ms) ms)⟩
def nz(ms:List Int):Nat:=((rng ms.length).filter λt=>decide (at0 ms t≠0)).length
theorem at0_mem{ms:List Int}{t:Int}(h0:0<=t)(h:t<ms.length):at0 ms t∈ms:=by
 unfold at0;have h1:t.toNat<ms.length:=by omega
 rw[bR,bT h1];exact cm h1
theorem BH{ms w:List Int}(h:∃t∈w,at0 ms t≠0):best ms w∈w/\at0 ms (best ms w)≠0:=by
 obtain⟨t,e,d⟩:=h;have b:t∈w.filter λt=>decide (at0 ms t≠0):=dw.mpr ⟨e,decide_eq_true d⟩;unfold best
 cases c:w.filter λt=>decide (at0 ms t≠0)with
 | nil=>rw[c]at b;cases b
 | cons a r=>
  have f:a∈w.filter λt=>decide (at0 ms t≠0):=by rw[c];exact b0
  have:=dw.mp f;exact⟨this.1,of_decide_eq_true this.2⟩
theorem x9{a b e c d f:Int}(hd:0<d)(hc:0<=c)(hf:0<=f)(h1:a*d<=b*c)(h2:b*f<=e*d):a*f<=e*c:=by
 have h3:a*d*f<=b*c*f:=eU h1 hf;have h4:b*f*c<=e*d*c:=eU h2 hc;refine Int.le_of_mul_le_mul_right (a:=d) ?_ hd;have g:a*f*d=a*d*f:=by rw[fk]
 have h:b*c*f=b*f*c:=by rw[fk]
 have j:e*c*d=e*d*c:=by rw[fk]
 rw[g,j];rw[h]at h3;exact qo h3 h4
theorem cnt_pos{ds:List Int}{t:Int}(h:t∈ds):0<cnt ds t:=by
 have:=List.count_pos_iff.mpr h;unfold cnt;omega
theorem cnt_nn(ds:List Int)(t:Int):0<=cnt ds t:=by unfold cnt;omega
theorem w6{ds:List Int}{t:Int}(h:t∉ds):cnt ds t=0:=by
 unfold cnt;rw[mP.mpr h];rfl
theorem cnt_le(ds:List Int)(t:Int):cnt ds t<=ds.length:=by
 have:=List.count_le_length (a:=t) (l:=ds);unfold cnt;omega
theorem uI{ds ms:List Int}:∀(r:List Int) (s:Int),s∈ds->(∀t∈r,t∈ds)->
  Gc ds ms s r∈ds/\at0 ms (Gc ds ms s r)*cnt ds s<=at0 ms s*cnt ds (Gc ds ms s r)/\∀t∈r,at0 ms (Gc ds ms s r)*cnt ds t<=at0 ms t*cnt ds (Gc ds ms s r)
 | [],s,hs,_=>⟨hs,eH _,λt f=>by cases f⟩
 | t::r,s,hs,hr=>by
  have f:=hr t b0
  have g:∀u∈r,u∈ds:=λu e=>hr u (b3 _ e)
  unfold Gc
  by_cases c:at0 ms t*cnt ds s<at0 ms s*cnt ds t
  ·rw[if_pos c]
   obtain⟨a,b,d⟩:=uI (ms:=ms) r t f g
   refine⟨a,?_,λu e=>?_⟩
   ·exact x9 (cnt_pos f) (cnt_nn _ _) (cnt_nn _ _) b (ef c)
   ·rcases cj.mp e with rfl|e
    ·exact b
    ·exact d u e
  ·rw[if_neg c]
   obtain⟨a,b,d⟩:=uI (ms:=ms) r s hs g
   refine⟨a,b,λu e=>?_⟩
   rcases cj.mp e with rfl|e
   ·exact x9 (cnt_pos hs) (cnt_nn _ _) (cnt_nn _ _) b (rh.mp c)
   ·exact d u e
theorem ya{ds ms:List Int}(h:ds≠[]):pick ds ms∈ds/\∀t∈ds,at0 ms (pick ds ms)*cnt ds t<=at0 ms t*cnt ds (pick ds ms):=by
 cases ds with
 | nil=>exact absurd rfl h
 | cons a r=>
  have:=uI (ds:=a::r) (ms:=ms) (a::r) a b0 λ_ h=>h;exact⟨this.1,this.2.2⟩
theorem EJ(ms:List Int):(rng ms.length).map (at0 ms)=ms:=by
 conv=>rhs;rw[<-wD ms]
 unfold rng;rw[iA];rfl
theorem C7(ds ms:List Int):(nextMs ds ms).length=ms.length:=by
 unfold nextMs;rw[bP,rng_len]
theorem rng_get{n k:Nat}(h:k<n):(rng n)[k]?=some (k:Int):=by
 unfold rng;rw[bZ,dy h];rfl
theorem at0_next{ds ms:List Int}{t:Int}(h0:0<=t)(h:t<ms.length):at0 (nextMs ds ms) t=at0 ms t*cnt ds (pick ds ms)-cnt ds t*at0 ms (pick ds ms):=by
 have h1:t.toNat<ms.length:=by omega
 have e:((t.toNat:Nat):Int)=t:=by omega
 conv=>lhs;unfold at0 nextMs
 rw[bR,bZ,rng_get h1,e];rfl
theorem sum_zero:∀{ms:List Int},(∀m∈ms,0<=m)->ms.sum=0->∀m∈ms,m=0
 | [],_,_,m,h=>by cases h
 | a::r,hn,hs,m,h=>by
  have f:=hn a b0
  have e:0<=r.sum:=by
   have:∀{r:List Int},(∀m∈r,0<=m)->0<=r.sum:=by
    intro r
    induction r with
    | nil=>intro _;exact eH 0
    | cons b q d=>intro h;rw[eS];have:=h b b0;have:=d λm c=>h m (b3 _ c);omega
   exact this λm c=>hn m (b3 _ c)
  rw[eS]at hs
  rcases cj.mp h with rfl|h
  ·omega
  ·exact sum_zero (λm c=>hn m (b3 _ c)) (by omega) m h
theorem ug:∀{ms:List Int},(∀m∈ms,m=0)->ms.sum=0
 | [],_=>rfl
 | a::r,h=>by rw[eS,h a b0,ug λm b=>h m (b3 _ b)];rfl
theorem some_left{ms:List Int}(h:ms.sum≠0):∃t:Int,0<=t/\t<ms.length/\at0 ms t≠0:=
 da λc=>h (ug λm a=>by
  obtain⟨k,hk,e⟩:=dW.mp a
  refine da λz=>c ⟨(k:Nat),by omega,by omega,?_⟩
  unfold at0
  rw[bR,e9,bT hk,e]
  exact z)
theorem B9{d:Int}:∀{l:List Int},l.Nodup->((d∈l->(l.map λj=>if d=j then(1:Int)else 0).sum=1)/\(d∉l->(l.map λj=>if d=j then(1:Int)else 0).sum=0))
 | [],_=>⟨λh=>(by cases h),λ_=>rfl⟩
 | a::r,hn=>by
  obtain⟨h1,h2⟩:=er.mp hn
  obtain⟨c,b⟩:=B9 (d:=d) h2
  rw[dh,eS]
  by_cases e:d=a
  ·subst e
   exact⟨λ_=>by rw[if_pos rfl,b h1];rfl,λh=>absurd b0 h⟩
  ·rw[if_neg e]
   exact⟨λh=>by rw[c ((cj.mp h).resolve_left e)];rfl,λh=>by rw[b λz=>h (b3 _ z)];rfl⟩
theorem vT{f g:Int->Int}:∀l:List Int,(l.map λj=>f j+g j).sum=(l.map f).sum+(l.map g).sum
 | []=>rfl
 | a::r=>by rw[dh,dh,dh,eS,eS,eS,vT r];omega
theorem v8{f g:Int->Int}{a b:Int}:∀l:List Int,(l.map λj=>f j*a-g j*b).sum=(l.map f).sum*a-(l.map g).sum*b
 | []=>by simp
 | x::r=>by
  rw[dh,dh,dh,eS,eS,eS,v8 r,gy,gy]
  omega
theorem Co(d:Int)(ds:List Int)(j:Int):cnt (d::ds) j=cnt ds j+if d=j then 1 else 0:=by
 unfold cnt;rw[List.count_cons];by_cases e:d=j
 ·rw[if_pos e,if_pos (by simp[e])];rfl
 ·rw[if_neg e,if_neg (by simp[e])];rfl
theorem Av{n:Nat}:∀{ds:List Int},(∀d∈ds,0<=d/\d<n)->((rng n).map (cnt ds)).sum=ds.length
 | [],_=>ug λm a=>by
  obtain⟨j,_,rfl⟩:=cP.mp a
  rfl
 | d::ds,h=>by
  have b:=Av (n:=n) (ds:=ds) λx c=>h x (b3 _ c)
  have e:(rng n).map (cnt (d::ds))=(rng n).map λj=>cnt ds j+if d=j then 1 else 0:=eY λj _=>Co d ds j
  rw[e,vT,b,(B9 (rng_nodup n)).1 (mem_rng.mpr (h d b0)),cZ]
  omega
theorem yh{p q:Int->Bool}:∀{l:List Int},(∀x∈l,q x=true->p x=true)->(l.filter q).length<=(l.filter p).length/\((∃x∈l,p x=true/\q x=false)->(l.filter q).length<(l.filter p).length)
 | [],_=>⟨bX _,λ⟨x,h,_⟩=>by cases h⟩
 | a::r,h=>by
  obtain⟨j,d⟩:=yh (p:=p) (q:=q) (l:=r) λx b=>h x (b3 _ b)
  have g:=h a b0
  rw[nY,nY]
  cases e:q a with
  | true=>
   rw[if_pos rfl,if_pos (g e),cZ,cZ]
   refine⟨by omega,λ⟨x,b,hp,c⟩=>?_⟩
   rcases cj.mp b with rfl|b
   ·rw[e]at c;cases c
   ·have:=d ⟨x,b,hp,c⟩;omega
  | false=>
   rw[if_neg (by decide)]
   cases f:p a with
   | true=>rw[if_pos rfl,cZ];exact⟨by omega,λ_=>by omega⟩
   | false=>
    rw[if_neg (by decide)]
    refine⟨j,λ⟨x,b,hp,c⟩=>?_⟩
    rcases cj.mp b with rfl|b
    ·rw[f]at hp;cases hp
    ·exact d ⟨x,b,hp,c⟩
structure St(n:Nat)(D:Int)(ms:List Int)(T:Int)(G:List Int):Prop where
 pos:0<D
 len:ms.length=n
 nn:∀m∈ms,0<=m
 le:∀m∈ms,m<=D
 sum:ms.sum=n*(D-T)
 T0:0<=T
 gone:∀t:Int,0<=t->t<n->(t∈G↔at0 ms t=0)
 inG:∀t∈G,0<=t/\t<n
 nd:G.Nodup
 big:D<=8^(n-nz ms)
theorem ER(ms:List Int):nz ms<=ms.length:=by
 unfold nz;exact cG (dC ..) (by rw[rng_len];exact bX _)
theorem St.start{n:Nat}:St n 1 (fC n 1) 0 []:=by
 have a:∀t:Int,0<=t->t<n->at0 (fC n (1:Int)) t=1:=λt h0 h=>by
  unfold at0;rw[bR,List.getElem?_replicate_of_lt (by omega)];rfl
 refine⟨by decide,gq,λm h=>?_,λm h=>?_,?_,eH 0,λt h0 h=>⟨λz=>(by cases z),λz=>?_⟩,λt h=>(by cases h),gI,?_⟩
 ·rw[(mQ.mp h).2];decide
 ·rw[(mQ.mp h).2];decide
 ·have:∀n:Nat,(fC n (1:Int)).sum=n:=by
   intro n
   induction n with
   | zero=>rfl
   | succ k b=>rw[mh,eS,b];omega
  rw[this];omega
 ·rw[a t h0 h]at z;cases z
 ·exact_mod_cast Nat.one_le_pow _ _ (by decide)
section
variable{n:Nat}{W:List (List Int)}{D T:Int}{ms G:List Int}
theorem Eh(S:St n D ms T G)(hW:∀w∈W,w.Perm (rng n))(hs:ms.sum≠0){w:List Int}(hw:w∈W):(0<=best ms w/\best ms w<n)/\at0 ms (best ms w)≠0/\best ms w∈w:=by
 obtain⟨t,h0,h1,c⟩:=some_left hs;rw[S.len]at h1;obtain⟨a,b⟩:=BH (ms:=ms) (w:=w) ⟨t,(hW w hw).mem_iff.mpr (mem_rng.mpr ⟨h0,h1⟩),c⟩;exact⟨mem_rng.mp ((hW w hw).mem_iff.mp a),b,a⟩
theorem dish_ok(S:St n D ms T G)(hW:∀w∈W,w.Perm (rng n))(hs:ms.sum≠0){d:Int}(hd:d∈dishes W ms):(0<=d/\d<n)/\at0 ms d≠0:=by
 obtain⟨w,a,rfl⟩:=cP.mp hd;have:=Eh S hW hs a;exact⟨this.1,this.2.1⟩
theorem B2(S:St n D ms T G)(hl:W.length=n)(hn1:1<=n)(hn6:n<=6)(hW:∀w∈W,w.Perm (rng n))(hs:ms.sum≠0):
  0<(GY W D ms).m/\0<cnt (dishes W ms) (pick (dishes W ms) ms)/\cnt (dishes W ms) (pick (dishes W ms) ms)<=6/\pick (dishes W ms) ms∈(GY W D ms).gone/\
  nz (nextMs (dishes W ms) ms)<nz ms/\
  St n (GY W D ms).D (nextMs (dishes W ms) ms) (T*cnt (dishes W ms) (pick (dishes W ms) ms)+(GY W D ms).m) (G++(GY W D ms).gone):=by
 have o:(dishes W ms).length=n:=by unfold dishes;rw[bP,hl]
 have M:dishes W ms≠[]:=λz=>by rw[z]at o;simp at o;omega
 have v:=λ {d:Int} (h:d∈dishes W ms)=>dish_ok S hW hs h
 unfold GY
 dsimp only
 generalize dishes W ms=f at *
 obtain⟨F,H⟩:=ya (ms:=ms) M
 have g:=cnt_pos F
 have N:=cnt_le f (pick f ms)
 rw[o]at N
 obtain⟨⟨A,y⟩,pn⟩:=v F
 have B:0<at0 ms (pick f ms):=by
  have:=S.nn _ (at0_mem A (by rw[S.len];exact y));omega
 have s:∀t:Int,0<=t->t<n->at0 (nextMs f ms) t=at0 ms t*cnt f (pick f ms)-cnt f t*at0 ms (pick f ms):=λt h0 h1=>at0_next h0 (by rw[S.len];exact h1)
 have p:(nextMs f ms).length=n:=by rw[C7,S.len]
 have l:∀t:Int,0<=t->t<n->at0 ms t=0->at0 (nextMs f ms) t=0:=λt h0 h1 z=>by
  have:t∉f:=λq=>(v q).2 z
  rw[s t h0 h1,z,w6 this];omega
 have L:∀t:Int,0<=t->t<n->at0 ms t≠0->at0 (nextMs f ms) t=0->t∈f:=λt h0 h1 z q=>da λc=>by
  rw[s t h0 h1,w6 c,jx,qp]at q
  rcases ou.mp q with q|q
  ·exact z q
  ·omega
 have C:at0 (nextMs f ms) (pick f ms)=0:=by
  rw[s _ A y,f3];omega
 have k:∀t:Int,t∈goneOf f (nextMs f ms)↔(0<=t/\t<n)/\t∈f/\at0 (nextMs f ms) t=0:=λt=>by
  unfold goneOf
  rw[dw,p,mem_rng,cH,decide_eq_true_iff,decide_eq_true_iff]
 have O:nz (nextMs f ms)<nz ms:=by
  unfold nz
  rw[p,S.len]
  refine(yh λx Q h=>?_).2 ⟨pick f ms,mem_rng.mpr ⟨A,y⟩,decide_eq_true pn,by rw[C];rfl⟩
  have E:=mem_rng.mp Q
  exact decide_eq_true λz=>of_decide_eq_true h (l x E.1 E.2 z)
 refine⟨B,g,by omega,(k _).mpr ⟨⟨A,y⟩,F,C⟩,O,ip S.pos g,p,?_,?_,?_,?_,λt h0 h1=>?_,λt h=>?_,?_,?_⟩
 ·intro m r
  unfold nextMs at r
  obtain⟨j,u,rfl⟩:=cP.mp r
  rw[S.len]at u
  obtain⟨I,J⟩:=mem_rng.mp u
  by_cases c:j∈f
  ·have:=H j c
   rw[f3 (cnt f j)];omega
  ·rw[w6 c,jx]
   have:=iY (S.nn _ (at0_mem I (by rw[S.len];exact J))) (ef g)
   omega
 ·intro m r
  unfold nextMs at r
  obtain⟨j,u,rfl⟩:=cP.mp r
  rw[S.len]at u
  obtain⟨I,J⟩:=mem_rng.mp u
  have h1:=eU (S.le _ (at0_mem I (by rw[S.len];exact J))) (ef g)
  have h2:=iY (cnt_nn f j) (ef B)
  omega
 ·unfold nextMs
  rw[v8,EJ,S.len,Av (n:=n) (λd h=>(v h).1),o,S.sum]
  rw[pS,<-Int.mul_sub,ji,Int.sub_sub]
 ·have:=iY S.T0 (ef g);omega
 ·rw[cN,S.gone t h0 h1,k]
  constructor
  ·rintro(z|z)
   ·exact l t h0 h1 z
   ·exact z.2.2
  ·intro z
   by_cases c:at0 ms t=0
   ·exact .inl c
   ·exact .inr ⟨⟨h0,h1⟩,L t h0 h1 c z,z⟩
 ·rcases cN.mp h with h|h
  ·exact S.inG t h
  ·exact((k t).mp h).1
 ·refine fP.mpr ⟨S.nd,?_,λa P b V e=>?_⟩
  ·unfold goneOf
   exact(rng_nodup _).filter _
  ·subst e
   obtain⟨q,X,_⟩:=(k a).mp V
   exact(v X).2 ((S.gone a q.1 q.2).mp P)
 ·have U:cnt f (pick f ms)<=8:=by omega
  have h1:=iZ S.big U (ef g) (by exact_mod_cast cM _)
  refine qo h1 ?_
  have e:(8:Int)^(n-nz ms)*8=8^(n-nz ms+1):=(Int.pow_succ ..).symm
  rw[e]
  have R:=ER ms
  rw[S.len]at R
  exact_mod_cast dM (by decide) (show n-nz ms+1<=n-nz (nextMs f ms)by omega)
theorem DF(S:St n D ms T G)(hn1:1<=n)(hs:ms.sum=0):T=D/\G.Perm (rng n):=by
 have a:=sum_zero S.nn hs;refine⟨?_,?_⟩
 ·have:=S.sum;rw[hs]at this;rcases ou.mp this.symm with h|h <;> omega
 ·refine(fE S.nd (rng_nodup n)).mpr λt=>?_;rw[mem_rng];exact⟨S.inG t,λh=>(S.gone t h.1 h.2).mpr (a _ (at0_mem h.1 (by rw[S.len];exact h.2)))⟩
end
end EM
namespace EM
open LM
structure ME where
 D:Int
 ms:List Int
 T:Int
 G:List Int
def s0(n:Nat):ME:=⟨1,fC n 1,0,[]⟩
def cs(W:List (List Int))(s:ME):Course:=GY W s.D s.ms
def cn(W:List (List Int))(s:ME):Int:=cnt (dishes W s.ms) (pick (dishes W s.ms) s.ms)
def nxt(W:List (List Int))(s:ME):ME:=⟨s.D*cn W s,nextMs (dishes W s.ms) s.ms,s.T*cn W s+(cs W s).m,s.G++(cs W s).gone⟩
def st(W:List (List Int))(n:Nat):Nat->ME
 | 0=>s0 n
 | i+1=>nxt W (st W n i)
def Upto(W:List (List Int))(n N:Nat):Prop:=∀i,i<N->(st W n i).ms.sum≠0
theorem Upto.mono{W:List (List Int)}{n N M:Nat}(h:Upto W n N)(hM:M<=N):Upto W n M:=λi a=>h i (by omega)
theorem Upto.snoc{W:List (List Int)}{n N:Nat}(h:Upto W n N)(hs:(st W n N).ms.sum≠0):Upto W n (N+1):=λi a=>by
 rcases ff.mp a with z|z
 ·exact h i z
 ·rw[z];exact hs
structure Stops(W:List (List Int))(n N:Nat):Prop where
 up:Upto W n N
 last:(st W n N).ms.sum=0
structure Ws(n:Nat)(W:List (List Int)):Prop where
 n1:1<=n
 n6:n<=6
 len:W.length=n
 pm:∀w∈W,w.Perm (rng n)
section
variable{W:List (List Int)}{n:Nat}
theorem st_ok(h:Ws n W):∀i,Upto W n i->St n (st W n i).D (st W n i).ms (st W n i).T (st W n i).G/\nz (st W n i).ms+i<=n
 | 0,_=>⟨St.start,by
  have:=ER (fC n 1)
  rw[gq]at this
  exact this⟩
 | i+1,hu=>by
  obtain⟨S,d⟩:=st_ok h i (hu.mono (by omega))
  have b:=hu i (by omega)
  obtain⟨_,_,_,_,c,a⟩:=B2 S h.len h.n1 h.n6 h.pm b
  refine⟨a,?_⟩
  show nz (nextMs (dishes W (st W n i).ms) (st W n i).ms)+(i+1)<=n
  omega
theorem upto_le(h:Ws n W){i:Nat}(hu:Upto W n i):i<=n:=by have:=(st_ok h i hu).2;omega
theorem D_le{D T:Int}{ms G:List Int}(S:St n D ms T G)(hn:n<=6):D<=262144:=by
 have h:=S.big;have h2:(8:Int)^(n-nz ms)<=8^6:=by
  have:(8:Nat)^(n-nz ms)<=8^6:=dM (by decide) (by omega)
  exact_mod_cast this
 have e:(8:Int)^6=262144:=by decide
 omega
structure Oa(W:List (List Int))(n:Nat)(s:ME):Prop where
 S:St n s.D s.ms s.T s.G
 S':St n (nxt W s).D (nxt W s).ms (nxt W s).T (nxt W s).G
 m0:0<(cs W s).m
 mD:(cs W s).m<=s.D
 c0:0<cn W s
 c6:cn W s<=6
 ne:(cs W s).gone≠[]
 dl:(dishes W s.ms).length=n
 dm:∀d∈dishes W s.ms,(0<=d/\d<n)/\at0 s.ms d≠0
theorem step_of(h:Ws n W){i:Nat}(hu:Upto W n i)(hs:(st W n i).ms.sum≠0):Oa W n (st W n i):=by
 obtain⟨S,_⟩:=st_ok h i hu;obtain⟨a,b,c,d,_,j⟩:=B2 S h.len h.n1 h.n6 h.pm hs;have e:(dishes W (st W n i).ms).length=n:=by unfold dishes;rw[bP,h.len]
 have f:∀d∈dishes W (st W n i).ms,(0<=d/\d<n)/\at0 (st W n i).ms d≠0:=λd k=>dish_ok S h.pm hs k;have g:dishes W (st W n i).ms≠[]:=λz=>by rw[z]at e;have:=h.n1;simp at e;omega
 have hp:=f _ (ya (ms:=(st W n i).ms) g).1;refine⟨S,j,a,?_,b,c,(λz=>by unfold cs at z;rw[z]at d;cases d),e,f⟩;exact S.le _ (at0_mem hp.1.1 (by rw[S.len];exact hp.1.2))
def et(W:List (List Int))(n:Nat):Nat->Nat->Int->Int
 | 0,_,_=>0
 | i+1,p,t=>et W n i p t*cn W (st W n i)+if(dishes W (st W n i).ms).getD p 0=t then(cs W (st W n i)).m else 0
theorem et_bd(h:Ws n W)(p:Nat)(t:Int):∀i,Upto W n i->0<=et W n i p t/\et W n i p t<=(st W n i).T
 | 0,_=>⟨eH _,eH _⟩
 | i+1,hu=>by
  obtain⟨a,b⟩:=et_bd h p t i (hu.mono (by omega))
  have s:=step_of h (hu.mono (dJ i)) (hu i (cV i))
  have h1:=iY a (ef s.c0)
  have h2:=eU b (ef s.c0)
  have h3:=s.m0
  show 0<=et W n i p t*cn W (st W n i)+_/\et W n i p t*cn W (st W n i)+_<=(st W n i).T*cn W (st W n i)+(cs W (st W n i)).m
  split <;> omega
theorem all_gone(h:Ws n W){N:Nat}(hN:Stops W n N):(st W n N).T=(st W n N).D/\(st W n N).G.Perm (rng n):=DF (st_ok h N hN.up).1 h.n1 hN.last
end
theorem nodup_len:∀(n:Nat) {l:List Int},l.Nodup->(∀x∈l,0<=x/\x<(n:Int))->l.length<=n
 | 0,l,_,h=>by
  cases l with
  | nil=>exact bX _
  | cons x r=>have:=h x b0;omega
 | n+1,l,hn,h=>by
  have c:=nodup_len n (l:=l.erase (n:Int)) (hn.erase _) λx b=>by
   have h1:=h x (List.mem_of_mem_erase b)
   have h2:x≠(n:Int):=λz=>by rw[z]at b;exact(hn.not_mem_erase) b
   omega
  have:=List.length_erase (a:=(n:Int)) (l:=l)
  split at this <;> omega
theorem gone_eq{ns ds ms:List Int}(hm:∀i,i∈ns↔i∈ds)(hn:ns.Nodup)(hs:ns.Pairwise (· <= ·))(hd:∀d∈ds,0<=d/\d<ms.length):ns.filter (λt=>decide (at0 ms t=0))=goneOf ds ms:=by
 refine yC (b:=[]) ?_ (hs.filter _) ((Ao _).filter _);refine(fE (hn.filter _) ((rng_nodup _).filter _)).mpr λt=>?_;rw[dw,dw,hm,mem_rng];constructor
 ·rintro⟨a,b⟩;exact⟨hd t a,by rw[decide_eq_true a,b];rfl⟩
 ·rintro⟨_,b⟩;have:=(cH _ _).mp b;exact⟨of_decide_eq_true this.1,this.2⟩
end EM
namespace L2
open PySem PySem.Spec PyProof.Rows
def Fh(b:Nat->Bool):List Nat:=(cp 6).filter b
def FH(S:List Nat)(led:Bool):SetTable:=⟨if S.length<=4 then 7 else 31,S.toArray,#[],0,led,if S.length<=4 then 0 else 1,true⟩
def JM:List Nat->List (List Nat)
 | []=>[[]]
 | a::r=>JM r++(JM r).map (a :: ·)
theorem xr:∀{l S:List Nat},S.Sublist l->S∈JM l
 | _,_,.slnil=>bY.mpr rfl
 | _,_,.cons a h=>cN.mpr (.inl (xr h))
 | _,_,.cons₂ a h=>cN.mpr (.inr (cP.mpr ⟨_,xr h,rfl⟩))
theorem ub(b:Nat->Bool):Fh b∈JM (cp 6):=xr List.filter_sublist
def GV(S:List Nat)(v:Nat):Nat:=(S.filter (· < v)).length
def II(S:List Nat)(v:Nat):List Nat:=S.take (GV S v)++v::S.drop (GV S v)
def Jo(S:List Nat)(v:Nat)(led:Bool):Bool:=
 match(FH S led).freeSlot (v:Int)with
 | some (j,d)=>
  let q:=(FH S led).put j
  decide (j=v) && !d&&decide (q.2=GV S v)&&q.1.fits (S.length+1)&&decide (q.1.plain=true) &&
  (if q.1.tooFull then
   match q.1.relaid ((II S v).map gH).toArray (jJ (S.length+1))with
   | some (t',o)=>decide (t'=FH (II S v) led)&&decide (o=(cp (S.length+1)).toArray)&&t'.fits (S.length+1)&&coversAll o (S.length+1)
   | none=>false
  else decide (q.1=FH (II S v) led))
 | none=>false
theorem Er:∀S∈JM (cp 6),∀v∈cp 6,v∉S->Jo S v true=true/\Jo S v false=true:=by decide +kernel
theorem DS:∀S∈JM (cp 6),∀v∈cp 6,v∉S->II S v=(cp 6).filter λx=>decide (x∈S)||x==v:=by decide +kernel
theorem Da:∀S∈JM (cp 6),(FH S true).fits S.length=true/\(FH S false).fits S.length=true:=by decide +kernel
def Jl(S:List Nat)(led:Bool):Bool:=
 (cp (S.length+1)).all λi=>decide (oU (FH S led).place (if i=0 then 0 else(S.getD (i-1) 0)+1)=i)
theorem CN:∀S∈JM (cp 6),Jl S true=true/\Jl S false=true:=by decide +kernel
def Iz(tok:Nat->Tok)(v:Nat):Int×bQ:=((v:Int),dn (v:Int) (tok v))
def SetIs(h:Heap)(a:bV)(b:Nat->Bool)(led:Bool):Prop:=
 ∃(o:Obj) (es:Array (Int×bQ)) (ep:Nat) (tok:Nat->Tok),h.get? a=some o/\o.ExactSet/\o.data = .set es ep (FH (Fh b) led)/\es.toList=(Fh b).map (Iz tok)
theorem tK{b:Nat->Bool}{v:Nat}:v∈Fh b↔v<6/\b v=true:=by
 unfold Fh;rw[dw,dq]
theorem uR(b:Nat->Bool):(Fh b).length<=6:=by
 unfold Fh;exact cG (dC ..) (by rw[eJ];exact bX _)
theorem tR(b:Nat->Bool)(led:Bool):(FH (Fh b) led).fits (Fh b).length=true:=by
 have:=Da _ (ub b)
 cases led
 ·exact this.2
 ·exact this.1
theorem yj{b:Nat->Bool}{v:Nat}(hv:v<6)(hb:b v=false):II (Fh b) v=Fh λx=>b x||x==v:=by
 rw[DS _ (ub b) v (dq.mpr hv) λz=>by rw[(tK.mp z).2]at hb;cases hb];unfold Fh;refine fQ λx a=>?_;have:decide (x∈qJ b (cp 6))=b x:=by
  rw[fT,decide_eq_true_iff,dw];exact⟨λh=>h.2,λh=>⟨a,h⟩⟩
 rw[this]
theorem x3{b:Nat->Bool}{v:Nat}(hb:b v=true):(Fh λx=>b x||x==v)=Fh b:=by
 unfold Fh;refine fQ λx a=>?_;by_cases e:x=v
 ·subst e;rw[hb];rfl
 ·rw[beq_false_of_ne e,j8]
theorem wQ(v:Nat)(hv:v<6):hashInt (v:Int)=v:=
 (show ∀v∈cp 6,hashInt ((v:Nat):Int)=v by decide +kernel) v (dq.mpr hv)
theorem xc{α:Type}(xs:Array α):Array.filterMap (λx=>xs[x]?) (cp xs.size).toArray=xs:=by
 apply oP;rw[Array.toList_filterMap];have:∀(l:List α),oV (λx=>l[x]?) (cp l.length)=l:=by
  intro l
  induction l with
  | nil=>rfl
  | cons a r b=>
   rw[cZ,List.range_succ_eq_map,fF,List.filterMap_map];show a::oV (λx=>r[x]?) (cp r.length)=a::r;rw[b]
 have:=this xs.toList;simpa using this
theorem zR{prog:cg}{w:cC}{b:Nat->Bool}{tok:Nat->Tok}{es:Array (Int×bQ)}(he:es.toList=(Fh b).map (Iz tok)):ElemsOf (intKind prog w) es.toList:=by
 intro e a;rw[he]at a;obtain⟨u,c,rfl⟩:=cP.mp a;exact⟨⟨(u:Int),beq_self_eq_true _,(wQ u (tK.mp c).1).symm⟩,rfl⟩
theorem BK{b:Nat->Bool}{v:Nat}{led:Bool}{es:Array (Int×bQ)}{x:bQ}{tok:Nat->Tok}(hv:v<6)(hb:b v=false)(he:es.toList=(Fh b).map (Iz tok)):
  ∃t,layNew (FH (Fh b) led) es (v:Int) x=(hV es (GV (Fh b) v) ((v:Int),x),t,false,false)/\t.plain=true/\t.fits (es.size+1)=true/\
   (t.tooFull=false->t=FH (II (Fh b) v) led)/\(t.tooFull=true->t.relaid ((II (Fh b) v).map gH).toArray (jJ (es.size+1))=some (FH (II (Fh b) v) led,(cp (es.size+1)).toArray)/\
    (FH (II (Fh b) v) led).fits (es.size+1)=true/\coversAll (cp (es.size+1)).toArray (es.size+1)=true):=by
 have l:es.size=(Fh b).length:=by rw[<-dG,he,bP]
 have h:=Er _ (ub b) v (dq.mpr hv) λz=>by rw[(tK.mp z).2]at hb;cases hb
 have h1:Jo (Fh b) v led=true:=by
  cases led
  ·exact h.2
  ·exact h.1
 unfold Jo at h1
 cases e:(FH (Fh b) led).freeSlot (v:Int)with
 | none=>rw[e]at h1;cases h1
 | some r=>
  obtain⟨j,d⟩:=r
  rw[e]at h1
  dsimp only at h1
  rw[cH,cH,cH,cH,cH,decide_eq_true_iff,decide_eq_true_iff,decide_eq_true_iff]at h1
  obtain⟨⟨⟨⟨⟨rfl,q⟩,hp⟩,c⟩,g⟩,a⟩:=h1
  have k:d=false:=by cases d <;> first|rfl|cases q
  subst k
  rw[<-l]at c a
  have m:(hV es (GV (Fh b) j) ((j:Int),x)).size=es.size+1:=by
   have:=(k7 es (GV (Fh b) j) ((j:Int),x)).length_eq
   simpa using this
  refine⟨((FH (Fh b) led).put j).1,?_,g,c,λw=>?_,λp=>?_⟩
  ·unfold layNew
   rw[e]
   dsimp only
   rw[hp,m,c]
   have y:((FH (Fh b) led).put j).1.orStandIn (es.size+1)=((FH (Fh b) led).put j).1:=by
    unfold SetTable.orStandIn;rw[if_pos c]
   rw[y]
   rfl
  ·rw[w,if_neg (by decide)]at a
   exact of_decide_eq_true a
  ·rw[p,if_pos rfl]at a
   cases f:((FH (Fh b) led).put j).1.relaid ((II (Fh b) j).map gH).toArray (jJ (es.size+1))with
   | none=>rw[f]at a;cases a
   | some u=>
    obtain⟨A,o⟩:=u
    rw[f]at a
    dsimp only at a
    rw[cH,cH,cH,decide_eq_true_iff,decide_eq_true_iff]at a
    obtain⟨⟨⟨rfl,rfl⟩,n⟩,s⟩:=a
    exact⟨rfl,n,s⟩
theorem xP{prog:cg}{w:cC}{A:cO}{E:bQ->bS->Prop}{s:bS}{a:bV}{b:Nat->Bool}{led:Bool}{v:Nat}{tk:Tok}{Q:Bool->bS->Prop}(hv:v<6)(hS:SetIs s.heap a b led)
  (q:∀h',eT a s.heap h'->SetIs h' a (λx=>b x||x==v) led->Q (!b v) {s with heap:=h'}):
  wpAny (model prog w) A (setAddHashed a (.int v tk) ((intKind prog w).hash (v:Int))) Q E s:=by
 obtain⟨o,f,r,d,B,I,y,n⟩:=hS
 have O:f.size=(Fh b).length:=by rw[<-dG,n,bP]
 have h6:=uR b
 have R:(FH (Fh b) led).fits f.size=true:=by rw[O];exact tR b led
 have L:ElemsOf (intKind prog w) f.toList:=zR n
 have V:(intKind prog w).hash (v:Int)=v:=wQ v hv
 have aa:64<=scanBound:=by decide +kernel
 unfold setAddHashed
 refine cR ?_
 rw[qz]
 dsimp only
 refine bM (dg B y R ?_)
 dsimp only
 rw[if_pos (byScan_of (knd:=intKind prog w) (x:= .int v tk) rfl (by omega) L)]
 unfold setAddByScan
 refine bM (bM (iq ?_))
 refine bM (wpAny_setScan_of (knd:=intKind prog w) (k:=(v:Int)) (beq_self_eq_true _) B y R L ?_)
 cases g:b v with
 | true=>
  cases C:pT (λe:Int×bQ=>(intKind prog w).is (v:Int) e.2) f.toList with
  | none=>
   have:=List.findIdx?_eq_none_iff.mp C (Iz d v) (by rw[n];exact cP.mpr ⟨v,tK.mpr ⟨hv,g⟩,rfl⟩)
   rw[show(intKind prog w).is (v:Int) (Iz d v).2=true from beq_self_eq_true _]at this
   cases this
  | some j=>
   refine bO (bO ?_)
   have:=q s.heap (rm a _) ⟨o,f,r,d,B,I,by rw[x3 g];exact y,by rw[x3 g];exact n⟩
   rw[g]at this
   exact this
 | false=>
  cases C:pT (λe:Int×bQ=>(intKind prog w).is (v:Int) e.2) f.toList with
  | some j=>
   obtain⟨e,h1,h2⟩:=List.findIdx?_eq_some_iff_getElem.mp C
   have H:f.toList[j]∈(Fh b).map (Iz d):=by rw[<-n];exact cm e
   obtain⟨u,F,J⟩:=cP.mp H
   have h3:=(tK.mp F).2
   have h4:(intKind prog w).is (v:Int) (Iz d u).2=true:=by rw[J];exact h1
   have h5:(u:Int)=v:=eq_of_beq h4
   have:u=v:=by omega
   rw[this,g]at h3
   cases h3
  | none=>
   obtain⟨t,T,M,U,D,p⟩:=BK (led:=led) (x:= .int v tk) hv g n
   dsimp only
   rw[V,T]
   dsimp only
   refine bM (bO ?_)
   rw[if_pos M,hashByValue_scannable 8 (x:= .int v tk) rfl]
   refine bM (bO ?_)
   rw[if_pos (show plainKind (dn (v:Int) tk)=true from rfl)]
   have m:(hV f (GV (Fh b) v) ((v:Int),dn (v:Int) tk)).toList=(Fh λx=>b x||x==v).map (Iz λu=>if u=v then tk else d u):=by
    rw[SetTable.toList_insertAt,n,<-yj hv g]
    have Y:(Fh b).map (Iz d)=(Fh b).map (Iz λu=>if u=v then tk else d u):=eY λu F=>by
     have:u≠v:=λz=>by rw[z]at F;rw[(tK.mp F).2]at g;cases g
     show((u:Int),dn (u:Int) (d u))=((u:Int),dn (u:Int) (if u=v then tk else d u))
     rw[if_neg this]
    rw[Y]
    unfold II
    rw[cb,dh,kf,kg]
    have S:Iz (λu=>if u=v then tk else d u) v=((v:Int),dn (v:Int) tk):=by
     show((v:Int),dn (v:Int) (if v=v then tk else d v))=_
     rw[if_pos rfl]
    rw[S]
   have h:(hV f (GV (Fh b) v) ((v:Int),dn (v:Int) tk)).size=f.size+1:=by
    have:=(k7 f (GV (Fh b) v) ((v:Int),dn (v:Int) tk)).length_eq
    simpa using this
   rw[yj hv g]at D p
   generalize hV f (GV (Fh b) v) ((v:Int),dn (v:Int) tk)=c at *
   have l:c.size<=sizeLine:=cx (Fg (by omega))
   rw[h]at l
   have N:=putSet_of c t y
   have g1:(s.heap.update a (mR c t)).get? a=some ⟨o.cls,o.dict,.set c (r+1) t,o.slots⟩:=by
    rw[<-N]
    exact dR _ B (by rw[N];rfl)
   refine bM (nD B y ?_ (by rw[h];exact l))
   cases G:t.tooFull with
   | false=>
    rw[if_neg (by simp)]
    refine bO (bO ?_)
    have:=q _ (d0 s.heap a (mR c t)) ⟨_,c,r+1,_,g1,I,by rw[D G],m⟩
    rw[g]at this
    exact this
   | true=>
    obtain⟨r1,X,W⟩:=p G
    have H:Array.map (λx:Int×bQ=>x.1) c=((Fh λx=>b x||x==v).map gH).toArray:=by
     apply oP
     rw[Array.toList_map,m,iA]
     rfl
    have Z:relayAll t c (jJ c.size)=(c,FH (Fh λx=>b x||x==v) led,false):=by
     unfold relayAll
     rw[H,h,r1]
     dsimp only
     rw[<-h,xc,h,X,W]
     rfl
    rw[if_pos (by simp),Z]
    dsimp only
    refine bM (bO (bM (nD g1 rfl (bO (bO ?_)) (by rw[h];exact l))))
    have P:=putSet_of (o:=⟨o.cls,o.dict,.set c (r+1) t,o.slots⟩) c (FH (Fh λx=>b x||x==v) led) rfl
    have g2:((s.heap.update a (mR c t)).update a (mR c (FH (Fh λx=>b x||x==v) led))).get? a=some ⟨o.cls,o.dict,.set c (r+1+1) (FH (Fh λx=>b x||x==v) led),o.slots⟩:=by
     rw[<-P]
     exact dR _ g1 (by rw[P];rfl)
    have:=q _ ((d0 s.heap a _).trans (d0 _ a _)) ⟨_,c,r+1+1,_,g2,I,rfl,m⟩
    rw[g]at this
    exact this
def Fq(w:cC):Bool:=!w.params.followText "set-order"
theorem Bx{prog:cg}{w:cC}{A:cO}{E:bQ->bS->Prop}{s:bS}(a:bQ){Q₁:bQ->bS->Prop}
  (h:Q₁ (.ref s.heap.objs.size) {s with heap:=s.heap.push {cls:= .type "set",data:= .set #[] 0 (fh 0 0 (Fq w))}}):
  codeAny (model prog w) A (.call (.builtin "set.__new__") ⟨[.type "set",a],[]⟩) (wants Q₁ E) s:=by
 refine lA ?_
 refine bM (eR (F.newCall_set_1 a) (bO ⟨jg ow _,dS F.entry_set_new ?_⟩))
 rw[fw ow _]
 have b:=qq
 unfold Builtin.«set.__new__» oW
 refine bM (bM (bO ?_))
 refine b7 rfl (bM (eR b (b7 rfl (bO ?_))))
 unfold newSet setsByText
 refine bM (bM (bM (eV (bO ?_))))
 show wpAny _ _ (newObj _ _) _ _ _
 unfold newObj
 dsimp only
 rw[if_neg (by decide)]
 unfold newObjAsIs
 exact bM (oj (bO (bO h)))
theorem SetIs.congr{h h':Heap}{a:bV}{b:Nat->Bool}{led:Bool}(H:SetIs h a b led)(e:∀o,h.get? a=some o->h'.get? a=some o):SetIs h' a b led:=by
 obtain⟨o,g,d,c,f,r⟩:=H;exact⟨o,g,d,c,e o f,r⟩
theorem SetIs.by{h:Heap}{a:bV}{b b':Nat->Bool}{led:Bool}(H:SetIs h a b led)(e:∀x,x<6->b x=b' x):SetIs h a b' led:=by
 have:Fh b=Fh b':=fQ λx c=>e x (dq.mp c);unfold SetIs at H ⊢;rw[this]at H;exact H
theorem Ce{prog:cg}{w:cC}{A:cO}{R:Result->bS->Prop}{I:bV}{fp wr:List bV}{G:Array GenState->Array GenState->Prop}{n:Nat}{P:Nat->bQ->Prop}{St:Nat->bS->Prop}{led:Bool}
  (W:WalksS prog w A.in1 I fp wr G n P St)(S:bV)(hS:S∉fp)(val:Nat->Nat)(hP:∀i v,P i v->val i<6/\∃t,v=dn (val i:Nat) t):
  ∀(k i:Nat) (s:bS) (b:Nat->Bool),n-i=k->i<=n->St i s->SetIs s.heap S b led->
   (∀s',Moved (S::wr) G s s'->SetIs s'.heap S (λx=>b x||(j3 i (n-i)).any λj=>x==val j) led->R (.ok (.ret .none)) s')->
   codeAny (model prog w) A (.builtin "set.update.loop" ⟨[.ref S,.ref I],[]⟩) R s:=by
 have p:S∉wr:=λz=>hS (W.sub S z)
 intro k
 induction k with
 | zero=>
  intro i s b hk J g a h
  have e:i=n:=by omega
  subst e
  refine dS gJ ?_
  rw[fw fz _]
  unfold Builtin.«set.update.loop»
  refine bM (W.done s _ _ g λs' m=>?_)
  refine bO (h s' ⟨λc o d=>m.heap c o λz=>d (b3 _ z),m.gens,m.drawn,m.os,m.toks⟩ ((a.congr λo=>m.heap S o p).by λx _=>?_))
  rw[gT]
  simp
 | succ k H=>
  intro i s b hk J g a h
  refine dS gJ ?_
  rw[fw fz _]
  unfold Builtin.«set.update.loop»
  refine bM (W.item i s _ _ (by omega) g λv s' E r m=>?_)
  obtain⟨u,t,rfl⟩:=hP i v E
  dsimp only
  refine bM (cR ?_)
  unfold setAdd
  refine cR (bM ((intKind prog w).pyHash (k:=((val i:Nat):Int)) (beq_self_eq_true _) ?_))
  refine xP u (SetIs.congr a λo=>m.heap S o p) λC D y=>?_
  refine bO ⟨jg fz _,H (i+1) _ _ (by omega) (by omega) (W.frame (i+1) s' C (s'.toks+1) r (dJ _) λc d o q=>by rw[D.2 c λz=>hS (z▸d)];exact q) y λB f l=>h B ?_ (l.by λx _=>?_)⟩
  ·refine⟨λc o d q=>f.heap c o d ?_,W.gtrans _ _ _ m.gens f.gens,f.drawn.trans m.drawn,f.os.trans m.os,cG m.toks (cG (dJ _) f.toks)⟩
   show C.get? c=some o
   rw[D.2 c λz=>d (by rw[z];exact b0)]
   exact m.heap c o (λz=>d (b3 _ z)) q
  ·have e:n-i=(n-(i+1))+1:=by omega
   rw[e,kI,gB,Bool.or_assoc]
theorem wA{prog:cg}{w:cC}{A:cO}{E:bQ->bS->Prop}{s:bS}{l:bV}{items:Array bQ}{Q:bQ->bS->Prop}(hh:A.handled=none)(hl:s.heap.IsList l items)(val:Nat->Nat)
  (hv:∀i v,items[i]?=some v->val i<6/\∃t,v=dn (val i:Nat) t)
  (h:∀(h':Heap) (tk:Nat),SetIs h' s.heap.objs.size (λx=>(j3 0 items.size).any λj=>x==val j) (Fq w)->(∀b o,s.heap.get? b=some o->h'.get? b=some o)->Q (.ref s.heap.objs.size) {s with heap:=h',toks:=tk}):
  wpAny (model prog w) A (call (.type "set") [.ref l]) Q E s:=by
 obtain⟨c,V,p⟩:=ej.mro
 have g:=ej.made
 have u:=ej.sub
 refine gh (lA (bO ⟨gl _ (by decide +kernel),dS nE ?_⟩))
 rw[mS (lH "set" [.ref l] []) rfl]
 have h1:=ej.notType
 have h2:=ej.canCreate
 have G:=nZ (.ref l)
 unfold Builtin.«type.__call__»
 refine b7 (by rw[h1];rfl) (b7 (by rw[h2];rfl) (bM (eR G (bM (eR p (b7 rfl (bM (eR g (bM (bO ?_))))))))))
 refine bM (cR (gh (gP (Bx (E:=E) (.ref l) (Q₁:=λv O=>v = .ref s.heap.objs.size/\O=_) ⟨rfl,rfl⟩) λr B y=>?_)))
 cases r with
 | error e=>exact y
 | ok R=>
  cases R with
  | ret v=>
   obtain⟨rfl,rfl⟩:=(show v=_/\B=_ from y)
   have a:(s.heap.push {cls:=cX "set",data:=Data.set #[] 0 (fh 0 0 (Fq w))}).get? s.heap.objs.size=some {cls:=cX "set",data:=Data.set #[] 0 (fh 0 0 (Fq w))}:=b4 _ rfl
   refine bM (dQ (T:="set") ⟨_,a,rfl⟩ u (b7 rfl (bM (cR ?_))))
   unfold callSpecial?
   refine bM (fH (T:="set") ⟨_,a,rfl⟩ ej.init.lookup ?_)
   refine cR (bM (eR (ej.init.bind _) (bM (gh (im ej.init.plain n5 (n7 ⟨_,a,rfl⟩ ?_))))))
   unfold Builtin.«set.__init__»
   refine bM (bO ?_)
   dsimp only[n8,ox]
   unfold typeNameOfCut
   unfold shownTypeOf
   refine bM (bM ?_)
   refine bM (gS (T:="set") ⟨_,a,rfl⟩ (b7 rfl (bO (bO (bM (bO (bM (bO ?_))))))))
   unfold setUsed
   refine bM (bM (dg a rfl (by cases Fq w <;> rfl) (bO (b7 rfl ?_))))
   have d:=hl.push {cls:=cX "set",data:=Data.set #[] 0 (fh 0 0 (Fq w))}
   have q:kh {s with heap:=s.heap.push {cls:=cX "set",data:=Data.set #[] 0 (fh 0 0 (Fq w))}} (.ref l) "list":=by
    obtain⟨o,h1,h2,_⟩:=d
    exact⟨o,h1,h2⟩
   unfold jn jK orM
   refine bM (bM (bM (dQ q oX (dQ q lY ?_))))
   refine b7 rfl (bM (gS q (b7 rfl (bM (hO d ?_)))))
   refine bM (jI ?_)
   have k:s.heap.get? s.heap.objs.size=none:=by
    cases e:s.heap.get? s.heap.objs.size with
    | none=>rfl
    | some o=>exact absurd (b6 e) (cJ _)
   have D:l≠s.heap.objs.size:=λz=>by
    obtain⟨o,h1,_⟩:=hl
    rw[z,k]at h1;cases h1
   have n:(s.heap.push {cls:=cX "set",data:=Data.set #[] 0 (fh 0 0 (Fq w))}).objs.size=s.heap.objs.size+1:=kZ ..
   have C:l≠s.heap.objs.size+1:=λz=>by
    obtain⟨o,h1,_⟩:=hl
    rw[z]at h1
    exact absurd (gz (b6 h1)) (cJ _)
   dsimp only
   rw[n]
   refine Ce (rr (oQ (A:=A.in1.in1.in1) hh (s.heap.objs.size+1) l C items)) s.heap.objs.size (λz=>?_) val hv items.size 0 _ (λ_=>false) rfl (cM _) ⟨?_,d.push _⟩ (led:=Fq w) ?_ λM m J=>?_
   ·rcases cj.mp z with z|z
    ·exact absurd z (cF (cV _))
    ·exact D (bY.mp z).symm
   ·exact⟨_,(by rw[<-n];exact b4 _ rfl),rfl,rfl⟩
   ·exact⟨_,#[],0,λ_=>0,bU _ a,⟨rfl,rfl,rfl⟩,rfl,rfl⟩
   ·refine bO (bO (bO (b7 rfl (bO ?_))))
    obtain⟨h',L,U,S,P⟩:=M
    have N:L=s.gens:=m.gens
    have H:U=s.drawn:=m.drawn
    have I:P=s.os:=m.os
    subst N H I
    refine h h' S (J.by λx _=>by rw[pU];rfl) λb o f=>m.heap b o (λz=>?_) (bU _ (bU _ f))
    rcases cj.mp z with z|z
    ·rw[z,k]at f;cases f
    ·rw[bY.mp z]at f
     exact absurd (gz (b6 f)) (cJ _)
  | _=>exact y.elim
theorem sk:Slot "set_iterator" (b9 "__next__") "set_iterator.__next__":=by
 refine Slot.of (owner:="set_iterator") (n:="__next__") ?_ ?_ ?_ ?_ ?_ ?_
 ·rw[oy,lI];rfl
 ·decide +kernel
 ·decide +kernel
 ·decide +kernel
 ·exact Or.inl (by decide +kernel)
 ·rw[oY];rfl
theorem tH:entryFor table "set_iterator.__next__"=some Builtin.«set_iterator.__next__»:=entryFor_of_tree rfl
theorem tP(a:bQ):argsOk "set_iterator.__next__" ⟨[a],[]⟩:=by
 show _=_;rw[pV (rows:=jT) rfl rfl];rfl
theorem wE:entryFor table "set.__iter__"=some Builtin.«frozenset.__iter__»:=jL (id':="frozenset.__iter__") rfl rfl (by decide +kernel) rfl
def FB(a:bV)(slot i n ep:Nat):Obj:={cls:= .type "set_iterator",data:= .fields #[rawInt slot,rawInt i,.ref a,rawInt n,rawInt ep]}
theorem CF{prog:cg}{w:cC}{A:cO}{E:bQ->bS->Prop}{s:bS}{a:bV}{o:Obj}{es:Array (Int×bQ)}{ep:Nat}{t:SetTable}{Q:bQ->bS->Prop}(ho:s.heap.get? a=some o)(hx:o.ExactSet)(hd:o.data = .set es ep t)
  (hf:t.fits es.size=true)(hp:t.plain=true)
  (h:Q (.ref s.heap.objs.size) {s with heap:=s.heap.push (FB a 0 0 es.size ep)}):wpAny (model prog w) A (pyIter (.ref a)) Q E s:=by
 have b:s.TypeIs (.ref a) "set":=⟨o,ho,hx.1⟩
 refine i0 b oz (df oz b wE ?_ (F.args_set_iter_1 _))
 unfold Builtin.«frozenset.__iter__» qc slotArgs ki setEntries setDrawn setsByText
 refine bM (bM (bO (bO (bM (bM (bM (dg ho hd hf (bO (bO (bM (bM (dg ho hd hf ?_))))))))))))
 refine bM (bM (eV (bO (bO (b7 ?_ ?_)))))
 ·show decide ((_&&(!t.plain&&_))=true)=false
  rw[hp]
  simp
 refine bM (bO ?_)
 unfold setEpoch newFields
 refine bM (bM (dg ho hd hf (bO (bM ?_))))
 unfold newObj
 dsimp only
 rw[if_neg (by show ¬5>sizeLine+2;decide +kernel)]
 unfold newObjAsIs
 refine bM (oj (bO (bO ⟨_,rfl,"set_iterator",_,⟨_,b4 _ rfl,rfl⟩,sk.lookup,h⟩)))
def FP(S:List Nat)(k:Nat):Nat:=if k=0 then 0 else S.getD (k-1) 0+1
theorem uN:firstArgMember (cX "StopIteration") []=pure bQ.none:=by
 unfold firstArgMember;dsimp only;rw[pure_bind];split <;> rfl
theorem v4(b:Nat->Bool)(led:Bool){k:Nat}(hk:k<=(Fh b).length):oU (FH (Fh b) led).place (FP (Fh b) k)=k:=by
 have h:=CN _ (ub b);have h1:Jl (Fh b) led=true:=by
  cases led
  ·exact h.2
  ·exact h.1
 unfold Jl at h1;have h2:=de.mp h1 k (dq.mpr (by omega));exact of_decide_eq_true h2
theorem C4{prog:cg}{w:cC}{A:cO}{E:bQ->bS->Prop}{s:bS}{I a:bV}{o:Obj}{es:Array (Int×bQ)}{ep i:Nat}{b:Nat->Bool}{Q:Option bQ->bS->Prop}(hw:Fq w=true)
  (hI:s.heap.get? I=some (FB a (FP (Fh b) i) i es.size ep))(ho:s.heap.get? a=some o)(hd:o.data = .set es ep (FH (Fh b) (Fq w)))(hes:es.size=(Fh b).length)(hi:i<es.size)(hne:a≠I)
  (h:∀h',eT I s.heap h'->h'.get? I=some (FB a (FP (Fh b) (i+1)) (i+1) es.size ep)->Q (some es[i].2) {s with heap:=h'}):
  wpAny (model prog w) A (pyNext (.ref I)) Q E s:=by
 have g:(FH (Fh b) (Fq w)).fits es.size=true:=by rw[hes];exact tR b _
 have d:s.TypeIs (.ref I) "set_iterator":=⟨_,hI,rfl⟩
 unfold pyNext
 refine bM (gb (dA d sk (df sk d tH ?_ (tP _))))
 unfold Builtin.«set_iterator.__next__» slotArgs
 refine bM (bO (bM (ir hI rfl ?_)))
 dsimp only[rawInt]
 unfold setEntries
 refine bM (bM (dg ho hd g (bO (b7 (by simp) ?_))))
 unfold setNext setsByText
 refine bM (bM (dg ho hd g ?_))
 dsimp only
 have j:w.params.followText "set-order"=false:=by
  unfold Fq at hw
  cases e:w.params.followText "set-order"with
  | false=>rfl
  | true=>rw[e]at hw;cases hw
 refine bM (bM (eV (bO ?_)))
 rw[if_neg (show ¬(model prog w).w.params.followText "set-order"=true by intro z;exact absurd (j.symm.trans z) (by decide))]
 refine b7 (by show decide ((!true&&_)=true)=false;rfl) (bM ?_)
 have k:∀(x:Bool) (P:Sem Unit),(if(!true&&x)=true then P else pure ())=pure ():=λx P=>rfl
 rw[hw]
 refine(show ∀(R:Unit->bS->Prop),R () s->wpAny (model prog w) A.in1 (if(!true&&_)=true then _ else pure ()) R _ s from λR z=>bO z) _ ?_
 have c:i<(Fh b).length:=by omega
 have f:(FH (Fh b) true).place[i]?=some (Fh b)[i]:=by
  show(Fh b).toArray[i]?=_
  simp[c]
 rw[e9,v4 b true (cx c),f,d8 hi]
 refine bO ?_
 dsimp only
 have g1:(s.heap.update I (pW λx=>x.setIfInBounds 0 (dn (((Fh b)[i]+1:Nat):Int) 0))).get? I=some {cls:= .type "set_iterator",data:= .fields #[dn (((Fh b)[i]+1:Nat):Int) 0,rawInt i,.ref a,rawInt es.size,rawInt ep]}:=
  dR (o:=FB a (FP (Fh b) i) i es.size ep) _ hI rfl
 refine bM (fN hI rfl (by show 0<5;decide) (bM (fN g1 rfl (by show 1<5;decide) (bO ⟨_,rfl,bO ?_⟩))))
 refine h _ ((d0 s.heap I _).trans (d0 _ I _)) ?_
 have e:FP (Fh b) (i+1)=(Fh b)[i]+1:=by
  unfold FP
  rw[if_neg (Nat.succ_ne_zero i),Nat.add_sub_cancel,bR,bT c]
  rfl
 rw[e]
 exact dR _ g1 rfl
theorem x0{prog:cg}{w:cC}{A:cO}{E:bQ->bS->Prop}{s:bS}{I a:bV}{o:Obj}{es:Array (Int×bQ)}{ep:Nat}{b:Nat->Bool}{Q:Option bQ->bS->Prop}(hA:A.handled=none)(hw:Fq w=true)
  (hI:s.heap.get? I=some (FB a (FP (Fh b) es.size) es.size es.size ep))(ho:s.heap.get? a=some o)(hd:o.data = .set es ep (FH (Fh b) (Fq w)))(hes:es.size=(Fh b).length)
  (h:∀h',(∀c ob,c≠I->s.heap.get? c=some ob->h'.get? c=some ob)->Q none {s with heap:=h'}):
  wpAny (model prog w) A (pyNext (.ref I)) Q E s:=by
 have g:(FH (Fh b) (Fq w)).fits es.size=true:=by rw[hes];exact tR b _
 have f:s.TypeIs (.ref I) "set_iterator":=⟨_,hI,rfl⟩
 unfold pyNext
 refine bM (gb (dA f sk (df sk f tH ?_ (tP _))))
 unfold Builtin.«set_iterator.__next__» slotArgs
 refine bM (bO (bM (ir hI rfl ?_)))
 dsimp only[rawInt]
 unfold setEntries
 refine bM (bM (dg ho hd g (bO (b7 (by simp) ?_))))
 unfold setNext setsByText
 refine bM (bM (dg ho hd g ?_))
 dsimp only
 have j:w.params.followText "set-order"=false:=by
  unfold Fq at hw
  cases e:w.params.followText "set-order"with
  | false=>rfl
  | true=>rw[e]at hw;cases hw
 refine bM (bM (eV (bO ?_)))
 rw[if_neg (show ¬(model prog w).w.params.followText "set-order"=true by intro z;exact absurd (j.symm.trans z) (by decide))]
 refine b7 (by show decide ((!true&&_)=true)=false;rfl) (bM ?_)
 rw[hw]
 refine(show ∀(R:Unit->bS->Prop),R () s->wpAny (model prog w) A.in1 (if(!true&&_)=true then _ else pure ()) R _ s from λR z=>bO z) _ ?_
 rw[e9,v4 b true (by omega),f4 (bX _)]
 refine bO ?_
 dsimp only
 refine bM (fN hI rfl (by show 2<5;decide) ?_)
 unfold newExc raiseNew newTuple
 refine bM (bM (d5 (bM (eR (a:=bQ.none) uN (d5 ?_ (kJ ..)))) (cM _)))
 refine bM (kj ?_)
 rw[show A.in1.handled=none from hA]
 refine lZ (bM (dQ (T:="StopIteration") ⟨_,b4 _ rfl,rfl⟩ jM (iu rfl (bO ?_))))
 refine h _ λc ob k d=>bU _ (bU _ ?_)
 rw[iD _ _ _ _ k]
 exact d
theorem wu{α:Type}(next:Nat->Nat):∀(fuel k:Nat) (left:List α) (out:Array α),left.length=fuel->(rD next fuel k left out).toList.Perm (out.toList++left)
 | 0,k,left,out,h=>by
  rw[pickOrder.go.eq_1,iP.mp h,eo]
 | fuel+1,k,left,out,h=>by
  have a:next k%left.length<left.length:=Nat.mod_lt _ (by omega)
  rw[pickOrder.go.eq_2,bT a]
  dsimp only
  refine(wu next fuel (k+1) _ _ (by rw[List.length_eraseIdx,if_pos a];omega)).trans ?_
  rw[Array.toList_push,nF]
  refine qA _ ?_
  generalize next k%left.length=j at a
  have e:left.eraseIdx j=left.take j++left.drop (j+1):=List.eraseIdx_eq_take_drop_succ ..
  rw[e]
  have b:left=left.take j++left[j]::left.drop (j+1):=by
   rw[<-List.drop_eq_getElem_cons a,lE]
  conv=>rhs;rw[b]
  rw[List.singleton_append]
  exact nW.symm
theorem vQ{α:Type}(next:Nat->Nat)(xs:Array α):(pickOrder next xs).toList.Perm xs.toList:=by
 unfold pickOrder;have:=wu next xs.size 0 xs.toList #[] (dG ..)
 simpa using this
theorem xv{prog:cg}{w:cC}{A:cO}{E:bQ->bS->Prop}{s:bS}{I a:bV}{o:Obj}{es:Array (Int×bQ)}{ep i:Nat}{b:Nat->Bool}{Q:Option bQ->bS->Prop}(hw:Fq w=false)
  (hI:s.heap.get? I=some (FB a 0 i es.size ep))(ho:s.heap.get? a=some o)(hd:o.data = .set es ep (FH (Fh b) (Fq w)))(hes:es.size=(Fh b).length)(hi:i<es.size)
  {x:Int×bQ}(hx:(pickOrder (w.params.setOrder a ep) es)[i]?=some x)
  (h:∀h',eT I s.heap h'->h'.get? I=some (FB a 0 (i+1) es.size ep)->Q (some x.2) {s with heap:=h'}):
  wpAny (model prog w) A (pyNext (.ref I)) Q E s:=by
 have c:(FH (Fh b) (Fq w)).fits es.size=true:=by rw[hes];exact tR b _
 have d:s.TypeIs (.ref I) "set_iterator":=⟨_,hI,rfl⟩
 have g:w.params.followText "set-order"=true:=by
  unfold Fq at hw
  cases e:w.params.followText "set-order"with
  | true=>rfl
  | false=>rw[e]at hw;cases hw
 unfold pyNext
 refine bM (gb (dA d sk (df sk d tH ?_ (tP _))))
 unfold Builtin.«set_iterator.__next__» slotArgs
 refine bM (bO (bM (ir hI rfl ?_)))
 dsimp only[rawInt]
 unfold setEntries
 refine bM (bM (dg ho hd c (bO (b7 (by simp) ?_))))
 unfold setNext setWalk setsByText
 refine bM (bM (dg ho hd c ?_))
 dsimp only
 refine bM (bM (eV (bO ?_)))
 rw[if_pos (show(model prog w).w.params.followText "set-order"=true from g)]
 refine b7 (by simp) (bM (bM (dg ho hd c ?_)))
 dsimp only
 refine bM (bM (eV (bO ?_)))
 rw[if_pos (show(model prog w).w.params.followText "set-order"=true from g)]
 refine bM (eV (bO ?_))
 have f:(pickOrder ((model prog w).w.params.setOrder a ep) es)[((i:Nat):Int).toNat]?=some x:=by rw[e9];exact hx
 dsimp only
 rw[f]
 refine bO ?_
 dsimp only[Option.map]
 have g1:(s.heap.update I (pW λy=>y.setIfInBounds 0 (dn (((0:Int).toNat:Nat):Int) 0))).get? I=some {cls:= .type "set_iterator",data:= .fields #[dn (((0:Int).toNat:Nat):Int) 0,rawInt i,.ref a,rawInt es.size,rawInt ep]}:=
  dR (o:=FB a 0 i es.size ep) _ hI rfl
 refine bM (fN hI rfl (by show 0<5;decide) (bM (fN g1 rfl (by show 1<5;decide) (bO ⟨_,rfl,bO ?_⟩))))
 refine h _ ((d0 s.heap I _).trans (d0 _ I _)) ?_
 exact dR _ g1 rfl
theorem yl{prog:cg}{w:cC}{A:cO}{E:bQ->bS->Prop}{s:bS}{I a:bV}{o:Obj}{es:Array (Int×bQ)}{ep:Nat}{b:Nat->Bool}{Q:Option bQ->bS->Prop}(hA:A.handled=none)(hw:Fq w=false)
  (hI:s.heap.get? I=some (FB a 0 es.size es.size ep))(ho:s.heap.get? a=some o)(hd:o.data = .set es ep (FH (Fh b) (Fq w)))(hes:es.size=(Fh b).length)
  (h:∀h',(∀c ob,c≠I->s.heap.get? c=some ob->h'.get? c=some ob)->Q none {s with heap:=h'}):
  wpAny (model prog w) A (pyNext (.ref I)) Q E s:=by
 have d:(FH (Fh b) (Fq w)).fits es.size=true:=by rw[hes];exact tR b _
 have g:s.TypeIs (.ref I) "set_iterator":=⟨_,hI,rfl⟩
 have k:w.params.followText "set-order"=true:=by
  unfold Fq at hw
  cases e:w.params.followText "set-order"with
  | true=>rfl
  | false=>rw[e]at hw;cases hw
 unfold pyNext
 refine bM (gb (dA g sk (df sk g tH ?_ (tP _))))
 unfold Builtin.«set_iterator.__next__» slotArgs
 refine bM (bO (bM (ir hI rfl ?_)))
 dsimp only[rawInt]
 unfold setEntries
 refine bM (bM (dg ho hd d (bO (b7 (by simp) ?_))))
 unfold setNext setWalk setsByText
 refine bM (bM (dg ho hd d ?_))
 dsimp only
 refine bM (bM (eV (bO ?_)))
 rw[if_pos (show(model prog w).w.params.followText "set-order"=true from k)]
 refine b7 (by simp) (bM (bM (dg ho hd d ?_)))
 dsimp only
 refine bM (bM (eV (bO ?_)))
 rw[if_pos (show(model prog w).w.params.followText "set-order"=true from k)]
 refine bM (eV (bO ?_))
 have j:(pickOrder ((model prog w).w.params.setOrder a ep) es)[((es.size:Nat):Int).toNat]?=none:=by
  rw[e9]
  refine f4 ?_
  have:=(vQ (w.params.setOrder a ep) es).length_eq
  rw[dG,dG]at this
  exact m9 this
 dsimp only
 rw[j]
 refine bO ?_
 dsimp only[Option.map]
 refine bM (fN hI rfl (by show 2<5;decide) ?_)
 unfold newExc raiseNew newTuple
 refine bM (bM (d5 (bM (eR (a:=bQ.none) uN (d5 ?_ (kJ ..)))) (cM _)))
 refine bM (kj ?_)
 rw[show A.in1.handled=none from hA]
 refine lZ (bM (dQ (T:="StopIteration") ⟨_,b4 _ rfl,rfl⟩ jM (iu rfl (bO ?_))))
 refine h _ λc ob l f=>bU _ (bU _ ?_)
 rw[iD _ _ _ _ l]
 exact f
theorem uU:Slot "set_iterator" (b9 "__iter__") "set_iterator.__iter__":=by
 refine Slot.of (owner:="set_iterator") (n:="__iter__") ?_ ?_ ?_ ?_ ?_ ?_
 ·rw[oy,lI];rfl
 ·decide +kernel
 ·decide +kernel
 ·decide +kernel
 ·exact Or.inl (by decide +kernel)
 ·rw[oY];rfl
theorem wC:entryFor table "set_iterator.__iter__"=some Builtin.«dict_keyiterator.__iter__»:=jL (id':="dict_keyiterator.__iter__") rfl rfl (by decide +kernel) rfl
theorem xA(a:bQ):argsOk "set_iterator.__iter__" ⟨[a],[]⟩:=by
 show _=_;rw[pV (rows:=jT) rfl rfl];rfl
def Kz(w:cC)(a:bV)(ep:Nat)(es:Array (Int×bQ)):Array (Int×bQ):=if Fq w=true then es else pickOrder (w.params.setOrder a ep) es
theorem xl(w:cC)(a:bV)(ep:Nat)(es:Array (Int×bQ)):(Kz w a ep es).toList.Perm es.toList:=by
 unfold Kz;split
 ·exact ik _
 ·exact vQ _ _
theorem Bi{prog:cg}{w:cC}{A:cO}{I a:bV}{o:Obj}{es:Array (Int×bQ)}{ep:Nat}{b:Nat->Bool}(hA:A.handled=none)(hd:o.data = .set es ep (FH (Fh b) (Fq w)))(hes:es.size=(Fh b).length)(hne:a≠I):
  WalksS prog w A I [I,a] [I] (λx y=>y=x) es.size (λi v=>∃x,(Kz w a ep es)[i]?=some x/\v=x.2)
   (λi s=>s.heap.get? I=some (FB a (if Fq w=true then FP (Fh b) i else 0) i es.size ep)/\s.heap.get? a=some o):=by
 refine⟨λc m=>by rw[bY.mp m];exact b0,λ_=>rfl,λx y z h1 h2=>h2.trans h1,λi s f tk g _ hk=>⟨hk I b0 _ g.1,hk a (b3 _ b0) _ g.2⟩,λi s Q E u g h=>?_,λs Q E g h=>?_,λi s Q E g q=>?_⟩
 ·cases d:Fq w with
  | true=>
   obtain⟨e,l⟩:=g
   rw[if_pos d]at e
   refine C4 d e l hd hes u hne λf p n=>h _ _ ⟨es[i],?_,rfl⟩ ⟨?_,?_⟩ ?_
   ·unfold Kz;rw[if_pos d,d8 u]
   ·rw[if_pos d];exact n
   ·show f.get? a=some o
    rw[p.2 a hne];exact l
   ·exact⟨λc j m k=>by show f.get? c=some j;rw[p.2 c λz=>m (by rw[z];exact b0)];exact k,rfl,rfl,rfl,bX _⟩
  | false=>
   obtain⟨e,l⟩:=g
   rw[if_neg (by rw[d];decide)]at e
   have t:=(vQ (w.params.setOrder a ep) es).length_eq
   rw[dG,dG]at t
   have B:(pickOrder (w.params.setOrder a ep) es)[i]?=some (pickOrder (w.params.setOrder a ep) es)[i]:=d8 (by omega)
   refine xv d e l hd hes u B λf p n=>h _ _ ⟨_,?_,rfl⟩ ⟨?_,?_⟩ ?_
   ·unfold Kz;rw[if_neg (by rw[d];decide)];exact B
   ·rw[if_neg (by rw[d];decide)];exact n
   ·show f.get? a=some o
    rw[p.2 a hne];exact l
   ·exact⟨λc j m k=>by show f.get? c=some j;rw[p.2 c λz=>m (by rw[z];exact b0)];exact k,rfl,rfl,rfl,bX _⟩
 ·obtain⟨e,l⟩:=g
  have fin:∀f,(∀c j,c≠I->s.heap.get? c=some j->f.get? c=some j)->Q none {s with heap:=f}:=λf hk=>h _ ⟨λc j m k=>hk c j (λz=>m (by rw[z];exact b0)) k,rfl,rfl,rfl,bX _⟩
  cases d:Fq w with
  | true=>rw[if_pos d]at e;exact x0 hA d e l hd hes fin
  | false=>rw[if_neg (by rw[d];decide)]at e;exact yl hA d e l hd hes fin
 ·have r:s.TypeIs (.ref I) "set_iterator":=⟨_,g.1,rfl⟩
  refine i0 r uU (df uU r wC ?_ (xA _))
  exact bM (bO (bO ⟨_,rfl,"set_iterator",_,r,sk.lookup,q⟩))
theorem CO{prog:cg}{w:cC}{A:cO}{E:bQ->bS->Prop}{s:bS}{a:bV}{Q:Bool->bS->Prop}(ht:s.TypeIs (.ref a) "set")(h:Q false s):wpAny (model prog w) A (h9 (.ref a)) Q E s:=by
 have b:splitId "set.__len__"=some ("set","__len__"):=by decide +kernel
 unfold h9;refine bM (fH ht F.slot_set_len.lookup ?_);dsimp only;rw[b];dsimp only;refine bM (dQ ht qq (b7 rfl ?_));refine iu (by decide +kernel) ?_;refine bM (gS ht ?_);exact bO h
theorem wN:∀{l:List (Int×bQ)},(∀x∈l,∃t,x.2=dn x.1 t)->IntsAre (l.map (·.2)) (l.map (·.1))
 | [],_=> .nil
 | x::r,h=>by
  obtain⟨t,e⟩:=h x b0
  rw[dh,dh,e]
  exact .cons _ _ (wN λy a=>h y (b3 _ a))
theorem yL{prog:cg}{w:cC}{A:cO}{E:bQ->bS->Prop}{s:bS}{a:bV}{b:Nat->Bool}{Q:List bQ->bS->Prop}(hA:A.handled=none)(hS:SetIs s.heap a b (Fq w))
  (h:∀(h':Heap) (tk:Nat) (vs:List bQ) (ns:List Int),s.heap.objs.size<h'.objs.size->(∀c ob,s.heap.get? c=some ob->h'.get? c=some ob)->IntsAre vs ns->ns.Perm ((Fh b).map gH)->Q vs {s with heap:=h',toks:=tk}):wpAny (model prog w) A (collect (.ref a)) Q E s:=by
 obtain⟨o,d,f,aa,M,l,O,N⟩:=hS
 have H:d.size=(Fh b).length:=by rw[<-dG,N,bP]
 have hf:(FH (Fh b) (Fq w)).fits d.size=true:=by rw[H];exact tR b _
 have p:(s.heap.push (seqObj "list" #[] 0)).get? a=some o:=bU _ M
 have L:(s.heap.push (seqObj "list" #[] 0)).get? s.heap.objs.size=some (seqObj "list" #[] 0):=b4 _ rfl
 unfold collect
 refine bM (jI (dS lF ?_))
 change wpAny _ _ (do again (.builtin "list.__iadd__" ⟨[<-newList [],.ref a],[]⟩)) _ _ s
 refine bM (iJ (bO ⟨gl _ (by decide +kernel),dS nv ?_⟩))
 change wpAny _ _ (fA (.ref s.heap.objs.size) (.ref a) (.ref s.heap.objs.size)) _ _ {s with heap:=s.heap.push (seqObj "list" #[] 0)}
 unfold fA
 have q:s.heap.objs.size≠a:=λz=>by
  have:=b6 M
  rw[z]at this
  exact absurd this (cJ _)
 refine bM (gS (T:="set") ⟨o,p,l.1⟩ (b7 ?_ (bM (CF p l O hf rfl (bM (cR (CO ⟨o,bU _ p,l.1⟩ ?_)))))))
 ·show decide ((kl (.ref s.heap.objs.size) (.ref a)||_||_)=true)=false
  have:kl (.ref s.heap.objs.size) (.ref a)=false:=by
   show(s.heap.objs.size==a)=false
   exact beq_false_of_ne q
  rw[this]
  rfl
 refine iu (by decide +kernel) (bM (iq ?_))
 have J:(s.heap.push (seqObj "list" #[] 0)).objs.size=s.heap.objs.size+1:=kZ ..
 have P:a≠s.heap.objs.size+1:=λz=>by
  have:=b6 M
  rw[z]at this
  exact absurd (gz this) (cJ _)
 dsimp only
 have R:((s.heap.push (seqObj "list" #[] 0)).push (FB a 0 0 d.size f)).get? (s.heap.push (seqObj "list" #[] 0)).objs.size=some (FB a 0 0 d.size f):=b4 _ rfl
 have G:((s.heap.push (seqObj "list" #[] 0)).push (FB a 0 0 d.size f)).get? s.heap.objs.size=some (seqObj "list" #[] 0):=bU _ L
 have S:((s.heap.push (seqObj "list" #[] 0)).push (FB a 0 0 d.size f)).get? a=some o:=bU _ p
 have y:∀c ob,s.heap.get? c=some ob->c≠s.heap.objs.size/\((s.heap.push (seqObj "list" #[] 0)).push (FB a 0 0 d.size f)).get? c=some ob:=λc ob k=>⟨λz=>(by
  have:=b6 k
  rw[z]at this
  exact absurd this (cJ _)),bU _ (bU _ k)⟩
 rw[J]at R ⊢
 generalize(s.heap.push (seqObj "list" #[] 0)).push (FB a 0 0 d.size f)=g at *
 unfold k8
 have D:(g.update s.heap.objs.size (dr λx=>x.push bQ.none)).get? s.heap.objs.size=some (seqObj "list" #[bQ.none] 1):=dR (o:=seqObj "list" #[] 0) _ G rfl
 have V:((g.update s.heap.objs.size (dr λx=>x.push bQ.none)).update s.heap.objs.size (dr λx=>x.pop)).get? s.heap.objs.size=some (seqObj "list" #[] 2):=dR (o:=seqObj "list" #[bQ.none] 1) _ D rfl
 have r:∀c ob,c≠s.heap.objs.size->g.get? c=some ob->((g.update s.heap.objs.size (dr λx=>x.push bQ.none)).update s.heap.objs.size (dr λx=>x.pop)).get? c=some ob:=λc ob k hg=>by
  rw[iD _ _ _ _ k,iD _ _ _ _ k];exact hg
 refine bM (bM (g8 G rfl (g8 D rfl ?_ (by show 1<=sizeLine;decide +kernel) (cM _)) (cM _) (by show 1<=sizeLine+1;decide +kernel)))
 generalize(g.update s.heap.objs.size (dr λx=>x.push bQ.none)).update s.heap.objs.size (dr λx=>x.pop)=g4 at *
 refine bO ⟨gl _ (by decide +kernel),?_⟩
 refine codeAny_extend_loopS (Bi (A:=A.in1) (I:=s.heap.objs.size+1) (a:=a) (o:=o) hA O H P) (by have:=uR b;exact cx (Fg (by omega))) s.heap.objs.size (λz=>?_) _ d.size 0 _ #[] 2 rfl (cM _) ⟨?_,r a o (λz=>q z.symm) S⟩ V ⟨rfl,λj v B=>?_⟩ λZ n c m t C=>?_
 ·rcases cj.mp z with z|z
  ·exact absurd z (cF (cV _))
  ·exact q (bY.mp z)
 ·have:(if Fq w=true then FP (Fh b) 0 else 0)=0:=by split <;> rfl
  rw[this]
  exact r _ _ (λz=>absurd z.symm (cF (cV _))) R
 ·simp at B
 ·obtain⟨h',Y,d',t',o'⟩:=Z
  have e1:Y=s.gens:=m.gens
  have W:d'=s.drawn:=m.drawn
  have X:o'=s.os:=m.os
  subst e1 W X
  refine bM (wpAny_load' t (bO ?_))
  refine h h' t' n.toList ((Kz w a f d).toList.map (·.1)) (b6 t) (λc ob k=>m.heap c ob (λz=>?_) (r c ob (y c ob k).1 (y c ob k).2)) ?_ ?_
  ·rcases cj.mp z with z|z
   ·exact(y c ob k).1 z
   ·have:=b6 k
    rw[bY.mp z]at this
    exact absurd (gz this) (cJ _)
  ·have U:=(xl w a f d).length_eq
   rw[dG,dG]at U
   have e:n.toList=(Kz w a f d).toList.map (·.2):=by
    refine List.ext_getElem? λj=>?_
    rw[bZ,fb,fb]
    cases B:n[j]? with
    | none=>
     have:n.size<=j:=Array.getElem?_eq_none_iff.mp B
     rw[f4 (by have:=C.1;omega)];rfl
    | some v=>
     obtain⟨x,l,rfl⟩:=C.2 j v B
     rw[l];rfl
   rw[e]
   refine wN λx l=>?_
   have:=(xl w a f d).mem_iff.mp l
   rw[N]at this
   obtain⟨u,_,rfl⟩:=cP.mp this
   exact⟨_,rfl⟩
  ·refine((xl w a f d).map _).trans ?_
   rw[N,iA]
   exact ik _
theorem zW{prog:cg}{w:cC}{A:cO}{E:bQ->bS->Prop}{s:bS}{a:bV}{b:Nat->Bool}{Q:bQ->bS->Prop}(hA:A.handled=none)(hS:SetIs s.heap a b (Fq w))
  (h:∀(l:bV) (h':Heap) (tk:Nat) (out:Array bQ) (ns:List Int),s.heap.objs.size<=l->(∀c ob,s.heap.get? c=some ob->h'.get? c=some ob)->(∃n,h'.get? l=some (seqObj "list" out n))->IntsAre out.toList ns->ns.Perm ((Fh b).map gH)->ns.Pairwise (· <= ·)->Q (.ref l) {s with heap:=h',toks:=tk}):
  wpAny (model prog w) A (call (.builtin "sorted") [.ref a]) Q E s:=by
 refine gu om nw ny (nA _) ?_
 unfold Builtin.«sorted»
 refine bM (m:=checkCount "sorted" 1 1 _) (bO ?_)
 refine bM (yL (A:=A.in1) hA hS λh' tk vs ns k hk g hp=>bM (iJ ?_ (by have:=uR b;have:=hp.length_eq;rw[bP]at this;have:=g.length;exact cx (Fg (by omega)))))
 have p:ns.length=(Fh b).length:=by rw[hp.length_eq,bP]
 have h6:=uR b
 have v:vs.length=ns.length:=g.length
 have f:(h'.push (seqObj "list" vs.toArray 0)).get? h'.objs.size=some (seqObj "list" vs.toArray 0):=b4 _ rfl
 refine bM (cR (df lW ⟨_,f,rfl⟩ ly (oR f g (by omega) λout o q u t=>⟨_,rfl,?_⟩) (lX _)))
 refine bO ⟨_,rfl,?_⟩
 refine h _ _ _ out o (cx k) (λc ob r=>?_) (sortedHeap_at f) q (u.trans hp) t
 have e:=hk c ob r
 have j:=b6 e
 have d:(h'.push (seqObj "list" vs.toArray 0)).get? c=some ob:=bU _ e
 exact(sortedHeap_old (cF j) (b6 d)).trans d
theorem AX:∀{vs:List bQ} {ns:List Int},IntsAre vs ns->∀(i:Nat) (v:bQ),vs[i]?=some v->i<ns.length/\∃t,v=dn (ns.getD i 0) t
 | _,_,.nil,i,v,h=>by simp at h
 | _,_,.cons n t hr,0,v,h=>by
  rw[List.getElem?_cons_zero]at h
  cases h
  exact⟨Nat.zero_lt_succ _,t,rfl⟩
 | _,_,.cons n t hr,i+1,v,h=>by
  rw[List.getElem?_cons_succ]at h
  obtain⟨h1,a,e⟩:=AX hr i v h
  exact⟨Nat.succ_lt_succ h1,a,e⟩
theorem yD(b:Nat->Bool):((Fh b).map gH).Nodup:=by
 unfold Fh;exact iX.mpr ((n9.filter _).imp λh z=>h (gH.inj z))
section
variable{X:Cx}
def Ks(K:bN)(te:TE):TE:=λσ H Q=>te σ H λx H1=>∃(p:bV) (ns:List Int),x = .ref p/\SqL K H1 p (ns.map V.int)/\(∀i∈ns,0<=i/\i<6)/\
 ∀(l:bV) (ns':List Int),H1 l=none->(∀i,i∈ns'↔i∈ns)->ns'.Nodup->ns'.Pairwise (· <= ·)->Q (.ref l) (upd H1 l (.lst (ns'.map V.int)))
theorem x6{e:Expr}{te:TE}{p p2 pos pos2:Pos}(hc:X.calm=true)(h1:Gl X "sorted")(m1:X.mg "sorted"=none)(h2:Gl X "set")(m2:X.mg "set"=none)(ha:PE X e te)
  (he:cD [e] X.env=(false,eval e X.env)::cD [] X.env:=by rfl):PE X (.Call (.Name "sorted" p) [.Call (.Name "set" p2) [e] [] pos2] [] pos) (Ks X.K te):=by
 intro D s σ H Q I h
 refine d9 (tY I h1 m1 Boot.sorted ?_)
 refine gD ?_ rfl rfl
 show wpAny _ _ (spliced ((false,eval (.Call (.Name "set" p2) [e] [] pos2) X.env)::[])) _ _ s
 refine eQ ?_
 refine d9 (tY I h2 m2 Boot.set ?_)
 refine du ?_ he rfl
 rw[he]
 show wpAny _ _ (spliced ((false,eval e X.env)::[])) _ _ s
 refine eQ (Fv (ha D s σ H _ I h) λu U ⟨x,H1,r,r1,q1⟩=>?_)
 obtain⟨l,a,rfl,hq,F,q⟩:=q1
 cases(show u=b5 l from r1)
 obtain⟨y,rv,pl,hz⟩:=r.list hq
 have R:=vB rv
 have aa:y.length=a.length:=R.length
 have hA:X.A.handled=none:=r.ok.hd hc
 refine bO (wA hA pl.isList (λi=>(a.getD i 0).toNat) (λi v L=>?_) λh' tk f hk=>bO (zW hA f λT h2 W Y d S P g G b n=>?_))
 ·rw[<-fb]at L
  obtain⟨k,t,e⟩:=AX R i v (by simpa using L)
  have m:a.getD i 0∈a:=by
   rw[bR,bT k]
   exact cm k
  have:=F _ m
  refine⟨by omega,t,?_⟩
  rw[e]
  congr 1
  omega
 ·have C:∀i,i∈d↔i∈a:=λi=>by
   rw[b.mem_iff,cP]
   constructor
   ·rintro⟨u,Z,rfl⟩
    obtain⟨_,M⟩:=tK.mp Z
    obtain⟨j,E,e⟩:=iB.mp M
    have e':u=(a.getD j 0).toNat:=eq_of_beq e
    have z:j<a.length:=by
     have:=oA.mp E
     simp at this
     omega
    have m:a.getD j 0∈a:=by
     rw[bR,bT z]
     exact cm z
    have:=F _ m
    have:gH u=a.getD j 0:=by rw[e'];show((a.getD j 0).toNat:Int)=_;omega
    rw[this];exact m
   ·intro k
    have ab:=F i k
    obtain⟨j,E,e⟩:=dW.mp k
    refine⟨i.toNat,tK.mpr ⟨by omega,iB.mpr ⟨j,?_,?_⟩⟩,by show((i.toNat:Nat):Int)=i;omega⟩
    ·rw[oA]
     exact⟨j,by simp;omega,by omega⟩
    ·rw[bR,bT E,Option.getD_some,e]
     exact beq_self_eq_true _
  obtain⟨n2,g⟩:=g
  have N:U.heap.objs.size<=h'.objs.size:=by
   obtain⟨o,_,_,_,ho,_⟩:=f
   exact cx (b6 ho)
  have B:U.heap.objs.size<=T:=cG N S
  have O:d.Nodup:=b.nodup_iff.mpr (yD _)
  refine⟨.ref T,_,r.laid (t':=W) (λc J hc=>P c J (hk c J hc)) B (show ObjOk X.prog X.w _ _ _ (.lst (d.map V.int))from⟨?_,Y.toList,n2,uY G,by rw[g]⟩),rfl,q _ d (r.hok.fresh B) C O n⟩
  have h6:=uR (λx=>(j3 0 y.toArray.size).any λj=>x==(a.getD j 0).toNat)
  have:=b.length_eq
  rw[bP]at this ⊢
  exact cx (Fg (by omega))
end
section
variable{X:Cx}
theorem Cc:LH X "list.count" (λx vs H Q=>∃(l:bV) (ns:List Int) (k:Int),x = .ref l/\vs=[.int k]/\SqL X.K H l (ns.map V.int)/\Q (.int (ns.count k:Nat)) H):=by
 intro d s g H x vs v m Q I a e h;obtain⟨l,ns,k,rfl,rfl,c,q⟩:=h
 cases a;obtain⟨u,rfl,tk,rfl⟩:=e.one;obtain⟨f,r,b,j⟩:=I.list c;exact count_list_ints b.isList (vB r) ⟨.int _,H,I.tok _,⟨_,rfl⟩,q⟩
theorem x5{K:bN}(h:X.K=K):LH X "list.count" (λx vs H Q=>∃(l:bV) (ns:List Int) (k:Int),x = .ref l/\vs=[.int k]/\SqL K H l (ns.map V.int)/\Q (.int (ns.count k:Nat)) H):=by
 subst h;exact Cc
end
theorem vk(p q:Int×Int):eh (dF p) (dF q)=decide (p=q):=by
 obtain⟨a,b⟩:=p;obtain⟨c,d⟩:=q;unfold dF;by_cases h1:a=c <;> by_cases h2:b=d <;> simp[eh,gc,h1,h2]
theorem ET(p:Int×Int):GQ 1 (dF p)=true:=rfl
theorem sO(p:Int×Int):eg (dF p)=true:=sx (ET p) (by decide)
structure Wt(p:Int×Int)(a D:Int):Prop where
 w:p.1*D=a*p.2
 p2:p.2≠0
 d:D≠0
theorem vq{a D:Int}(hD:D≠0):Wt (FQ.red a D) a D:=⟨FQ.red_worth hD,by have:=(FQ.red_low (t:=a) hD).pos;omega,hD⟩
theorem At{a D:Int}(hD:D≠0):Wt (a,D) a D:=⟨rfl,hD,hD⟩
theorem D4{p q:Int×Int}{a D b E:Int}(h:Wt p a D)(k:Wt q b E):G0 p q=FQ.red (a*E+b*D) (D*E):=by
 unfold G0;refine FQ.red_eq (cW h.p2 k.p2) (cW h.d k.d) ?_
 calc (p.1*q.2+q.1*p.2)*(D*E)=(p.1*D)*(q.2*E)+(q.1*E)*(p.2*D):=by rw[gy];ac_rfl
  _=(a*p.2)*(q.2*E)+(b*q.2)*(p.2*D):=by rw[h.w,k.w]
  _=(a*E+b*D)*(p.2*q.2):=by rw[gy];ac_rfl
theorem DP{p q:Int×Int}{a D b E:Int}(h:Wt p a D)(k:Wt q b E):Ky p q=FQ.red (a*E-b*D) (D*E):=by
 unfold Ky;refine FQ.red_eq (cW h.p2 k.p2) (cW h.d k.d) ?_
 calc (p.1*q.2-q.1*p.2)*(D*E)=(p.1*D)*(q.2*E)-(q.1*E)*(p.2*D):=by rw[ji];ac_rfl
  _=(a*p.2)*(q.2*E)-(b*q.2)*(p.2*D):=by rw[h.w,k.w]
  _=(a*E-b*D)*(p.2*q.2):=by rw[ji];ac_rfl
theorem BQ{p q:Int×Int}{a D b E:Int}(h:Wt p a D)(k:Wt q b E):Kl p q=FQ.red (a*b) (D*E):=by
 unfold Kl;refine FQ.red_eq (cW h.p2 k.p2) (cW h.d k.d) ?_
 calc (p.1*q.1)*(D*E)=(p.1*D)*(q.1*E):=by ac_rfl
  _=(a*p.2)*(b*q.2):=by rw[h.w,k.w]
  _=(a*b)*(p.2*q.2):=by ac_rfl
theorem AI{a D c:Int}(hD:D≠0)(hc:c≠0):FQ.red (a*c) (D*c)=FQ.red a D:=FQ.red_eq (cW hD hc) hD (by ac_rfl)
theorem By{T D m c:Int}(hD:D≠0)(hc:c≠0):G0 (FQ.red T D) (FQ.red m (D*c))=FQ.red (T*c+m) (D*c):=by
 rw[D4 (vq hD) (vq (cW hD hc))];refine FQ.red_eq (cW hD (cW hD hc)) (cW hD hc) ?_;rw[gy,gy]
 congr 1 <;> ac_rfl
theorem xU{a b D c:Int}(hD:D≠0)(hc:c≠0):Ky (FQ.red a D) (FQ.red b (D*c))=FQ.red (a*c-b) (D*c):=by
 rw[DP (vq hD) (vq (cW hD hc))];refine FQ.red_eq (cW hD (cW hD hc)) (cW hD hc) ?_;rw[ji,ji]
 congr 1 <;> ac_rfl
theorem sI{m D:Int}(hD:D≠0):FQ.red m D=(0,1)↔m=0:=by
 constructor
 ·intro h;have:=FQ.red_worth (t:=m) hD;rw[h]at this;simp at this;omega
 ·rintro rfl;exact vI hD
theorem Aw{m D:Int}(hD:D≠0):FQ.red m D=(1,1)↔m=D:=by
 constructor
 ·intro h;have:=FQ.red_worth (t:=m) hD;rw[h]at this;simp at this;omega
 ·rintro rfl;exact yV hD
theorem Cq{p q:Int×Int}{a D b E:Int}(h:Wt p a D)(k:Wt q b E)(hp:0<p.2)(hq:0<q.2)(hD:0<D)(hE:0<E):FJ p q=decide (a*E<b*D):=by
 have c:(p.1*q.2)*(D*E)=(a*E)*(p.2*q.2)/\(q.1*p.2)*(D*E)=(b*D)*(p.2*q.2):=by
  constructor
  ·calc (p.1*q.2)*(D*E)=(p.1*D)*(q.2*E):=by ac_rfl
    _=(a*p.2)*(q.2*E):=by rw[h.w]
    _=_:=by ac_rfl
  ·calc (q.1*p.2)*(D*E)=(q.1*E)*(p.2*D):=by ac_rfl
    _=(b*q.2)*(p.2*D):=by rw[k.w]
    _=_:=by ac_rfl
 have h1:0<D*E:=ip hD hE;have h2:0<p.2*q.2:=ip hp hq;unfold FJ;refine decide_eq_decide.mpr ⟨λz=>?_,λz=>?_⟩
 ·have:=f5 z h1;rw[c.1,c.2]at this;exact gm this (ef h2)
 ·have:=f5 z h2;rw[<-c.1,<-c.2]at this;exact gm this (ef h1)
theorem yn{a D b E:Int}(hD:0<D)(hE:0<E):FJ (FQ.red a D) (FQ.red b E)=decide (a*E<b*D):=
 Cq (vq (by omega)) (vq (by omega)) (FQ.red_low (by omega)).pos (FQ.red_low (by omega)).pos hD hE
theorem t7{a D:Int}{n:Nat}(hD:D≠0)(h1:a.natAbs<2^n)(h2:D.natAbs<2^n):Sz n (FQ.red a D):=by
 have s:=FQ.red_small (t:=a) hD;have p:=(FQ.red_low (t:=a) hD).pos;exact⟨ec s.1 h1,ec s.2 h2,by omega⟩
def Gv(ps:List (Int×Int)):Int×Int:=ps.foldl G0 (0,1)
theorem uZ(ps:List (Int×Int))(p:Int×Int):Gv (ps++[p])=G0 (Gv ps) p:=by unfold Gv;rw[nG];rfl
theorem yx{D:Int}(hD:D≠0):∀(ms:List Int) (a:Int),(fr D ms).foldl G0 (FQ.red a D)=FQ.red (a+ms.sum) D
 | [],a=>by simp[fr]
 | m::ms,a=>by
  show(fr D ms).foldl G0 (G0 (FQ.red a D) (FQ.red m D))=_
  rw[xf hD,yx hD ms,eS,mv]
theorem Es{D:Int}(hD:D≠0)(ms:List Int):Gv (fr D ms)=FQ.red ms.sum D:=by
 have:=yx hD ms 0;rw[vI hD,d2]at this;exact this
theorem BR{m n:Nat}{x y:Int×Int}(hx:Sz m x)(hy:Sz n y):Sz (m+n+1) (G0 x y):=by
 obtain⟨d,a,f⟩:=hx;obtain⟨e,b,c⟩:=hy;refine t7 (cW f c) (Ca (vF d b) (by rw[Nat.add_comm];exact vF e a)) (v9 (vF a b) (by omega))
theorem ye:∀(k:Nat) {ps:List (Int×Int)},ps.length=k->(∀p∈ps,Sz 30 p)->Sz (31*k+1) (Gv ps)
 | 0,ps,hl,_=>by rw[gM hl];exact⟨by decide,by decide,by decide⟩
 | k+1,ps,hl,h=>by
  have a:ps≠[]:=λz=>by rw[z]at hl;cases hl
  have e:=jo a
  rw[<-e,uZ]
  have h1:=ye k (ps:=ps.dropLast) (by rw[jh];omega) λp hp=>h p (List.dropLast_subset _ hp)
  have h2:=h _ (List.getLast_mem a)
  exact(BR h1 h2).up (by omega)
theorem DJ{ps:List (Int×Int)}(hl:ps.length<=60)(h:∀p∈ps,Sz 30 p):Sz 4000 (Gv ps):=(ye _ rfl h).up (by omega)
def Kt(K:bN):Sp:=λvs H Q _=>∃(a:bV) (gs:List V) (ps:List (Int×Int)),vs=[.ref a]/\SqL K H a gs/\cT (IsF K H) gs ps/\(∀p∈ps,Sz 30 p)/\ps.length<=60/\∀v H',Same H H'->IsF K H' v (Gv ps)->Q v H'
def FF(s:Int×Int)(ps:List (Int×Int)):Int×Int:=ps.foldl (λs p=>if FJ p s=true then p else s) s
def Iw(ps:List (Int×Int)):Int×Int:=FF (ps.headD (0,1)) ps
def Jh(K:bN):Sp:=λvs H Q _=>∃(a:bV) (gs:List V) (ps:List (Int×Int)),vs=[.ref a]/\SqL K H a gs/\cT (IsF K H) gs ps/\ps≠[]/\ps.length<=60/\(∀p∈ps,Sz 4000 p)/\∀v,IsF K H v (Iw ps)->Q v H
open EM in
def FO(D:Int)(ds ms:List Int)(t:Int):Int×Int:=FQ.red (at0 ms t) (D*cnt ds t)
open EM in
theorem um{D:Int}{ds ms:List Int}(hD:0<D):∀(r:List Int) (s:Int),s∈ds->(∀t∈r,t∈ds)->FF (FO D ds ms s) (r.map (FO D ds ms))=FO D ds ms (Gc ds ms s r)
 | [],s,_,_=>rfl
 | t::r,s,hs,hr=>by
  have b:=hr t b0
  have a:∀u∈r,u∈ds:=λu g=>hr u (b3 _ g)
  have j:0<D*cnt ds s:=ip hD (cnt_pos hs)
  have h:0<D*cnt ds t:=ip hD (cnt_pos b)
  have e:FJ (FO D ds ms t) (FO D ds ms s)=decide (at0 ms t*cnt ds s<at0 ms s*cnt ds t):=by
   unfold FO
   rw[yn h j]
   refine decide_eq_decide.mpr ?_
   have d:at0 ms t*(D*cnt ds s)=(at0 ms t*cnt ds s)*D:=by ac_rfl
   have f:at0 ms s*(D*cnt ds t)=(at0 ms s*cnt ds t)*D:=by ac_rfl
   rw[d,f]
   exact⟨λz=>gm z (ef hD),λz=>f5 z hD⟩
  show FF (if FJ (FO D ds ms t) (FO D ds ms s)=true then FO D ds ms t else FO D ds ms s) (r.map (FO D ds ms))=FO D ds ms (Gc ds ms (if at0 ms t*cnt ds s<at0 ms s*cnt ds t then t else s) r)
  rw[e]
  by_cases c:at0 ms t*cnt ds s<at0 ms s*cnt ds t
  ·rw[if_pos (decide_eq_true c),if_pos c]
   exact um hD r t b a
  ·rw[if_neg (by simpa using c),if_neg c]
   exact um hD r s hs a
theorem zI{D:Int}{ds ms:List Int}(hD:0<D)(hne:ds≠[]):Iw (ds.map (FO D ds ms))=FO D ds ms (EM.pick ds ms):=by
 cases ds with
 | nil=>exact absurd rfl hne
 | cons a r=>exact um (ds:=a::r) hD (a::r) a b0 λ_ h=>h
def KL(K:bN):Sp:=λvs H Q _=>∃(w l:bV) (row ms:List Int) (D:Int) (gs:List V),vs=[.ref w,.ref l]/\SqT K H w (row.map V.int)/\SqL K H l gs/\cT (IsF K H) gs (fr D ms)/\0<D/\
 (∀t∈row,0<=t/\t<ms.length)/\row.length<=63/\(∃t∈row,EM.at0 ms t≠0)/\∀H',Same H H'->Q (.int (EM.best ms row)) H'
def KU(K:bN):Sp:=λvs H Q _=>∃(d l:bV) (ds ms:List Int) (D:Int) (gs:List V),vs=[.ref d,.ref l]/\SqL K H d (ds.map V.int)/\SqL K H l gs/\cT (IsF K H) gs (fr D ms)/\0<D/\D<=262144/\ds≠[]/\ds.length<=6/\
 (∀t∈ds,0<=t/\t<ms.length)/\(∀m∈ms,0<=m/\m<=D)/\∀v H',Same H H'->IsF K H' v (FO D ds ms (EM.pick ds ms))->Q v H'
def KM(K:bN):Sp:=λvs H Q _=>∃(d l p:bV) (ds ms:List Int) (D c m:Int) (gs:List V),vs=[.ref d,.ref l,.ref p]/\SqL K H d (ds.map V.int)/\SqL K H l gs/\cT (IsF K H) gs (fr D ms)/\IsF K H (.ref p) (FQ.red m (D*c))/\
 0<D/\D<=262144/\0<c/\c<=6/\0<=m/\m<=D/\ds.length<=6/\ms.length<=6/\(∀m∈ms,0<=m/\m<=D)/\
 ∀q gs' H',Same H H'->H q=none->H' q=some (.lst gs')->cT (IsF K H') gs' (fr (D*c) ((LM.rng ms.length).map λj=>EM.at0 ms j*c-EM.cnt ds j*m))->Q (.ref q) H'
def IsC(K:bN)(P:bV)(H:Hp)(v:V)(c:EM.Course):Prop:=∃a l d g,v = .ref a/\SqT K H a [.ref l,.ref d,.ref g]/\IsF K H (.ref l) (FQ.red c.m c.D)/\H d=some (.lst (c.ds.map V.int))/\SqT K H g (c.gone.map V.int)/\d≠P
theorem IsC.mono{K:bN}{P:bV}{H H':Hp}{v:V}{c:EM.Course}(e:Same H H')(h:IsC K P H v c):IsC K P H' v c:=by
 obtain⟨a,l,d,g,rfl,h1,h2,h3,h4,h5⟩:=h;exact⟨a,l,d,g,rfl,e.tup h1,h2.mono e,e _ _ h3,e.tup h4,h5⟩
theorem IsC.over{K:bN}{P:bV}{H:Hp}{v:V}{c:EM.Course}{ys zs:List V}(h:IsC K P H v c)(hp:H P=some (.lst ys)):IsC K P (upd H P (.lst zs)) v c:=by
 obtain⟨a,l,d,g,rfl,h1,h2,h3,h4,h5⟩:=h;exact⟨a,l,d,g,rfl,uQ h1 hp,h2.over hp,by rw[rQ h5];exact h3,uQ h4 hp,h5⟩
def F0(W:List (List Int))(n N:Nat):List EM.Course:=(cp N).map λi=>EM.cs W (EM.st W n i)
theorem zX{W:List (List Int)}{n N i:Nat}{c:EM.Course}(h:(F0 W n N)[i]?=some c):i<N/\c=EM.cs W (EM.st W n i):=by
 unfold F0 at h;rw[bZ]at h;by_cases a:i<N
 ·rw[dy a]at h;exact⟨a,(Option.some.inj h).symm⟩
 ·rw[fI (by rw[eJ];omega)]at h
  cases h
def I8(K:bN):Sp:=λvs H Q _=>∃(a:bV) (ws:List V) (W:List (List Int)) (n:Nat),vs=[.ref a]/\SqL K H a ws/\cT (IsR K H) ws W/\EM.Ws n W/\
 ∀p cs N H',Same H H'->H p=none->H' p=some (.lst cs)->EM.Stops W n N->cT (IsC K p H') cs (F0 W n N)->Q (.ref p) H'
def IZ(K:bN):Sp:=λvs H Q _=>∃(c:bV) (cs:List V) (W:List (List Int)) (n N p:Nat) (t:Int),vs=[.ref c,.int p,.int t]/\H c=some (.lst cs)/\EM.Ws n W/\EM.Upto W n N/\cT (IsC K c H) cs (F0 W n N)/\p<n/\
 ∀v H',Same H H'->IsF K H' v (FQ.red (EM.et W n N p t) (EM.st W n N).D)->Q v H'
def Gn(W:List (List Int))(n N p:Nat):List Int:=(LM.rng n).map (EM.et W n N p)
def FN(W:List (List Int))(n N:Nat):List (List Int):=(cp n).map (Gn W n N)
def Jb(K:bN):Sp:=λvs H Q _=>∃(c:bV) (cs:List V) (W:List (List Int)) (n N p:Nat),vs=[.ref c,.int p,.int n]/\H c=some (.lst cs)/\EM.Ws n W/\EM.Upto W n N/\cT (IsC K c H) cs (F0 W n N)/\p<n/\
 ∀v H',Same H H'->RwFT K H' (EM.st W n N).D v (Gn W n N p)->Q v H'
def KQ(K:bN):Sp:=λvs H Q _=>∃(a:bV) (ws:List V) (W:List (List Int)) (n:Nat),vs=[.ref a]/\SqL K H a ws/\cT (IsR K H) ws W/\EM.Ws n W/\
 ∀p us N H',Same H H'->H p=none->H' p=some (.lst us)->EM.Stops W n N->cT (RwFT K H' (EM.st W n N).D) us (FN W n N)->Q (.ref p) H'
theorem xj(t:Int):∀G:List Int,Jw (.int t) (G.map V.int)=decide (t∈G)
 | []=>by simp[Jw]
 | x::G=>by
  have a:=xj t G
  unfold Jw at a ⊢
  rw[dh,gB,a]
  by_cases h1:x=t
  ·subst h1;simp[Lc]
  ·by_cases h2:t∈G
   ·simp[h2]
   ·have h3:t≠x:=λz=>h1 z.symm
    simp[Lc,h1,h2,h3]
theorem wq(G:List Int):(G.map V.int).all GT=true:=by
 rw[de];intro v a;obtain⟨i,_,rfl⟩:=cP.mp a;rfl
theorem wP{α β:Type}{F:α->β->Prop}{x:α}{y:β}:∀{xs:List α} {ys:List β} {k:Nat},cT F xs ys->F x y->cT F (xs.set k x) (ys.set k y)
 | _,_,_,.nil,_=> .nil
 | _,_,0,.cons _ t,h=> .cons h t
 | _,_,k+1,.cons r t,h=> .cons r (wP t h)
theorem Bs{D:Int}{m:List Int}{k:Nat}(h:k<m.length):(fr D m)[k]?=some (FQ.red (m.getD k 0) D):=by
 unfold fr;rw[bZ,bR,bT h];rfl
abbrev LG:=Int×List Int
def cw(Ls:List LG)(i:Nat):Int:=((Ls.take i).map Prod.fst).sum
theorem cw_succ{Ls:List LG}{i:Nat}{l:LG}(h:Ls[i]?=some l):cw Ls (i+1)=cw Ls i+l.1:=by
 unfold cw;rw[cv,h,cb,List.sum_append];simp
structure LotsOk(n:Nat)(Ls:List LG)(T:Int):Prop where
 tot:cw Ls Ls.length=T
 w1:∀l∈Ls,1<=l.1
 w2:∀l∈Ls,l.1<=1000000000000
 ne:1<=Ls.length
 le:Ls.length<=40
 dl:∀l∈Ls,l.2.length=n
section
variable{n:Nat}{Ls:List LG}{T:Int}
theorem LotsOk.up(h:LotsOk n Ls T){i:Nat}(hi:i<Ls.length):cw Ls i<cw Ls (i+1)/\cw Ls (i+1)=cw Ls i+(Ls[i]).1:=by
 have e:=cw_succ (bT hi);have:=h.w1 _ (cm hi);omega
theorem LotsOk.mono(h:LotsOk n Ls T){i:Nat}:∀k,i+k<=Ls.length->cw Ls i<=cw Ls (i+k)
 | 0,_=>eH _
 | k+1,hk=>by
  have h1:=h.mono (i:=i) k (by omega)
  have h2:=(h.up (i:=i+k) (by omega)).1
  rw[<-mw]
  omega
theorem LotsOk.mono'(h:LotsOk n Ls T){i j:Nat}(hij:i<=j)(hj:j<=Ls.length):cw Ls i<=cw Ls j:=by
 have:=h.mono (i:=i) (j-i) (by omega);rw[show i+(j-i)=j by omega]at this;exact this
theorem cw_zero(Ls:List LG):cw Ls 0=0:=rfl
theorem LotsOk.bd(h:LotsOk n Ls T){i:Nat}(hi:i<=Ls.length):0<=cw Ls i/\cw Ls i<=T:=by
 have h1:=h.mono' (cM i) hi;have h2:=h.mono' hi (bX _);rw[cw_zero]at h1;rw[h.tot]at h2;exact⟨h1,h2⟩
theorem LotsOk.cwle(h:LotsOk n Ls T):∀i,i<=Ls.length->cw Ls i<=i*1000000000000
 | 0,_=>by rw[cw_zero];simp
 | i+1,hi=>by
  have h1:=h.cwle i (by omega)
  have h2:=(h.up (i:=i) (by omega)).2
  have h3:=h.w2 _ (cm (show i<Ls.length by omega))
  rw[h2]
  push_cast
  omega
theorem LotsOk.T0(h:LotsOk n Ls T):0<T/\T<2^80:=by
 have h1:=(h.up (i:=0) (by have:=h.ne;omega)).1;have h2:=h.bd (i:=1) h.ne;rw[cw_zero,nH]at h1;have h3:=h.cwle Ls.length (bX _);rw[h.tot]at h3;have h4:=h.le;have:(Ls.length:Int)*1000000000000<=40*1000000000000:=eU (by omega) (by decide);constructor <;> omega
end
structure Mf(Ls:List LG)(T:Int)(p:Int×Int)(i:Nat):Prop where
 lt:i<Ls.length
 yes:FJ p (FQ.red (cw Ls (i+1)) T)=true
 no:∀j,j<i->FJ p (FQ.red (cw Ls (j+1)) T)=false
def IsLot(K:bN)(H:Hp)(T:Int)(v:V)(l:LG):Prop:=∃a f g,v = .ref a/\SqT K H a [.ref f,.ref g]/\IsF K H (.ref f) (FQ.red l.1 T)/\SqT K H g (l.2.map V.int)
theorem IsLot.mono{K:bN}{H H':Hp}{T:Int}{v:V}{l:LG}(e:Same H H')(h:IsLot K H T v l):IsLot K H' T v l:=by
 obtain⟨a,f,g,rfl,h1,h2,h3⟩:=h;exact⟨a,f,g,rfl,e.tup h1,h2.mono e,e.tup h3⟩
def Gm(p:Int×Int):Prop:=FJ p (0,1)=true\/FJ p (1,1)=false
def Kd(K:bN)(x:Xs):Sp:=λvs H Q E=>∃(L m:bV) (ls:List V) (Ls:List LG) (T:Int) (n:Nat) (p:Int×Int),vs=[.ref L,.ref m]/\SqL K H L ls/\cT (IsLot K H T) ls Ls/\LotsOk n Ls T/\IsF K H (.ref m) p/\Sz 2000 p/\0<p.2/\
 (Gm p->E (.ref x.NoPick) none H)/\(¬Gm p->∀i v H',Mf Ls T p i->Same H H'->IsR K H' v (Ls.getD i (0,[])).2->Q v H')
theorem vd{prog:cg}{w:cC}{A:cO}{E:bQ->bS->Prop}{s:bS}{it l:bV}{i:Nat}{items:Array bQ}{x:bQ}{Q:bQ->bS->Prop}(hit:s.heap.IsTupleIter it l i)(hl:s.heap.IsTuple l items)(hx:items[i]?=some x)
  (hQ:∀h':Heap,h'.IsTupleIter it l (i+1)->eT it s.heap h'->Q x {s with heap:=h'}):wpAny (model prog w) A (dt (.ref it)) Q E s:=by
 obtain⟨o,b,e,a⟩:=id hit
 obtain⟨h,d,f,g,c⟩:=hl
 unfold dt
 refine bM (dA (gK hit) gn (df gn (gK hit) jy ?_ (jp _)))
 refine bM (bO ?_)
 refine bM (dN b a rfl ?_)
 refine b7 rfl ?_
 refine bM (dN b a rfl ?_)
 refine bM (fi d c ?_)
 dsimp only
 rw[show items[((i:Nat):Int).toNat]?=some x from hx]
 refine bM (fN b a (by simp) ?_)
 refine bO ⟨x,rfl,bO (hQ _ ⟨_,dR _ b (Obj.isFreed_of_fields (mT a _)),(Obj.cls_mapFields o _).trans e,?_⟩ (d0 _ _ _))⟩
 rw[mT a]
 rfl
theorem vA{prog:cg}{w:cC}{A:cO}{E:bQ->bS->Prop}{s:bS}{it l:bV}{i:Nat}{items:Array bQ}{Q:bQ->bS->Prop}(hh:A.handled=none)(hit:s.heap.IsTupleIter it l i)(hl:s.heap.IsTuple l items)(hx:items[i]?=none)
  (hE:∀(h':Heap) (e:bV),qK it s.heap h'->(∃o,h'.get? e=some o/\o.cls = .type "StopIteration")->E (.ref e) {s with heap:=h'}):wpAny (model prog w) A (dt (.ref it)) Q E s:=by
 obtain⟨o,b,j,a⟩:=id hit
 obtain⟨h,d,f,g,c⟩:=hl
 unfold dt
 refine bM (dA (gK hit) gn (df gn (gK hit) jy ?_ (jp _)))
 refine bM (bO ?_)
 refine bM (dN b a rfl ?_)
 refine b7 rfl ?_
 refine bM (dN b a rfl ?_)
 refine bM (fi d c ?_)
 dsimp only
 rw[show items[((i:Nat):Int).toNat]?=none from hx]
 refine bM (iq (bM (fN b a (by simp) ?_)))
 unfold nI newExc raiseNew
 refine bM (bM (iw ?_ (by show(0:Nat)<=sizeLine;decide)))
 refine bM (eR rfl (d5 ?_ ?_))
 ·refine bM (kj ?_)
  rw[show A.in1.handled=none from hh]
  refine lZ ?_
  exact hE _ _ (((d0 _ _ _).extBut.push _).push _) ⟨_,b4 _ rfl,rfl⟩
 ·exact kJ _ _ _ _ _ _ _ _
theorem yE{prog:cg}{w:cC}{A:cO}(hh:A.handled=none)(it l:bV)(hl:l≠it)(items:Array bQ):Draws prog w A it [it,l] items.size (λi v=>items[i]?=some v) (λi h=>h.IsTupleIter it l i/\h.IsTuple l items) where
 live:=λi h st=>by obtain⟨⟨o,g,_⟩,_⟩:=st;exact⟨o,g⟩
 frame:=λi h f st k=>by
  obtain⟨b,o,a,r⟩:=st
  exact⟨b.at λo q=>k it (by simp) o q,o,k l (by simp) o a,r⟩
 item:=λi s Q E d st h=>by
  obtain⟨b,a⟩:=st
  refine vd b a (x:=items[i]) (by simp[d]) λf e c=>h _ _ s.toks (by simp[d]) ⟨e,?_⟩ c
  obtain⟨o,q,r⟩:=a
  exact⟨o,(c.2 l hl).trans q,r⟩
 done:=λs Q E st h=>by
  obtain⟨b,a⟩:=st
  exact vA hh b a (by simp) h
structure LZ(z TI TO i1 i2:bV)(fp1 fp2:List bV):Prop where
 TIz:TI≠z
 TOz:TO≠z
 i1z:i1≠z
 i2z:i2≠z
 TITO:TI≠TO
 TIi1:TI≠i1
 TIi2:TI≠i2
 TOi1:TO≠i1
 TOi2:TO≠i2
 i12:i1≠i2
 z1:z∉fp1
 T1:TO∉fp1
 i21:i2∉fp1
 z2:z∉fp2
 T2:TO∉fp2
 i12':i1∉fp2
theorem y2{prog:cg}{w:cC}{A:cO}{E:bQ->bS->Prop}{s:bS}{z TI TO i1 i2:bV}{fp1 fp2:List bV}{n1 n2 k1 k2:Nat}{P1 P2:Nat->bQ->Prop}{St1 St2:Nat->Heap->Prop}{a b:bQ}{Q:bQ->bS->Prop}
  (D1:Draws prog w A i1 fp1 n1 P1 St1)(D2:Draws prog w A i2 fp2 n2 P2 St2)(ap:LZ z TI TO i1 i2 fp1 fp2)(hz:IsZip s.heap z TI TO .none)(hTI:IsPair s.heap TI (.ref i1) (.ref i2))(hTO:IsPair s.heap TO a b)
  (s1:St1 k1 s.heap)(s2:St2 k2 s.heap)(hk1:k1<n1)(hk2:k2<n2)
  (hQ:∀(x y:bQ) (h':Heap) (tk:Nat),P1 k1 x->P2 k2 y->IsZip h' z TI TO (rawInt s.heap.objs.size)->IsPair h' TO x y->St1 (k1+1) h'->St2 (k2+1) h'->IsPair h' s.heap.objs.size x y->h'.objs.size=s.heap.objs.size+1->
   (∀c o,c≠z->c≠TO->c≠i1->c≠i2->s.heap.get? c=some o->h'.get? c=some o)->Q (.ref s.heap.objs.size) {s with heap:=h',toks:=tk}):
  wpAny (model prog w) A (Builtin.«zip.__next__» {pos:=[.ref z]}) (λfin s'=>∃v,fin=qL (Flow.ret v)/\Q v s') E s:=by
 unfold Builtin.«zip.__next__»
 refine bM (bO ?_)
 refine bM (dN hz rfl rfl ?_)
 refine bM (dN hz rfl rfl ?_)
 refine bM (fi hTI rfl ?_)
 refine b7 rfl ?_
 unfold fj
 refine bM (bM (dN hz rfl rfl (bO ?_)))
 refine bM (iq (bM (dN hz rfl rfl ?_)))
 refine bM (dY hz (by simp) λh1 J k=>?_)
 rw[show #[b5 i1,b5 i2].toList.zipIdx=[(b5 i1,0),(b5 i2,1)]from rfl,dD,bind_assoc]
 have H:IsPair h1 TO a b:=(k.2 TO ap.TOz).trans hTO
 have V:St1 k1 h1:=D1.frame _ _ _ s1 λc d o q=>(k.2 c (λe=>ap.z1 (e▸d))).trans q
 have O:St2 k2 h1:=D2.frame _ _ _ s2 λc d o q=>(k.2 c (λe=>ap.z2 (e▸d))).trans q
 refine bM (bM (mx ?_))
 refine(show wpAny (model prog w) A (if(dH false==dH true)=true then eB (.ref i1)else do let x<-dt (.ref i1);pure (some x)) _ _ _ from b7 rfl (bM (D1.item k1 _ _ _ hk1 V λx h2 aa px P l=>bO ?_)))
 have r:IsPair h2 TO a b:=(l.2 TO ap.TOi1).trans H
 refine bM (fi r rfl ?_)
 refine bM (l3 r λh3 F g=>?_)
 refine bM (j4 (bO ?_))
 dsimp only
 have u:IsPair h3 TO x b:=F
 have Z:St1 (k1+1) h3:=D1.frame _ _ _ P λc d o q=>(g.2 c (λe=>ap.T1 (e▸d))).trans q
 have T:St2 k2 h3:=D2.frame _ _ _ O λc d o q=>(g.2 c (λe=>ap.T2 (e▸d))).trans ((l.2 c (λe=>ap.i12' (e▸d))).trans q)
 rw[dD,bind_assoc]
 refine bM (bM (mx ?_))
 refine(show wpAny (model prog w) A (if(dH false==dH true)=true then eB (.ref i2)else do let x<-dt (.ref i2);pure (some x)) _ _ _ from b7 rfl (bM (D2.item k2 _ _ _ hk2 T λy h4 U py S h=>bO ?_)))
 have n:IsPair h4 TO x b:=(h.2 TO ap.TOi2).trans u
 refine bM (fi n rfl ?_)
 refine bM (l3 n λh5 D j=>?_)
 refine bM (j4 (bO ?_))
 dsimp only
 have m:IsPair h5 TO x y:=D
 rw[fM]
 refine bM (bO ?_)
 refine bM (fi m rfl ?_)
 refine bM (iw ?_ (by show 2<=sizeLine;decide))
 have C:h5.get? z=some {cls:=cX "zip",data:=lP #[Value.ellipsis,dH false,dH false,b5 TI,b5 TO]}:=
  (j.2 z (Ne.symm ap.TOz)).trans ((h.2 z (Ne.symm ap.i2z)).trans ((g.2 z (Ne.symm ap.TOz)).trans ((l.2 z (Ne.symm ap.i1z)).trans J)))
 unfold mi
 dsimp only
 have X:=bU (o:={cls:=cX "tuple",data:=ii [x,y].toArray}) C
 refine bM (bM (dY X (by simp) λh7 R p=>?_))
 refine dY R (by simp) λY I t=>?_
 have B:h5.objs.size=s.heap.objs.size:=by rw[j.1,h.1,g.1,l.1,k.1]
 have G:(h5.push {cls:=cX "tuple",data:=ii [x,y].toArray}).get? h5.objs.size=some {cls:=cX "tuple",data:=ii [x,y].toArray}:=b4 _ rfl
 have nz:h5.objs.size≠z:=Ne.symm (cF (b6 C))
 have W:St1 (k1+1) h5:=D1.frame _ _ _ Z λc d o q=>(j.2 c (λe=>ap.T1 (e▸d))).trans ((h.2 c (λe=>ap.i21 (e▸d))).trans q)
 have M:St2 (k2+1) h5:=D2.frame _ _ _ S λc d o q=>(j.2 c (λe=>ap.T2 (e▸d))).trans q
 have f:∀c o,c≠z->h5.get? c=some o->Y.get? c=some o:=λc o d q=>(t.2 c d).trans ((p.2 c d).trans (bU _ q))
 refine bO ⟨_,rfl,?_⟩
 dsimp only
 rw[B]
 refine hQ x y Y U px py ?_ (f TO _ ap.TOz m) (D1.frame _ _ _ W λc d o q=>f c o (λe=>ap.z1 (e▸d)) q) (D2.frame _ _ _ M λc d o q=>f c o (λe=>ap.z2 (e▸d)) q) ?_ ?_ (λc o L N c3 c4 q=>?_)
 ·rw[<-B];exact I
 ·rw[<-B];exact(t.2 _ nz).trans ((p.2 _ nz).trans G)
 ·rw[t.1,p.1]
  show(h5.push _).objs.size=_
  unfold kH
  simp[B]
 ·exact f c o L ((j.2 c N).trans ((h.2 c c4).trans ((g.2 c N).trans ((l.2 c c3).trans ((k.2 c L).trans q)))))
theorem uu{prog:cg}{w:cC}{A:cO}{E:bQ->bS->Prop}{s:bS}{z:bV}{Q:Option bQ->bS->Prop}(ht:s.TypeIs (.ref z) "zip")
  (h:wpAny (model prog w) A.in1 (Builtin.«zip.__next__» {pos:=[.ref z]}) (λfin s'=>∃v,fin=qL (Flow.ret v)/\Q (some v) s') (λe s'=>(∃a o,e = .ref a/\s'.heap.get? a=some o/\o.cls = .type "StopIteration")/\Q none s') s):
  wpAny (model prog w) A (pyNext (.ref z)) Q E s:=by
 unfold pyNext
 refine bM (gb (dA ht oB (df oB ht F.entry_zip_next ?_ (F.args_zip_next_1 _))))
 refine eO h (λfin s' b=>?_) (λe s' b=>?_)
 ·obtain⟨v,e,q⟩:=b
  exact⟨v,e,bO q⟩
 ·obtain⟨⟨a,o,rfl,d,c⟩,q⟩:=b
  refine bM (dQ (T:="StopIteration") ⟨o,d,c⟩ jM ?_)
  exact bO q
theorem B8{prog:cg}{w:cC}{A:cO}{E:bQ->bS->Prop}{s:bS}{z TI TO i1 i2:bV}{fp1:List bV}{n1:Nat}{P1:Nat->bQ->Prop}{St1:Nat->Heap->Prop}{a b:bQ}{Q:PySem.Fin->bS->Prop}
  (D1:Draws prog w A i1 fp1 n1 P1 St1)(i1z:i1≠z)(z1:z∉fp1)(hz:IsZip s.heap z TI TO .none)(hTI:IsPair s.heap TI (.ref i1) (.ref i2))(hTO:IsPair s.heap TO a b)(s1:St1 n1 s.heap)
  (hE:∀(h':Heap) (e:bV),(∀c o,c≠z->c≠i1->s.heap.get? c=some o->h'.get? c=some o)->(∃o,h'.get? e=some o/\o.cls = .type "StopIteration")->E (.ref e) {s with heap:=h'}):
  wpAny (model prog w) A (Builtin.«zip.__next__» {pos:=[.ref z]}) Q E s:=by
 unfold Builtin.«zip.__next__»
 refine bM (bO ?_)
 refine bM (dN hz rfl rfl ?_)
 refine bM (dN hz rfl rfl ?_)
 refine bM (fi hTI rfl ?_)
 refine b7 rfl ?_
 unfold fj
 refine bM (bM (dN hz rfl rfl (bO ?_)))
 refine bM (iq (bM (dN hz rfl rfl ?_)))
 refine bM (dY hz (by simp) λh1 l j=>?_)
 rw[show #[b5 i1,b5 i2].toList.zipIdx=[(b5 i1,0),(b5 i2,1)]from rfl,dD,bind_assoc]
 have p:St1 n1 h1:=D1.frame _ _ _ s1 λc f o q=>(j.2 c (λe=>z1 (e▸f))).trans q
 refine bM (bM (mx ?_))
 refine(show wpAny (model prog w) A (if(dH false==dH true)=true then eB (.ref i1)else do let x<-dt (.ref i1);pure (some x)) _ _ _ from b7 rfl (bM (D1.done _ _ _ p λh2 e g d=>?_)))
 have k:h2.get? z=some _:=g z _ (Ne.symm i1z) l
 refine dY k (by simp) λh3 t h=>?_
 obtain⟨o,d,f⟩:=d
 have n:e≠z:=λq=>by
  rw[q,k]at d
  cases d
  exact absurd (cX.inj f) (by decide)
 exact hE h3 e (λc o m r q=>(h.2 c m).trans (g c o r ((j.2 c m).trans q))) ⟨o,(h.2 e n).trans d,f⟩
def Sqx(h:Heap)(tp:Bool)(l:bV)(items:Array bQ):Prop:=if tp=true then h.IsTuple l items else h.IsList l items
def Itx(h:Heap)(tp:Bool)(it l:bV)(i:Nat):Prop:=if tp=true then h.IsTupleIter it l i else h.IsListIter it l i
def Hq(tp:Bool)(l:bV):Obj:={cls:= .type (if tp=true then"tuple_iterator"else"list_iterator"),data:= .fields #[.ref l,.int 0 0]}
theorem wW{prog:cg}{w:cC}{A:cO}{E:bQ->bS->Prop}{s:bS}{tp:Bool}{l:bV}{items:Array bQ}{Q:bQ->bS->Prop}(h:Sqx s.heap tp l items)(hQ:Q (.ref s.heap.objs.size) {s with heap:=s.heap.push (Hq tp l)}):wpAny (model prog w) A (pyIter (.ref l)) Q E s:=by
 cases tp with
 | true=>exact mG h hQ
 | false=>exact hO h hQ
theorem Sqx.keep{h h':Heap}{tp:Bool}{l:bV}{items:Array bQ}(q:Sqx h tp l items)(k:∀o,h.get? l=some o->h'.get? l=some o):Sqx h' tp l items:=by
 cases tp with
 | true=>obtain⟨o,a,r⟩:=(show h.IsTuple l items from q);exact⟨o,k o a,r⟩
 | false=>obtain⟨o,a,r⟩:=(show h.IsList l items from q);exact⟨o,k o a,r⟩
theorem Sqx.lt{h:Heap}{tp:Bool}{l:bV}{items:Array bQ}(q:Sqx h tp l items):l<h.objs.size:=by
 cases tp with
 | true=>obtain⟨o,a,r⟩:=(show h.IsTuple l items from q);exact b6 a
 | false=>obtain⟨o,a,r⟩:=(show h.IsList l items from q);exact b6 a
theorem Itx.new{h:Heap}{tp:Bool}{it l:bV}(e:h.get? it=some (Hq tp l)):Itx h tp it l 0:=by
 cases tp with
 | true=>exact⟨_,e,rfl,rfl⟩
 | false=>exact⟨_,e,rfl,rfl⟩
theorem Itx.keep{h h':Heap}{tp:Bool}{it l:bV}{i:Nat}(q:Itx h tp it l i)(k:∀o,h.get? it=some o->h'.get? it=some o):Itx h' tp it l i:=by
 cases tp with
 | true=>exact Heap.IsTupleIter.at q k
 | false=>exact Heap.IsListIter.at q k
theorem Itx.get{h:Heap}{tp:Bool}{it l:bV}{i:Nat}(q:Itx h tp it l i):∃vs n,h.get? it=some {cls:= .type n,data:= .fields vs}\/∃o,h.get? it=some o/\o.data = .fields vs:=by
 cases tp with
 | true=>obtain⟨o,e,c,d⟩:=(show h.IsTupleIter it l i from q);exact⟨_,"",.inr ⟨o,e,d⟩⟩
 | false=>obtain⟨o,e,c,d⟩:=(show h.IsListIter it l i from q);exact⟨_,"",.inr ⟨o,e,d⟩⟩
theorem uh{prog:cg}{w:cC}{A:cO}(hh:A.handled=none)(tp:Bool)(it l:bV)(hl:l≠it)(items:Array bQ):Draws prog w A it [it,l] items.size (λi v=>items[i]?=some v) (λi h=>Itx h tp it l i/\Sqx h tp l items):=by
 cases tp with
 | true=>exact yE hh it l hl items
 | false=>exact Draws.list hh it l hl items
theorem zK(l1 l2:bV)(t1 t2:Bool)(xs ys:Array bQ):Meets (Builtin.«zip.__new__» {pos:=[.type "zip",.ref l1,.ref l2]}) (λ_ R s=>Sqx s.heap t1 l1 xs/\Sqx s.heap t2 l2 ys/\
  R (.ok (.ret (.ref (s.heap.objs.size+4)))) {s with heap:=((((s.heap.push (Hq t1 l1)).push (Hq t2 l2)).push {cls:= .type "tuple",data:= .seq #[.ref s.heap.objs.size,.ref (s.heap.objs.size+1)]}).push {cls:= .type "tuple",data:= .seq #[.none,.none]}).push {cls:= .type "zip",data:= .fields #[.none,.bool false,.bool false,.ref (s.heap.objs.size+2),.ref (s.heap.objs.size+3)]}}):=by
 refine Meets.of_wp λd w A R s h=>?_
 obtain⟨h1,h2,e⟩:=h
 have a:=sub_zip
 unfold Builtin.«zip.__new__» oH
 refine bM (bM (bO ?_))
 refine b7 rfl (bM (eR a (b7 rfl (bO ?_))))
 refine b7 rfl ?_
 unfold oZ
 dsimp only
 rw[dD]
 refine bM (bM (bM (bM (cR (wW h1 (bO ?_))))))
 dsimp only
 rw[dD]
 have b:Sqx (s.heap.push (Hq t1 l1)) t2 l2 ys:=h2.keep λo q=>bU _ q
 refine bM (bM (cR (wW (s:={s with heap:=s.heap.push (Hq t1 l1)}) b (bO ?_))))
 dsimp only
 rw[fM]
 have c:∀(h:Heap) (o:Obj),(h.push o).objs.size=h.objs.size+1:=λh o=>by unfold kH;simp
 refine bO (bO ?_)
 refine bM (iw ?_ (by show 2<=sizeLine;decide))
 refine bM (iw ?_ (by show 2<=sizeLine;decide))
 unfold oC
 refine bM (d5 ?_ (by show(5:Nat)<=sizeLine+2;decide))
 refine bO ⟨_,rfl,?_⟩
 simp only[c]
 exact e
def KR(K:bN)(H:Hp)(tp:Bool)(a:bV)(xs:List V):Prop:=if tp=true then SqT K H a xs else SqL K H a xs
structure ZipB(z TI TO i1 i2 l1 l2:bV):Prop where
 TIz:TI≠z
 TOz:TO≠z
 i1z:i1≠z
 i2z:i2≠z
 TITO:TI≠TO
 TIi1:TI≠i1
 TIi2:TI≠i2
 TOi1:TO≠i1
 TOi2:TO≠i2
 i12:i1≠i2
 l1z:l1≠z
 l1T:l1≠TO
 l1i:l1≠i1
 l1j:l1≠i2
 l2z:l2≠z
 l2T:l2≠TO
 l2i:l2≠i1
 l2j:l2≠i2
theorem ZipB.a{z TI TO i1 i2 l1 l2:bV}(b:ZipB z TI TO i1 i2 l1 l2):LZ z TI TO i1 i2 [i1,l1] [i2,l2]:=
 ⟨b.TIz,b.TOz,b.i1z,b.i2z,b.TITO,b.TIi1,b.TIi2,b.TOi1,b.TOi2,b.i12,by simp[Ne.symm b.i1z,Ne.symm b.l1z],by simp[b.TOi1,Ne.symm b.l1T],by simp[Ne.symm b.i12,Ne.symm b.l1j],by simp[Ne.symm b.i2z,Ne.symm b.l2z],by simp[b.TOi2,Ne.symm b.l2T],by simp[b.i12,Ne.symm b.l2i]⟩
section
variable{X:Cx}{pins:List (bV×Obj)}{σ:St}{H:Hp}{s:bS}
theorem Inv.sqx(I:Inv X pins σ H s){tp:Bool}{a:bV}{xs:List V}(h:KR X.K H tp a xs):∃its:List bQ,Vals xs its/\Sqx s.heap tp a its.toArray:=by
 cases tp with
 | true=>obtain⟨its,r,p,_⟩:=I.tuple h;exact⟨its,r,p⟩
 | false=>obtain⟨its,r,p,_⟩:=I.list h;exact⟨its,r,p.isList⟩
theorem Inv.sqb_inj(I:Inv X pins σ H s){tp:Bool}{a:bV}{xs ys:List V}(h:KR X.K H tp a xs)(h':KR X.K H tp a ys):xs=ys:=by
 cases tp with
 | true=>exact I.tuple_inj h h'
 | false=>exact I.list_inj h h'
end
def N1(K:bN)(t1 t2:Bool)(a b:bV):It:=
 ⟨λi H=>∃xs ys x y,KR K H t1 a xs/\KR K H t2 b ys/\xs[i]?=some x/\ys[i]?=some y,
  λi H v H'=>∃x y t,(∀xs,KR K H t1 a xs->xs[i]?=some x)/\(∀ys,KR K H t2 b ys->ys[i]?=some y)/\v = .ref t/\H t=none/\H'=upd H t (.tup [x,y]),
  λi H=>∃xs,KR K H t1 a xs/\xs.length=i⟩
theorem Cv{P:cg}{w:cC}{K:bN}{elts:List Expr}{x1:Nat}{pos:Pos}(t1 t2:Bool)(l1 l2 z TI TO i1 i2:bV)(ap:ZipB z TI TO i1 i2 l1 l2):
  JX P w K (.Tuple elts x1 pos) (N1 K t1 t2 l1 l2) [z,TI,TO,i1,i2] z (λi h=>IsZip h z TI TO .none/\IsPair h TI (.ref i1) (.ref i2)/\(∃a b,IsPair h TO a b)/\Itx h t1 i1 l1 i/\Itx h t2 i2 l2 i) where
 mem:=by simp
 obj:=λi h st b f=>by
  obtain⟨j,m,⟨a,c,t⟩,p,r⟩:=st
  simp only[cj,gG,or_false]at f
  rcases f with rfl|rfl|rfl|rfl|rfl
  ·exact⟨_,j,λv z=>by cases z⟩
  ·exact⟨_,m,λv z=>by cases z⟩
  ·exact⟨_,t,λv z=>by cases z⟩
  ·cases t1 with
   | true=>obtain⟨o,e,_,d⟩:=(show h.IsTupleIter _ _ _ from p);exact⟨o,e,λv z=>by rw[d]at z;cases z⟩
   | false=>obtain⟨o,e,_,d⟩:=(show h.IsListIter _ _ _ from p);exact⟨o,e,λv z=>by rw[d]at z;cases z⟩
  ·cases t2 with
   | true=>obtain⟨o,e,_,d⟩:=(show h.IsTupleIter _ _ _ from r);exact⟨o,e,λv z=>by rw[d]at z;cases z⟩
   | false=>obtain⟨o,e,_,d⟩:=(show h.IsListIter _ _ _ from r);exact⟨o,e,λv z=>by rw[d]at z;cases z⟩
 keep:=λi h F st k=>by
  obtain⟨j,m,⟨a,c,t⟩,p,r⟩:=st
  exact⟨k z (by simp) _ j,k TI (by simp) _ m,⟨a,c,k TO (by simp) _ t⟩,p.keep λo q=>k i1 (by simp) o q,r.keep λo q=>k i2 (by simp) o q⟩
 item:=by
  intro X V hw hK hc i l s Q H E I Z st Y
  subst V hw hK
  obtain⟨xs,ys,x,y,D,S,hx,hy⟩:=Y
  obtain⟨g,M,T⟩:=I.sqx D
  obtain⟨C,ah,p2⟩:=I.sqx S
  obtain⟨u,hu,ru⟩:=M.get hx
  obtain⟨v,hv,rv⟩:=ah.get hy
  obtain⟨j,m,⟨a,c,t⟩,p,r⟩:=st
  have O:=I.ok.hd hc
  have ae:i<g.toArray.size:=by rw[cc];exact(b8.mp hu).1
  have aj:i<C.toArray.size:=by rw[cc];exact(b8.mp hv).1
  refine uu ⟨_,j,rfl⟩ (y2 (uh (A:=X.A.in1) O t1 i1 l1 ap.l1i g.toArray) (uh (A:=X.A.in1) O t2 i2 l2 ap.l2j C.toArray) ap.a j m t ⟨p,T⟩ ⟨r,p2⟩ ae aj λL J F tk px py af aa ag ai ab am R=>?_)
  have ex:L=u:=by
   have:g.toArray[i]?=some L:=px
   rw[ja,hu]at this
   exact(Option.some.inj this).symm
  have ey:J=v:=by
   have:C.toArray[i]?=some J:=py
   rw[ja,hv]at this
   exact(Option.some.inj this).symm
  subst ex ey
  have B:∀b o,s.heap.get? b=some o->b≠s.heap.objs.size:=λb o q=>cF (b6 q)
  have hn:H s.heap.objs.size=none:=I.hok.fresh (bX _)
  have al:∀b∈[z,TI,TO,i1,i2],b≠s.heap.objs.size:=λb f=>by
   simp only[cj,gG,or_false]at f
   rcases f with rfl|rfl|rfl|rfl|rfl
   ·exact B _ _ j
   ·exact B _ _ m
   ·exact B _ _ t
   ·obtain⟨vs,n,e|⟨o,e,_⟩⟩:=p.get
    ·exact B _ _ e
    ·exact B _ _ e
   ·obtain⟨vs,n,e|⟨o,e,_⟩⟩:=r.get
    ·exact B _ _ e
    ·exact B _ _ e
  have I0:Inv X l Q (upd H s.heap.objs.size (.tup [x,y])) {s with heap:=s.heap.push {cls:= .type "tuple",data:= .seq #[L,J]},toks:=s.toks}:=
   I.laid (t':=s.toks) (λb o q=>bU _ q) (bX _) ⟨by show 2<=sizeLine;decide,[L,J],.cons ru (.cons rv .nil),⟨_,b4 _ rfl,rfl,_,rfl⟩⟩
  have N:∀b∈[z,TI,TO,i1,i2],HJ X l (upd H s.heap.objs.size (.tup [x,y])) b:=λb f=>by
   have q:=Z b f
   exact⟨by rw[rQ (al b f)];exact q.1,q.2⟩
  have I1:Inv X l Q (upd H s.heap.objs.size (.tup [x,y])) {s with heap:=F,toks:=tk}:=
   Inv.turnedL (s:={s with heap:=s.heap.push {cls:= .type "tuple",data:= .seq #[L,J]},toks:=s.toks}) I0 (fp:=[z,TI,TO,i1,i2]) (t':=tk) (λb o f q=>by
    simp only[cj,gG,or_false,not_or]at f
    rcases tU q rfl with q|⟨rfl,rfl⟩
    ·exact R b o f.1 f.2.2.1 f.2.2.2.1 f.2.2.2.2 q
    ·exact ab) N
  refine⟨_,rfl,wpAny_letOwnedTupleGo_zip (s:={s with heap:=F,toks:=tk}) af λh2 ak G=>?_⟩
  have I2:Inv X l Q (upd H s.heap.objs.size (.tup [x,y])) {s with heap:=h2,toks:=tk}:=
   Inv.turnedL (s:={s with heap:=F,toks:=tk}) I1 (fp:=[z,TI,TO,i1,i2]) (t':=tk) (λb o f q=>(G.2 b (λe=>f (by simp[e]))).trans q) N
  have U:IsPair F TI (.ref i1) (.ref i2):=R TI _ ap.TIz ap.TITO ap.TIi1 ap.TIi2 m
  refine⟨.ref s.heap.objs.size,_,I2,rfl,⟨x,y,_,λan h=>by rw[I.sqb_inj h D];exact hx,λaq h=>by rw[I.sqb_inj h S];exact hy,rfl,hn,rfl⟩,⟨ak,(G.2 TI ap.TIz).trans U,⟨_,_,(G.2 TO ap.TOz).trans aa⟩,ag.1.keep λo q=>(G.2 i1 ap.i1z).trans q,ai.1.keep λo q=>(G.2 i2 ap.i2z).trans q⟩,λb f=>(N b f).1⟩
 done:=by
  intro X V hw hK hc i l s Q H E I Z st Y
  subst V hw hK
  obtain⟨xs,D,ao⟩:=Y
  obtain⟨g,M,T⟩:=I.sqx D
  obtain⟨j,m,⟨a,c,t⟩,p,r⟩:=st
  have O:=I.ok.hd hc
  have hl:=M.length
  have en:i=g.toArray.size:=by rw[cc];omega
  subst en
  refine uu ⟨_,j,rfl⟩ (B8 (uh (A:=X.A.in1) O t1 i1 l1 ap.l1i g.toArray) ap.i1z (by simp[Ne.symm ap.i1z,Ne.symm ap.l1z]) j m t ⟨p,T⟩ λF e R ho=>?_)
  obtain⟨o,ho,ac⟩:=ho
  exact⟨⟨e,o,rfl,ho,ac⟩,rfl,I.turnedL (fp:=[z,TI,TO,i1,i2]) (t':=s.toks) (λb o f q=>R b o (λz=>f (by simp[z])) (λz=>f (by simp[z])) q) Z⟩
 self:=λ_ _ _ _ _ st h=>by
  obtain⟨j,_⟩:=st
  exact kK j h
theorem yc{prog:cg}{w:cC}{A:cO}{E:bQ->bS->Prop}{s:bS}{l1 l2:bV}{t1 t2:Bool}{xs ys:Array bQ}{Q:bQ->bS->Prop}(h1:Sqx s.heap t1 l1 xs)(h2:Sqx s.heap t2 l2 ys)
  (h:∀h':Heap,IsZip h' (s.heap.objs.size+4) (s.heap.objs.size+2) (s.heap.objs.size+3) .none->IsPair h' (s.heap.objs.size+2) (.ref s.heap.objs.size) (.ref (s.heap.objs.size+1))->IsPair h' (s.heap.objs.size+3) .none .none->
   Itx h' t1 s.heap.objs.size l1 0->Itx h' t2 (s.heap.objs.size+1) l2 0->h'.objs.size=s.heap.objs.size+5->(∀c o,s.heap.get? c=some o->h'.get? c=some o)->Q (.ref (s.heap.objs.size+4)) {s with heap:=h'}):
  wpAny (model prog w) A (call (.type "zip") [.ref l1,.ref l2]) Q E s:=by
 refine callType_new F.called_zip (by decide) (F.typeCall_zip_2 _ _) (F.newCall_zip_2 _ _) (λC=>F.args_object_init_3 C _ _) F.entry_zip_new (zK l1 l2 t1 t2 xs ys) ⟨h1,h2,?_⟩
 have b:∀(h:Heap) (o:Obj),(h.push o).objs.size=h.objs.size+1:=λh o=>by unfold kH;simp
 have r:∀(h:Heap) (o:Obj) (n:Nat),h.objs.size=n->o.isFreed=false->(h.push o).get? n=some o:=λh o n e f=>by rw[<-e];exact b4 _ f
 have fr:∀y l,(Hq y l).isFreed=false:=λy l=>rfl
 generalize ho1:Hq t1 l1=t
 generalize ho2:Hq t2 l2=v
 have L:t.isFreed=false:=by rw[<-ho1];rfl
 have H:v.isFreed=false:=by rw[<-ho2];rfl
 generalize hq1:s.heap.push t=k
 have x:k.objs.size=s.heap.objs.size+1:=by rw[<-hq1];exact b _ _
 have g1:k.get? s.heap.objs.size=some t:=by rw[<-hq1];exact b4 _ L
 have I:∀c o,s.heap.get? c=some o->k.get? c=some o:=λc o q=>by rw[<-hq1];exact bU _ q
 generalize hq2:k.push v=j
 have z:j.objs.size=s.heap.objs.size+2:=by rw[<-hq2,b,x]
 have g2:j.get? (s.heap.objs.size+1)=some v:=by rw[<-hq2];exact r _ _ _ x H
 have D:∀c o,k.get? c=some o->j.get? c=some o:=λc o q=>by rw[<-hq2];exact bU _ q
 generalize hq3:j.push {cls:=cX "tuple",data:=ii #[b5 s.heap.objs.size,b5 (s.heap.objs.size+1)]}=g
 have B:g.objs.size=s.heap.objs.size+3:=by rw[<-hq3,b,z]
 have g3:g.get? (s.heap.objs.size+2)=some {cls:=cX "tuple",data:=ii #[b5 s.heap.objs.size,b5 (s.heap.objs.size+1)]}:=by rw[<-hq3];exact r _ _ _ z rfl
 have u:∀c o,j.get? c=some o->g.get? c=some o:=λc o q=>by rw[<-hq3];exact bU _ q
 generalize hq4:g.push {cls:=cX "tuple",data:=ii #[bQ.none,bQ.none]}=a
 have G:a.objs.size=s.heap.objs.size+4:=by rw[<-hq4,b,B]
 have g4:a.get? (s.heap.objs.size+3)=some {cls:=cX "tuple",data:=ii #[bQ.none,bQ.none]}:=by rw[<-hq4];exact r _ _ _ B rfl
 have m:∀c o,g.get? c=some o->a.get? c=some o:=λc o q=>by rw[<-hq4];exact bU _ q
 generalize hq5:a.push {cls:=cX "zip",data:=lP #[bQ.none,dH false,dH false,b5 (s.heap.objs.size+2),b5 (s.heap.objs.size+3)]}=p
 have J:p.objs.size=s.heap.objs.size+5:=by rw[<-hq5,b,G]
 have g5:p.get? (s.heap.objs.size+4)=some {cls:=cX "zip",data:=lP #[bQ.none,dH false,dH false,b5 (s.heap.objs.size+2),b5 (s.heap.objs.size+3)]}:=by rw[<-hq5];exact r _ _ _ G rfl
 have d:∀c o,a.get? c=some o->p.get? c=some o:=λc o q=>by rw[<-hq5];exact bU _ q
 exact⟨⟨_,g5,rfl⟩,h p g5 (d _ _ (m _ _ g3)) (d _ _ g4) (Itx.new (by rw[ho1];exact d _ _ (m _ _ (u _ _ (D _ _ g1))))) (Itx.new (by rw[ho2];exact d _ _ (m _ _ (u _ _ g2)))) J λc o q=>d _ _ (m _ _ (u _ _ (D _ _ (I _ _ q))))⟩
theorem y8{n l1 l2:Nat}(h1:l1<n)(h2:l2<n):ZipB (n+4) (n+2) (n+3) n (n+1) l1 l2:=by
 have d:∀a b:Nat,a<b->a≠b:=λa b h=>cF h;exact⟨d _ _ (by omega),d _ _ (by omega),d _ _ (by omega),d _ _ (by omega),d _ _ (by omega),(d _ _ (by omega)).symm,(d _ _ (by omega)).symm,(d _ _ (by omega)).symm,(d _ _ (by omega)).symm,d _ _ (by omega),
  d _ _ (by omega),d _ _ (by omega),d _ _ (by omega),d _ _ (by omega),d _ _ (by omega),d _ _ (by omega),d _ _ (by omega),d _ _ (by omega)⟩
def NM(K:bN)(ta:TA):TI:=λσ H R=>ta σ H λvs H1=>∃(t1 t2:Bool) (a b:bV),vs=[.ref a,.ref b]/\(∃xs,KR K H1 t1 a xs)/\(∃ys,KR K H1 t2 b ys)/\R (N1 K t1 t2 a b) H1
section
variable{X:Cx}
theorem Dj{elts:List Expr}{x1:Nat}{tpos:Pos}{a b:Expr}{ta:TA}{p pos:Pos}(hg:Gl X "zip")(hm:X.mg "zip"=none)(ha:PA X [a,b] ta)(hs:cD [a,b] X.env=[(false,eval a X.env),(false,eval b X.env)]:=by rfl)(hs2:cD [b] X.env=[(false,eval b X.env)]:=by rfl):
  PI X (.Tuple elts x1 tpos) (.Call (.Name "zip" p) [a,b] [] pos) (NM X.K ta):=by
 intro d s n H R I h
 refine rk (tY I hg hm lJ (du (Fv (ha pos d s n H _ I h) λW c ⟨vs,j,f,N,O⟩=>?_) (by rw[hs,hs2]) (by rw[hs2];rfl)))
 obtain⟨A,M,L,J,e,⟨U,C⟩,⟨V,D⟩,q⟩:=O
 subst e
 obtain⟨u,v,rfl,F,G⟩:=Kb N
 cases F
 cases G
 obtain⟨B,T,k⟩:=f.sqx C
 obtain⟨P,S,t⟩:=f.sqx D
 refine yc k t λw o y m r l Q z=>?_
 refine kK (s:={c with heap:=w}) o ?_
 have E:Inv X d n j {c with heap:=w}:=f.kept (t':=c.toks) z
 refine⟨_,[c.heap.objs.size+4,c.heap.objs.size+2,c.heap.objs.size+3,c.heap.objs.size,c.heap.objs.size+1],_,_,j,rfl,E,Cv A M L J _ _ _ _ _ (y8 k.lt t.lt),⟨o,y,⟨_,_,m⟩,r,l⟩,λb x=>?_,q⟩
 have g:c.heap.objs.size<=b:=by
  simp only[cj,gG,or_false]at x
  rcases x with rfl|rfl|rfl|rfl|rfl <;> omega
 exact f.fpOk g (f.hok.fresh g)
end
theorem yr{K:bN}{t1 t2:Bool}{a b:bV}{xs ys:List V}{caps:List (Option Nat)}{g:TG}{te:TE}{σ:St}{QQ:List V->Hp->Prop}{H:Hp}(Pv:Nat->List V->Hp->Prop)(he:xs.length=ys.length)(h0:Pv 0 [] H)
  (hl:∀i zs H,i<=xs.length->Pv i zs H->KR K H t1 a xs/\KR K H t2 b ys)
  (hs:∀i x y zs H t,xs[i]?=some x->ys[i]?=some y->H t=none->Pv i zs H->g (.ref t) (Gb caps σ) (upd H t (.tup [x,y])) λσ2 H2=>te σ2 H2 λv H4=>zs.length<sizeLine/\Pv (i+1) (zs++[v]) H4)
  (hd:∀zs H,Pv xs.length zs H->QQ zs H):FR caps g Hh te σ QQ (N1 K t1 t2 a b) H:=by
 refine⟨λi m zs H=>m=xs.length-i/\i<=xs.length/\Pv i zs H,⟨xs.length,by simp,cM _,h0⟩,?_⟩
 rintro i m zs H ⟨rfl,n,p⟩
 obtain⟨d,f⟩:=hl i zs H n p
 by_cases c:i<xs.length
 ·refine .inr ⟨⟨xs,ys,xs[i],ys[i],d,f,by simp[c],by simp[show i<ys.length by omega]⟩,Pv (i+1),λo k l=>⟨xs.length-(i+1),by omega,rfl,c,l⟩,λx k y=>?_⟩
  obtain⟨j,h,t,h1,h2,rfl,h3,rfl⟩:=y
  simp only[t5]
  exact hs i j h zs H t (h1 xs d) (h2 ys f) h3 p
 ·have e:i=xs.length:=by omega
  subst e
  exact .inl ⟨⟨xs,d,rfl⟩,hd zs H p⟩
theorem C5{M:Model}{A:cO}{E:bQ->bS->Prop}{s:bS}{a:bV}{Q:Option Obj->bS->Prop}(h:Q (s.heap.get? a) s):wpAny M A (loadIfAlive a) Q E s:=λb p hA=>by
 show Sem.wp M b (Sem.loadIfAlive a Sem.pure) _ _ p s;rw[Sem.wp_loadIfAlive];exact bO h b p hA
def F7(h:Heap)(z TI TO T:bV):Prop:=∃(f1:Bool) (o:Obj),h.get? z=some {cls:= .type "zip",data:= .fields #[rawInt T,.bool f1,.bool false,.ref TI,.ref TO]}/\h.get? T=some o
theorem uJ{prog:cg}{w:cC}{A:cO}{E:bQ->bS->Prop}{s:bS}{z TI TO T:bV}{Q:Bool->bS->Prop}(hz:F7 s.heap z TI TO T)(hne:T≠z)(hQ:∀h':Heap,F7 h' z TI TO T->eT z s.heap h'->Q false {s with heap:=h'}):
  wpAny (model prog w) A (fj (.ref z)) Q E s:=by
 obtain⟨d,o,hz,a⟩:=hz
 unfold fj
 refine bM (dN hz rfl rfl ?_)
 refine bM (C5 ?_)
 rw[show s.heap.get? ((T:Int)).toNat=some o from a]
 refine b7 rfl ?_
 refine bM (dN hz rfl rfl ?_)
 cases d with
 | false=>
  refine iu rfl (bM (dY hz (by simp) λh' c b=>bO (hQ h' ⟨true,o,c,(b.2 T hne).trans a⟩ b)))
 | true=>
  refine b7 rfl (bO (hQ s.heap ⟨true,o,hz,a⟩ ⟨rfl,λ_ _=>rfl⟩))
theorem B7{prog:cg}{w:cC}{A:cO}{E:bQ->bS->Prop}{s:bS}{z TI TO i1 i2 T:bV}{fp1 fp2:List bV}{n1 n2 k1 k2:Nat}{P1 P2:Nat->bQ->Prop}{St1 St2:Nat->Heap->Prop}{Q:bQ->bS->Prop}
  (D1:Draws prog w A i1 fp1 n1 P1 St1)(D2:Draws prog w A i2 fp2 n2 P2 St2)(ap:LZ z TI TO i1 i2 fp1 fp2)(hz:F7 s.heap z TI TO T)(hne:T≠z)(hn1:T≠i1)(hn2:T≠i2)(hTI:IsPair s.heap TI (.ref i1) (.ref i2))
  (s1:St1 k1 s.heap)(s2:St2 k2 s.heap)(hk1:k1<n1)(hk2:k2<n2)
  (hQ:∀(x y:bQ) (h':Heap) (tk:Nat),P1 k1 x->P2 k2 y->F7 h' z TI TO T->St1 (k1+1) h'->St2 (k2+1) h'->IsPair h' s.heap.objs.size x y->h'.objs.size=s.heap.objs.size+1->
   (∀c o,c≠z->c≠i1->c≠i2->s.heap.get? c=some o->h'.get? c=some o)->Q (.ref s.heap.objs.size) {s with heap:=h',toks:=tk}):
  wpAny (model prog w) A (Builtin.«zip.__next__» {pos:=[.ref z]}) (λfin s'=>∃v,fin=qL (Flow.ret v)/\Q v s') E s:=by
 have G:=hz
 obtain⟨R,o,g,P⟩:=G
 unfold Builtin.«zip.__next__»
 refine bM (bO ?_)
 refine bM (dN g rfl rfl ?_)
 refine bM (dN g rfl rfl ?_)
 refine bM (fi hTI rfl ?_)
 refine b7 rfl ?_
 refine bM (uJ hz hne λh1 n f=>?_)
 refine b7 rfl ?_
 dsimp only
 rw[<-gU]
 rw[show #[b5 i1,b5 i2].toList=[b5 i1,b5 i2]from rfl,dD,bind_assoc]
 have F:St1 k1 h1:=D1.frame _ _ _ s1 λc d o q=>(f.2 c (λe=>ap.z1 (e▸d))).trans q
 have t:St2 k2 h1:=D2.frame _ _ _ s2 λc d o q=>(f.2 c (λe=>ap.z2 (e▸d))).trans q
 refine bM (bM (cR ?_))
 refine(show wpAny (model prog w) A (if(dH false==dH true)=true then eB (.ref i1)else do let x<-dt (.ref i1);pure (some x)) _ _ _ from b7 rfl (bM (D1.item k1 _ _ _ hk1 F λx h2 O I B b=>bO (bO ?_))))
 dsimp only
 have r:St2 k2 h2:=D2.frame _ _ _ t λc d o q=>(b.2 c (λe=>ap.i12' (e▸d))).trans q
 rw[dD,bind_assoc]
 refine bM (bM (cR ?_))
 refine(show wpAny (model prog w) A (if(dH false==dH true)=true then eB (.ref i2)else do let x<-dt (.ref i2);pure (some x)) _ _ _ from b7 rfl (bM (D2.item k2 _ _ _ hk2 r λy h3 D N C a=>bO (bO ?_))))
 dsimp only
 rw[fM]
 refine bM (bO ?_)
 dsimp only
 refine bM (iw ?_ (by show 2<=sizeLine;decide))
 refine bO ⟨_,rfl,?_⟩
 have j:h3.objs.size=s.heap.objs.size:=by rw[a.1,b.1,f.1]
 have H:St1 (k1+1) h3:=D1.frame _ _ _ B λc d o q=>(a.2 c (λe=>ap.i21 (e▸d))).trans q
 have M:∀c o,c≠z->c≠i1->c≠i2->s.heap.get? c=some o->h3.get? c=some o:=λc o l m h q=>(a.2 c h).trans ((b.2 c m).trans ((f.2 c l).trans q))
 obtain⟨g1,u,k,p⟩:=n
 have L:h3.get? z=some _:=(a.2 z (Ne.symm ap.i2z)).trans ((b.2 z (Ne.symm ap.i1z)).trans k)
 have J:h3.get? T=some u:=(a.2 T hn2).trans ((b.2 T hn1).trans p)
 dsimp only
 rw[j]
 refine hQ x y _ D I N ⟨g1,u,bU _ L,bU _ J⟩ (D1.frame _ _ _ H λc _ o q=>bU _ q) (D2.frame _ _ _ C λc _ o q=>bU _ q) ?_ ?_ (λc o l m h q=>bU _ (M c o l m h q))
 ·rw[<-j];exact b4 _ rfl
 ·show(h3.push _).objs.size=_
  unfold kH
  simp[j]
theorem Cz{prog:cg}{w:cC}{A:cO}{E:bQ->bS->Prop}{s:bS}{z TI TO i1 i2 T:bV}{fp1:List bV}{n1:Nat}{P1:Nat->bQ->Prop}{St1:Nat->Heap->Prop}{Q:PySem.Fin->bS->Prop}
  (D1:Draws prog w A i1 fp1 n1 P1 St1)(z1:z∉fp1)(hz:F7 s.heap z TI TO T)(hne:T≠z)(hTI:IsPair s.heap TI (.ref i1) (.ref i2))(s1:St1 n1 s.heap)
  (hE:∀(h':Heap) (e:bV),(∀c o,c≠z->c≠i1->s.heap.get? c=some o->h'.get? c=some o)->(∃o,h'.get? e=some o/\o.cls = .type "StopIteration")->E (.ref e) {s with heap:=h'}):
  wpAny (model prog w) A (Builtin.«zip.__next__» {pos:=[.ref z]}) Q E s:=by
 have g:=hz
 obtain⟨p,o,b,n⟩:=g
 unfold Builtin.«zip.__next__»
 refine bM (bO ?_)
 refine bM (dN b rfl rfl ?_)
 refine bM (dN b rfl rfl ?_)
 refine bM (fi hTI rfl ?_)
 refine b7 rfl ?_
 refine bM (uJ hz hne λh1 m a=>?_)
 refine b7 rfl ?_
 dsimp only
 rw[<-gU]
 rw[show #[b5 i1,b5 i2].toList=[b5 i1,b5 i2]from rfl,dD,bind_assoc]
 have f:St1 n1 h1:=D1.frame _ _ _ s1 λc l o q=>(a.2 c (λe=>z1 (e▸l))).trans q
 refine bM (bM (cR ?_))
 exact(show wpAny (model prog w) A (if(dH false==dH true)=true then eB (.ref i1)else do let x<-dt (.ref i1);pure (some x)) _ _ _ from b7 rfl (bM (D1.done _ _ _ f λh2 e d k=>hE h2 e (λc o h j q=>d c o j ((a.2 c h).trans q)) k)))
def NE(h:Heap)(z TI TO T:bV):Prop:=(IsZip h z TI TO .none/\∃a b,IsPair h TO a b)\/F7 h z TI TO T
theorem u4{α β:Type}{R:α->β->Prop}:∀{l:List α} {m:List β},l.length=m.length->(∀(i:Nat) a b,l[i]?=some a->m[i]?=some b->R a b)->cT R l m
 | [],[],_,_=> .nil
 | a::l,b::m,hl,h=> .cons (h 0 a b rfl rfl) (u4 (by simpa using hl) λi x y d c=>h (i+1) x y (by simpa using d) (by simpa using c))
def Mi(K:bN):R2:=λx y H Q=>∃(a b:bV) (xs ys:List V),x = .ref a/\y = .ref b/\SqT K H a xs/\SqT K H b ys/\xs.length+ys.length<=sizeLine/\
 ∀p H',Same H H'->SqT K H' p (xs++ys)->Q (.ref p) H'
theorem AR{X:Cx}:Gw X (binaryOp .Add) (Mi X.K):=by
 intro l s P H x y v u Q I z t h;obtain⟨a,b,A,M,rfl,rfl,j,m,R,q⟩:=h;by_cases k:A=[]
 ·cases z
  cases t;obtain⟨d,V,L,_⟩:=I.tuple j;obtain⟨o,Y,T,_⟩:=I.tuple m;have G:d=[]:=V.nil_iff.mpr k;obtain⟨⟨W,J,O,S⟩,B,C,n,w⟩:=id L;obtain⟨⟨N,r,E,D⟩,f,c,U,g⟩:=id T;simp only at C w c g;subst C w c g;refine nc ⟨_,B,rfl⟩ ⟨_,f,rfl⟩ kA mn iV iO (iH _ _)
   (tuple_addW0 a b d.toArray o.toArray n U J r S D (by simp[G])) ⟨B,f,?_⟩
  exact⟨.ref b,H,I,rfl,q b H (Same.refl _) (by rw[k];exact m)⟩
 ·refine DG l s P H (.ref a) (.ref b) v u Q I z t ⟨a,b,A,M,rfl,rfl,j,m,k,R,λe=>?_,λ_ p hp=>?_⟩
  ·exact q a H (Same.refl _) (by rw[e,eo];exact j)
  ·exact q p _ (mJ hp _) (SqT.of rE)
theorem EW{xs:List V}{k:Nat}(h:k<=xs.length):Gx xs none (some (k:Int))=xs.take k:=by
 unfold Gx;rw[HT.sIx_none,HT.sIx_nat,qr,oD h];rfl
theorem Cf{xs:List V}{k:Nat}(h:k<=xs.length):Gx xs (some (k:Int)) none=xs.drop k:=by
 unfold Gx;rw[HT.sIx_none,HT.sIx_nat,oD h,dz (by rw[dP];omega)]
def F9(w ts:List Int):List Int:=w.filter λt=>!decide (t∈ts)
def Gg(w ts:List Int):Int:=(F9 w ts).getD 0 0
theorem Ki:∀(row ts:List Int),row.Nodup->(∀t∈row,t∈ts)->row.length<=ts.length
 | [],_,_,_=>cM _
 | a::r,ts,hn,h=>by
  have b:=h a b0
  have:=Ki r (ts.erase a) (er.mp hn).2 λt c=>(l4 (show t≠a from λz=>(er.mp hn).1 (z▸c))).mpr (h t (b3 _ c))
  rw[km b]at this
  have:=List.length_pos_of_mem b
  rw[cZ]
  omega
theorem AT{n:Nat}{w ts:List Int}(h:LN.Pm n w)(hl:ts.length<n):∃t∈w,t∉ts:=by
 refine da λz=>?_;have:=Ki w ts h.nodup λt a=>da λy=>z ⟨t,a,y⟩;rw[h.len]at this;omega
theorem xN{w ts:List Int}(h:∃t∈w,t∉ts):(F9 w ts)[0]?=some (Gg w ts)/\Gg w ts∈w/\Gg w ts∉ts:=by
 obtain⟨t,h1,h2⟩:=h;have a:t∈F9 w ts:=dw.mpr ⟨h1,by simpa using h2⟩;unfold Gg
 cases c:F9 w ts with
 | nil=>rw[c]at a;cases a
 | cons b r=>
  have d:b∈F9 w ts:=by rw[c];exact b0
  obtain⟨h3,h4⟩:=dw.mp d;exact⟨rfl,h3,by simpa using h4⟩
def tk(W:List (List Int))(o:List Int):Nat->List Int
 | 0=>[]
 | k+1=>tk W o k++[Gg (W.getD (o.getD k 0).toNat []) (tk W o k)]
def bt(W:List (List Int))(o:List Int)(k:Nat):Int:=Gg (W.getD (o.getD k 0).toNat []) (tk W o k)
theorem Ei(W:List (List Int))(o:List Int):∀k,tk W o k=(cp k).map (bt W o)
 | 0=>rfl
 | k+1=>by
  rw[fG,cb,<-Ei W o k]
  rfl
theorem B0(W:List (List Int))(o:List Int)(k:Nat):(tk W o k).length=k:=by rw[Ei];simp
structure GI(n:Nat)(W:List (List Int)):Prop where
 lo:1<=n
 hi:n<=6
 len:W.length=n
 pm:∀w∈W,LN.Pm n w
theorem EI{K:bN}{H:Hp}{a b:bV}{l m:List Int}{Q:VK}(h1:SqT K H a (l.map V.int))(h2:SqT K H b (m.map V.int))(hl:l.length+m.length<=1000)(q:∀p H',Same H H'->SqT K H' p ((l++m).map V.int)->Q (.ref p) H'):Mi K (.ref a) (.ref b) H Q:=
 ⟨a,b,_,_,rfl,rfl,h1,h2,by rw[bP,bP];exact cG hl (by decide),λp H' S h=>q p H' S (by rw[cb];exact h)⟩
end L2
namespace HM
open LM LN
def cnt(n:Nat)(S:Nat->Bool):Nat:=(cp n).countP S
theorem tw(n:Nat)(S:Nat->Bool):cnt (n+1) S=cnt n S+if S n=true then 1 else 0:=by
 unfold cnt;rw[fG,List.countP_append];simp[List.countP_cons]
theorem tz{S S':Nat->Bool}:∀{n:Nat},(∀i,i<n->S i=true->S' i=true)->cnt n S<=cnt n S'
 | 0,_=>bX _
 | n+1,h=>by
  have b:=tz (n:=n) λi a=>h i (cS a)
  rw[tw,tw]
  by_cases e:S n=true
  ·rw[if_pos e,if_pos (h n (cV n) e)];omega
  ·rw[if_neg e];omega
theorem wl(S S':Nat->Bool):∀n:Nat,cnt n (λi=>S i||S' i)<=cnt n S+cnt n S'
 | 0=>bX _
 | n+1=>by
  have a:=wl S S' n
  rw[tw,tw,tw]
  cases S n <;> cases S' n <;> simp <;> omega
theorem uV{S S':Nat->Bool}(hd:∀i,S i=true->S' i=true->False):∀n:Nat,cnt n (λi=>S i||S' i)=cnt n S+cnt n S'
 | 0=>rfl
 | n+1=>by
  have a:=uV hd n
  rw[tw,tw,tw,a]
  cases h1:S n <;> cases h2:S' n <;> simp <;> try omega
  exact(hd n h1 h2).elim
theorem cnt_pos{S:Nat->Bool}:∀{n:Nat},0<cnt n S->∃i,i<n/\S i=true
 | 0,h=>absurd h (cJ _)
 | n+1,h=>by
  rw[tw]at h
  by_cases e:S n=true
  ·exact⟨n,cV n,e⟩
  ·rw[if_neg e]at h
   obtain⟨i,h1,h2⟩:=cnt_pos (n:=n) (by omega)
   exact⟨i,cS h1,h2⟩
theorem cnt_one(c:Nat):∀n:Nat,cnt n (λi=>i==c)=if c<n then 1 else 0
 | 0=>rfl
 | n+1=>by
  rw[tw,cnt_one c n]
  by_cases e:n=c
  ·subst e;simp
  ·by_cases h:c<n
   ·simp[e,h,show c<n+1 by omega]
   ·simp[e,h,show ¬c<n+1 by omega]
theorem xY(n:Nat)(A S:Nat->Bool)(h:∀i,S i=true->A i=true):cnt n A=cnt n S+cnt n (λi=>A i && !S i):=by
 rw[<-uV (S:=S) (S':=λi=>A i && !S i) (λi h1 h2=>by simp[h1]at h2)]
 congr 1
 funext i
 cases h1:S i with
 | true=>simp[h i h1]
 | false=>simp
def nb(n:Nat)(E:Nat->Nat->Bool)(S:Nat->Bool)(c:Nat):Bool:=(cp n).any λr=>S r&&E r c
theorem vn{n:Nat}{E:Nat->Nat->Bool}{S:Nat->Bool}{c:Nat}:nb n E S c=true↔∃r,r<n/\S r=true/\E r c=true:=by
 unfold nb;rw[iB];constructor
 ·rintro⟨r,h1,h2⟩;rw[cH]at h2;exact⟨r,dq.mp h1,h2⟩
 ·rintro⟨r,h1,h2,h3⟩;exact⟨r,dq.mpr h1,by rw[h2,h3];rfl⟩
theorem hall(n:Nat):∀(m:Nat) (A:Nat->Bool) (E:Nat->Nat->Bool),cnt n A=m->(∀S:Nat->Bool,(∀i,S i=true->A i=true)->cnt n S<=cnt n (nb n E S))->
  ∃f:Nat->Nat,(∀r,r<n->A r=true->f r<n/\E r (f r)=true)/\∀r r',r<n->r'<n->A r=true->A r'=true->f r=f r'->r=r':=by
 intro m
 induction m using Nat.strongRecOn with
 | _ m I=>
  intro A E hA F
  by_cases h0:m=0
  ·have P:∀r,r<n->A r=true->False:=λr a h=>by
    have:cnt n (λi=>i==r)<=cnt n A:=tz λi _ e=>by rw[eq_of_beq e];exact h
    rw[cnt_one,if_pos a,hA,h0]at this
    omega
   exact⟨λ_=>0,λr a h=>(P r a h).elim,λr _ a _ h=>(P r a h).elim⟩
  by_cases q:∃b:Nat->Bool,(∀i,b i=true->A i=true)/\0<cnt n b/\cnt n b<m/\cnt n (nb n E b)<=cnt n b
  ·obtain⟨b,H,hp,V,Z⟩:=q
   obtain⟨T,g1,g2⟩:=I _ V b E rfl λS h=>F S λi l=>H i (h i l)
   have C:=xY n A b H
   obtain⟨N,p,G⟩:=I (cnt n λi=>A i && !b i) (by omega) (λi=>A i && !b i) (λr c=>E r c && !nb n E b c) rfl λS h=>by
    have D:∀i,S i=true->b i=true->False:=λi h1 h2=>by
     have:=h i h1
     simp[h2]at this
    have W:=F (λi=>S i||b i) λi l=>by
     rcases jv.mp l with z|z
     ·have:=h i z
      rw[cH]at this
      exact this.1
     ·exact H i z
    rw[uV D]at W
    have h2:cnt n (nb n E λi=>S i||b i)<=cnt n (λc=>nb n (λr c=>E r c && !nb n E b c) S c||nb n E b c):=tz λc _ q=>by
     obtain⟨r,a,L,u⟩:=vn.mp q
     cases v:nb n E b c with
     | true=>simp
     | false=>
      rw[j8]
      rcases jv.mp L with z|z
      ·exact vn.mpr ⟨r,a,z,by simp[u,v]⟩
      ·exact absurd (vn.mpr ⟨r,a,z,u⟩) (by rw[v];exact cA)
    have h3:=wl (nb n (λr c=>E r c && !nb n E b c) S) (nb n E b) n
    omega
   have x:∀r r',r<n->b r=true->r'<n->A r'=true->¬b r'=true->T r=N r'->False:=λr r' a h1 g h2 h3 e=>by
    have s:=(g1 r a h1).2
    have j:=(p r' g (by simp[h2,h3])).2
    rw[<-e,cH]at j
    have:=vn.mpr ⟨r,a,h1,s⟩
    rw[this]at j
    exact absurd j.2 (by decide)
   refine⟨λr=>if b r=true then T r else N r,λr a h=>?_,λr r' a g h t e=>?_⟩
   ·dsimp only
    by_cases z:b r=true
    ·rw[if_pos z];exact g1 r a z
    ·rw[if_neg z]
     obtain⟨s,j⟩:=p r a (by simp[h,z])
     rw[cH]at j
     exact⟨s,j.1⟩
   ·dsimp only at e
    by_cases z:b r=true
    ·rw[if_pos z]at e
     by_cases d:b r'=true
     ·rw[if_pos d]at e;exact g2 r r' a g z d e
     ·rw[if_neg d]at e;exact(x r r' a z g t d e).elim
    ·rw[if_neg z]at e
     by_cases d:b r'=true
     ·rw[if_pos d]at e;exact(x r' r g d a h z e.symm).elim
     ·rw[if_neg d]at e;exact G r r' a g (by simp[h,z]) (by simp[t,d]) e
  ·obtain⟨M,y,w⟩:=cnt_pos (n:=n) (S:=A) (by omega)
   have h1:=F (λi=>i==M) λi l=>by rw[eq_of_beq l];exact w
   rw[cnt_one,if_pos y]at h1
   obtain⟨o,B,U⟩:=cnt_pos (n:=n) (S:=nb n E λi=>i==M) (by omega)
   obtain⟨k,Y,J,R⟩:=vn.mp U
   have J:k=M:=eq_of_beq J
   subst J
   have C:=xY n A (λi=>i==k) λi l=>by rw[eq_of_beq l];exact w
   rw[cnt_one,if_pos y]at C
   obtain⟨f,p,G⟩:=I (cnt n λi=>A i && !(i==k)) (by omega) (λi=>A i && !(i==k)) (λr c=>E r c && !(c==o)) rfl λS h=>by
    by_cases hz:cnt n S=0
    ·omega
    have O:∀i,S i=true->A i=true:=λi l=>by
     have:=h i l
     rw[cH]at this
     exact this.1
    have Q:cnt n S<m:=by
     have:=tz (n:=n) λi _=>h i
     omega
    have X:cnt n S<cnt n (nb n E S):=da λz=>q ⟨S,O,by omega,Q,by omega⟩
    have h2:cnt n (nb n E S)<=cnt n (λc=>nb n (λr c=>E r c && !(c==o)) S c||c==o):=tz λc _ q=>by
     obtain⟨r,a,L,u⟩:=vn.mp q
     cases v:c==o with
     | true=>simp
     | false=>rw[j8];exact vn.mpr ⟨r,a,L,by simp[u,v]⟩
    have h3:=wl (nb n (λr c=>E r c && !(c==o)) S) (λc=>c==o) n
    have h4:=cnt_one o n
    rw[if_pos B]at h4
    omega
   refine⟨λr=>if r=k then o else f r,λr a h=>?_,λr r' a g h t e=>?_⟩
   ·dsimp only
    by_cases z:r=k
    ·rw[if_pos z,z];exact⟨B,R⟩
    ·rw[if_neg z]
     obtain⟨s,j⟩:=p r a (by simp[h,z])
     rw[cH]at j
     exact⟨s,j.1⟩
   ·dsimp only at e
    by_cases z:r=k
    ·by_cases d:r'=k
     ·rw[z,d]
     ·rw[if_pos z,if_neg d]at e
      have:=(p r' g (by simp[t,d])).2
      rw[<-e]at this
      simp at this
    ·by_cases d:r'=k
     ·rw[if_neg z,if_pos d]at e
      have:=(p r a (by simp[h,z])).2
      rw[e]at this
      simp at this
     ·rw[if_neg z,if_neg d]at e
      exact G r r' a g (by simp[h,z]) (by simp[t,d]) e
def sm:Nat->(Nat->Int)->Int
 | 0,_=>0
 | n+1,f=>sm n f+f n
theorem sm_congr{f g:Nat->Int}:∀{n:Nat},(∀i,i<n->f i=g i)->sm n f=sm n g
 | 0,_=>rfl
 | n+1,h=>by
  show sm n f+f n=sm n g+g n
  rw[sm_congr λi a=>h i (cS a),h n (cV n)]
theorem sm_le{f g:Nat->Int}:∀{n:Nat},(∀i,i<n->f i<=g i)->sm n f<=sm n g
 | 0,_=>eH _
 | n+1,h=>by
  have h1:=sm_le λi a=>h i (cS a)
  have h2:=h n (cV n)
  show sm n f+f n<=sm n g+g n
  omega
theorem sm_add(f g:Nat->Int):∀n:Nat,sm n (λi=>f i+g i)=sm n f+sm n g
 | 0=>rfl
 | n+1=>by
  show sm n (λi=>f i+g i)+(f n+g n)=(sm n f+f n)+(sm n g+g n)
  rw[sm_add f g n]
  omega
theorem sm_zero:∀n:Nat,sm n (λ_=>0)=0
 | 0=>rfl
 | n+1=>by show sm n (λ_=>0)+0=0;rw[sm_zero n];rfl
theorem sm_swap(a:Nat->Nat->Int)(m:Nat):∀n:Nat,sm n (λi=>sm m (a i))=sm m (λj=>sm n λi=>a i j)
 | 0=>(sm_zero m).symm
 | n+1=>by
  show sm n (λi=>sm m (a i))+sm m (a n)=sm m (λj=>(sm n λi=>a i j)+a n j)
  rw[sm_swap a m n,sm_add]
theorem sm_cnt(S:Nat->Bool)(R:Int):∀n:Nat,sm n (λi=>if S i=true then R else 0)=R*cnt n S
 | 0=>by show(0:Int)=R*0;simp
 | n+1=>by
  show sm n _+(if S n=true then R else 0)=_
  rw[sm_cnt S R n,tw]
  by_cases e:S n=true
  ·rw[if_pos e,if_pos e];push_cast;rw[iQ,gL]
  ·rw[if_neg e,if_neg e];simp
structure No(n:Nat)(M:Nat->Nat->Int)(R:Int):Prop where
 pos:0<R
 nn:∀i j,0<=M i j
 row:∀i,i<n->sm n (M i)=R
 col:∀j,j<n->sm n (λi=>M i j)=R
theorem Ee{n:Nat}{M:Nat->Nat->Int}{R:Int}(h:No n M R):∃f:Nat->Nat,(∀r,r<n->f r<n/\M r (f r)≠0)/\∀r r',r<n->r'<n->f r=f r'->r=r':=by
 obtain⟨f,h1,h2⟩:=hall n _ (λ_=>true) (λr c=>decide (M r c≠0)) rfl λS _=>by
  have k:sm n (λi=>if S i=true then R else 0)=sm n (λi=>sm n λj=>if S i=true then M i j else 0):=sm_congr λi b=>by
   by_cases e:S i=true
   ·rw[if_pos e,<-h.row i b];exact sm_congr λj _=>by rw[if_pos e]
   ·rw[if_neg e];exact(sm_zero n).symm.trans (sm_congr λj _=>by rw[if_neg e])
  have d:sm n (λj=>sm n λi=>if S i=true then M i j else 0)<=sm n (λj=>if nb n (λr c=>decide (M r c≠0)) S j=true then R else 0):=sm_le λj l=>by
   by_cases e:nb n (λr c=>decide (M r c≠0)) S j=true
   ·rw[if_pos e,<-h.col j l];exact sm_le λi _=>by
     by_cases z:S i=true
     ·rw[if_pos z];exact eH _
     ·rw[if_neg z];exact h.nn i j
   ·rw[if_neg e];exact Int.le_of_eq ((sm_congr λi b=>by
     by_cases z:S i=true
     ·rw[if_pos z];exact da λy=>e (vn.mpr ⟨i,b,z,decide_eq_true y⟩)
     ·rw[if_neg z]).trans (sm_zero n))
  rw[<-sm_swap,<-k,sm_cnt,sm_cnt]at d;have:=Int.le_of_mul_le_mul_left d h.pos;omega
 exact⟨f,λr a=>⟨(h1 r a rfl).1,by simpa using(h1 r a rfl).2⟩,λr r' a g e=>h2 r r' a g rfl rfl e⟩
end HM
namespace HM
open LM LN
def ent(M:List (List Int))(p t:Nat):Int:=(M.getD p []).getD t 0
structure Reg(n:Nat)(M:List (List Int))(R:Int):Prop where
 len:M.length=n
 cols:∀r∈M,r.length=n
 nn:∀p t,0<=ent M p t
 row:∀i,i<n->sm n (ent M i)=R
 col:∀j,j<n->sm n (λi=>ent M i j)=R
theorem getD_lt{α:Type}{l:List α}{i:Nat}{d:α}(h:i<l.length):l.getD i d=l[i]:=by rw[bR,bT h];rfl
theorem addDeal_len{M:List (List Int)}{d:List Int}{w:Int}(h:M.length=d.length):(addDeal M d w).length=M.length:=by simp[addDeal,h]
theorem addDeal_get{M:List (List Int)}{d:List Int}{w:Int}{p:Nat}(h:M.length=d.length)(hp:p<M.length):(addDeal M d w)[p]?=some (addOne (M.getD p []) (d.getD p 0) w):=by
 unfold addDeal;rw[lK,bT hp,bT (show p<d.length by omega),getD_lt hp,getD_lt (show p<d.length by omega)]
theorem AK{n:Nat}{M:List (List Int)}{R:Int}{d:List Int}{w:Int}(h:Reg n M R)(hd:d.length=n)(hb:∀t∈d,0<=t/\t<n){p:Nat}(hp:p<n)(t:Nat):
  ent (addDeal M d w) p t=ent M p t+if(d.getD p 0).toNat=t then w else 0:=by
 have f:M.length=d.length:=by rw[h.len,hd]
 have a:p<M.length:=by rw[h.len];exact hp
 have b:(M.getD p []).length=n:=by rw[getD_lt a];exact h.cols _ (cm a)
 have c:=hb (d.getD p 0) (by rw[getD_lt (show p<d.length by omega)];exact cm _)
 unfold ent
 rw[show(addDeal M d w).getD p []=addOne (M.getD p []) (d.getD p 0) w by rw[bR,addDeal_get f a];rfl]
 generalize M.getD p []=r at b
 generalize d.getD p 0=x at c
 unfold addOne
 rw[bR,List.getElem?_set]
 by_cases e:x.toNat=t
 ·subst e
  rw[if_pos rfl,if_pos rfl,if_pos (by omega)]
  rfl
 ·rw[if_neg e,if_neg e,<-bR]
  omega
theorem AA{S S':Nat->Bool}{n:Nat}(h:∀i,i<n->S i=S' i):cnt n S=cnt n S':=
 Nat.le_antisymm (tz λi a e=>by rw[<-h i a];exact e) (tz λi a e=>by rw[h i a];exact e)
theorem pm_at{n:Nat}{d:List Int}(h:Pm n d){t:Nat}(ht:t<n):∃p,p<n/\d.getD p 0=(t:Int)/\∀q,q<n->(d.getD q 0).toNat=t->q=p:=by
 obtain⟨p,hp,e⟩:=dW.mp (h.mem.mpr (show(0:Int)<=(t:Int)/\(t:Int)<n by omega));have f:=h.len;refine⟨p,by omega,by rw[getD_lt hp,e],λq g c=>?_⟩;have a:q<d.length:=by omega
 have b:=h.mem.mp (cm a);rw[getD_lt a]at c;have:d[q]=d[p]:=by rw[e];omega
 exact(nJ a h.nodup).mp (by rw[bT a,bT hp,this])
theorem vy{n:Nat}{p:Nat}(hp:p<n){S:Nat->Bool}(hS:∀q,q<n->(S q=true↔q=p))(w:Int):sm n (λq=>if S q=true then w else 0)=w:=by
 rw[sm_cnt,AA (S':=λq=>q==p) λi a=>by
  rw[fT,hS i a];exact⟨λe=>by rw[e];exact beq_self_eq_true _,λe=>eq_of_beq e⟩,cnt_one,if_pos hp]
 simp
theorem Dx{n:Nat}{M:List (List Int)}{r:List Int}(hl:M.length=n)(hr:r∈M):∃p,p<n/\M.getD p []=r:=by
 obtain⟨p,hp,e⟩:=dW.mp hr;exact⟨p,by omega,by rw[getD_lt hp,e]⟩
theorem Reg.add{n:Nat}{M:List (List Int)}{R:Int}{d:List Int}{w:Int}(h:Reg n M R)(hd:Pm n d)(hw:∀p,p<n->0<=ent M p (d.getD p 0).toNat+w):Reg n (addDeal M d w) (R+w):=by
 have c:=hd.len;have m:M.length=d.length:=by rw[h.len,c]
 have s:∀t∈d,0<=t/\t<n:=λt f=>hd.mem.mp f;have k:=λ {p} (hp:p<n) t=>AK (w:=w) h c s hp t;have a:(addDeal M d w).length=n:=by rw[addDeal_len m,h.len]
 have bd:∀p,p<n->0<=d.getD p 0/\d.getD p 0<n:=λp hp=>s _ (by rw[getD_lt (show p<d.length by omega)];exact cm _);refine⟨a,λr x=>?_,λp t=>?_,λi l=>?_,λj o=>?_⟩
 ·obtain⟨p,hp,e⟩:=Dx a x;rw[<-e,bR,addDeal_get m (by rw[h.len];exact hp)];show(addOne _ _ _).length=n;rw[Ac];have b:p<M.length:=by rw[h.len];exact hp
  rw[getD_lt b];exact h.cols _ (cm b)
 ·by_cases hp:p<n
  ·rw[k hp];by_cases e:(d.getD p 0).toNat=t
   ·rw[if_pos e,<-e];exact hw p hp
   ·rw[if_neg e,f6];exact h.nn p t
  ·unfold ent;rw[show(addDeal M d w).getD p []=[]by rw[bR,fI (by omega)];rfl];exact eH 0
 ·rw[sm_congr (g:=λt=>ent M i t+if decide ((d.getD i 0).toNat=t)=true then w else 0) λt _=>by rw[k l];simp,sm_add,h.row i l,vy (p:=(d.getD i 0).toNat) (by have:=bd i l;omega) (λq _=>by rw[decide_eq_true_iff];exact eq_comm)]
 ·obtain⟨p,hp,e,u⟩:=pm_at hd o;rw[sm_congr (g:=λi=>ent M i j+if decide ((d.getD i 0).toNat=j)=true then w else 0) λt f=>by rw[k f];simp,sm_add,h.col j o,vy (p:=p) hp (λq v=>by
   rw[decide_eq_true_iff];exact⟨u q v,λz=>by rw[z,e];rfl⟩)]
theorem Reg.regF{n:Nat}{M:List (List Int)}{R:Int}(h:Reg n M R)(hR:0<R):No n (ent M) R:=⟨hR,h.nn,h.row,h.col⟩
def within(M:List (List Int)):Nat->List Int->Option (List Int)
 | 0,b=>some b
 | k+1,b=>(cp M.length).findSome? λt=>if ent M b.length t≠0/\(t:Int)∉b then within M k (b++[(t:Int)])else none
theorem vm{M:List (List Int)}:∀{k:Nat} {b d:List Int},within M k b=some d->b.Nodup->d.Nodup/\d.length=b.length+k/\(∀j,j<b.length->d.getD j 0=b.getD j 0)/\∀j,b.length<=j->j<b.length+k->∃t:Nat,t<M.length/\d.getD j 0=(t:Int)/\ent M j t≠0
 | 0,b,d,h,hb=>by
  cases h
  exact⟨hb,rfl,λ_ _=>rfl,λj h1 h2=>by omega⟩
 | k+1,b,d,h,hb=>by
  obtain⟨t,g,e⟩:=List.exists_of_findSome?_eq_some h
  split at e
  ·rename_i hc
   have a:(b++[(t:Int)]).Nodup:=fP.mpr ⟨hb,by simp,λx l y m=>by rw[bY.mp m];intro z;exact hc.2 (z▸l)⟩
   obtain⟨h1,h2,h3,h4⟩:=vm e a
   rw[cr,dB]at h2 h3 h4
   have c:d.getD b.length 0=(t:Int):=by
    rw[h3 b.length (by omega),bR,d3 (bX _),gT]
    rfl
   refine⟨h1,by omega,λj n=>?_,λj o p=>?_⟩
   ·rw[h3 j (by omega),bR,gt n,<-bR]
   ·by_cases f:j=b.length
    ·subst f
     exact⟨t,dq.mp g,c,hc.1⟩
    ·exact h4 j (by omega) (by omega)
  ·cases e
theorem vU{M:List (List Int)}{f:Nat->Nat}(hf:∀j,j<M.length->f j<M.length/\ent M j (f j)≠0)(hi:∀j j',j<M.length->j'<M.length->f j=f j'->j=j'):∀{k:Nat} {b:List Int},b.length+k<=M.length->(∀j,b.length<=j->j<b.length+k->(f j:Int)∉b)->(within M k b).isSome=true
 | 0,b,_,_=>rfl
 | k+1,b,hl,hb=>by
  unfold within
  rw[List.findSome?_isSome_iff]
  obtain⟨h1,h2⟩:=hf b.length (by omega)
  refine⟨f b.length,dq.mpr h1,?_⟩
  rw[if_pos ⟨h2,hb b.length (bX _) (by omega)⟩]
  refine vU hf hi (by rw[cr,dB];omega) λj a c z=>?_
  rw[cr,dB]at a c
  rcases cN.mp z with z|z
  ·exact hb j (by omega) (by omega) z
  ·have:=bY.mp z
   have:=hi j b.length (by omega) (by omega) (by omega)
   omega
theorem E6{n:Nat}{d:List Int}(hl:d.length=n)(hn:d.Nodup)(hb:∀t∈d,0<=t/\t<n):Pm n d:=by
 unfold Pm;have e:∀(m:Nat) (l:List Int) (r:List Int),l.length=m->r.length=m->l.Nodup->(∀t∈l,t∈r)->l.Perm r:=by
  intro m
  induction m with
  | zero=>intro l r h1 h2 _ _;rw[iP.mp h1,iP.mp h2]
  | succ m f=>
   intro l r h1 h2 hn h
   cases l with
   | nil=>cases h1
   | cons a l=>
    have c:=h a b0;refine(qb.cons a (f l (r.erase a) (by simpa using h1) (by rw[km c,h2];rfl) (er.mp hn).2 λt b=>?_)).trans (List.perm_cons_erase c).symm;exact(l4 (show t≠a from λz=>(er.mp hn).1 (z▸b))).mpr (h t (b3 _ b))
 exact e n d (rng n) hl (rng_len n) hn λt b=>mem_rng.mpr (hb t b)
def valsM(M:List (List Int))(d:List Int):List Int:=qg (λr t=>r.getD t.toNat 0) M d
def minGo(s:Int)(l:List Int):Int:=l.foldl (λs p=>if p<s then p else s) s
def minL(l:List Int):Int:=minGo (l.headD 0) l
theorem zl:∀(l:List Int) (s:Int),minGo s l<=s/\(∀x∈l,minGo s l<=x)/\(minGo s l=s\/minGo s l∈l)
 | [],s=>⟨eH _,(λ_ h=>nomatch h),.inl rfl⟩
 | a::l,s=>by
  obtain⟨h1,h2,h3⟩:=zl l (if a<s then a else s)
  have e:minGo s (a::l)=minGo (if a<s then a else s) l:=rfl
  rw[e]
  by_cases c:a<s
  ·rw[if_pos c]at h1 h2 h3 ⊢
   refine⟨by omega,λx b=>?_,.inr ?_⟩
   ·rcases cj.mp b with z|z
    ·rw[z];exact h1
    ·exact h2 x z
   ·rcases h3 with z|z
    ·rw[z];exact b0
    ·exact b3 _ z
  ·rw[if_neg c]at h1 h2 h3 ⊢
   refine⟨h1,λx b=>?_,?_⟩
   ·rcases cj.mp b with z|z
    ·rw[z];omega
    ·exact h2 x z
   ·rcases h3 with z|z
    ·exact .inl z
    ·exact .inr (b3 _ z)
theorem DU{l:List Int}(h:l≠[]):minL l∈l/\∀x∈l,minL l<=x:=by
 cases l with
 | nil=>exact absurd rfl h
 | cons a l=>
  obtain⟨h1,h2,h3⟩:=zl (a::l) a;refine⟨?_,h2⟩;rcases h3 with z|z
  ·show minGo a (a::l)∈_;rw[z];exact b0
  ·exact z
def dealOf(M:List (List Int)):List Int:=(within M M.length []).getD []
def wOf(M:List (List Int)):Int:=minL (valsM M (dealOf M))
theorem sm_one_le{n:Nat}{f:Nat->Int}(hf:∀i,0<=f i):∀{i:Nat},i<n->f i<=sm n f:=by
 have b:∀m,0<=sm m f:=λm=>by
  have:=sm_le (n:=m) (f:=λ_=>0) (g:=f) λi _=>hf i;rw[sm_zero]at this;exact this
 induction n with
 | zero=>intro i h;exact absurd h (fX _)
 | succ n a=>
  intro i h;show f i<=sm n f+f n;by_cases e:i=n
  ·subst e;have:=b i;omega
  ·have:=a (i:=i) (by omega);have:=hf n;omega
structure LD(n:Nat)(M:List (List Int))(R:Int):Prop where
 some:within M n []=some (dealOf M)
 pm:Pm n (dealOf M)
 ne:∀p,p<n->ent M p ((dealOf M).getD p 0).toNat≠0
 le:∀p,p<n->wOf M<=ent M p ((dealOf M).getD p 0).toNat
 eq:∃p,p<n/\ent M p ((dealOf M).getD p 0).toNat=wOf M
 w1:1<=wOf M
 wR:wOf M<=R
 reg:Reg n (addDeal M (dealOf M) (-wOf M)) (R-wOf M)
theorem valsM_get{n:Nat}{M:List (List Int)}{d:List Int}(hM:M.length=n)(hd:d.length=n){p:Nat}(hp:p<n):(valsM M d)[p]?=some (ent M p (d.getD p 0).toNat):=by
 unfold valsM ent;rw[lK,bT (show p<M.length by omega),bT (show p<d.length by omega),getD_lt (show p<M.length by omega),getD_lt (show p<d.length by omega)]
theorem Reg.step{n:Nat}{M:List (List Int)}{R:Int}(h:Reg n M R)(hR:0<R)(hn:1<=n):LD n M R:=by
 have a:=h.len;obtain⟨f,P,D⟩:=Ee (h.regF hR);have H:=vU (M:=M) (f:=f) (by rw[a];exact P) (by rw[a];exact D) (k:=n) (b:=[]) (by simp[a]) λj _ _=>gG;obtain⟨d,o⟩:=j7.mp H;have s:dealOf M=d:=by unfold dealOf;rw[a,o];rfl
 obtain⟨J,l,S,u⟩:=vm o gI;rw[lx,nH]at l u;have B:∀t∈d,0<=t/\t<n:=λt E=>by
  obtain⟨j,L,e⟩:=dW.mp E;obtain⟨O,h1,h2,_⟩:=u j (cM _) (by omega);rw[getD_lt L,e]at h2;omega
 have q:=E6 l J B;have r:∀p,p<n->ent M p (d.getD p 0).toNat≠0:=λp hp=>by
  obtain⟨O,h1,h2,h3⟩:=u p (cM _) hp;rw[h2];exact h3
 have x:valsM M d≠[]:=λz=>by
  have:=valsM_get a l (p:=0) (by omega);rw[z]at this
  cases this
 have Q:(valsM M d).length=n:=by unfold valsM;simp[a,l]
 obtain⟨C,N⟩:=DU x;have A:wOf M=minL (valsM M d):=by unfold wOf;rw[s]
 obtain⟨c,y,I⟩:=dW.mp C;have g:c<n:=by omega
 have m:ent M c (d.getD c 0).toNat=wOf M:=by
  have:=valsM_get a l g;rw[bT y,I]at this;rw[A];exact(Option.some.inj this).symm
 have v:∀p,p<n->wOf M<=ent M p (d.getD p 0).toNat:=λp hp=>by
  rw[A];exact N _ (cz (valsM_get a l hp))
 have G:1<=wOf M:=by
  have:=r c g;have:=h.nn c (d.getD c 0).toNat;omega
 have F:wOf M<=R:=by
  rw[<-m,<-h.row c g];refine sm_one_le (λi=>h.nn c i) ?_;have:=B (d.getD c 0) (by rw[getD_lt (show c<d.length by omega)];exact cm _);omega
 rw[<-s]at q r v m;refine⟨by rw[o,s],q,r,v,⟨c,g,m⟩,G,F,?_⟩;have:=h.add (w:= -wOf M) q λp hp=>by have:=v p hp;omega
 rw[mU];exact this
def it(Z:List (List Int))(T:Int):Nat->List (List Int)×Int
 | 0=>(Z,T)
 | k+1=>(addDeal (it Z T k).1 (dealOf (it Z T k).1) (-wOf (it Z T k).1),(it Z T k).2-wOf (it Z T k).1)
def lotAt(Z:List (List Int))(T:Int)(k:Nat):Int×List Int:=(wOf (it Z T k).1,dealOf (it Z T k).1)
def lotsL(Z:List (List Int))(T:Int)(k:Nat):List (Int×List Int):=(cp k).map (lotAt Z T)
def pn(n:Nat)(M:List (List Int)):Int:=sm n λp=>(cnt n λt=>decide (ent M p t≠0):Nat)
structure NZ(n:Nat)(Z:List (List Int))(T:Int)(k:Nat):Prop where
 reg:Reg n (it Z T k).1 (it Z T k).2
 r0:0<=(it Z T k).2
 rT:(it Z T k).2<=T
 lots:∀j,j<k->LD n (it Z T j).1 (it Z T j).2
 ent:∀p,p<n->∀t,ent Z p t=ent (it Z T k).1 p t+sm k λj=>if((lotAt Z T j).2.getD p 0).toNat=t then(lotAt Z T j).1 else 0
 wts:sm k (λj=>(lotAt Z T j).1)=T-(it Z T k).2
 kill:∀j,j<k->∃p,p<n/\HM.ent (it Z T k).1 p ((lotAt Z T j).2.getD p 0).toNat=0
 few:(it Z T k).2≠0->pn n (it Z T k).1+k<=pn n Z
 last:(it Z T k).2=0->(k:Int)+n<=pn n Z+1
 ap:∀i j,i<j->j<k->(lotAt Z T i).2≠(lotAt Z T j).2
theorem Ey{S S':Nat->Bool}{c:Nat}:∀{n:Nat},(∀i,i<n->S i=true->S' i=true)->c<n->S' c=true->S c=false->cnt n S+1<=cnt n S':=by
 intro n h d h1 h2;have:cnt n (λi=>S i||i==c)=cnt n S+cnt n (λi=>i==c):=uV (λi a b=>by rw[eq_of_beq b,h2]at a;cases a) n;have h3:cnt n (λi=>S i||i==c)<=cnt n S':=tz λi e z=>by
  rcases jv.mp z with z|z
  ·exact h i e z
  ·rw[eq_of_beq z];exact h1
 have h4:=cnt_one c n;rw[if_pos d]at h4;omega
theorem Fb{f g:Nat->Int}{c:Nat}:∀{n:Nat},(∀i,i<n->f i<=g i)->c<n->f c+1<=g c->sm n f+1<=sm n g:=by
 intro n
 induction n with
 | zero=>intro _ h _;exact absurd h (fX _)
 | succ n b=>
  intro h d h1;show sm n f+f n+1<=sm n g+g n;by_cases e:c=n
  ·subst e;have:=sm_le (n:=c) λi a=>h i (cS a);omega
  ·have:=b (λi a=>h i (cS a)) (by omega) h1;have:=h n (cV n);omega
theorem it_ok{n:Nat}{Z:List (List Int)}{T:Int}(hZ:Reg n Z T)(hT:0<T)(hn:1<=n):∀k,(∀j,j<k->(it Z T j).2≠0)->NZ n Z T k
 | 0,_=>by
  refine⟨hZ,ef hT,eH _,(λj h=>absurd h (fX _)),(λp _ t=>?_),?_,(λj h=>absurd h (fX _)),(λ_=>?_),(λh=>?_),(λi j _ h=>absurd h (fX _))⟩
  ·show ent Z p t=ent Z p t+0
   omega
  ·show(0:Int)=T-T
   omega
  ·show pn n Z+0<=pn n Z
   omega
  ·exact absurd h (by show T≠0;omega)
 | k+1,hk=>by
  have I:=it_ok hZ hT hn k λj d=>hk j (cS d)
  have u:=hk k (cV k)
  have S:=I.reg.step (by have:=I.r0;omega) hn
  have o:=λ {p} (hp:p<n) t=>AK (w:= -wOf (it Z T k).1) I.reg S.pm.len (λt m=>S.pm.mem.mp m) hp t
  have bd:∀p,p<n->((dealOf (it Z T k).1).getD p 0).toNat<n:=λp hp=>by
   have x:=S.pm.len
   have:=S.pm.mem.mp (show(dealOf (it Z T k).1).getD p 0∈_ by rw[getD_lt (show p<_ by omega)];exact cm _)
   omega
  have q:∀p,p<n->∀t,ent (it Z T (k+1)).1 p t<=ent (it Z T k).1 p t:=λp hp t=>by
   show ent (addDeal (it Z T k).1 (dealOf (it Z T k).1) (-wOf (it Z T k).1)) p t<=_
   rw[o hp]
   have:=S.w1
   split <;> omega
  have s:=S.reg.nn
  have v:pn n (it Z T (k+1)).1+1<=pn n (it Z T k).1:=by
   have sub:∀p,p<n->∀t,t<n->decide (ent (it Z T (k+1)).1 p t≠0)=true->decide (ent (it Z T k).1 p t≠0)=true:=λp hp t _ h=>by
    have h1:=q p hp t
    have h2:0<=ent (it Z T (k+1)).1 p t:=s p t
    have h3:=of_decide_eq_true h
    exact decide_eq_true (by omega)
   obtain⟨b,a,l⟩:=S.eq
   refine Fb (c:=b) (λp hp=>?_) a ?_
   ·have:=tz (n:=n) λt m=>sub p hp t m
    exact Int.ofNat_le.mpr this
   ·have:=Ey (n:=n) (c:=((dealOf (it Z T k).1).getD b 0).toNat) (λt m=>sub b a t m) (bd b a) (decide_eq_true (S.ne b a)) (by
     refine decide_eq_false λz=>z ?_
     show ent (addDeal (it Z T k).1 (dealOf (it Z T k).1) (-wOf (it Z T k).1)) b _=0
     rw[o a,if_pos rfl,l]
     omega)
    omega
  refine⟨S.reg,?_,?_,λj d=>?_,λp hp t=>?_,?_,λj d=>?_,λh=>?_,λh=>?_,λi j r d=>?_⟩
  ·show 0<=(it Z T k).2-wOf (it Z T k).1
   have:=S.wR
   omega
  ·show(it Z T k).2-wOf (it Z T k).1<=T
   have:=S.w1
   have:=I.rT
   omega
  ·rcases ff.mp d with z|z
   ·exact I.lots j z
   ·rw[z];exact S
  ·rw[I.ent p hp t]
   show _=ent (addDeal (it Z T k).1 (dealOf (it Z T k).1) (-wOf (it Z T k).1)) p t+(sm k _+if((dealOf (it Z T k).1).getD p 0).toNat=t then wOf (it Z T k).1 else 0)
   rw[o hp]
   split <;> omega
  ·show sm k _+wOf (it Z T k).1=T-((it Z T k).2-wOf (it Z T k).1)
   have:=I.wts
   omega
  ·rcases ff.mp d with z|z
   ·obtain⟨p,hp,e⟩:=I.kill j z
    refine⟨p,hp,?_⟩
    have h1:=q p hp ((lotAt Z T j).2.getD p 0).toNat
    have h2:0<=HM.ent (it Z T (k+1)).1 p ((lotAt Z T j).2.getD p 0).toNat:=s _ _
    omega
   ·subst z
    obtain⟨b,a,l⟩:=S.eq
    refine⟨b,a,?_⟩
    show HM.ent (addDeal (it Z T j).1 (dealOf (it Z T j).1) (-wOf (it Z T j).1)) b ((dealOf (it Z T j).1).getD b 0).toNat=0
    rw[o a,if_pos rfl,l]
    omega
  ·have:=I.few u
   push_cast
   omega
  ·have h1:=I.few u
   have h2:(n:Int)<=pn n (it Z T k).1:=by
    have:=sm_le (n:=n) (f:=λ_=>if(true:Bool)=true then 1 else 0) (g:=λp=>(cnt n λt=>decide (HM.ent (it Z T k).1 p t≠0):Nat)) λp hp=>by
     have h3:cnt n (λi=>i==((dealOf (it Z T k).1).getD p 0).toNat)<=cnt n λt=>decide (HM.ent (it Z T k).1 p t≠0):=tz λi _ e=>by
      rw[eq_of_beq e]
      exact decide_eq_true (S.ne p hp)
     rw[cnt_one,if_pos (bd p hp)]at h3
     rw[if_pos rfl]
     omega
    rw[sm_cnt (λ_=>true) 1 n]at this
    have e:cnt n (λ_=>true)=n:=by unfold cnt;simp
    rw[e]at this
    show(n:Int)<=sm n _
    omega
   push_cast
   omega
  ·rcases ff.mp d with z|z
   ·exact I.ap i j r z
   ·subst z
    intro e
    obtain⟨p,hp,l⟩:=I.kill i r
    rw[e]at l
    exact S.ne p hp l
def Fin(Z:List (List Int))(T:Int)(k:Nat):Prop:=(it Z T k).2=0/\∀j,j<k->(it Z T j).2≠0
theorem pn_le{n:Nat}(hn:n<=6)(M:List (List Int)):pn n M<=36:=by
 have cn:∀S:Nat->Bool,cnt n S<=n:=λS=>by
  have:=tz (n:=n) (S:=S) (S':=λ_=>true) λ_ _ _=>rfl;have e:cnt n (λ_=>true)=n:=by unfold cnt;simp
  omega
 have:=sm_le (n:=n) (f:=λp=>(cnt n λt=>decide (ent M p t≠0):Nat)) (g:=λ_=>if(true:Bool)=true then 6 else 0) λp _=>by
  have:=cn λt=>decide (ent M p t≠0);rw[if_pos rfl];omega
 rw[sm_cnt (λ_=>true) 6 n]at this;have:=cn λ_=>true;show sm n _<=36;omega
end HM
namespace L2
open PySem PySem.Spec PyProof.Rows
section
variable{prog:cg}{w:cC}{A:cO}{E:bQ->bS->Prop}{s:bS}
def Oh(prog:cg)(w:cC)(h:Heap)(k:List Int)(v:bQ):Prop:=∃b,v = .ref b/\IsTupleKey (intKind prog w) h k b
end
theorem xF:entryFor table "set.__len__"=some Builtin.«frozenset.__len__»:=jL (id':="frozenset.__len__") rfl rfl (by decide +kernel) rfl
theorem uS{prog:cg}{w:cC}:∀{r:List Int} {its:List bQ},Vals (r.map V.int) its->ItemsAre (intKind prog w) r its
 | [],[],_=> .nil
 | i::r,v::its,h=>by
  cases h with
  | cons h1 h2=>
   obtain⟨t,rfl⟩:=h1
   exact .cons (beq_self_eq_true _) (uS h2)
theorem Inv.tupV{X:Cx}{pins:List (bV×Obj)}{σ:St}{H:Hp}{s:bS}(I:Inv X pins σ H s){v:V}{u:bQ}{r:List Int}(h:IsR X.K H v r)(rv:RelV v u):Oh X.prog X.w s.heap r u:=by
 obtain⟨a,rfl,d⟩:=h
 cases(show u=b5 a from rv);obtain⟨b,c,⟨o,h1,h2,n,h3⟩,_⟩:=I.tuple d;exact⟨a,rfl,o,b.toArray,n,h1,h2,h3,uS c⟩
def RwFL(K:bN)(H:Hp)(T:Int)(v:V)(m:List Int):Prop:=∃a gs,v = .ref a/\SqL K H a gs/\cT (IsF K H) gs (fr T m)
theorem RwFL.mono{K:bN}{H H':Hp}{T:Int}{v:V}{m:List Int}(e:Same H H')(h:RwFL K H T v m):RwFL K H' T v m:=by
 obtain⟨a,b,rfl,h1,h2⟩:=h;exact⟨a,b,rfl,e.seq h1,rW e h2⟩
def RwFX(K:bN)(H:Hp)(T:Int)(lo:bV)(v:V)(m:List Int):Prop:=∃a gs,v = .ref a/\a≠lo/\H a=some (.lst gs)/\cT (IsF K H) gs (fr T m)
theorem RwFX.fl{K:bN}{H:Hp}{T:Int}{lo:bV}{v:V}{m:List Int}(h:RwFX K H T lo v m):RwFL K H T v m:=by
 obtain⟨a,b,rfl,_,h1,h2⟩:=h;exact⟨a,b,rfl,SqL.of h1,h2⟩
theorem RwFX.mono{K:bN}{H H':Hp}{T:Int}{lo:bV}{v:V}{m:List Int}(e:Same H H')(h:RwFX K H T lo v m):RwFX K H' T lo v m:=by
 obtain⟨a,b,rfl,h0,h1,h2⟩:=h;exact⟨a,b,rfl,h0,e _ _ h1,rW e h2⟩
theorem RwFX.over{K:bN}{H:Hp}{T:Int}{lo:bV}{ys zs:List V}{v:V}{m:List Int}(h:RwFX K H T lo v m)(hp:H lo=some (.lst ys)):RwFX K (upd H lo (.lst zs)) T lo v m:=by
 obtain⟨a,b,rfl,h0,h1,h2⟩:=h;exact⟨a,b,rfl,h0,by rw[rQ h0];exact h1,Paired.mapP h2 λ_ _ q=>q.over hp⟩
theorem IsLot.over{K:bN}{H:Hp}{T:Int}{v:V}{l:LG}{p:bV}{ys zs:List V}(h:IsLot K H T v l)(hp:H p=some (.lst ys)):IsLot K (upd H p (.lst zs)) T v l:=by
 obtain⟨a,f,g,rfl,h1,h2,h3⟩:=h;exact⟨a,f,g,rfl,uQ h1 hp,h2.over hp,uQ h3 hp⟩
theorem Cu{a b T:Int}(hT:T≠0):Ky (FQ.red a T) (FQ.red b T)=FQ.red (a-b) T:=by
 have:=xU (a:=a) (b:=b) (c:=1) hT (by decide);rw[gL,gL]at this;exact this
theorem y9(T:Int)(m:List Int):(fr T m).length=m.length:=by unfold fr;rw[bP]
structure Nw(n:Nat)(T:Int)(M:List (List Int)):Prop where
 lo:1<=n
 hi:n<=6
 t0:0<T
 t1:T<2^80
 len:M.length=n
 cols:∀r∈M,r.length=n
def IL(K:bN)(m:Nat):Sp:=λvs H Q _=>∃(l b:bV) (rs:List V) (M:List (List Int)) (T:Int) (n k:Nat) (bs:List Int),vs=[.ref l,.ref b]/\SqL K H l rs/\cT (RwFL K H T) rs M/\Nw n T M/\SqT K H b (bs.map V.int)/\bs.length+k=n/\k<=m/\
 (HM.within M k bs=none->∀H',Same H H'->Q .non H')/\(∀d,HM.within M k bs=some d->∀p H',Same H H'->SqT K H' p (d.map V.int)->Q (.ref p) H')
def Lm(K:bN):Sp:=λvs H Q _=>∃(r w:bV) (gs:List V) (m:List Int) (t T x:Int),vs=[.ref r,.int t,.ref w]/\SqL K H r gs/\cT (IsF K H) gs (fr T m)/\IsF K H (.ref w) (FQ.red x T)/\(0<T/\T<2^80)/\(0<=t/\t<m.length)/\m.length<=6/\(0<=m.getD t.toNat 0/\m.getD t.toNat 0<=T)/\(0<=x/\x<=T)/\
 ∀p gs' H',Same H H'->H p=none->H' p=some (.lst gs')->cT (IsF K H') gs' (fr T (LM.addOne m t (-x)))->Q (.ref p) H'
structure K9(n:Nat)(T:Int)(Z:List (List Int)):Prop where
 lo:1<=n
 hi:n<=6
 t0:0<T
 t1:T<2^80
 reg:HM.Reg n Z T
def Jx(K:bN):Sp:=λvs H Q _=>∃(a:bV) (us:List V) (Z:List (List Int)) (T:Int) (n:Nat),vs=[.ref a]/\SqL K H a us/\cT (RwFT K H T) us Z/\K9 n T Z/\
 ∀k p ls H',HM.Fin Z T k->Same H H'->H p=none->H' p=some (.lst ls)->cT (IsLot K H' T) ls (HM.lotsL Z T k)->Q (.ref p) H'
theorem uG{T:Int}(hT:0<T):∀(l:List Int) (s:Int),FF (FQ.red s T) (l.map λx=>FQ.red x T)=FQ.red (HM.minGo s l) T
 | [],s=>rfl
 | a::l,s=>by
  show FF (if FJ (FQ.red a T) (FQ.red s T)=true then FQ.red a T else FQ.red s T) (l.map λx=>FQ.red x T)=FQ.red (HM.minGo (if a<s then a else s) l) T
  rw[yn hT hT]
  by_cases h:a<s
  ·rw[if_pos (decide_eq_true (f5 h hT)),if_pos h]
   exact uG hT l a
  ·rw[if_neg (by rw[decide_eq_true_iff];exact λz=>h (gm z (ef hT))),if_neg h]
   exact uG hT l s
theorem z4{T:Int}(hT:0<T){l:List Int}(h:l≠[]):Iw (l.map λx=>FQ.red x T)=FQ.red (HM.minL l) T:=by
 cases l with
 | nil=>exact absurd rfl h
 | cons a l=>exact uG hT (a::l) a
abbrev FK:=List Int×List Int
def IsPK(prog:cg)(w:cC)(h:Heap)(k:FK)(a:bV):Prop:=
 ∃o n x y,h.get? a=some o/\o.cls = .type "tuple"/\o.data = .seq #[.ref x,.ref y] n/\IsTupleKey (intKind prog w) h k.1 x/\IsTupleKey (intKind prog w) h k.2 y
section
variable{prog:cg}{w:cC}{A:cO}{E:bQ->bS->Prop}{s:bS}
theorem IsPK.typeIs{k:FK}{a:bV}(x:IsPK prog w s.heap k a):s.TypeIs (.ref a) "tuple":=let⟨o,_,_,_,c,b,_⟩:=x;⟨o,c,b⟩
def KB(prog:cg)(w:cC)(k:FK):Int:=reduceHash (iC [tupleKeyHash (intKind prog w) k.1,tupleKeyHash (intKind prog w) k.2])
theorem AC{k:FK}{a:bV}{Q:Int->bS->Prop}(hu:A.units+2<cLine)(hk:IsPK prog w s.heap k a)(h:Q (KB prog w k) {s with toks:=s.toks+((k.1.length+1)+(k.2.length+1)+1)}):wpAny (model prog w) A (pyHash (.ref a)) Q E s:=by
 have b:=hk.typeIs;obtain⟨o,n,x,y,d,_,c,h1,h2⟩:=hk;unfold pyHash pyHashByItsType;refine bM (wpAny_cRoomFor_or (.inr (by omega)) ?_);refine bM (fH b i3.lookup ?_);show wpAny _ _ (if(some (jf "tuple.__hash__")==some bQ.none)=true then _ else _) Q E s;rw[if_neg (by rw[beq_builtin_none];exact cA)];refine bM (fH b i3.lookup ?_);show wpAny _ _ (callSpecialIfBoundUnlessNone? (.ref a) "__hash__" _ >>= _) Q E s;refine bM (wpAny_callSpecialIfBoundUnlessNone?_slot b i3 (df i3 b F.entry_tuple_hash ?_ (F.args_tuple_hash_1 _)));show wpAny _ _ (o0 (.ref a) >>= _) _ _ s;refine bM (jN d c ?_);rw[<-gU,show #[b5 x,b5 y].toList=[b5 x,b5 y]from rfl];rw[dD,bind_assoc];refine bM (bM (mV (show A.units+1<cLine by omega) h1 ?_));refine bO ?_;dsimp only;rw[dD,bind_assoc];refine bM (bM (mV (s:={s with toks:=s.toks+(k.1.length+1)}) (show A.units+1<cLine by omega) h2 ?_));refine bO ?_;dsimp only;rw[fM];refine bM (bO ?_);refine wpAny_ret_mkInt ?_;show wpAny _ _ (if(decide (-(2:Int)^63<=iC [tupleKeyHash (intKind prog w) k.1,tupleKeyHash (intKind prog w) k.2])&&decide (iC [tupleKeyHash (intKind prog w) k.1,tupleKeyHash (intKind prog w) k.2]<2^63))=true then _ else _) Q E _;unfold KB reduceHash at h;split at h
 ·rename_i hr
  rw[if_pos hr];exact bO (by simpa [mw]using h)
 ·rename_i hr
  rw[if_neg hr];exact bM (iq (bO (by simpa [mw]using h)))
theorem IsPK.inj{h:Heap}{a:bV}{k k':FK}(hx:IsPK prog w h k a)(hy:IsPK prog w h k' a):k=k':=by
 obtain⟨o,n,x,y,p,_,l,h1,h2⟩:=hx;obtain⟨t,s,r,q,c,_,b,f,g⟩:=hy;rw[p]at c
 cases c;rw[l]at b;injection b with e _
 have d:=congrArg m3 e;simp only[List.cons.injEq,b5.injEq,and_true]at d;obtain⟨m,j⟩:=d;subst m j;exact Prod.ext (h1.inj f) (h2.inj g)
theorem IsPK.keeps{h h':Heap}{k:FK}{a d:bV}{o:Obj}{es ep}(hx:IsPK prog w h k a)(ho:h.get? d=some o)(hd:o.data = .dict es ep)(hs:eT d h h'):IsPK prog w h' k a:=by
 obtain⟨e,n,x,y,h0,f,b,h1,h2⟩:=hx;have c:a≠d:=by
  rintro rfl;rw[ho]at h0
  cases h0;rw[hd]at b
  cases b
 exact⟨e,n,x,y,(hs.2 a c).trans h0,f,b,h1.keeps ho hd hs,h2.keeps ho hd hs⟩
theorem BG{k k':FK}{a b:bV}{Q:Bool->bS->Prop}(hu:A.units+2<cLine)(hx:IsPK prog w s.heap k a)(hy:IsPK prog w s.heap k' b)(h:Q (decide (k=k')) s):wpAny (model prog w) A (eqBool (.ref a) (.ref b)) Q E s:=by
 unfold eqBool
 try with_reducible refine cR ?_
 show wpAny _ _ (if(b5 a==b5 b)=true then _ else _) Q E s;by_cases c:(b5 a==b5 b)=true
 ·rw[if_pos c];have e:a=b:=by have:=eq_of_beq c;injection this
  subst e;have e:=hx.inj hy;subst e;exact bM (iq (bO (by simpa using h)))
 ·rw[if_neg c];have j:=hx.typeIs;have g:=hy.typeIs;obtain⟨o,n,x,y,v,_,u,h1,h2⟩:=hx;obtain⟨C,B,m,l,q,_,p,r,t⟩:=hy;refine bM (wpAny_richCompare_same_room (op:= .Eq) j g jq (df jq j F.entry_tuple_eq ?_ (F.args_tuple_eq_2 _ _)) (by omega));show wpAny _ _ (isInstance (.ref b) (.type "tuple") >>= _) _ _ s;refine bM (dQ g jb ?_);simp only[gC,fq,if_false];refine bM (jN v u ?_);refine bM (jN q p ?_);rw[show List.zip #[b5 x,b5 y].toList #[b5 m,b5 l].toList=[(b5 x,b5 m),(b5 y,b5 l)]from rfl];rw[dD,bind_assoc];refine bM (bM (mW (show A.units+1<cLine by omega) h1 r ?_));by_cases f:k.1=k'.1
  ·rw[decide_eq_true f];simp only[gC,fq,if_false];refine bO ?_;dsimp only;rw[dD,bind_assoc];refine bM (bM (mW (show A.units+1<cLine by omega) h2 t ?_));by_cases d:k.2=k'.2
   ·rw[decide_eq_true d];simp only[gC,fq,if_false];refine bO ?_;dsimp only;rw[fM];refine bM (bO (bO ⟨_,rfl,(λe=>nomatch e),dU ?_⟩));rw[decide_eq_true (Prod.ext f d)]at h;exact h
   ·rw[decide_eq_false d];simp only[o3,if_true];rw[decide_eq_false (λz=>d (by rw[z]))]at h;exact bM (bO (bO (bM (bO (bO ⟨_,rfl,(λe=>nomatch e),dU h⟩)))))
  ·rw[decide_eq_false f];simp only[o3,if_true];rw[decide_eq_false (λz=>f (by rw[z]))]at h;exact bM (bO (bO (bM (bO (bO ⟨_,rfl,(λe=>nomatch e),dU h⟩)))))
theorem zx{f:Nat}{ks:List Int}{a:bV}{Q:Bool->bS->Prop}(hk:IsTupleKey (intKind prog w) s.heap ks a)(h:Q true s):wpAny (model prog w) A (eqIsQuiet (f+1) (.ref a)) Q E s:=by
 have j:=hk.typeIs;obtain⟨o,b,n,l,_,k,m⟩:=hk;unfold eqIsQuiet;refine bM (fH j jq.lookup ?_);show wpAny _ _ (isInstance (.ref a) (.type "tuple") >>= _) _ _ s;refine bM (dQ j jb ?_);simp only[gC,fq,if_false];refine bM (fi l k ?_);refine bM ?_;show wpAny _ _ (forIn b _ _) _ _ s;rw[<-gU];refine kM _ (λrest r c=>r.1=none/\c=s/\∀v∈rest,carriedByValue v=true) _ ?_ ?_ _ _ ⟨rfl,rfl,m.byValue⟩
 ·rintro v rest r c ⟨_,rfl,e⟩;rw[eqIsQuiet_byValue _ (e v b0)];refine bM (bO ?_);simp only[gC,fq,if_false];exact bO ⟨rfl,rfl,λu d=>e u (b3 _ d)⟩
 ·rintro⟨q,p⟩ c ⟨g,rfl,_⟩;simp only at g;subst g;exact bO h
theorem CP{k:FK}{a:bV}{Q:Bool->bS->Prop}(hk:IsPK prog w s.heap k a)(h:Q true s):wpAny (model prog w) A (eqIsQuiet 8 (.ref a)) Q E s:=by
 have b:=hk.typeIs;obtain⟨o,n,x,y,d,_,c,h1,h2⟩:=hk;unfold eqIsQuiet;refine bM (fH b jq.lookup ?_);show wpAny _ _ (isInstance (.ref a) (.type "tuple") >>= _) _ _ s;refine bM (dQ b jb ?_);simp only[gC,fq,if_false];refine bM (fi d c ?_);show wpAny _ _ (forIn #[b5 x,b5 y] _ _ >>= _) _ _ s;rw[<-gU,show #[b5 x,b5 y].toList=[b5 x,b5 y]from rfl,dD,bind_assoc];refine bM (bM (zx h1 ?_));simp only[gC,fq,if_false];refine bO ?_;dsimp only;rw[dD,bind_assoc];refine bM (bM (zx h2 ?_));simp only[gC,fq,if_false];refine bO ?_;dsimp only;rw[fM];exact bM (bO (bO h))
end
def Le(prog:cg)(w:cC):HeapKind prog w FK where
 is:=IsPK prog w
 hash:=KB prog w
 draws:=λk=>(k.1.length+1)+(k.2.length+1)+1
 room:=λA=>A.units+2<cLine
 inj:=λhx hy=>hx.inj hy
 keeps:=λx ho hd hs=>x.keeps ho hd hs
 pyHash:=λhu hk h=>AC hu hk h
 eqBool:=λhu hx hy h=>BG hu hx hy h
 quiet:=λhk h=>CP hk h
structure KW(κ:Type)[DecidableEq κ] where
 knd:(prog:cg)->(w:cC)->HeapKind prog w κ
 at':bN->Hp->κ->bV->Prop
 ok:∀{X:Cx} {pins:List (bV×Obj)} {σ:St} {H:Hp} {s:bS} {k:κ} {a:bV},Inv X pins σ H s->at' X.K H k a->(knd X.prog X.w).is s.heap k a
 map:∀{K:bN} {H H':Hp} {k:κ} {a:bV},(∀b xs,SqT K H b xs->SqT K H' b xs)->at' K H k a->at' K H' k a
 room:∀{prog:cg} {w:cC} {A:cO},A.units+3<cLine->(knd prog w).room A.in1
 room':∀{prog:cg} {w:cC} {A:cO},A.units+3<cLine->(knd prog w).room A
def DXe{P:cg}{w:cC}{κ:Type}[DecidableEq κ](knd:HeapKind P w κ)(xs:List (κ×bV×bQ))(ep:Nat)(d:bV)(h:Heap):Prop:=
 (d==sysModules)=false/\∃o es,h.get? d=some o/\o.ExactDict/\o.data = .dict es ep/\es.toList=xs.map (entryOfKey knd)/\(xs.map (·.1)).Nodup
def DictE{κ:Type}[DecidableEq κ](W:KW κ)(P:cg)(w:cC)(K:bN)(H:Hp)(d:bV)(ep:Nat)(kvs:List (κ×Int)):Prop:=
 ∃xs,H d=some (.ext (DXe (W.knd P w) xs ep d))/\cT (λ(p:κ×Int) (q:κ×bV×bQ)=>p.1=q.1/\(∃t,q.2.2=dn p.2 t)/\W.at' K H p.1 q.2.1) kvs xs
def DictI{κ:Type}[DecidableEq κ](W:KW κ)(P:cg)(w:cC)(K:bN)(H:Hp)(d:bV)(kvs:List (κ×Int)):Prop:=∃ep,DictE W P w K H d ep kvs
section
variable{κ:Type}[DecidableEq κ]{W:KW κ}{P:cg}{w:cC}{K:bN}{H H':Hp}{d:bV}{ep:Nat}{kvs:List (κ×Int)}
theorem DictE.mono(e:Same H H')(h:DictE W P w K H d ep kvs):DictE W P w K H' d ep kvs:=by
 obtain⟨f,h1,h2⟩:=h;exact⟨f,e _ _ h1,Paired.mapP h2 λ_ _ ⟨a,b,c⟩=>⟨a,b,W.map (λ_ _ q=>e.tup q) c⟩⟩
theorem DictI.mono(e:Same H H')(h:DictI W P w K H d kvs):DictI W P w K H' d kvs:=by
 obtain⟨a,h⟩:=h;exact⟨a,h.mono e⟩
theorem vM{p a:bV}{φ:Heap->Prop}{o:HO}{xs:List V}(h:SqT K H a xs)(hp:H p=some (.ext φ)):SqT K (upd H p o) a xs:=by
 rcases h with(h|⟨u,h⟩)|h
 ·exact .inl (.inl (by rw[rQ (λz=>by rw[z,hp]at h;cases h)];exact h))
 ·exact .inl (.inr ⟨u,by rw[rQ (λz=>by rw[z,hp]at h;cases h)];exact h⟩)
 ·exact .inr h
theorem DictE.overX{p:bV}{φ:Heap->Prop}{o:HO}(h:DictE W P w K H d ep kvs)(hp:H p=some (.ext φ))(hne:d≠p):DictE W P w K (upd H p o) d ep kvs:=by
 obtain⟨e,h1,h2⟩:=h;exact⟨e,by rw[rQ hne];exact h1,Paired.mapP h2 λ_ _ ⟨a,b,c⟩=>⟨a,b,W.map (λ_ _ q=>vM q hp) c⟩⟩
theorem DXe.frame{knd:HeapKind P w κ}{xs:List (κ×bV×bQ)}{h1 h2:Heap}(h:DXe knd xs ep d h1)(k:∀o,h1.get? d=some o->h2.get? d=some o):DXe knd xs ep d h2:=by
 obtain⟨a,o,e,b,c⟩:=h;exact⟨a,o,e,k o b,c⟩
theorem w8{knd:HeapKind P w κ}{xs:List (κ×bV×bQ)}{h:Heap}(hx:DXe knd xs ep d h):ObjOk P w H h d (.ext (DXe knd xs ep d)):=
 ⟨hx,let⟨_,o,_,b,_⟩:=hx;⟨o,b⟩,λ_ _ a b=>a.frame b⟩
end
section
variable{κ:Type}[DecidableEq κ]{W:KW κ}{X:Cx}{pins:List (bV×Obj)}{σ:St}{H:Hp}{s:bS}{d:bV}{ep:Nat}{kvs:List (κ×Int)}{A:cO}{E:bQ->bS->Prop}
theorem Inv.dx(I:Inv X pins σ H s)(h:DictE W X.prog X.w X.K H d ep kvs):∃xs,DXe (W.knd X.prog X.w) xs ep d s.heap/\s.heap.DictOfH (W.knd X.prog X.w) d xs/\cT (λ(p:κ×Int) (q:κ×bV×bQ)=>p.1=q.1/\(∃t,q.2.2=dn p.2 t)/\W.at' X.K H p.1 q.2.1) kvs xs:=by
 obtain⟨xs,h1,h2⟩:=h;obtain⟨j,_,_⟩:=I.hok d _ h1;obtain⟨h3,o,n,a,b,c,e,f⟩:=id j;refine⟨xs,j,⟨o,n,ep,a,b,c,e,λq m=>?_,f⟩,h2⟩;obtain⟨i,r,l⟩:=dW.mp m;obtain⟨p,hp,k,_,g⟩:=Paired.get h2 (bT r);rw[l]at k g;rw[<-k];exact W.ok I g
theorem vN{xs:List (κ×bV×bQ)}{K:bN}{H:Hp}(k:κ):∀{kvs:List (κ×Int)},cT (λ(p:κ×Int) (q:κ×bV×bQ)=>p.1=q.1/\(∃t,q.2.2=dn p.2 t)/\W.at' K H p.1 q.2.1) kvs xs->(kvs.lookup k=none/\atKey xs k=none)\/∃n a t,kvs.lookup k=some n/\atKey xs k=some (a,dn n t):=by
 induction xs with
 | nil=>
  intro kvs h
  cases h;exact .inl ⟨rfl,rfl⟩
 | cons q xs g=>
  intro kvs h
  cases h with
  | @cons p _ ps _ hp hr=>
   obtain⟨c,⟨t,d⟩,_⟩:=hp;obtain⟨b,pn⟩:=p;obtain⟨l,f,j⟩:=q;dsimp only at c d;subst c d;by_cases e:b=k
   ·subst e;refine .inr ⟨pn,f,t,?_,?_⟩
    ·simp[gx]
    ·simp[atKey]
   ·have h1:((b,pn)::ps).lookup k=ps.lookup k:=by
     rw[dj,show(k==b)=false from beq_false_of_ne (Ne.symm e)]
    have h2:atKey ((b,f,dn pn t)::xs) k=atKey xs k:=by
     unfold atKey;rw[List.find?_cons_of_neg (by simpa using e)]
    rw[h1,h2];exact g hr
def NB(W:KW κ)(P:cg)(w:cC)(K:bN)(td ty tx:TE):TE:=λσ H Q=>td σ H λx H1=>∃(d:bV),x = .ref d/\(∃kvs,DictI W P w K H1 d kvs)/\ty σ H1 λy H2=>tx σ H2 λz H3=>∃(a:bV) (k:κ) (n:Int) (kvs:List (κ×Int)),y = .ref a/\z = .int n/\DictI W P w K H3 d kvs/\W.at' K H3 k a/\Q (.int ((kvs.lookup k).getD n)) H3
theorem yO{P:cg}{w:cC}{K:bN}{o e f:Expr}{apos cpos:Pos}{td ty tx:TE}{j:Nat}(hP:X.prog=P)(hw:X.w=w)(hK:X.K=K)(hr:Room j X.A)(ho:PE X o td)(he:PE X e ty)(hf:PE X f tx)(hbase:attributeBase o "get" X.env (eval o X.env)=eval o X.env:=by rfl)
  (hfew:((backTo cpos (cD [e,f] X.env)).all (λx=>!x.1)&&(backToKw cpos (keywordEach [] X.env)).all (λx=>x.1.isSome)&&decide (([e,f]:List Expr).length+([]:List Keyword).length+(if([]:List Keyword).isEmpty then 0 else 1)<30))=true:=by rfl)
  (hline:(apos.endLine==cpos.line)=true:=by rfl)(htrees:backTo cpos (cD [e,f] X.env)=[(false,eval e X.env),(false,eval f X.env)]:=by rfl):PE X (.Call (.Attribute o "get" apos) [e,f] [] cpos) (NB W P w K td ty tx):=by
 subst hP hw hK
 intro c s v H Q I h
 refine nK hbase hfew hline kN lL PySem.F.type_dict_get (Fv (ho c s v H _ I h) λu s1 ⟨x,N,G,M,d,ex,⟨aa,ac,C⟩,q1⟩=>?_)
 subst ex
 obtain rfl:u=b5 d:=M
 obtain⟨af,⟨U,T,ag,g1,g2,_⟩,E,_⟩:=G.dx C
 refine⟨E.typeIs,λb z=>?_,?_⟩
 ·cases z
  exact⟨T,g1,g2.2.1⟩
 rw[htrees]
 refine fZ rfl (ig (eQ (Fv (he c s1 v N _ G q1) λiv V ⟨y,Z,I2,J,q2⟩=>eQ (Fv (hf c V v Z _ I2 q2) λfv s3 ⟨z,R,q,Y,a,k,n,ab,O,ez,⟨ae,D⟩,hk,q3⟩=>jZ ?_))))
 subst O ez
 cases(show iv=b5 a from J)
 obtain⟨L,rfl⟩:=Y
 obtain⟨S,⟨g,_⟩,l,B⟩:=q.dx D
 refine qt lL l.typeIs PySem.F.entry_dict_get (PySem.F.args_dict_get_3 _ _ _) (meetsH_dict_get_default (W.knd X.prog X.w) d a g (.int n L)) ⟨W.room (by have:=hr.units;omega),k,S,W.ok q hk,l,?_⟩
 refine⟨_,R,q.tok _,?_,q3⟩
 rcases vN k B with⟨r,p⟩|⟨m,b,t,r,p⟩
 ·rw[r,p];exact⟨_,rfl⟩
 ·rw[r,p];exact⟨_,rfl⟩
def Ii(kvs:List (κ×Int))(k:κ)(n:Int):List (κ×Int):=if(kvs.lookup k).isSome=true then kvs.map (λp=>if p.1=k then(p.1,n)else p)else kvs++[(k,n)]
theorem Ad{K:bN}{H H':Hp}{xs:List (κ×bV×bQ)}{kvs:List (κ×Int)}{k:κ}{a:bV}{n:Int}{t:Tok}(rel:cT (λ(p:κ×Int) (q:κ×bV×bQ)=>p.1=q.1/\(∃t,q.2.2=dn p.2 t)/\W.at' K H p.1 q.2.1) kvs xs)
  (up:∀(k':κ) (b:bV),W.at' K H k' b->W.at' K H' k' b)(hk:W.at' K H k a):cT (λ(p:κ×Int) (q:κ×bV×bQ)=>p.1=q.1/\(∃t,q.2.2=dn p.2 t)/\W.at' K H' p.1 q.2.1) (Ii kvs k n) (storedH xs k a (.int n t)):=by
 unfold Ii
 rcases vN k rel with⟨d,f⟩|⟨m,b,l,d,f⟩
 ·rw[d,storedH_new f]
  exact Paired.app (Paired.mapP rel λ_ _ ⟨c,j,g⟩=>⟨c,j,up _ _ g⟩) (.cons ⟨rfl,⟨t,rfl⟩,up _ _ hk⟩ .nil)
 ·rw[d,storedH_old f]
  show cT _ (kvs.map λp=>if p.1=k then(p.1,n)else p) (xs.map (putAt k (.int n t)))
  clear d f
  induction rel with
  | nil=>exact .nil
  | @cons p q ps qs h _ ih=>
   obtain⟨c,j,g⟩:=h
   refine .cons ?_ ih
   unfold putAt
   dsimp only
   by_cases e:p.1=k
   ·rw[if_pos e,if_pos (c▸e)]
    exact⟨c,⟨t,rfl⟩,up _ _ g⟩
   ·rw[if_neg e,if_neg (λz=>e (c.trans z))]
    exact⟨c,j,up _ _ g⟩
def MZ(W:KW κ)(P:cg)(w:cC)(K:bN):V->V->V->Hp->(Hp->Prop)->Prop:=λo i v H Q=>∃(d a:bV) (k:κ) (n:Int) (kvs:List (κ×Int)),o = .ref d/\i = .ref a/\v = .int n/\DictI W P w K H d kvs/\W.at' K H k a/\kvs.length<=1000000/\
 ∀H',(∃φ φ',H d=some (.ext φ)/\H'=upd H d (.ext φ'))->DictI W P w K H' d (Ii kvs k n)->Q H'
theorem Ex{P:cg}{w:cC}{K:bN}{j:Nat}(hP:X.prog=P)(hw:X.w=w)(hK:X.K=K)(hr:Room j X.A):LU X (MZ W P w K):=by
 subst hP hw hK;intro R s σ H o i v ov iv u Q I T N S h;obtain⟨d,a,k,n,Z,rfl,rfl,rfl,⟨ep,y⟩,hk,hl,q⟩:=h
 cases T
 cases N;obtain⟨t,rfl⟩:=S;obtain⟨f,⟨m,o1,ac,g1,g2,g3,_⟩,F,g⟩:=I.dx y;have ab:=Paired.len g;refine wpAny_setItem_heap (W.room (by have:=hr.units;omega)) (W.ok I hk) F (λU B M=>?_) (cG (show f.length<=1000000 by omega) (by decide));obtain⟨E,z,c,D,Y,V,L,a5,G⟩:=B;obtain⟨aa,h1,h2⟩:=y;have J:DXe (W.knd X.prog X.w) (storedH f k a (.int n t)) c d U:=⟨m,E,z,D,Y,V,L,G⟩;have O:=I.write (t':=s.toks+(W.knd X.prog X.w).draws k) (x:=d) (e:=d) (o:= .ext (DXe (W.knd X.prog X.w) (storedH f k a (.int n t)) c d)) (by rw[h1];trivial) (.inl rfl) (λb ob r l=>(M.2 b r).trans l) ⟨E,D⟩ (w8 J);refine⟨_,O,q _ ⟨_,_,h1,rfl⟩ ⟨c,storedH f k a (.int n t),rE,?_⟩⟩;have C:∀(p:κ) (b:bV),W.at' X.K H p b->W.at' X.K (upd H d (.ext (DXe (W.knd X.prog X.w) (storedH f k a (.int n t)) c d))) p b:=λp b r=>W.map (λ_ _ l=>vM l h1) r;generalize upd H d (.ext (DXe (W.knd X.prog X.w) (storedH f k a (.int n t)) c d))=Hn at C;exact Ad g C hk
end
section
variable{κ:Type}[DecidableEq κ]{W:KW κ}{X:Cx}
theorem Inv.bigS{pins:List (bV×Obj)}{σ:St}{H:Hp}{s:bS}(I:Inv X pins σ H s):sysModules<s.heap.objs.size:=qu (by decide) ((I.mod.glob.keeps I.bk).lt)
theorem Ax{P:cg}{w:cC}(knd:HeapKind P w κ)(h:Heap)(hb:sysModules<h.objs.size):DXe knd [] 0 h.objs.size (h.push {cls:= .type "dict",data:= .dict #[]}):=
 ⟨beq_eq_false_iff_ne.mpr (Ne.symm (cF hb)),_,#[],b4 _ rfl,⟨rfl,rfl,rfl⟩,rfl,rfl,gI⟩
def M4(W:KW κ)(P:cg)(w:cC)(K:bN):TE:=λ_ H Q=>∀d H',H d=none->(∃φ,H'=upd H d (.ext φ))->DictI W P w K H' d []->Q (.ref d) H'
theorem B3{P:cg}{w:cC}{K:bN}{pos:Pos}(hP:X.prog=P)(hw:X.w=w)(hK:X.K=K):PE X (.Dict [] [] pos) (M4 W P w K):=by
 subst hP hw hK;exact λb s c H Q I h=>oa ⟨.ref s.heap.objs.size,_,I.laid (a:=s.heap.objs.size) (o:= .ext (DXe (W.knd X.prog X.w) [] 0 s.heap.objs.size)) (t':=s.toks) (λ_ _ q=>bU _ q) (bX _) (w8 (Ax _ s.heap I.bigS)),rfl,
  h _ _ (I.hok.fresh (bX _)) ⟨_,rfl⟩ ⟨0,[],rE,.nil⟩⟩
def Mt(W:KW κ)(P:cg)(w:cC)(K:bN)(tk tv:TE):TE:=λσ H Q=>∀d H1,H d=none->(∃φ,H1=upd H d (.ext φ))->DictI W P w K H1 d []->tk σ H1 λx H2=>tv σ H2 λy H3=>∃(a:bV) (k:κ) (n:Int),x = .ref a/\y = .int n/\W.at' K H3 k a/\DictI W P w K H3 d []/\
 ∀H',(∃φ φ',H3 d=some (.ext φ)/\H'=upd H3 d (.ext φ'))->DictI W P w K H' d [(k,n)]->Q (.ref d) H'
theorem C6{P:cg}{w:cC}{K:bN}{j:Nat}{ke ve:Expr}{pos:Pos}{tk tv:TE}(hP:X.prog=P)(hw:X.w=w)(hK:X.K=K)(hr:Room j X.A)(hk:PE X ke tk)(hv:PE X ve tv):PE X (.Dict [some ke] [ve] pos) (Mt W P w K tk tv):=by
 subst hP hw hK;intro d s D H Q I h;have I1:=I.laid (a:=s.heap.objs.size) (o:= .ext (DXe (W.knd X.prog X.w) [] 0 s.heap.objs.size)) (t':=s.toks) (h':=s.heap.push {cls:= .type "dict",data:= .dict #[]}) (λ_ _ q=>bU _ q) (bX _) (w8 (Ax _ s.heap I.bigS));have Z:=h s.heap.objs.size _ (I.hok.fresh (bX _)) ⟨_,rfl⟩ ⟨0,[],rE,.nil⟩;refine wpAny_Dict_any rfl rfl (by simp) (by show 1<=15;decide) ?_;refine pairTrees_cons_walk (Fv (hk d _ D _ _ I1 Z) λu V ⟨x,T,U,J,q2⟩=>Fv (hv d V D T _ U q2) λv S ⟨y,H3,g,F,a,k,n,ex,M,p,⟨ep,m⟩,q3⟩=>pairTrees_nil_walk ?_);subst ex M
 cases(show u=b5 a from J);obtain⟨t,rfl⟩:=F;obtain⟨xs,⟨l,_⟩,G,r⟩:=g.dx m
 cases r;unfold storeAll;rw[dD];refine bM (bM (wpAny_dictSet_heap (hsz:=cM _) (W.room' (by have:=hr.units;omega)) (W.ok g p) G λh' B R=>bO ?_));dsimp only;rw[fM];refine bO ?_;obtain⟨E,z,c,C,a2,a3,O,a5,L⟩:=B;obtain⟨aa,h1,h2⟩:=m;have N:DXe (W.knd X.prog X.w) (storedH [] k a (.int n t)) c s.heap.objs.size h':=⟨l,E,z,C,a2,a3,O,L⟩;have Y:=g.write (t':=S.toks+(W.knd X.prog X.w).draws k) (x:=s.heap.objs.size) (e:=s.heap.objs.size) (o:= .ext (DXe (W.knd X.prog X.w) (storedH [] k a (.int n t)) c s.heap.objs.size)) (by rw[h1];trivial) (.inl rfl) (λb ob hb f=>(R.2 b hb).trans f) ⟨E,C⟩ (w8 N);refine⟨.ref s.heap.objs.size,_,Y,rfl,q3 _ ⟨_,_,h1,rfl⟩ ⟨c,storedH [] k a (.int n t),rE,?_⟩⟩;exact .cons ⟨rfl,⟨t,rfl⟩,W.map (λ_ _ f=>vM f h1) p⟩ .nil
end
def RawD(h:Heap)(d:bV)(es:Array DictEntry)(ep:Nat):Prop:=∃o,h.get? d=some o/\o.ExactDict/\o.data = .dict es ep
section
variable{prog:cg}{w:cC}{A:cO}{E:bQ->bS->Prop}{s:bS}
theorem RawD.ty{d:bV}{es:Array DictEntry}{ep:Nat}(r:RawD s.heap d es ep):s.TypeIs (.ref d) "dict":=let⟨o,a,b,_⟩:=r;⟨o,a,b.1⟩
theorem yk(d:bV)(hs:(d==sysModules)=false):MeetsIn prog w (Builtin.«dict.items» ⟨[.ref d],[]⟩) (λ_ R s=>(∃es ep,RawD s.heap d es ep)/\R (.ok (.ret (.ref s.heap.objs.size))) {s with heap:=s.heap.push {cls:= .type "dict_items",data:= .fields #[.ref d]}}):=
 .of_wp λA R s ⟨⟨es,ep,r⟩,h⟩=>by
  unfold Builtin.«dict.items» rb qB
  refine bM (bM (wpAny_notOrdered_dict r.ty (bO ?_)))
  rw[if_neg (by rw[hs];exact cA)]
  exact bM (bO (bM (d5 (bO ⟨_,rfl,h⟩))))
theorem yN{v d:bV}{es:Array DictEntry}{ep:Nat}{Q:bQ->bS->Prop}(hv:s.heap.IsItemsView v d)(r:RawD s.heap d es ep)
  (hQ:Q (.ref s.heap.objs.size) {s with heap:=s.heap.push {cls:= .type "dict_itemiterator",data:= .fields #[.none,.bool false,.ref d,.int 0 0,.int es.size 0,.int ep 0,.none,.none]}}):wpAny (model prog w) A (pyIter (.ref v)) Q E s:=by
 obtain⟨h,f,g,e⟩:=id hv
 obtain⟨o,b,j,c⟩:=id r
 refine i0 hv.typeIs k9 (df k9 hv.typeIs F.entry_dict_items_iter ?_ (F.args_dict_items_iter_1 _))
 unfold Builtin.«dict_items.__iter__» pr og
 refine bM (bO (bM (bM (dN f e (x:= .ref d) rfl (bO ?_)))))
 refine bM (bM (j5 b c (bM (lB b c ?_))))
 have a:gZ "dict_itemiterator"=true:=by decide
 simp only[a,if_true]
 refine d5 (bO ⟨_,rfl,"dict_itemiterator",_,⟨_,b4 _ rfl,rfl⟩,d7.lookup,?_⟩) (by simp only[sizeOk,iK,cc,cr,cZ,lx,lR];omega)
 simpa [rawInt,iK]using hQ
theorem yT{it d:bV}{i ep:Nat}{es:Array DictEntry}{ok ov:bQ}{Q:Option bQ->bS->Prop}(hit:IsItemIter s.heap it d i es.size ep ok ov)(r:RawD s.heap d es ep)(hlt:i<es.size)
  (hQ:∀h',IsItemIterOut h' it d (i+1) es.size ep es[i].key es[i].val s.heap.objs.size->h'.get? s.heap.objs.size=some {cls:= .type "tuple",data:= .seq #[es[i].key,es[i].val]}->h'.objs.size=s.heap.objs.size+1->
   (∀b o,b≠it->s.heap.get? b=some o->h'.get? b=some o)->Q (some (.ref s.heap.objs.size)) {s with heap:=h'}):wpAny (model prog w) A (pyNext (.ref it)) Q E s:=by
 obtain⟨hp,g,k,tk,os⟩:=s
 obtain⟨o,M,O,J⟩:=id r
 have h:kh ⟨hp,g,k,tk,os⟩ (.ref it) "dict_itemiterator":=⟨_,hit,rfl⟩
 unfold pyNext
 refine bM (gb (dA (name:=b9 "__next__") h d7 (df d7 h je ?_ (i9 _))))
 refine bM (bO (bM (bM ?_)))
 first|refine bM (fJ h (bO ?_))|refine bM (wpAny_typeNameOf_itemiter h (bO ?_))
 refine bM (ir hit rfl ?_)
 have B:gZ "dict_itemiterator"=true:=by decide
 simp only[B,if_true]
 show wpAny _ _ (if(b5 d==bQ.none)=true then _ else _) _ _ _
 rw[if_neg (show ¬((b5 d==bQ.none)=true)from cA)]
 refine bM (bO (bM (j5 M J ?_)))
 rw[if_neg (by simp)]
 refine bM (bO (bM (lB M J ?_)))
 rw[if_neg (by simp)]
 refine bO ?_
 simp only[show ¬((i:Int)<0)from by omega,if_false,e9,d8 hlt]
 refine bM ?_
 first|refine bM (fJ h (bO ?_))|refine bM (wpAny_typeNameOf_itemiter h (bO ?_))
 refine bM (i4 h ?_)
 show wpAny _ _ (setField (.ref it) 3 (rawInt ((i:Int)+1)) >>= _) _ _ ⟨hp,g,k,tk,os⟩
 refine bM (dY hit (by simp) λh1 l m=>?_)
 replace m:eT it hp h1:=m
 replace l:IsItemIter h1 it d (i+1) es.size ep ok ov:=by
  have e:((i+1:Nat):Int)=(i:Int)+1:=by omega
  unfold IsItemIter;rw[e];simpa [rawInt]using l
 have n:kh ⟨h1,g,k,tk,os⟩ (.ref it) "dict_itemiterator":=⟨_,l,rfl⟩
 refine bM (cR (bM (i4 n (bM (i4 n ?_)))))
 show wpAny _ _ (i5 (.ref it) 6 es[i].key es[i].val) _ _ ⟨h1,g,k,tk,os⟩
 generalize es[i].key=a at *
 generalize es[i].val=c at *
 unfold i5 my
 refine bM (iw ?_)
 have j:IsItemIter (h1.push {cls:= .type "tuple",data:= .seq #[a,c]}) it d (i+1) es.size ep ok ov:=bU _ l
 have p:h1.objs.size=hp.objs.size:=m.1
 have L:(h1.push {cls:= .type "tuple",data:= .seq #[a,c]}).get? hp.objs.size=some {cls:= .type "tuple",data:= .seq #[a,c]}:=by rw[<-p];exact b4 _ rfl
 have H:(h1.push {cls:= .type "tuple",data:= .seq #[a,c]}).objs.size=hp.objs.size+1:=by rw[fL,p]
 have I:∀b o,b≠it->hp.get? b=some o->(h1.push {cls:= .type "tuple",data:= .seq #[a,c]}).get? b=some o:=λb o f e=>bU _ (m.extBut b o f e)
 have N:it≠hp.objs.size:=cF (b6 hit)
 show wpAny _ _ _ _ _ ⟨h1.push {cls:= .type "tuple",data:= .seq #[a,c]},g,k,tk,os⟩
 rw[p]
 generalize h1.push {cls:= .type "tuple",data:= .seq #[a,c]}=h2 at j L H I
 clear l m n p
 refine bM (bM (dN j rfl (x:= .none) rfl (bO ?_)))
 simp only[if_true]
 refine bM (dN j rfl (x:=ok) rfl (bM (dN j rfl (x:=ov) rfl ?_)))
 refine bM (dY j (by simp) λh3 z v=>?_)
 replace v:eT it h2 h3:=v
 replace z:IsItemIter h3 it d (i+1) es.size ep a ov:=z
 refine bM (dY z (by simp) λh4 y q=>?_)
 replace q:eT it h3 h4:=q
 replace y:IsItemIter h4 it d (i+1) es.size ep a c:=y
 refine bM (dY y (by simp) λh5 D u=>?_)
 replace u:eT it h4 h5:=u
 replace D:IsItemIterOut h5 it d (i+1) es.size ep a c hp.objs.size:=D
 refine bM (dY D (by simp) λh6 C t=>?_)
 replace t:eT it h5 h6:=t
 replace C:IsItemIterOut h6 it d (i+1) es.size ep a c hp.objs.size:=C
 have G:∀b o,b≠it->h2.get? b=some o->h6.get? b=some o:=λb o f e=>t.extBut b o f (u.extBut b o f (q.extBut b o f (v.extBut b o f e)))
 refine bM (j4 (bO (bO ⟨_,rfl,bO (hQ h6 C (G _ _ (Ne.symm N) L) ?_ λb o f e=>G b o f (I b o f e))⟩)))
 show h6.objs.size=hp.objs.size+1
 rw[t.1,u.1,q.1,v.1,H]
theorem z9{it d:bV}{i ep:Nat}{es:Array DictEntry}{ok ov:bQ}{Q:Option bQ->bS->Prop}(hh:A.handled=none)(hit:IsItemIter s.heap it d i es.size ep ok ov)(r:RawD s.heap d es ep)(hge:es.size<=i)
  (hQ:∀h',qK it s.heap h'->Q none {s with heap:=h'}):wpAny (model prog w) A (pyNext (.ref it)) Q E s:=by
 obtain⟨o,f,h,g⟩:=id r
 have c:s.TypeIs (.ref it) "dict_itemiterator":=⟨_,hit,rfl⟩
 unfold pyNext
 refine bM (gb (dA (name:=b9 "__next__") c d7 (df d7 c je ?_ (i9 _))))
 refine bM (bO (bM (bM ?_)))
 first|refine bM (fJ c (bO ?_))|refine bM (wpAny_typeNameOf_itemiter c (bO ?_))
 refine bM (ir hit rfl ?_)
 have e:gZ "dict_itemiterator"=true:=by decide
 simp only[e,if_true]
 show wpAny _ _ (if(b5 d==bQ.none)=true then _ else _) _ _ s
 rw[if_neg (show ¬((b5 d==bQ.none)=true)from cA)]
 refine bM (bO (bM (j5 f g ?_)))
 rw[if_neg (by simp)]
 refine bM (bO (bM (lB f g ?_)))
 rw[if_neg (by simp)]
 refine bO ?_
 simp only[show ¬((i:Int)<0)from by omega,if_false,e9,f4 hge]
 refine bM ?_
 first|refine bM (fJ c (bO ?_))|refine bM (wpAny_typeNameOf_itemiter c (bO ?_))
 show wpAny _ _ (setField (.ref it) 2 .none >>= _) _ _ s
 refine bM (fN hit rfl (by simp) ?_)
 show wpAny _ _ (newExc (.type "StopIteration") [] >>= _) _ _ _
 refine bM ?_
 simp only[newExc,newTuple]
 refine bM (d5 ?_ (by size_fits))
 refine bM (m:=firstArgMember _ _) (eR (a:=bQ.none) (by first|rfl|(simp only[firstArgMember];rfl)) ?_)
 refine d5 ?_ (by size_fits)
 simp only[raiseNew]
 refine bM (kj ?_)
 rw[show A.in1.handled=none from hh]
 refine bM (bO (lZ ?_))
 refine bM (dQ (T:="StopIteration") (b:=true) ⟨_,b4 _ rfl,rfl⟩ jM ?_)
 exact bO (hQ _ (((d0 ..).extBut.push _).push _))
end
section
variable{κ:Type}[DecidableEq κ]
def Itm(W:KW κ)(P:cg)(w:cC)(K:bN)(d:bV)(ep n:Nat):It:=
 ⟨λi H=>∃kvs k m,DictE W P w K H d ep kvs/\kvs.length=n/\kvs[i]?=some (k,m),
  λi H v H'=>∃a k m t,(∀kvs,DictE W P w K H d ep kvs->kvs[i]?=some (k,m))/\W.at' K H k a/\v = .ref t/\H t=none/\H'=upd H t (.tup [.ref a,.int m]),
  λi H=>∃kvs,DictE W P w K H d ep kvs/\kvs.length=n/\n<=i⟩
theorem Inv.dx_inj{W:KW κ}{X:Cx}{pins:List (bV×Obj)}{σ:St}{H:Hp}{s:bS}{d:bV}{ep:Nat}{kvs kvs':List (κ×Int)}(I:Inv X pins σ H s)(h:DictE W X.prog X.w X.K H d ep kvs)(h':DictE W X.prog X.w X.K H d ep kvs'):kvs=kvs':=by
 obtain⟨L,⟨_,o,N,y,T,z,t,_⟩,G,b⟩:=I.dx h;obtain⟨D,⟨_,R,C,f,O,g,c,_⟩,B,a⟩:=I.dx h';rw[y]at f
 cases f;rw[z]at g;injection g with e1 _
 subst e1;rw[t]at c;have Q:=Paired.len b;have P:=Paired.len a;have A:=congrArg iN c;rw[bP,bP]at A;refine kF (by omega) λi h1 h2=>?_;obtain⟨q,r,S,⟨M,x⟩,v⟩:=Paired.get' (i:=i) b (bT h1);obtain⟨J,m,E,⟨F,k⟩,n⟩:=Paired.get' (i:=i) a (bT h2);have e:=congrArg (λl:List DictEntry=>l[i]?) c;simp only[bZ,r,m,oE]at e;have e:=Option.some.inj e;unfold entryOfKey at e;injection e with _ e2 e3
 injection e2 with e2
 have j:=W.ok I v;have u:=W.ok I n;rw[e2]at j;have p:=(W.knd X.prog X.w).inj j u;rw[x,k]at e3;injection e3 with e4 _
 exact Prod.ext p e4
theorem vz:entryFor table "dict_itemiterator.__iter__"=some Builtin.«dict_keyiterator.__iter__»:=jL (id':="dict_keyiterator.__iter__") rfl rfl (by decide +kernel) rfl
theorem zU{P:cg}{w:cC}{A:cO}{E:bQ->bS->Prop}{s:bS}{it d:bV}{i n ep:Nat}{ok ov:bQ}{Q:bQ->bS->Prop}(hit:IsItemIter s.heap it d i n ep ok ov)(h:Q (.ref it) s):wpAny (model P w) A (pyIter (.ref it)) Q E s:=by
 have a:s.TypeIs (.ref it) "dict_itemiterator":=⟨_,hit,rfl⟩;refine i0 a jj (df jj a vz ?_ (F.args_dict_itemiterator_iter_1 _));exact bM (bO (bO ⟨_,rfl,"dict_itemiterator",_,a,d7.lookup,h⟩))
theorem Ai{W:KW κ}{P:cg}{w:cC}{K:bN}{elts:List Expr}{x1:Nat}{pos:Pos}(d it:bV)(ep n:Nat):JX P w K (.Tuple elts x1 pos) (Itm W P w K d ep n) [it] it (λi h=>∃ok ov,IsItemIter h it d i n ep ok ov) where
 mem:=by simp
 obj:=λi h st b a=>by
  obtain⟨ok,ov,q⟩:=st
  rw[bY.mp a]
  exact⟨_,q,λv z=>by cases z⟩
 keep:=λi h t st k=>by
  obtain⟨ok,ov,q⟩:=st
  exact⟨ok,ov,k it (by simp) _ q⟩
 item:=by
  intro X N G C Z i c s A H E I M st Q
  subst N G C
  obtain⟨R,k,m,x,S,hk⟩:=Q
  obtain⟨xs,⟨_,o,r,F,O,L,y,_⟩,hd,j⟩:=I.dx x
  obtain⟨ok,ov,f⟩:=st
  have u:r.size=n:=by
   have:=congrArg iN y
   have:=Paired.len j
   simp at *
   omega
  subst u
  have Y:i<r.size:=by have:=(b8.mp hk).1;omega
  obtain⟨q,hq,r1,⟨D,V⟩,U⟩:=Paired.get' j hk
  have ee:r[i]=entryOfKey (W.knd X.prog X.w) q:=by
   have e:=congrArg (λl:List DictEntry=>l[i]?) y
   simp only[bZ,hq,oE,fb,d8 Y]at e
   exact Option.some.inj e
  refine yT f ⟨o,F,O,L⟩ Y λt J B ab kk=>?_
  rw[ee]at J B
  obtain⟨qk,g,qv⟩:=q
  dsimp only at r1 V U
  subst r1 V
  dsimp only[entryOfKey]at J B
  have li:it≠s.heap.objs.size:=cF (b6 f)
  have hn:H s.heap.objs.size=none:=I.hok.fresh (bX _)
  have I0:Inv X c A (upd H s.heap.objs.size (.tup [.ref g,.int m])) {s with heap:=s.heap.push {cls:= .type "tuple",data:= .seq #[.ref g,.int m D]},toks:=s.toks}:=
   I.laid (t':=s.toks) (λb o q=>bU _ q) (bX _) ⟨by show 2<=sizeLine;decide,[.ref g,.int m D],.cons rfl (.cons ⟨_,rfl⟩ .nil),⟨_,b4 _ rfl,rfl,_,rfl⟩⟩
  have p:∀b∈[it],HJ X c (upd H s.heap.objs.size (.tup [.ref g,.int m])) b:=λb a=>by
   have q:=M b a
   refine⟨?_,q.2⟩
   rw[rQ (by rw[bY.mp a];exact li)]
   exact q.1
  have I1:Inv X c A (upd H s.heap.objs.size (.tup [.ref g,.int m])) {s with heap:=t,toks:=s.toks}:=
   Inv.turnedL (s:={s with heap:=s.heap.push {cls:= .type "tuple",data:= .seq #[.ref g,.int m D]},toks:=s.toks}) I0 (fp:=[it]) (t':=s.toks) (λb o a q=>by
    rcases tU q rfl with q|⟨rfl,rfl⟩
    ·exact kk b o (λz=>a (by simp[z])) q
    ·exact B) p
  refine⟨_,rfl,wpAny_letOwnedTupleGo_items (s:={s with heap:=t}) J λh2 se sb=>?_⟩
  have I2:Inv X c A (upd H s.heap.objs.size (.tup [.ref g,.int m])) {s with heap:=h2,toks:=s.toks}:=
   Inv.turnedL (s:={s with heap:=t,toks:=s.toks}) I1 (fp:=[it]) (t':=s.toks) (λb o a q=>(sb.2 b (λz=>a (by simp[z]))).trans q) p
  exact⟨.ref s.heap.objs.size,_,I2,rfl,⟨g,k,m,_,λaa h=>by rw[I.dx_inj h x];exact hk,U,rfl,hn,rfl⟩,⟨_,_,se⟩,λb a=>(p b a).1⟩
 done:=by
  intro X N G C Z i c s A H E I M st Q
  subst N G C
  obtain⟨R,x,S,T⟩:=Q
  obtain⟨xs,⟨_,o,r,F,O,L,y,_⟩,hd,j⟩:=I.dx x
  obtain⟨ok,ov,f⟩:=st
  have u:r.size=n:=by
   have:=congrArg iN y
   have:=Paired.len j
   simp at *
   omega
  subst u
  exact z9 (I.ok.hd Z) f ⟨o,F,O,L⟩ T λt eb=>⟨rfl,I.turnedL (fp:=[it]) (t':=s.toks) (λb o a q=>eb b o (λz=>a (by simp[z])) q) M⟩
 self:=λ_ _ _ _ _ st h=>by
  obtain⟨ok,ov,f⟩:=st
  exact zU f h
def Mw(W:KW κ)(P:cg)(w:cC)(K:bN)(td:TE):TI:=λσ H R=>td σ H λx H1=>∃(d:bV) (ep:Nat) (kvs:List (κ×Int)),x = .ref d/\DictE W P w K H1 d ep kvs/\R (Itm W P w K d ep kvs.length) H1
theorem Cp{W:KW κ}{X:Cx}{P:cg}{w:cC}{K:bN}{elts:List Expr}{x1:Nat}{tpos apos cpos:Pos}{o:Expr}{td:TE}(hP:X.prog=P)(hw:X.w=w)(hK:X.K=K)(ho:PE X o td)(hbase:attributeBase o "items" X.env (eval o X.env)=eval o X.env:=by rfl)(hline:(apos.endLine==cpos.line)=true:=by rfl):
  PI X (.Tuple elts x1 tpos) (.Call (.Attribute o "items" apos) [] [] cpos) (Mw W P w K td):=by
 subst hP hw hK
 intro e s y H R I h
 refine kC hbase hline (Fv (ho e s y H _ I h) λv a ⟨x,p,C,M,d,l,c,L,D,q⟩=>?_)
 subst L
 obtain rfl:v=b5 d:=M
 obtain⟨N,⟨g,f,t,j,m,B,G,_⟩,n,r⟩:=C.dx D
 have A:t.size=c.length:=by
  have:=congrArg iN G
  have:=Paired.len r
  simp at *
  omega
 refine⟨"dict",_,kN,kO,PySem.F.type_dict_items,n.typeIs,λb z=>by cases z;exact⟨f,j,m.2.1⟩,fZ rfl (mc ?_)⟩
 refine qt kO n.typeIs PySem.F.entry_dict_items (PySem.F.args_dict_items_1 _) (yk d g) ⟨⟨t,l,f,j,m,B⟩,?_⟩
 have u:∀b o,a.heap.get? b=some o->(a.heap.push {cls:= .type "dict_items",data:= .fields #[.ref d]}).get? b=some o:=λb o z=>bU _ z
 have k:Inv X e y p {a with heap:=a.heap.push {cls:= .type "dict_items",data:= .fields #[.ref d]}}:=C.kept (t':=a.toks) u
 refine yN (s:={a with heap:=a.heap.push {cls:= .type "dict_items",data:= .fields #[.ref d]}}) ⟨_,b4 _ rfl,rfl,rfl⟩ ⟨f,u _ _ j,m,B⟩ ?_
 rw[A]
 have E:=k.kept (t':=a.toks) (h':=(a.heap.push {cls:= .type "dict_items",data:= .fields #[.ref d]}).push {cls:= .type "dict_itemiterator",data:= .fields #[.none,.bool false,.ref d,.int 0 0,.int c.length 0,.int l 0,.none,.none]}) λb o z=>bU _ z
 refine⟨_,[(a.heap.push {cls:= .type "dict_items",data:= .fields #[.ref d]}).objs.size],_,_,p,rfl,E,Ai d _ l c.length,⟨_,_,b4 _ rfl⟩,λb J=>?_,q⟩
 rw[bY.mp J]
 exact k.fpOk (bX _) (k.hok.fresh (bX _))
theorem Br{W:KW κ}{P:cg}{w:cC}{K:bN}{d:bV}{ep:Nat}{kvs:List (κ×Int)}{g:TG}{tb:TS}{D:Ic}{σ:St}{H:Hp}(Pv:Nat->St->Hp->Prop)(h0:Pv 0 σ H)(hl:∀i σ H,i<=kvs.length->Pv i σ H->DictE W P w K H d ep kvs)
  (hs:∀i k m a σ H t,kvs[i]?=some (k,m)->W.at' K H k a->H t=none->Pv i σ H->g (.ref t) σ (upd H t (.tup [.ref a,.int m])) λσ2 H2=>tb {D with nx:=Pv (i+1),ct:=Pv (i+1),bk:=D.nx} σ2 H2)(hd:∀σ H,Pv kvs.length σ H->D.nx σ H):
  ∃Wv:Nat->Nat->St->Hp->Prop,(∃m,Wv 0 m σ H)/\∀i m σ H,Wv i m σ H->((Itm W P w K d ep kvs.length).stop i H/\D.nx σ H)\/
   ((Itm W P w K d ep kvs.length).go i H/\∃N:St->Hp->Prop,(∀σ' H',N σ' H'->∃m',m'<m/\Wv (i+1) m' σ' H')/\∀x H',(Itm W P w K d ep kvs.length).yld i H x H'->g x σ H' λσ2 H2=>tb {D with nx:=N,ct:=N,bk:=D.nx} σ2 H2):=by
 refine⟨λi m σ H=>m=kvs.length-i/\i<=kvs.length/\Pv i σ H,⟨kvs.length,by simp,cM _,h0⟩,?_⟩
 rintro i m σ H ⟨rfl,f,p⟩
 have q:=hl i σ H f p
 by_cases b:i<kvs.length
 ·refine .inr ⟨⟨kvs,_,_,q,rfl,bT b⟩,Pv (i+1),λσ' H' c=>⟨kvs.length-(i+1),by omega,rfl,b,c⟩,λx H' y=>?_⟩
  obtain⟨a,k,m,t,h1,h2,rfl,h3,rfl⟩:=y
  exact hs i k m a σ H t (h1 kvs q) h2 h3 p
 ·have e:i=kvs.length:=by omega
  subst e
  exact .inl ⟨⟨kvs,q,rfl,bX _⟩,hd σ H p⟩
end
def Ig:KW (List Int) where
 knd:=λprog w=>tupleKind (intKind prog w)
 at':=λK H k a=>SqT K H a (k.map V.int)
 ok:=λ {X pins σ H s k a} I h=>by
  obtain⟨b,e,hb⟩:=I.tupV (v:= .ref a) (u:= .ref a) ⟨a,rfl,h⟩ rfl
  cases e
  exact hb
 map:=λf h=>f _ _ h
 room:=λh=>by show _+1<cLine;omega
 room':=λh=>by show _<cLine;omega
def Ih:KW FK where
 knd:=Le
 at':=λK H k a=>∃x y,SqT K H a [.ref x,.ref y]/\SqT K H x (k.1.map V.int)/\SqT K H y (k.2.map V.int)
 ok:=λ {X pins σ H s k a} I h=>by
  obtain⟨x,y,h1,h2,h3⟩:=h
  obtain⟨b1,e1,k1⟩:=I.tupV (v:= .ref x) (u:= .ref x) ⟨x,rfl,h2⟩ rfl
  obtain⟨b2,e2,k2⟩:=I.tupV (v:= .ref y) (u:= .ref y) ⟨y,rfl,h3⟩ rfl
  cases e1
  cases e2
  obtain⟨its,rs,⟨o,q1,q2,n,q3⟩,_⟩:=I.tuple h1
  cases rs with
  | cons r1 rs=>
   cases rs with
   | cons r2 rs=>
    cases rs
    cases r1
    cases r2
    exact⟨o,n,x,y,q1,q2,q3,k1,k2⟩
 map:=λf h=>by
  obtain⟨x,y,h1,h2,h3⟩:=h
  exact⟨x,y,f _ _ h1,f _ _ h2,f _ _ h3⟩
 room:=λh=>by show _+1+2<cLine;omega
 room':=λh=>by show _+2<cLine;omega
end L2
namespace TM
open LM LN
def MP(l:List Int):Prop:=l.Pairwise (· <= ·)
theorem zF:∀{l m:List Int},l.Perm m->MP l->MP m->l=m
 | [],m,h,_,_=>(List.nil_perm.mp h).symm
 | a::l,[],h,_,_=>by have:=h.length_eq;simp at this
 | a::l,b::m,h,h1,h2=>by
  have e:a=b:=by
   have g:=cj.mp (h.mem_iff.mp (b0 (a:=a)))
   have f:=cj.mp (h.mem_iff.mpr (b0 (a:=b)))
   obtain⟨c,_⟩:=el.mp h1
   obtain⟨d,_⟩:=el.mp h2
   rcases g with z|z
   ·exact z
   ·rcases f with y|y
    ·exact y.symm
    ·have:=c b y
     have:=d a z
     omega
  subst e
  rw[zF (List.perm_cons a |>.mp h) (el.mp h1).2 (el.mp h2).2]
def K4(x:Int):List Int->List Int
 | []=>[x]
 | a::l=>if x<=a then x::a::l else a::K4 x l
def srt:List Int->List Int
 | []=>[]
 | a::l=>K4 a (srt l)
theorem vO(x:Int):∀l,(K4 x l).Perm (x::l)
 | []=>ik _
 | a::l=>by
  unfold K4
  split
  ·exact ik _
  ·exact((vO x l).cons a).trans (qb.swap x a l)
theorem y6(x:Int):∀{l},MP l->MP (K4 x l)
 | [],_=>el.mpr ⟨(λ_ h=>nomatch h),mr.nil⟩
 | a::l,h=>by
  unfold K4
  obtain⟨h1,h2⟩:=el.mp h
  split
  ·rename_i c
   exact el.mpr ⟨λb d=>by
    rcases cj.mp d with z|z
    ·omega
    ·have:=h1 b z;omega,h⟩
  ·rename_i c
   refine el.mpr ⟨λb d=>?_,y6 x h2⟩
   rcases cj.mp ((vO x l).mem_iff.mp d)with z|z
   ·omega
   ·exact h1 b z
theorem srt_perm:∀l,(srt l).Perm l
 | []=>ik _
 | a::l=>(vO a (srt l)).trans ((srt_perm l).cons a)
theorem yZ:∀l,MP (srt l)
 | []=>mr.nil
 | a::l=>y6 a (yZ l)
theorem srt_eq{l m:List Int}(h:m.Perm l)(hs:MP m):m=srt l:=zF (h.trans (srt_perm l).symm) hs (yZ l)
theorem zr(l:List Int)(x:Int):srt (srt l++[x])=srt (l++[x]):=srt_eq ((srt_perm _).trans ((srt_perm l).append_right [x])) (yZ _)
theorem Bk{l:List Int}{x:Int}:x∈srt l↔x∈l:=(srt_perm l).mem_iff
def freeP(n:Nat)(π:List Int):List Int:=(rng n).filter λp=>!decide (p∈π)
def exts(n:Nat)(π:List Int):List (List Int):=(freeP n π).map λp=>π++[p]
def pre(n:Nat):Nat->List (List Int)
 | 0=>[[]]
 | k+1=>(pre n k).flatMap (exts n)
structure Mg(n k:Nat)(π:List Int):Prop where
 len:π.length=k
 nd:π.Nodup
 bd:∀p∈π,0<=p/\p<n
theorem pre_ok{n:Nat}:∀{k:Nat} {π:List Int},π∈pre n k->Mg n k π
 | 0,π,h=>by
  rw[bY.mp h]
  exact⟨rfl,gI,λ_ h=>nomatch h⟩
 | k+1,π,h=>by
  obtain⟨b,h1,h2⟩:=oh.mp h
  obtain⟨p,h3,rfl⟩:=cP.mp h2
  obtain⟨h4,h5⟩:=dw.mp h3
  have I:=pre_ok h1
  have h6:p∉b:=by simpa using h5
  refine⟨by rw[cr,I.len];rfl,fP.mpr ⟨I.nd,by simp,λx c y d z=>h6 (by rw[bY.mp d]at z;rw[<-z];exact c)⟩,λq a=>?_⟩
  rcases cN.mp a with z|z
  ·exact I.bd q z
  ·rw[bY.mp z];exact mem_rng.mp h4
theorem free_len{n k:Nat}{π:List Int}(h:Mg n k π):(freeP n π).length+k=n:=by
 have b:∀(l m:List Int),l.Nodup->m.Nodup->(∀x∈m,x∈l)->(l.filter λp=>!decide (p∈m)).length+m.length=l.length:=by
  intro l m c d f;have hp:(l.filter λp=>decide (p∈m)).Perm m:=by
   refine(fE (c.filter _) d).mpr λx=>?_;rw[dw];exact⟨λz=>of_decide_eq_true z.2,λz=>⟨f x z,decide_eq_true z⟩⟩
  have h1:=List.length_eq_countP_add_countP (p:=λp=>decide (p∈m)) (l:=l);rw[jr,jr,hp.length_eq]at h1;have e:(l.filter λa=>decide (¬decide (a∈m)=true))=l.filter λp=>!decide (p∈m):=fQ λx _=>by by_cases z:x∈m <;> simp[z]
  rw[e]at h1;omega
 have:=b (rng n) π (rng_nodup n) h.nd λx g=>mem_rng.mpr (h.bd x g);rw[rng_len,h.len]at this;exact this
def smL{α:Type}(l:List α)(f:α->Int):Int:=(l.map f).sum
theorem tj{α:Type}(f:α->Int):smL [] f=0:=rfl
theorem sy{α:Type}(a:α)(l:List α)(f:α->Int):smL (a::l) f=f a+smL l f:=by unfold smL;simp
theorem vi{α:Type}(l m:List α)(f:α->Int):smL (l++m) f=smL l f+smL m f:=by unfold smL;simp
theorem smL_congr{α:Type}{l:List α}{f g:α->Int}(h:∀x∈l,f x=g x):smL l f=smL l g:=by unfold smL;rw[eY h]
theorem vE{α β:Type}(g:α->List β)(f:β->Int):∀l:List α,smL (l.flatMap g) f=smL l λx=>smL (g x) f
 | []=>rfl
 | a::l=>by rw[List.flatMap_cons,vi,sy,vE g f l]
theorem wn{α β:Type}(g:α->β)(f:β->Int)(l:List α):smL (l.map g) f=smL l λx=>f (g x):=by unfold smL;rw[iA];rfl
theorem Bc{α:Type}(f g:α->Int):∀l:List α,smL l (λx=>f x+g x)=smL l f+smL l g
 | []=>rfl
 | a::l=>by rw[sy,sy,sy,Bc f g l];omega
theorem BJ{α:Type}(c:Int)(f:α->Int):∀l:List α,smL l (λx=>c*f x)=c*smL l f
 | []=>by show(0:Int)=c*0;rw[f7]
 | a::l=>by rw[sy,sy,BJ c f l,iQ]
theorem tX{α:Type}(c:Int):∀l:List α,smL l (λ_=>c)=c*l.length
 | []=>by show(0:Int)=c*0;rw[f7]
 | a::l=>by rw[sy,tX c l,cZ];push_cast;rw[iQ,gL,qw]
theorem zb{α:Type}(l:List α):smL l (λ_=>0)=0:=by rw[tX,jx]
def fct:Nat->Int
 | 0=>1
 | k+1=>fct k*((k:Int)+1)
theorem zj{n:Nat}(g:List Int->Int){j:Nat}:∀d,j+d<=n->fct (n-(j+d))*smL (pre n (j+d)) (λo=>g (o.take j))=fct (n-j)*smL (pre n j) λo=>g (o.take j)
 | 0,_=>rfl
 | d+1,h=>by
  have f:=zj (n:=n) g (j:=j) d (by omega)
  rw[<-f]
  have e:smL (pre n (j+(d+1))) (λo=>g (o.take j))=((n-(j+d):Nat):Int)*smL (pre n (j+d)) λo=>g (o.take j):=by
   show smL ((pre n (j+d)).flatMap (exts n)) _=_
   rw[vE,<-BJ]
   refine smL_congr λa b=>?_
   have I:=pre_ok b
   have k:=free_len I
   unfold exts
   rw[wn,smL_congr (g:=λ_=>g (a.take j)) λp _=>by rw[gN (by rw[I.len];omega)],tX,f3,show((freeP n a).length:Int)=((n-(j+d):Nat):Int)by omega]
  rw[e,<-pS]
  congr 1
  obtain⟨m,c⟩:∃m,n-(j+d)=m+1:=⟨n-(j+d)-1,by omega⟩
  rw[c,show n-(j+(d+1))=m by omega]
  show fct m*((m+1:Nat):Int)=fct m*((m:Int)+1)
  push_cast
  rfl
theorem As{n:Nat}(g:List Int->Int){j:Nat}(hj:j<=n):smL (pre n n) (λo=>g (o.take j))=fct (n-j)*smL (pre n j) g:=by
 have:=zj (n:=n) g (j:=j) (n-j) (by omega);rw[show j+(n-j)=n by omega,gT]at this;rw[show fct 0=1 from rfl,jk]at this;rw[this,smL_congr (g:=g) λo a=>by rw[dz (by rw[(pre_ok a).len];exact bX _)]]
theorem Bu(n:Nat):((pre n n).length:Int)=fct n:=by
 have:=As (n:=n) (λ_=>1) (j:=0) (cM _);rw[tX,tX]at this;rw[jk,qr]at this;rw[this];show fct n*(1*(([[]]:List (List Int)).length:Int))=fct n;simp
end TM
namespace L2
open PySem PySem.Spec PyProof.Rows
open TM
theorem yU{w ts us:List Int}(h:∀t,t∈ts↔t∈us):Gg w ts=Gg w us:=by
 unfold Gg F9;rw[fQ (q:=λt=>!decide (t∈us)) λt _=>by simp only[decide_eq_decide.mpr (h t)]]
theorem xn(W:List (List Int))(o:List Int){j:Nat}:∀k,k<=j->tk W (o.take j) k=tk W o k
 | 0,_=>rfl
 | k+1,h=>by
  show tk W (o.take j) k++[_]=tk W o k++[_]
  rw[xn W o k (by omega),show(o.take j).getD k 0=o.getD k 0 by rw[bR,bR,gA (by omega)]]
theorem DN(W:List (List Int))(o:List Int){j k:Nat}(h:k<j):bt W (o.take j) k=bt W o k:=by
 unfold bt;rw[xn W o k (by omega),show(o.take j).getD k 0=o.getD k 0 by rw[bR,bR,gA h]]
def KZ(W:List (List Int))(π:List Int):List Int:=tk W π π.length
def Gd(W:List (List Int))(p:Int)(ts:List Int):Int:=Gg (W.getD p.toNat []) ts
theorem C8(W:List (List Int))(π:List Int)(p:Int):KZ W (π++[p])=KZ W π++[Gd W p (KZ W π)]:=by
 unfold KZ Gd;rw[cr,show π.length+([p]:List Int).length=π.length+1 from rfl];have e:tk W (π++[p]) π.length=tk W π π.length:=by
  have:=xn W (π++[p]) (j:=π.length) π.length (bX _);rw[gN (bX _),cI]at this;exact this.symm
 show tk W (π++[p]) π.length++[Gg (W.getD ((π++[p]).getD π.length 0).toNat []) (tk W (π++[p]) π.length)]=_;rw[e,show(π++[p]).getD π.length 0=p by rw[bR,d3 (bX _),gT];rfl]
def FX(W:List (List Int))(π:List Int):FK:=(srt π,srt (KZ W π))
def FI(n:Nat)(W:List (List Int))(k:FK):List (Int×Int):=(freeP n k.1).map λp=>(p,Gd W p k.2)
def GA(k:FK)(pt:Int×Int):FK:=(srt (k.1++[pt.1]),srt (k.2++[pt.2]))
theorem vh(n:Nat)(W:List (List Int))(π:List Int):FI n W (FX W π)=(freeP n π).map λp=>(p,Gd W p (KZ W π)):=by
 unfold FI FX freeP;rw[fQ (q:=λp=>!decide (p∈π)) λp _=>by simp only[decide_eq_decide.mpr (Bk (l:=π) (x:=p))]];exact eY λp _=>by unfold Gd;rw[yU λt=>Bk]
theorem xQ(W:List (List Int))(π:List Int)(p:Int):GA (FX W π) (p,Gd W p (KZ W π))=FX W (π++[p]):=by
 unfold GA FX;rw[zr,zr,C8]
section
variable{κ:Type}[DecidableEq κ]
def GE(F:κ->Int)(kvs:List (κ×Int)):Int:=smL kvs λp=>p.2*F p.1
def KN(kvs:List (κ×Int)):Prop:=(kvs.map Prod.fst).Nodup
theorem wc{k:κ}:∀{kvs:List (κ×Int)},kvs.lookup k=none↔k∉kvs.map Prod.fst
 | []=>by simp[gx]
 | (a,m)::kvs=>by
  rw[dj]
  by_cases e:k=a
  ·subst e;simp
  ·rw[show(k==a)=false from beq_false_of_ne e]
   show kvs.lookup k=none↔_
   rw[wc,dh,cj]
   simp[e]
theorem AS{kvs:List (κ×Int)}{k:κ}(h:kvs.lookup k=none)(x:Int):Ii kvs k x=kvs++[(k,x)]:=by unfold Ii;rw[h];rfl
theorem AH{kvs:List (κ×Int)}{k:κ}{m:Int}(h:kvs.lookup k=some m)(x:Int):Ii kvs k x=kvs.map λp=>if p.1=k then(p.1,x)else p:=by unfold Ii;rw[h];rfl
theorem Dg{kvs:List (κ×Int)}(h:KN kvs)(k:κ)(x:Int):KN (Ii kvs k x):=by
 cases e:kvs.lookup k with
 | none=>
  rw[AS e];unfold KN;rw[cb];exact fP.mpr ⟨h,by simp,λa f b d z=>wc.mp e (by have c:b=k:=bY.mp d;rw[<-c,<-z];exact f)⟩
 | some m=>
  rw[AH e];unfold KN;rw[iA,show(Prod.fst∘λp:κ×Int=>if p.1=k then(p.1,x)else p)=Prod.fst from funext λp=>by show(if p.1=k then(p.1,x)else p).1=p.1;split <;> rfl];exact h
theorem Bq(kvs:List (κ×Int))(k:κ)(x:Int):(Ii kvs k x).length<=kvs.length+1:=by
 unfold Ii;split
 ·rw[bP];omega
 ·rw[cr];exact bX _
theorem zw(F:κ->Int){k:κ}{m x:Int}:∀{kvs:List (κ×Int)},KN kvs->kvs.lookup k=some m->GE F (kvs.map λp=>if p.1=k then(p.1,x)else p)=GE F kvs+(x-m)*F k
 | [],_,h=>by simp[gx]at h
 | (a,y)::kvs,hn,h=>by
  have b:=er.mp (show((a::kvs.map Prod.fst):List κ).Nodup from hn)
  rw[dj]at h
  unfold GE
  rw[dh,sy,sy]
  by_cases e:k=a
  ·subst e
   rw[beq_self_eq_true]at h
   have h:y=m:=Option.some.inj h
   subst h
   have c:kvs.map (λp:κ×Int=>if p.1=k then(p.1,x)else p)=kvs:=by
    have:∀p∈kvs,(if p.1=k then(p.1,x)else p)=p:=λp hp=>if_neg (show ¬p.1=k from λz=>b.1 (z▸cP.mpr ⟨p,hp,rfl⟩))
    rw[eY this]
    simp
   rw[c]
   show(if k=k then(k,x)else(k,y)).2*F (if k=k then(k,x)else(k,y)).1+_=_
   rw[if_pos rfl]
   show x*F k+_=y*F k+_+_
   rw[ji]
   omega
  ·rw[show(k==a)=false from beq_false_of_ne e]at h
   have d:=zw F (x:=x) b.2 h
   unfold GE at d
   rw[d]
   show(if a=k then(a,x)else(a,y)).2*F (if a=k then(a,x)else(a,y)).1+_=_
   rw[if_neg (Ne.symm e)]
   omega
def J9(kvs:List (κ×Int))(k:κ)(x:Int):List (κ×Int):=Ii kvs k ((kvs.lookup k).getD 0+x)
theorem zC(F:κ->Int){kvs:List (κ×Int)}(h:KN kvs)(k:κ)(x:Int):GE F (J9 kvs k x)=GE F kvs+x*F k:=by
 unfold J9
 cases e:kvs.lookup k with
 | none=>
  rw[AS e];unfold GE;rw[vi,sy,tj];show _+((0+x)*F k+0)=_;rw[d2];omega
 | some m=>
  rw[AH e,zw F h e];show GE F kvs+(m+x-m)*F k=_;rw[show m+x-m=x by omega]
theorem DO{kvs:List (κ×Int)}(h:KN kvs)(k:κ):(kvs.lookup k).getD 0=GE (λa=>if a=k then 1 else 0) kvs:=by
 induction kvs with
 | nil=>rfl
 | cons p kvs c=>
  obtain⟨a,m⟩:=p;have b:=er.mp (show((a::kvs.map Prod.fst):List κ).Nodup from h);unfold GE at c ⊢;rw[sy,dj];by_cases e:k=a
  ·subst e;rw[beq_self_eq_true];have z:smL kvs (λp=>p.2*if p.1=k then 1 else 0)=0:=(smL_congr (g:=λ_=>0) λp hp=>by rw[if_neg (show ¬p.1=k from λz=>b.1 (z▸cP.mpr ⟨p,hp,rfl⟩)),f7]).trans (zb _);rw[z];show m=m*(if k=k then 1 else 0)+0;rw[if_pos rfl];omega
  ·rw[show(k==a)=false from beq_false_of_ne e];show(kvs.lookup k).getD 0=m*(if a=k then 1 else 0)+_;rw[if_neg (Ne.symm e),c b.2];omega
end
def Ip(p t:Int)(q u:Int):Int:=if q=p/\u=t then 1 else 0
def FU(n:Nat)(W:List (List Int))(F:List Int->Int):Nat->Int
 | 0=>0
 | k+1=>FU n W F k+fct (n-(k+1))*smL (pre n k) λπ=>smL (freeP n π) λp=>F [p,Gd W p (KZ W π)]
def Hc(W:List (List Int))(n:Nat)(o:List Int)(p t:Int):Int:=HM.sm n λj=>Ip p t (o.getD j 0) (bt W o j)
theorem zA{α:Type}(f:α->Nat->Int)(l:List α):∀n,smL l (λx=>HM.sm n (f x))=HM.sm n λj=>smL l λx=>f x j
 | 0=>zb l
 | n+1=>by
  show smL l (λx=>HM.sm n (f x)+f x n)=HM.sm n _+_
  rw[Bc,zA f l n]
theorem xM{n:Nat}(W:List (List Int))(p t:Int):∀k,k<=n->FU n W (λl=>Ip p t (l.getD 0 0) (l.getD 1 0)) k=HM.sm k λj=>smL (pre n n) λo=>Ip p t (o.getD j 0) (bt W o j)
 | 0,_=>rfl
 | k+1,hk=>by
  show FU n W _ k+_=HM.sm k _+_
  rw[xM W p t k (by omega)]
  congr 1
  have e:smL (pre n n) (λo=>Ip p t (o.getD k 0) (bt W o k))=smL (pre n n) λo=>(λo=>Ip p t (o.getD k 0) (bt W o k)) (o.take (k+1)):=smL_congr λo _=>by
   show _=Ip p t ((o.take (k+1)).getD k 0) (bt W (o.take (k+1)) k)
   rw[DN W o (cV k),show(o.take (k+1)).getD k 0=o.getD k 0 by rw[bR,bR,gA (cV k)]]
  show _=smL (pre n n) λo=>Ip p t (o.getD k 0) (bt W o k)
  rw[e,As (λo=>Ip p t (o.getD k 0) (bt W o k)) hk]
  congr 1
  show _=smL ((pre n k).flatMap (exts n)) _
  rw[vE]
  refine smL_congr λa c=>?_
  have I:=pre_ok c
  unfold exts
  rw[wn]
  refine smL_congr λq _=>?_
  have b:(a++[q]).getD k 0=q:=by rw[<-I.len,bR,d3 (bX _),gT];rfl
  have d:bt W (a++[q]) k=Gd W q (KZ W a):=by
   unfold bt Gd KZ
   rw[b,<-I.len]
   have:=xn W (a++[q]) (j:=a.length) a.length (bX _)
   rw[gN (bX _),cI]at this
   rw[this]
  rw[b,d]
  rfl
theorem BV{n:Nat}(W:List (List Int))(p t:Int):FU n W (λl=>Ip p t (l.getD 0 0) (l.getD 1 0)) n=smL (pre n n) λo=>Hc W n o p t:=by
 rw[xM W p t n (bX _)];unfold Hc;rw[zA]
theorem D3(W:List (List Int))(n:Nat)(o:List Int)(p t:Int):0<=Hc W n o p t/\Hc W n o p t<=n:=by
 unfold Hc;have h:∀j,0<=Ip p t (o.getD j 0) (bt W o j)/\Ip p t (o.getD j 0) (bt W o j)<=1:=λj=>by unfold Ip;split <;> omega
 constructor
 ·have:=HM.sm_le (n:=n) (f:=λ_=>0) (g:=λj=>Ip p t (o.getD j 0) (bt W o j)) λj _=>(h j).1;rw[HM.sm_zero]at this;exact this
 ·have:=HM.sm_le (n:=n) (f:=λj=>Ip p t (o.getD j 0) (bt W o j)) (g:=λ_=>if(true:Bool)=true then 1 else 0) λj _=>by rw[if_pos rfl];exact(h j).2
  rw[HM.sm_cnt (λ_=>true) 1 n]at this;have e:HM.cnt n (λ_=>true)=n:=by unfold HM.cnt;simp
  rw[e]at this;omega
structure CI(n:Nat)(W:List (List Int))(k:Nat)(C:List (List Int×Int)):Prop where
 kn:KN C
 sum:∀F,GE F C=FU n W F k
 len:C.length<=k*46656
structure BI(n:Nat)(W:List (List Int))(k:Nat)(B:List (FK×Int)):Prop where
 kn:KN B
 sum:∀F,GE F B=smL (pre n k) λπ=>F (FX W π)
 len:B.length<=6^k
 key:∀p∈B,∃π∈pre n k,p.1=FX W π
def Mr(n:Nat)(W:List (List Int))(F:List Int->Int)(key:FK):Int:=smL (FI n W key) λpt=>F [pt.1,pt.2]
def MM(n:Nat)(W:List (List Int))(G:FK->Int)(key:FK):Int:=smL (FI n W key) λpt=>G (GA key pt)
structure TJ(n:Nat)(W:List (List Int))(k:Nat)(B:List (FK×Int))(i:Nat)(key:FK)(num:Int)(j:Nat)(C:List (List Int×Int))(L:List (FK×Int)):Prop where
 ck:KN C
 lk:KN L
 cs:∀F,GE F C=FU n W F k+fct (n-(k+1))*(smL (B.take i) (λe=>e.2*Mr n W F e.1)+num*smL ((FI n W key).take j) λpt=>F [pt.1,pt.2])
 ls:∀G,GE G L=smL (B.take i) (λe=>e.2*MM n W G e.1)+num*smL ((FI n W key).take j) λpt=>G (GA key pt)
 cl:C.length<=k*46656+i*6+j
 ll:L.length<=i*6+j
 lv:∀p∈L,∃π∈pre n (k+1),p.1=FX W π
abbrev TI0(n:Nat)(W:List (List Int))(k:Nat)(B:List (FK×Int))(i:Nat)(C:List (List Int×Int))(L:List (FK×Int)):Prop:=∀key num,TJ n W k B i key num 0 C L
section
variable{n:Nat}{W:List (List Int)}{k:Nat}{B:List (FK×Int)}{C:List (List Int×Int)}{L:List (FK×Int)}
theorem CI.zero:CI n W 0 []:=⟨gI,λ_=>rfl,cM _⟩
theorem BI.zero:BI n W 0 [(([],[]),1)]:=⟨by unfold KN;simp,λF=>by
  show smL [(([],[]),1)] (λp:FK×Int=>p.2*F p.1)=smL [[]] _;rw[sy,tj,sy,tj];show 1*F ([],[])+0=F (FX W [])+0;rw[jk];rfl,bX _,λp hp=>⟨[],bY.mpr rfl,by rw[bY.mp hp];rfl⟩⟩
theorem TI0.start(h:CI n W k C):TI0 n W k B 0 C []:=λa b=>⟨h.kn,gI,λF=>by
  rw[h.sum F,dX,dX,tj,tj,f7];omega,λG=>by
  rw[dX,dX,tj,tj,f7];rfl,by have:=h.len;omega,cM _,λ_ h=>nomatch h⟩
theorem TJ.step{i j:Nat}{key:FK}{num:Int}{pt:Int×Int}(h:TJ n W k B i key num j C L)(hp:(FI n W key)[j]?=some pt)(hv:∃π∈pre n (k+1),GA key pt=FX W π):
  TJ n W k B i key num (j+1) (J9 C [pt.1,pt.2] (num*fct (n-(k+1)))) (J9 L (GA key pt) num):=by
 refine⟨Dg h.ck _ _,Dg h.lk _ _,λF=>?_,λG=>?_,?_,?_,λp a=>?_⟩
 ·rw[zC F h.ck,h.cs F,cv,hp,vi]
  show _+num*fct (n-(k+1))*F [pt.1,pt.2]=_+_*(_+num*(_+smL [pt] _))
  rw[sy,tj,f6,show num*fct (n-(k+1))*F [pt.1,pt.2]=fct (n-(k+1))*(num*F [pt.1,pt.2])by ac_rfl,mv,<-iQ,mv,<-iQ]
 ·rw[zC G h.lk,h.ls G,cv,hp,vi]
  show _+num*G (GA key pt)=_+num*(_+smL [pt] _)
  rw[sy,tj,iQ,iQ,f7,f6]
  omega
 ·unfold J9
  exact cG (Bq _ _ _) (by have:=h.cl;omega)
 ·unfold J9
  exact cG (Bq _ _ _) (by have:=h.ll;omega)
 ·unfold J9 Ii at a
  split at a
  ·obtain⟨q,b,e⟩:=cP.mp a
   obtain⟨π,h1,h2⟩:=h.lv q b
   refine⟨π,h1,?_⟩
   rw[<-e,<-h2]
   split <;> rfl
  ·rcases cN.mp a with z|z
   ·exact h.lv p z
   ·rw[bY.mp z]
    exact hv
theorem TJ.done{i:Nat}{key:FK}{num:Int}(hB:B[i]?=some (key,num))(hl:(FI n W key).length<=6)(h:TJ n W k B i key num (FI n W key).length C L):TI0 n W k B (i+1) C L:=λa b=>by
 refine⟨h.ck,h.lk,λF=>?_,λG=>?_,?_,?_,h.lv⟩
 ·rw[h.cs F,cI,dX,tj,f7,f6,cv,hB,vi];show _+_*(_+_)=_+_*(_+smL [(key,num)] _);rw[sy,tj,f6];rfl
 ·rw[h.ls G,cI,dX,tj,f7,f6,cv,hB,vi];show _+_=_+smL [(key,num)] _;rw[sy,tj,f6];rfl
 ·have:=h.cl;omega
 ·have:=h.ll;omega
theorem TI0.finish(hB:BI n W k B)(hk:k<6)(h:TI0 n W k B B.length C L):CI n W (k+1) C/\BI n W (k+1) L:=by
 have h0:=h ([],[]) 0;have b:B.length<=7776:=cG hB.len (by
  have:6^k<=6^5:=dM (by decide) (by omega);simpa using this)
 refine⟨⟨h0.ck,λF=>?_,by have:=h0.cl;omega⟩,⟨h0.lk,λG=>?_,?_,h0.lv⟩⟩
 ·rw[h0.cs F,cI,dX,tj,f7,f6];show _+_*GE (Mr n W F) B=FU n W F k+_;rw[hB.sum]
  congr 2
  refine smL_congr λa _=>?_;unfold Mr;rw[vh,wn]
 ·rw[h0.ls G,cI,dX,tj,f7,f6];show GE (MM n W G) B=smL ((pre n k).flatMap (exts n)) _;rw[hB.sum,vE];refine smL_congr λa _=>?_;unfold MM exts;rw[vh,wn,wn];exact smL_congr λp _=>by rw[xQ]
 ·have:=h0.ll;have:=hB.len;rw[qj];omega
end
def JI(K:bN):Sp:=λvs H Q _=>∃(w l:bV) (row ts:List Int),vs=[.ref w,.ref l]/\SqT K H w (row.map V.int)/\(SqL K H l (ts.map V.int)\/SqT K H l (ts.map V.int))/\row.length<=63/\(∃t∈row,t∉ts)/\∀H',Same H H'->Q (.int (Gg row ts)) H'
def Jf(K:bN):Sp:=λvs H Q _=>∃(a:bV) (ns:List Int) (x:Int),vs=[.ref a,.int x]/\SqT K H a (ns.map V.int)/\ns.length<=60/\∀p H',Same H H'->SqT K H' p ((srt (ns++[x])).map V.int)->Q (.ref p) H'
def J7(K:bN):Sp:=λvs H Q _=>∃(a g t:bV) (ws:List V) (W:List (List Int)) (n:Nat) (key:FK),vs=[.ref a,.ref g,.ref t]/\SqL K H a ws/\cT (IsR K H) ws W/\GI n W/\SqT K H g (key.1.map V.int)/\SqT K H t (key.2.map V.int)/\key.2.length<n/\
 ∀p ls H',Same H H'->H p=none->H' p=some (.lst ls)->cT (IsF K H') ls (FI n W key)->Q (.ref p) H'
def GZ:Sp:=λvs H Q _=>∃k:Nat,vs=[.int k]/\k<=6/\Q (.int (fct k)) H
def JD(P:cg)(w:cC)(K:bN):Sp:=λvs H Q _=>∃(a:bV) (ws:List V) (W:List (List Int)) (n:Nat),vs=[.ref a]/\SqL K H a ws/\cT (IsR K H) ws W/\GI n W/\
 ∀d C H',Same H H'->DictI Ig P w K H' d C->CI n W n C->Q (.ref d) H'
def Ga(n:Nat)(W:List (List Int))(p:Int):List (Int×Int):=(cp n).map λ(t:Nat)=>FQ.red (FU n W (λl=>Ip p t (l.getD 0 0) (l.getD 1 0)) n) (fct n)
def J3(P:cg)(w:cC)(K:bN):Sp:=λvs H Q _=>∃(d:bV) (C:List (List Int×Int)) (W:List (List Int)) (n:Nat) (p:Int),vs=[.ref d,.int p,.int n]/\DictI Ig P w K H d C/\CI n W n C/\n<=6/\
 ∀q gs H',Same H H'->H q=none->H' q=some (.tup gs)->cT (IsF K H') gs (Ga n W p)->Q (.ref q) H'
def RwG(K:bN)(H:Hp)(v:V)(r:List (Int×Int)):Prop:=∃a gs,v = .ref a/\SqT K H a gs/\cT (IsF K H) gs r
theorem RwG.mono{K:bN}{H H':Hp}{v:V}{r:List (Int×Int)}(e:Same H H')(h:RwG K H v r):RwG K H' v r:=by
 obtain⟨a,b,rfl,h1,h2⟩:=h;exact⟨a,b,rfl,e.tup h1,rW e h2⟩
def Ka(n:Nat)(W:List (List Int)):List (List (Int×Int)):=(cp n).map λ(p:Nat)=>Ga n W p
def Ja(K:bN):Sp:=λvs H Q _=>∃(a:bV) (ws:List V) (W:List (List Int)) (n:Nat),vs=[.ref a]/\SqL K H a ws/\cT (IsR K H) ws W/\GI n W/\
 ∀q us H',Same H H'->H q=none->H' q=some (.lst us)->cT (RwG K H') us (Ka n W)->Q (.ref q) H'
structure KX(bad:List bV)(H H':Hp):Prop where
 keep:∀b o,b∉bad->H b=some o->H' b=some o
 was:∀b∈bad,∃φ,H b=some (.ext φ)
 is:∀b∈bad,∃φ,H' b=some (.ext φ)
section
variable{bad:List bV}{H H' H'':Hp}{K:bN}
theorem KX.refl(h:∀b∈bad,∃φ,H b=some (.ext φ)):KX bad H H:=⟨λ_ _ _ e=>e,h,h⟩
theorem KX.trans(a:KX bad H H')(b:KX bad H' H''):KX bad H H'':=⟨λc o d e=>b.keep c o d (a.keep c o d e),a.was,b.is⟩
theorem KX.of(e:Same H H')(h:∀b∈bad,∃φ,H b=some (.ext φ)):KX bad H H':=⟨λ_ _ _ q=>e _ _ q,h,λb a=>by obtain⟨φ,q⟩:=h b a;exact⟨φ,e _ _ q⟩⟩
theorem KX.put{d:bV}(h:∀b∈bad,∃φ,H b=some (.ext φ))(hd:d∈bad)(e:∃φ φ',H d=some (.ext φ)/\H'=upd H d (.ext φ')):KX bad H H':=by
 obtain⟨φ,φ',h1,rfl⟩:=e;refine⟨λb o a q=>by rw[rQ (show b≠d from λz=>a (by rw[z];exact hd))];exact q,h,λb a=>?_⟩;by_cases z:b=d
 ·subst z;exact⟨φ',rE⟩
 ·rw[rQ z];exact h b a
theorem KX.get(a:KX bad H H'){b:bV}{o:HO}(h:H b=some o)(hn:∀φ,o≠ .ext φ):H' b=some o:=a.keep b o (λz=>by obtain⟨φ,q⟩:=a.was b z;rw[h]at q;exact hn φ (Option.some.inj q)) h
theorem KX.tup(a:KX bad H H'){b:bV}{xs:List V}(h:SqT K H b xs):SqT K H' b xs:=by
 rcases h with(h|⟨u,h⟩)|h
 ·exact .inl (.inl (a.get h λ_ z=>by cases z))
 ·exact .inl (.inr ⟨u,a.get h λ_ z=>by cases z⟩)
 ·exact .inr h
theorem KX.lst(a:KX bad H H'){b:bV}{xs:List V}(h:H b=some (.lst xs)):H' b=some (.lst xs):=a.get h λ_ z=>by cases z
theorem KX.same{H0:Hp}(a:KX bad H H')(e:Same H0 H)(hf:∀b∈bad,H0 b=none):Same H0 H':=λb o q=>a.keep b o (λz=>by rw[hf b z]at q;cases q) (e b o q)
theorem KX.dict{κ:Type}[DecidableEq κ]{W:KW κ}{P:cg}{w:cC}{d:bV}{ep:Nat}{kvs:List (κ×Int)}(a:KX bad H H')(h:DictE W P w K H d ep kvs)(hd:d∉bad):DictE W P w K H' d ep kvs:=by
 obtain⟨e,h1,h2⟩:=h;exact⟨e,a.keep _ _ hd h1,Paired.mapP h2 λ_ _ ⟨b,f,c⟩=>⟨b,f,W.map (λ_ _ q=>a.tup q) c⟩⟩
theorem DictI.ext{κ:Type}[DecidableEq κ]{W:KW κ}{P:cg}{w:cC}{d:bV}{kvs:List (κ×Int)}(h:DictI W P w K H d kvs):∃φ,H d=some (.ext φ):=by
 obtain⟨b,a,h1,_⟩:=h;exact⟨_,h1⟩
end
theorem zv{m:Nat}(h:m<=6):0<TM.fct m/\TM.fct m<=720:=
 (show ∀m∈cp 7,0<TM.fct m/\TM.fct m<=720 by decide) m (dq.mpr (by omega))
theorem BX(l:List Int):(TM.srt l).length=l.length:=(TM.srt_perm l).length_eq
theorem Cn{n k:Nat}{W:List (List Int)}{π:List Int}{pt:Int×Int}(hπ:π∈TM.pre n k)(hp:pt∈FI n W (FX W π)):∃ρ∈TM.pre n (k+1),GA (FX W π) pt=FX W ρ:=by
 rw[vh]at hp;obtain⟨p,h1,rfl⟩:=cP.mp hp;exact⟨π++[p],oh.mpr ⟨π,hπ,cP.mpr ⟨p,h1,rfl⟩⟩,xQ W π p⟩
def Im(n:Nat)(f:Nat->Nat->Int):List (List Int):=(cp n).map λp=>(cp n).map λt=>f p t
theorem zn(n:Nat)(f:Nat->Nat->Int):(Im n f).length=n:=by unfold Im;simp
theorem zu{n:Nat}{f:Nat->Nat->Int}{p:Nat}(hp:p<n):(Im n f)[p]?=some ((cp n).map λt=>f p t):=by unfold Im;rw[bZ,dy hp];rfl
theorem EE{n:Nat}{g:Nat->Int}{t:Nat}(ht:t<n):((cp n).map g)[t]?=some (g t):=by rw[bZ,dy ht];rfl
theorem Cd(n:Nat)(W:List (List Int)):(Ka n W).length=n:=by unfold Ka;simp
theorem Aa(n:Nat)(W:List (List Int))(p:Int):(Ga n W p).length=n:=by unfold Ga;simp
def GN(n:Nat)(W:List (List Int))(p t:Nat):Int:=TM.smL (TM.pre n n) λo=>Hc W n o p t
theorem Bm{n:Nat}{W:List (List Int)}{p:Nat}:Ga n W p=(cp n).map λ(t:Nat)=>FQ.red (GN n W p t) (TM.fct n):=by
 unfold Ga GN;exact eY λt _=>by rw[BV]
def L5{κ:Type}[DecidableEq κ](kvs:List (κ×Int))(k:κ):Int:=(kvs.lookup k).getD 0
theorem Cr(C:List (List Int×Int))(h:KN C)(n:Nat)(W:List (List Int))(hs:∀F,GE F C=FU n W F n)(p t:Int):L5 C [p,t]=FU n W (λl=>Ip p t (l.getD 0 0) (l.getD 1 0)) n:=by
 have d:=DO h [p,t];have e:FU n W (λa=>if a=[p,t]then 1 else 0) n=FU n W (λl=>Ip p t (l.getD 0 0) (l.getD 1 0)) n:=by
  have c:∀k,FU n W (λa=>if a=[p,t]then 1 else 0) k=FU n W (λl=>Ip p t (l.getD 0 0) (l.getD 1 0)) k:=by
   intro k
   induction k with
   | zero=>rfl
   | succ k f=>
    show FU n W _ k+_=FU n W _ k+_;rw[f]
    congr 2
    exact TM.smL_congr λb _=>TM.smL_congr λq _=>by
     show(if[q,Gd W q (KZ W b)]=[p,t]then(1:Int)else 0)=Ip p t q (Gd W q (KZ W b));unfold Ip;simp
  exact c n
 rw[<-e,<-hs];exact d
theorem Dm{n:Nat}{o:List Int}(h:o∈TM.pre n n):LN.Pm n o:=by
 have I:=TM.pre_ok h;have c:=TM.free_len I;have b:TM.freeP n o=[]:=gM (by omega);refine(fE I.nd (LM.rng_nodup n)).mpr λx=>⟨λa=>LM.mem_rng.mpr (I.bd x a),λa=>?_⟩;refine da λz=>?_;have:x∈TM.freeP n o:=dw.mpr ⟨a,by simpa using z⟩;rw[b]at this
 cases this
end L2
namespace L2
open TM
theorem vy{n c:Nat}(hc:c<n)(x:Int):HM.sm n (λi=>if i=c then x else 0)=x:=by
 have h:=HM.sm_cnt (λi=>i==c) x n;rw[HM.cnt_one,if_pos hc]at h;rw[HM.sm_congr (g:=λi=>if(i==c)=true then x else 0) λi _=>by by_cases e:i=c <;> simp[e],h];simp
theorem Df{α:Type}(l:List α):smL l (λ_=>(1:Int))=l.length:=by rw[tX,jk]
theorem EG{n:Nat}{W:List (List Int)}{o:List Int}(ok:GI n W)(ho:LN.Pm n o){k:Nat}(hk:k<n):0<=bt W o k/\bt W o k<n/\bt W o k∉tk W o k:=by
 have e:=ho.len;have d:=ho.mem.mp (show o.getD k 0∈o by rw[HM.getD_lt (by omega)];exact cm _);have a:(o.getD k 0).toNat<W.length:=by have:=ok.len;omega
 have b:=ok.pm _ (cm a);unfold bt;rw[HM.getD_lt a];have c:=xN (AT (ts:=tk W o k) b (by rw[B0];exact hk));have:=b.mem.mp c.2.1;exact⟨this.1,this.2,c.2.2⟩
theorem E9{n:Nat}{W:List (List Int)}{o:List Int}(ok:GI n W)(ho:LN.Pm n o):LN.Pm n (tk W o n):=by
 have c:∀k,k<=n->(tk W o k).Nodup/\∀t∈tk W o k,0<=t/\t<n:=by
  intro k
  induction k with
  | zero=>exact λ_=>⟨gI,λ_ h=>nomatch h⟩
  | succ k j=>
   intro hk;obtain⟨h1,h2⟩:=j (by omega);obtain⟨m,f,g⟩:=EG ok ho (k:=k) (by omega);have e:tk W o (k+1)=tk W o k++[bt W o k]:=rfl;rw[e];refine⟨fP.mpr ⟨h1,by simp,λx a y l z=>g (by rw[bY.mp l]at z;rw[<-z];exact a)⟩,λt b=>?_⟩;rcases cN.mp b with z|z
   ·exact h2 t z
   ·rw[bY.mp z];exact⟨m,f⟩
 obtain⟨h1,h2⟩:=c n (bX _);refine(fE h1 (LM.rng_nodup n)).mpr λx=>⟨λa=>LM.mem_rng.mpr (h2 x a),λa=>?_⟩;refine da λz=>?_;have d:=LM.mem_rng.mp a;have:=Ki (x::tk W o n) (LM.rng n) (er.mpr ⟨z,h1⟩) λt b=>LM.mem_rng.mpr (by
  rcases cj.mp b with e|e
  ·rw[e];exact d
  ·exact h2 t e)
 rw[cZ,B0,LM.rng_len]at this;omega
theorem E5(W:List (List Int))(o:List Int){n j:Nat}(hj:j<n):(tk W o n).getD j 0=bt W o j:=by
 rw[Ei,bR,bZ,dy hj];rfl
theorem D7{n:Nat}(W:List (List Int)){o:List Int}(ho:LN.Pm n o){p:Nat}(hp:p<n):∃j,j<n/\o.getD j 0=(p:Int)/\(∀i,i<n->o.getD i 0=(p:Int)->i=j)/\∀V t,Hc V n o p t=if bt V o j=t then 1 else 0:=by
 obtain⟨j,f,e,d⟩:=HM.pm_at ho hp;refine⟨j,f,e,λi b h=>d i b (by rw[h];rfl),λV t=>?_⟩;unfold Hc;rw[HM.sm_congr (g:=λi=>if i=j then(if bt V o j=t then 1 else 0)else 0) λi b=>?_,vy f];unfold Ip;by_cases c:i=j
 ·subst c;rw[if_pos rfl];by_cases a:bt V o i=t
  ·rw[if_pos a,if_pos ⟨e,a⟩]
  ·rw[if_neg a,if_neg λz=>a z.2]
 ·rw[if_neg c,if_neg λz=>c (d i b (by rw[z.1];rfl))]
theorem C3{n:Nat}{W:List (List Int)}{o:List Int}(ok:GI n W)(ho:LN.Pm n o){p:Nat}(hp:p<n):HM.sm n (λt=>Hc W n o p t)=1:=by
 obtain⟨j,a,_,_,h⟩:=D7 W ho hp;obtain⟨d,b,_⟩:=EG ok ho a;rw[HM.sm_congr (g:=λt=>if t=(bt W o j).toNat then 1 else 0) λt _=>?_,vy (by omega)];show Hc W n o p t=_;rw[h];by_cases c:bt W o j=t
 ·rw[if_pos c,if_pos (by omega)]
 ·rw[if_neg c,if_neg (by omega)]
theorem C2{n:Nat}{W:List (List Int)}{o:List Int}(ok:GI n W)(ho:LN.Pm n o){t:Nat}(ht:t<n):HM.sm n (λp=>Hc W n o p t)=1:=by
 unfold Hc;rw[HM.sm_swap];obtain⟨j,b,e,f⟩:=HM.pm_at (E9 ok ho) ht;rw[HM.sm_congr (g:=λi=>if i=j then 1 else 0) λi d=>?_,vy b];have k:=ho.len;have h:=ho.mem.mp (show o.getD i 0∈o by rw[HM.getD_lt (by omega)];exact cm _);rw[E5 W o b]at e;by_cases c:i=j
 ·subst c;rw[if_pos rfl,HM.sm_congr (g:=λp=>if p=(o.getD i 0).toNat then 1 else 0) λp _=>?_,vy (by omega)];unfold Ip;by_cases a:p=(o.getD i 0).toNat
  ·rw[if_pos a,if_pos ⟨by omega,e⟩]
  ·rw[if_neg a,if_neg λz=>a (by omega)]
 ·rw[if_neg c,HM.sm_congr (g:=λ_=>0) λp _=>?_,HM.sm_zero];unfold Ip;rw[if_neg λz=>c (f i d (by rw[E5 W o d,z.2];rfl))]
theorem Ck{n:Nat}{W:List (List Int)}(ok:GI n W){p:Nat}(hp:p<n):HM.sm n (λt=>GN n W p t)=fct n:=by
 unfold GN;rw[<-zA (λo t=>Hc W n o p t),smL_congr (g:=λ_=>1) λo a=>C3 ok (Dm a) hp,Df,Bu]
theorem CJ{n:Nat}{W:List (List Int)}(ok:GI n W){t:Nat}(ht:t<n):HM.sm n (λp=>GN n W p t)=fct n:=by
 unfold GN;rw[<-zA (λo p=>Hc W n o p t),smL_congr (g:=λ_=>1) λo a=>C2 ok (Dm a) ht,Df,Bu]
theorem Eu{α:Type}{l:List α}{f:α->Int}(h:∀x∈l,0<=f x):0<=smL l f:=by
 induction l with
 | nil=>exact eH _
 | cons a l c=>
  rw[sy];have:=h a b0;have:=c λx b=>h x (b3 _ b);omega
theorem DV(n:Nat)(W:List (List Int))(p t:Nat):0<=GN n W p t:=Eu λo _=>(D3 W n o p t).1
theorem xg{n:Nat}{f:Nat->Nat->Int}{p t:Nat}(hp:p<n)(ht:t<n):HM.ent (Im n f) p t=f p t:=by
 unfold HM.ent;rw[bR,bR,zu hp];show(((cp n).map λt=>f p t)[t]?).getD 0=_;rw[EE ht];rfl
theorem Cj{n:Nat}{W:List (List Int)}(ok:GI n W):HM.Reg n (Im n (GN n W)) (fct n):=by
 refine⟨zn _ _,λr b=>?_,λp t=>?_,λi c=>?_,λj d=>?_⟩
 ·unfold Im at b;obtain⟨q,_,rfl⟩:=cP.mp b;simp
 ·by_cases hp:p<n
  ·by_cases a:t<n
   ·rw[xg hp a];exact DV n W p t
   ·unfold HM.ent;rw[bR,bR,zu hp];show 0<=(((cp n).map λt=>GN n W p t)[t]?).getD 0;rw[fI (by simpa using a)];exact eH _
  ·unfold HM.ent;have e:(Im n (GN n W))[p]?=none:=fI (by rw[zn];omega);rw[bR,bR,e];exact eH _
 ·rw[HM.sm_congr (g:=λt=>GN n W i t) λt a=>xg c a];exact Ck ok c
 ·rw[HM.sm_congr (g:=λp=>GN n W p j) λp hp=>xg hp d];exact CJ ok d
end L2
namespace L2
open TM
section
variable{n:Nat}{W V:List (List Int)}{P X:List Int}
theorem ED{n:Nat}{t:Int}(h0:0<=t)(h1:t<n):EM.at0 (fC n (1:Int)) t=1:=by
 unfold EM.at0;rw[HM.getD_lt (by rw[gq];omega),List.getElem_replicate]
end
end L2
namespace L2
open PySem PySem.Spec PyProof.Rows
section
variable{X:Cx}
theorem AM:∀{vs:List bQ} {ns:List Int} (hi:IntsAre vs ns) {i:Nat} (h:i<vs.length),∃t,vs[i]=dn (ns[i]'(by rw[<-hi.length];exact h)) t
 | _,_,.cons n t r,0,_=>⟨t,rfl⟩
 | _,_,.cons n t r,i+1,h=>AM r (i:=i) (by simpa using h)
theorem index_tup_ints{prog:cg}{w:cC}{A:cO}{E:bQ->bS->Prop}{s:bS}{a:bV}{vs:List bQ}{ns:List Int}{k:Int}{t:Tok}{Q:bQ->bS->Prop}(ht:IsTup s.heap a vs.toArray)(hi:IntsAre vs ns)
  (hk:k∈ns)(h:Q (.int (ns.idxOf k:Nat) s.toks) {s with toks:=s.toks+1}):wpAny (model prog w) A (call (.builtin "tuple.index") [.ref a,.int k t]) Q E s:=by
 have r:=hi.length
 have u:ns.idxOf k<ns.length:=fK.mpr hk
 refine fV iL ht.typeIs jU (jO _ _) (S:=λA R s=>IsTup s.heap a vs.toArray/\R (.ok (.ret (.int (ns.idxOf k:Nat) s.toks))) {s with toks:=s.toks+1}) ?_ ⟨ht,h⟩
 intro prog w A R s ⟨ht,h⟩
 show wpAny _ _ _ _ _ _
 unfold Builtin.«tuple.index»
 simp only[ix]
 wp_walk using pX ht
 have p:([:min vs.toArray.size vs.toArray.size]:oi).size=vs.length:=by simp[lM]
 rw[p]
 refine kM (M:=model prog w) (A:=A.in1) _ (λl b j=>b=((none:Option PySem.Fin),())/\j=s/\∃i,l=j3 i (vs.length-i)/\i<=ns.idxOf k) _ (λx rest b j m=>?_) (λb j m=>?_) _ _ ⟨rfl,rfl,0,rfl,cM _⟩
 ·obtain⟨rfl,rfl,i,e,d⟩:=m
  have f:i<vs.length:=by omega
  rw[show vs.length-i=(vs.length-(i+1))+1 by omega,kI]at e
  injection e with g hrest
  subst g
  obtain⟨n,q⟩:∃n,vs[x]=dn (ns[x]'(by omega)) n:=AM hi f
  have o:vs.toArray[x]?=some (dn (ns[x]'(by omega)) n):=by simp[f,q]
  rw[o]
  refine bM (nO ?_)
  by_cases c:ns[x]'(by omega)=k
  ·have g:ns.idxOf k=x:=by
    have h1:ns.idxOf k<=x:=by
     refine kD λz=>?_
     exact absurd c (by simpa using i6 z)
    omega
   rw[show(ns[x]'(by omega)==k)=true by simp[c],if_pos rfl]
   wp_walk
   rw[g]at h
   exact h
  ·rw[show(ns[x]'(by omega)==k)=false by simp[c],if_neg (by decide)]
   refine bO ⟨rfl,rfl,x+1,hrest,?_⟩
   refine mX d λz=>c ?_
   have:=gV u
   simp only[<-z]at this
   exact this
 ·obtain⟨_,_,i,e,d⟩:=m
  have:=congrArg iN e
  simp at this
  omega
theorem SqT.frz{K:bN}{H:Hp}{a:bV}{o:Obj}{xs:List V}(h:H a=some (.frz o (.tup xs))):SqT K H a xs:= .inl (.inr ⟨o,h⟩)
theorem uz:FW X (.type "tuple") (λxs H Q=>∃p ys,xs=[.ref p]/\SqL X.K H p ys/\∀l o,H l=none->o.dict=none->Q (.ref l) (upd H l (.frz o (.tup ys)))):=by
 intro c s f H xs z Q I r h;obtain⟨p,ys,rfl,n,q⟩:=h;obtain⟨u,rfl,k⟩:=F6 r
 cases k;obtain⟨a,g,m,x⟩:=I.list n;have t:=g.length;refine oo m.isList (λd y=>?_) (by simp only[cc] <;> omega);have j:Inv X c f H {s with heap:=d}:=I.kept (t':=s.toks) y;have v:Inv X c f (upd H d.objs.size (.frz {cls:= .type "tuple",data:= .seq a.toArray} (.tup ys))) {s with heap:=d.push {cls:= .type "tuple",data:= .seq a.toArray}}:=
  j.laid (t':=s.toks) (λb o e=>bU _ e) (bX _) (show ObjOk X.prog X.w _ _ _ (.frz _ (.tup ys))from⟨b4 _ rfl,x,a,g,qa _ _⟩)
 exact⟨.ref d.objs.size,_,v,rfl,q _ _ (j.hok.fresh (bX _)) rfl⟩
end
theorem uW{K:bN}{H:Hp}{T:Int}:∀{Z:List (List Int)} {us:List V},cT (RwG K H) us (Z.map (fr T))->cT (RwFT K H T) us Z
 | [],_,.nil=> .nil
 | _::_,_,.cons h t=> .cons h (uW t)
theorem Ea(n:Nat)(W:List (List Int)):Ka n W=(Im n (GN n W)).map (fr (TM.fct n)):=by
 unfold Ka Im;rw[iA];refine eY λp _=>?_;rw[Bm];show _=fr (TM.fct n) ((cp n).map λt=>GN n W p t);unfold fr;rw[iA];rfl
theorem D6{n:Nat}{W:List (List Int)}(ok:GI n W):K9 n (TM.fct n) (Im n (GN n W)):=by
 have h:=zv ok.hi;exact⟨ok.lo,ok.hi,h.1,by omega,Cj ok⟩
end L2
namespace L2
open TM
section
variable{n:Nat}{W:List (List Int)}
theorem zE(h:EM.Ws n W)(ms:List Int):(EM.dishes W ms).length=n:=by unfold EM.dishes;rw[bP];exact h.len
theorem Ek(h:EM.Ws n W){i:Nat}(hu:EM.Upto W n (i+1)){p:Nat}(hp:p<n):0<=(EM.dishes W (EM.st W n i).ms).getD p 0/\(EM.dishes W (EM.st W n i).ms).getD p 0<n/\EM.at0 (EM.st W n i).ms ((EM.dishes W (EM.st W n i).ms).getD p 0)≠0:=by
 have S:=(EM.st_ok h i (hu.mono (dJ i))).1;have a:p<(EM.dishes W (EM.st W n i).ms).length:=by rw[zE h];exact hp
 rw[HM.getD_lt a];have:=EM.dish_ok S h.pm (hu i (cV i)) (cm a);exact⟨this.1.1,this.1.2,this.2⟩
theorem BL(c:Int)(f:Nat->Int):∀n,HM.sm n (λi=>f i*c)=HM.sm n f*c
 | 0=>by show(0:Int)=0*c;rw[jx]
 | n+1=>by
  show HM.sm n (λi=>f i*c)+f n*c=(HM.sm n f+f n)*c
  rw[BL c f n,gy]
theorem Dt(h:EM.Ws n W){p:Nat}(hp:p<n):∀i,EM.Upto W n i->HM.sm n (λt=>EM.et W n i p t)=(EM.st W n i).T
 | 0,_=>HM.sm_zero n
 | i+1,hu=>by
  have a:=Dt h hp i (hu.mono (dJ i))
  obtain⟨b,d,_⟩:=Ek h hu hp
  show HM.sm n (λt=>EM.et W n i p t*EM.cn W (EM.st W n i)+if(EM.dishes W (EM.st W n i).ms).getD p 0=(t:Int)then(EM.cs W (EM.st W n i)).m else 0)=(EM.st W n i).T*EM.cn W (EM.st W n i)+(EM.cs W (EM.st W n i)).m
  rw[HM.sm_add (λt=>EM.et W n i p t*EM.cn W (EM.st W n i)),BL _ (λt=>EM.et W n i p t),a]
  congr 1
  rw[HM.sm_congr (g:=λt=>if t=((EM.dishes W (EM.st W n i).ms).getD p 0).toNat then(EM.cs W (EM.st W n i)).m else 0) λt _=>?_,vy (by omega)]
  by_cases c:(EM.dishes W (EM.st W n i).ms).getD p 0=(t:Int)
  ·rw[if_pos c,if_pos (by omega)]
  ·rw[if_neg c,if_neg (by omega)]
theorem CZ{l:List Int}{t m:Int}:∀{n:Nat},l.length=n->HM.sm n (λp=>if l.getD p 0=t then m else 0)=EM.cnt l t*m:=by
 intro n
 induction n generalizing l with
 | zero=>
  intro b;rw[gM b];show(0:Int)=EM.cnt [] t*m;unfold EM.cnt;simp
 | succ n j=>
  intro b;have a:l≠[]:=λz=>by rw[z]at b;cases b
  have e:l.dropLast++[l.getLast a]=l:=jo a;have d:l.dropLast.length=n:=by rw[jh,b];rfl
  show HM.sm n (λp=>if l.getD p 0=t then m else 0)+(if l.getD n 0=t then m else 0)=_;rw[HM.sm_congr (g:=λp=>if l.dropLast.getD p 0=t then m else 0) λp hp=>?_,j d]
  ·have f:l.getD n 0=l.getLast a:=by
    conv=>lhs;rw[<-e]
    rw[bR,d3 (by omega),d,gT];simp
   rw[f];have h:EM.cnt l t=EM.cnt l.dropLast t+if l.getLast a=t then 1 else 0:=by
    unfold EM.cnt
    conv=>lhs;rw[<-e]
    rw[List.count_append];by_cases c:l.getLast a=t
    ·rw[if_pos c,c];simp
    ·rw[if_neg c,mP.mpr (λz=>c (bY.mp z).symm)];simp
   rw[h,gy];by_cases c:l.getLast a=t
   ·rw[if_pos c,if_pos c,jk]
   ·rw[if_neg c,if_neg c,jx]
  ·show(if l.getD p 0=t then m else 0)=if l.dropLast.getD p 0=t then m else 0
   have:l.getD p 0=l.dropLast.getD p 0:=by
    conv=>lhs;rw[<-e]
    rw[bR,gt (by omega),bR]
   rw[this]
theorem Du(h:EM.Ws n W){t:Int}(h0:0<=t)(h1:t<n):∀i,EM.Upto W n i->HM.sm n (λp=>EM.et W n i p t)=(EM.st W n i).D-EM.at0 (EM.st W n i).ms t
 | 0,_=>by
  show HM.sm n (λ_=>0)=1-EM.at0 (fC n 1) t
  rw[HM.sm_zero,ED h0 h1]
  rfl
 | i+1,hu=>by
  have a:=Du h h0 h1 i (hu.mono (dJ i))
  have S:=(EM.st_ok h i (hu.mono (dJ i))).1
  show HM.sm n (λp=>EM.et W n i p t*EM.cn W (EM.st W n i)+if(EM.dishes W (EM.st W n i).ms).getD p 0=t then(EM.cs W (EM.st W n i)).m else 0)=(EM.st W n i).D*EM.cn W (EM.st W n i)-EM.at0 (EM.nextMs (EM.dishes W (EM.st W n i).ms) (EM.st W n i).ms) t
  rw[HM.sm_add (λp=>EM.et W n i p t*EM.cn W (EM.st W n i)),BL _ (λp=>EM.et W n i p t),a,CZ (zE h _),EM.at0_next h0 (by rw[S.len];exact h1)]
  show((EM.st W n i).D-EM.at0 (EM.st W n i).ms t)*EM.cn W (EM.st W n i)+EM.cnt (EM.dishes W (EM.st W n i).ms) t*(EM.cs W (EM.st W n i)).m=(EM.st W n i).D*EM.cn W (EM.st W n i)-(EM.at0 (EM.st W n i).ms t*EM.cn W (EM.st W n i)-EM.cnt (EM.dishes W (EM.st W n i).ms) t*(EM.cs W (EM.st W n i)).m)
  grind
theorem Fa(h:EM.Ws n W){i:Nat}(hu:EM.Upto W n i)(p:Nat)(t:Int):0<=EM.et W n i p t:=(EM.et_bd h p t i hu).1
end
end L2
namespace L2
open PySem PySem.Spec PyProof.Rows TM
section
variable{n N:Nat}{W:List (List Int)}
theorem AY:(FN W n N).length=n:=by unfold FN;simp
theorem DC{p:Nat}(hp:p<n):(FN W n N)[p]?=some (Gn W n N p):=by
 unfold FN;rw[bZ,dy hp];rfl
theorem y7{p:Nat}(hp:p<n):(FN W n N).getD p []=Gn W n N p:=by
 rw[bR,DC hp];rfl
theorem wZ(p:Nat):(Gn W n N p).length=n:=by unfold Gn;rw[bP,LM.rng_len]
theorem A4{p t:Nat}(ht:t<n):(Gn W n N p).getD t 0=EM.et W n N p t:=by
 unfold Gn;rw[bR,bZ,EM.rng_get ht];rfl
theorem yP{p t:Nat}(hp:p<n)(ht:t<n):HM.ent (FN W n N) p t=EM.et W n N p t:=by
 unfold HM.ent;rw[y7 hp,A4 ht]
theorem EO(h:EM.Ws n W)(hN:EM.Stops W n N):K9 n (EM.st W n N).D (FN W n N):=by
 have S:=(EM.st_ok h N hN.up).1;have f:=EM.D_le S h.n6;have e:=(EM.all_gone h hN).1;have z:=EM.sum_zero S.nn hN.last;refine⟨h.n1,h.n6,S.pos,by omega,⟨AY,λr b=>?_,λp t=>?_,λi c=>?_,λj d=>?_⟩⟩
 ·unfold FN at b;obtain⟨p,_,rfl⟩:=cP.mp b;exact wZ p
 ·by_cases hp:p<n
  ·by_cases a:t<n
   ·rw[yP hp a];exact Fa h hN.up p t
   ·unfold HM.ent;rw[y7 hp,bR,fI (by rw[wZ];omega)];exact eH 0
  ·unfold HM.ent;rw[bR (l:=FN W n N),fI (by rw[AY];omega)];exact eH 0
 ·rw[HM.sm_congr (g:=λt=>EM.et W n N i t) λt a=>yP c a,Dt h c N hN.up,e]
 ·rw[HM.sm_congr (g:=λp=>EM.et W n N p j) λp hp=>yP hp d,Du h (by omega) (by omega) N hN.up,z _ (EM.at0_mem (by omega) (by rw[S.len];omega))];omega
end
theorem Eb{n k j:Nat}{T:Int}{Z:List (List Int)}(tb:K9 n T Z)(hf:HM.Fin Z T k)(hj:j<k):LN.Pm n (HM.lotAt Z T j).2/\∀p,p<n->0<HM.ent Z p ((HM.lotAt Z T j).2.getD p 0).toNat:=by
 have I:=HM.it_ok tb.reg tb.t0 tb.lo k hf.2;have S:=I.lots j hj;have J:=HM.it_ok tb.reg tb.t0 tb.lo j λi a=>hf.2 i (by omega);refine⟨S.pm,λp hp=>?_⟩;have h1:=S.le p hp;have h2:=S.w1;have h3:0<=HM.sm j λi=>if((HM.lotAt Z T i).2.getD p 0).toNat=((HM.lotAt Z T j).2.getD p 0).toNat then(HM.lotAt Z T i).1 else 0:=by
  have:=HM.sm_le (n:=j) (f:=λ_=>0) (g:=λi=>if((HM.lotAt Z T i).2.getD p 0).toNat=((HM.lotAt Z T j).2.getD p 0).toNat then(HM.lotAt Z T i).1 else 0) λi a=>by
   have:=(J.lots i a).w1;show(0:Int)<=if _ then HM.wOf (HM.it Z T i).1 else 0
   split <;> omega
  rwa[HM.sm_zero]at this
 rw[J.ent p hp];show 0<HM.ent (HM.it Z T j).1 p ((HM.dealOf (HM.it Z T j).1).getD p 0).toNat+_;omega
def Lo(K:bN):Sp:=λvs H Q _=>∃(a:bV) (gs:List V) (ps:List (Int×Int)),vs=[.ref a]/\(SqL K H a gs\/SqT K H a gs)/\cT (IsF K H) gs ps/\(∀i,Sz 4000 (Gv (ps.take i)))/\(∀p∈ps,Sz 4000 p)/\∀v H',Same H H'->IsF K H' v (Gv ps)->Q v H'
theorem E4{K:bN}{vs:List V}{H:Hp}{Q:VK}{E:XK}(h:Kt K vs H Q E):Lo K vs H Q E:=by
 obtain⟨a,c,d,rfl,e,f,b,g,q⟩:=h;exact⟨a,c,d,rfl,.inl e,f,λi=>DJ (by rw[cf];omega) λp hp=>b p (dO hp),λp hp=>(b p hp).up (by decide),q⟩
end L2
namespace L2
open PySem PySem.Spec PyProof.Rows
section
variable{X:Cx}
def NL:V->Option Int->Option Int->Hp->VK->Prop:=λx lo hi H Q=>∃z,x = .str z/\z.length<=sizeLine/\Q (.str (gd z lo hi)) H
def GG:bQ->Option (Int×Tok)
 | .int i t=>some (i,t)
 | _=>none
theorem vt:NY X NL:=by
 intro r s y H x v b c lo a w Q I k m d f h;obtain⟨z,rfl,u,q⟩:=h;obtain⟨t,rfl⟩:=k;refine⟨"str",_,nR.lookup,mI s z t,?_⟩;have g:s.heap.IsSlice w (GG b) (GG c) none:=by
  obtain⟨o,h1,h2,h3⟩:=m;refine⟨o,h1,h2,?_⟩;rw[h3]
  cases d <;> cases f <;> rfl
 have p:(GG b).map (·.1)=lo:=by cases d <;> rfl
 have j:(GG c).map (·.1)=a:=by cases f <;> rfl
 refine wpAny_getItem_str_slice g (by rfl) ?_;have n:(sliceMade z t (GG b) (GG c) none) = .val (.str z t)/\gd z lo a=z\/sliceMade z t (GG b) (GG c) none = .str (gd z lo a):=by
  unfold sliceMade gd slicePicked;rw[p,j];simp only[Option.map_none,kB];split
  ·exact .inl ⟨rfl,rfl⟩
  ·exact .inr rfl
 rcases n with⟨e,l⟩|e
 ·rw[e];exact⟨.str z,H,I,⟨_,rfl⟩,by rw[l]at q;exact q⟩
 ·rw[e];exact⟨cG (Txt.slice_le z lo a) u,.str (gd z lo a),H,I.tok _,⟨_,rfl⟩,q⟩
theorem x8:Gw X (compareOp .LtE) (λx y H Q=>∃i j,x = .str i/\y = .str j/\Q (.bl (!decide (j.cps.toList<i.cps.toList))) H):=by
 intro c s d H x y v u Q I b a h;obtain⟨i,j,rfl,rfl,q⟩:=h;obtain⟨t,rfl⟩:=b;obtain⟨e,rfl⟩:=a;exact P.le_str ⟨.bl _,H,I,rfl,q⟩
theorem zP:Gw X (binaryOp .Mult) (λx y H Q=>∃z n,x = .str z/\y = .int n/\MulOk z n/\Q (.str (i7 z n)) H):=by
 intro c s f H x y v u Q I b a h;obtain⟨z,n,rfl,rfl,d,q⟩:=h;obtain⟨t,rfl⟩:=b;obtain⟨e,rfl⟩:=a;exact SB.mul d λe k=>⟨.str _,H,I.tok _,⟨_,rfl⟩,q⟩
def M0:V->List V->Hp->VK->Prop:=λx vs H Q=>∃z y,x = .str z/\vs=[.str y]/\Q (.int (qM z y)) H
theorem Ej:MS X "str.find" M0:=by
 intro c s e H x d v f Q I a b h;obtain⟨z,y,rfl,rfl,q⟩:=h;obtain⟨t,rfl⟩:=a;obtain⟨u,rfl,g,rfl⟩:=F6 b;exact SC.find ⟨.int _,H,I.tok _,⟨_,rfl⟩,q⟩
theorem t8:∀{ys:List Str} {its:List bQ},Vals (ys.map V.str) its->StrsAre its ys
 | [],_,.nil=> .nil
 | y::_,_,.cons ⟨t,e⟩ r=>e▸ .cons y t (t8 r)
theorem xW:∀{its:List bQ} {ys:List Str},StrsAre its ys->Vals (ys.map V.str) its
 | _,_,.nil=> .nil
 | _,_,.cons _ _ r=> .cons ⟨_,rfl⟩ (xW r)
def Ni(K:bN):V->List V->Hp->VK->Prop:=λx vs H Q=>∃z p ys,x = .str z/\vs=[.ref p]/\SqL K H p (ys.map V.str)/\z.length<=16/\(ys.map jB).sum+ys.length<=1048576/\Q (.str (kP z ys)) H
theorem DQ:MS X "str.join" (Ni X.K):=by
 intro d s m H x j v o Q I a c h;obtain⟨z,p,l,rfl,rfl,hp,h1,h2,q⟩:=h;obtain⟨t,rfl⟩:=a;obtain⟨u,rfl,e⟩:=F6 c
 cases(show u=b5 p from e);obtain⟨g,f,b,n⟩:=I.list hp;exact join_listW b.isList (by simpa using t8 f) h1 h2 λr k=>⟨.str _,H,I.tok _,⟨_,rfl⟩,q⟩
def My:V->List V->Hp->VK->Prop:=λx vs H Q=>∃z y,x = .str z/\vs=[.str y]/\y.length≠0/\z.length+2<=sizeLine/\∀p,H p=none->Q (.ref p) (upd H p (.lst ((Txt.split z y).map V.str)))
theorem xS:∀(l:List Str) (k:Nat),Vals (l.map V.str) (strsFrom k l)
 | [],_=> .nil
 | _::l,k=> .cons ⟨_,rfl⟩ (xS l (k+1))
theorem zz:MS X "str.split" My:=by
 intro j s C H x G v M Q I m p h;obtain⟨z,y,rfl,rfl,r,L,q⟩:=h;obtain⟨t,rfl⟩:=m;obtain⟨u,rfl,t',rfl⟩:=F6 p;have g:(y.length==0)=false:=beq_eq_false_iff_ne.mpr r;have k:s.TypeIs (.str z t) "str":=mI s z t;have f:∀(e:Txt.split z y=[z]),EP X j C Q (.ref s.heap.objs.size) {s with heap:=s.heap.push {cls:= .type "list",data:= .seq #[.str z t]}}:=λe=>by
  have b:=q _ (I.hok.fresh (bX _));rw[e]at b;exact⟨.ref s.heap.objs.size,_,I.lnew (ys:=[.str z]) (its:=[.str z t]) (t':=s.toks) (.cons ⟨_,rfl⟩ .nil) (show 1<=sizeLine by decide),rfl,b⟩
 have N:=fact_split z y;by_cases a:(decide (z.length<y.length)||decide (iE z<iE y))=true
 ·have e:Txt.split z y=[z]:=by unfold Txt.split;rw[if_pos a]
  have o:Meets (Builtin.«str.split» {pos:=[.str z t,.str y t']}) (listOfItself z t):=by
   intro D w A R J n;obtain⟨E,B⟩:=split_sep_tree z y t t';rw[B,if_pos a];refine bM (iq ?_);refine bM (iJ ?_);exact bO n
  exact fV kQ k j6 (jP _ _) o (f e)
 ·have d:(decide (z.length<y.length)||decide (iE z<iE y))=false:=by simpa using a
  by_cases c:(iR z y 0 z.length (z.length+1)).isEmpty=true
  ·have e:Txt.split z y=[z]:=by unfold Txt.split;rw[if_neg a,if_pos c]
   exact fV kQ k j6 (jP _ _) (meets_str_split_not_found z y t t' d g c) (f e)
  ·have e:Txt.split z y=ko z (iR z y 0 z.length (z.length+1)) y.length:=by unfold Txt.split;rw[if_neg a,if_neg c]
   have l:(ko z (iR z y 0 z.length (z.length+1)) y.length).length<=sizeLine:=by rw[<-e];omega
   refine fV kQ k j6 (jP _ _) (meets_str_split_sep z y t t' d g (by simpa using c) (by omega) l) ?_;have b:=q _ (I.hok.fresh (bX _));rw[e]at b;exact⟨.ref s.heap.objs.size,_,I.lnew (xS _ _) (by rw[bP];exact l),rfl,b⟩
end
def Nt(a b:Str):Prop:=a.cps.toList<=b.cps.toList
theorem xO:∀(x y:List Nat),ltCps x y=true↔x<y
 | [],[]=>by unfold ltCps;simp
 | [],_::_=>by unfold ltCps;simp
 | _::_,[]=>by unfold ltCps;simp
 | a::r,b::t=>by
  unfold ltCps
  rw[gr,<-xO r t]
  simp
theorem C0{a b:Str}:ltCps b.cps.toList a.cps.toList=false↔Nt a b:=by
 unfold Nt;rw[<-List.not_lt,<-Bool.not_eq_true];exact not_congr (xO _ _)
theorem wx{a b:Str}(h:a.cps.toList=b.cps.toList):a=b:=by
 cases a;cases b;exact congrArg Str.mk (Array.toList_inj.mp h)
theorem wM:∀{l:List Str} {x:Str},risingS x l=true->(x::l).Pairwise Nt
 | [],_,_=>List.pairwise_singleton _ _
 | y::l,x,h=>by
  rw[risingS.eq_2,cH]at h
  have b:=wM h.2
  have h1:Nt x y:=C0.mp (by simpa using h.1)
  refine el.mpr ⟨λz a=>?_,b⟩
  rcases cj.mp a with rfl|a
  ·exact h1
  ·exact List.le_trans h1 ((el.mp b).1 z a)
theorem w4{l:List Str}(h:sortedS l=true):l.Pairwise Nt:=by
 cases l with
 | nil=>exact .nil
 | cons x l=>exact wM h
theorem vv{a b:List Str}(ha:sortedS a=true)(hb:sortedS b=true)(h:a.Perm b):a=b:=
 kd (λ_ _ _ _ h1 h2=>wx (List.le_antisymm h1 h2)) (w4 ha) (w4 hb) h
section
variable{X:Cx}
theorem yM{prog:cg}{w:cC}{A:cO}{E:bQ->bS->Prop}{s:bS}{l:bV}{vs:List bQ}{ss:List Str}{Q:bQ->bS->Prop}(ht:IsTup s.heap l vs.toArray)(hI:StrsAre vs ss)(h64:vs.length<64)
  (h:∀(out:Array bQ) (ss':List Str),StrsAre out.toList ss'->ss'.Perm ss->sortedS ss'=true->Q (.ref (s.heap.objs.size+1)) {s with heap:=sortedAll s.heap vs out}):
  wpAny (model prog w) A (call (.builtin "sorted") [.ref l]) Q E s:=by
 have a:((s.heap.push (seqObj "list" #[] 0)).update s.heap.objs.size (dr (· ++ vs.toArray))).objs.size=s.heap.objs.size+1:=by rw[nX,kZ]
 have b:(((s.heap.push (seqObj "list" #[] 0)).update s.heap.objs.size (dr (· ++ vs.toArray))).push (seqObj "list" vs.toArray 0)).get? (s.heap.objs.size+1)=some (seqObj "list" vs.toArray 0):=by
  rw[<-a];exact b4 _ rfl
 refine gu om nw ny (nA _) ?_
 unfold Builtin.«sorted»
 refine bM (m:=checkCount "sorted" 1 1 _) (bO ?_)
 have c:vs.length<=sizeLine:=cx (Fg (by omega))
 refine bM (vY ht c (bM (iJ ?_)))
 change wpAny _ _ _ _ _ {s with heap:=((s.heap.push (seqObj "list" #[] 0)).update s.heap.objs.size (dr (· ++ vs.toArray))).push (seqObj "list" vs.toArray 0)}
 rw[a]
 refine bM (cR (df lW ⟨_,b,rfl⟩ ly (list_sort_treeK strKind_oneLt b (StrsAre.keysOf hI) (λk n rest e=>keyKind_strs (by rw[<-e];exact hI)) h64 λo hp j=>⟨_,rfl,?_⟩) (lX _)))
 obtain⟨ss',d,f,g⟩:=sorted_out_str hI hp j
 exact bO ⟨_,rfl,h _ ss' d f g⟩
theorem tW:FW X (.builtin "sorted") (λxs H Q=>∃(p:bV) (ss:List Str),xs=[.ref p]/\(SqL X.K H p (ss.map V.str)\/SqT X.K H p (ss.map V.str))/\ss.length<64/\∀(l:bV) (ss':List Str),H l=none->ss'.Perm ss->sortedS ss'=true->Q (.ref l) (upd H l (.lst (ss'.map V.str)))):=by
 intro k s v H xs C Q I r h;obtain⟨p,ss,rfl,f,B,q⟩:=h;obtain⟨u,rfl,n⟩:=F6 r
 cases(show u=b5 p from n);have fin:∀(a:List bQ),Vals (ss.map V.str) a->∀(d:Array bQ) (ss':List Str),StrsAre d.toList ss'->ss'.Perm ss->sortedS ss'=true->EP X k v Q (.ref (s.heap.objs.size+1)) {s with heap:=sortedAll s.heap a d}:=λa c d ss' t m z=>by
  obtain⟨e,A⟩:=qm s.heap a d;refine⟨.ref (s.heap.objs.size+1),_,I.laid (t':=s.toks) (λb o y=>pR y) (dJ _) (show ObjOk X.prog X.w _ _ _ (.lst (ss'.map V.str))from⟨?_,d.toList,e,xW t,by rw[A]⟩),rfl,q _ ss' (I.hok.fresh (dJ _)) m z⟩;rw[bP,m.length_eq];exact cx (Fg (by omega))
 rcases f with f|f
 ·obtain⟨a,c,j,x⟩:=I.list f;have g:=c.length;rw[bP]at g;exact sorted_strs j.isList (t8 c) (by omega) (fin a c)
 ·obtain⟨a,c,j,x⟩:=I.tuple f;have g:=c.length;rw[bP]at g;exact yM j (t8 c) (by omega) (fin a c)
end
def Oi(z:Str):It:=⟨λi _=>i<z.cps.size,λi H x H'=>H'=H/\∃c,z.cps[i]?=some c/\x = .str ⟨#[c]⟩,λi _=>z.cps.size<=i⟩
theorem C1{P:cg}{w:cC}{K:bN}{tg:Expr}(it:bV)(z:Str)(t:Tok):JX P w K tg (Oi z) [it] it (λi h=>h.IsStrIter it "str_ascii_iterator" z t i) where
 mem:=by simp
 obj:=λi h st b a=>by
  have e:b=it:=by simpa using a
  subst e
  obtain⟨o,e,c,d⟩:=st
  exact⟨o,e,λv z=>by rw[d]at z;cases z⟩
 keep:=λi h g st k=>by
  obtain⟨o,e,c,d⟩:=st
  exact⟨o,k it (by simp) o e,c,d⟩
 item:=by
  intro X y u n D i f s C H E I j st B
  subst y u n
  have l:i<z.cps.size:=B
  obtain⟨q,A,F,r,p,x⟩:=j it (by simp)
  refine wpAny_pyNext_ascii_item st (c:=z.cps[i]) (d8 l) λg m G=>?_
  have L:Inv X f C H {s with heap:=g,toks:=s.toks+1}:=I.turned (λb o a e=>(G.2 b a).trans e) q A r p x
  obtain⟨o,e,c,d⟩:=id m
  exact⟨_,rfl,CY (s:={s with heap:=g,toks:=s.toks+1}) e c d (by decide) ⟨.str ⟨#[z.cps[i]]⟩,H,L,⟨_,rfl⟩,⟨rfl,_,d8 l,rfl⟩,m,λb a=>(j b a).1⟩⟩
 done:=by
  intro X y u n D i f s C H E I j st B
  subst y u n
  have l:z.cps.size<=i:=B
  obtain⟨q,A,F,r,p,x⟩:=j it (by simp)
  exact wpAny_pyNext_ascii_end (I.ok.hd D) st (f4 l) λg J=>⟨rfl,I.turned (t':=s.toks) (λb o a e=>J b o a e) q A r p x⟩
 self:=λ_ _ _ _ _ st h=>wpAny_pyIter_striter_ascii st h
theorem EU{X:Cx}{tg l:Expr}{tl:TE}(hl:PE X l tl):PI X tg l (λσ H R=>tl σ H λx H1=>∃z:Str,x = .str z/\(∀c∈z.cps.toList,c<128)/\R (Oi z) H1):=by
 intro d s σ H R I h;refine Fv (hl d s σ H _ I h) λv a ⟨x,H1,f,m,n⟩=>?_;obtain⟨z,e,g,q⟩:=n;subst e;obtain⟨t,rfl⟩:=m;refine wpAny_pyIter_ascii (by rw[Array.all_eq_true'];exact λc j=>decide_eq_true (g c (by simpa using j))) ?_;refine⟨a.heap.objs.size,[a.heap.objs.size],_,_,H1,rfl,f.kept (t':=a.toks) λb o e=>bU _ e,C1 _ z t,⟨_,b4 _ rfl,rfl,rfl⟩,λb k=>?_,q⟩;have e:b=a.heap.objs.size:=by simpa using k
 subst e;exact f.fpOk (bX _) (f.hok.fresh (bX _))
theorem B5{z:Str}{caps:List (Option Nat)}{g:TG}{te:TE}{σ:St}{QQ:List V->Hp->Prop}{H:Hp}(Pv:Nat->List V->Hp->Prop)(h0:Pv 0 [] H)
  (hs:∀i c ys H,z.cps[i]?=some c->Pv i ys H->g (.str ⟨#[c]⟩) (Gb caps σ) H λσ2 H2=>te σ2 H2 λy H4=>ys.length<sizeLine/\Pv (i+1) (ys++[y]) H4)
  (hd:∀ys H,Pv z.cps.size ys H->QQ ys H):FR caps g Hh te σ QQ (Oi z) H:=by
 refine⟨λi m ys H=>m=z.cps.size-i/\i<=z.cps.size/\Pv i ys H,⟨z.cps.size,by simp,cM _,h0⟩,?_⟩
 rintro i m ys H ⟨rfl,j,p⟩
 by_cases a:i<z.cps.size
 ·refine .inr ⟨a,Pv (i+1),λh f d=>⟨z.cps.size-(i+1),by omega,rfl,a,d⟩,λx f y=>?_⟩
  obtain⟨e,c,b,rfl⟩:=y
  subst e
  simp only[t5]
  exact hs i c ys _ b p
 ·have e:i=z.cps.size:=by omega
  subst e
  exact .inl ⟨bX _,hd ys H p⟩
def Ge(ws:List Str):Nat->Nat
 | 0=>0
 | i+1=>if ws.getD i fu∈ws.take i then Ge ws i else Ge ws i+1
theorem yX(ws:List Str):∀i,Ge ws i<=i
 | 0=>bX _
 | i+1=>by
  have:=yX ws i
  unfold Ge
  split <;> omega
theorem wL{ws:List Str}(h:ws.Nodup):∀i,i<=ws.length->Ge ws i=i
 | 0,_=>rfl
 | i+1,hi=>by
  have a:=wL h i (by omega)
  unfold Ge
  rw[if_neg,a]
  intro z
  obtain⟨j,b,e⟩:=dW.mp z
  rw[cf]at b
  rw[List.getElem_take,HM.getD_lt (show i<ws.length by omega)]at e
  have:=(nJ (j:=i) (show j<ws.length by omega) h).mp (by rw[bT (show j<ws.length by omega),e];exact(bT _).symm)
  omega
theorem BE{ws:List Str}:∀{i:Nat},i<=ws.length->¬(ws.take i).Nodup->Ge ws i<i
 | 0,_,h=>absurd (by simp) h
 | i+1,hi,h=>by
  have d:i<ws.length:=by omega
  have e:ws.take (i+1)=ws.take i++[ws.getD i fu]:=by rw[cv,bT d,HM.getD_lt d];rfl
  have h1:=yX ws i
  unfold Ge
  split
  ·omega
  ·next c=>
   have:=BE (ws:=ws) (i:=i) (by omega) λz=>h (by
    rw[e]
    refine fP.mpr ⟨z,by simp,λa g b f=>?_⟩
    rw[bY.mp f]
    exact λq=>c (q▸g))
   omega
theorem AZ{prog:cg}{w:cC}{A:cO}{R:Result->bS->Prop}{I:bV}{fp wr:List bV}{G:Array GenState->Array GenState->Prop}{n:Nat}{P:Nat->bQ->Prop}{St:Nat->bS->Prop}
  (W:WalksS prog w A.in1 I fp wr G n P St)(S:bV)(hS:S∉fp)(ws:List Str)(hw:ws.length=n)(hv:∀i v,P i v->∃t,v=g7 (ws.getD i fu) t)(hn:n+1<scanBound):
  ∀(k i:Nat) (s:bS),n-i=k->i<=n->St i s->lb (strKind prog w) s.heap S (λx=>decide (x∈ws.take i)) (Ge ws i)->
   (∀s',Moved (S::wr) G s s'->lb (strKind prog w) s'.heap S (λx=>decide (x∈ws.take n)) (Ge ws n)->R (.ok (.ret .none)) s')->
   codeAny (model prog w) A (.builtin "set.update.loop" ⟨[.ref S,.ref I],[]⟩) R s:=by
 have p:S∉wr:=λz=>hS (W.sub S z)
 intro k
 induction k with
 | zero=>
  intro i s hk Q g b h
  have e:i=n:=by omega
  subst e
  refine dS gJ ?_
  rw[fw fz _]
  unfold Builtin.«set.update.loop»
  refine bM (W.done s _ _ g λs' m=>?_)
  obtain⟨o,y,C,t,d,r⟩:=b
  exact bO (h s' ⟨λc o a=>m.heap c o λz=>a (b3 _ z),m.gens,m.drawn,m.os,m.toks⟩ ⟨o,y,C,t,m.heap S o p d,r⟩)
 | succ k M=>
  intro i s hk Q g b h
  refine dS gJ ?_
  rw[fw fz _]
  unfold Builtin.«set.update.loop»
  refine bM (W.item i s _ _ (by omega) g λv s' O B m=>?_)
  have j:lb (strKind prog w) s'.heap S (λx=>decide (x∈ws.take i)) (Ge ws i):=by
   obtain⟨o,y,C,t,d,r⟩:=b
   exact⟨o,y,C,t,m.heap S o p d,r⟩
  obtain⟨t,rfl⟩:=hv i v O
  have q:i<ws.length:=by omega
  have et:ws.take (i+1)=ws.take i++[ws.getD i fu]:=by rw[cv,bT q,HM.getD_lt q];rfl
  dsimp only
  refine bM (cR ?_)
  unfold setAdd
  refine cR (bM (nN ?_))
  have a:=yX ws i
  refine wpAny_setAddHashed_of (knd:=strKind prog w) (k:=ws.getD i fu) (show(ws.getD i fu==ws.getD i fu)=true from beq_self_eq_true _) rfl j (by omega) λJ D u=>?_
  have N:(λE=>decide (E∈ws.take i)||decide (E=ws.getD i fu))=λx=>decide (x∈ws.take (i+1)):=by
   funext x
   rw[et]
   simp[cN,Bool.decide_or]
  have L:(if decide (ws.getD i fu∈ws.take i)=true then Ge ws i else Ge ws i+1)=Ge ws (i+1):=by
   conv=>rhs;unfold Ge
   simp
  rw[N,L]at u
  refine bO ⟨jg fz _,M (i+1) _ (by omega) (by omega) (W.frame (i+1) s' J (s'.toks+1) B (gf _ _) λc a o d=>by rw[D.2 c λz=>hS (z▸a)];exact d) u λH f l=>h H ?_ l⟩
  refine⟨λc o a d=>f.heap c o a ?_,W.gtrans _ _ _ m.gens f.gens,f.drawn.trans m.drawn,f.os.trans m.os,cG m.toks (cG (gf _ _) f.toks)⟩
  show J.get? c=some o
  rw[D.2 c λz=>a (by rw[z];exact b0)]
  exact m.heap c o (λz=>a (b3 _ z)) d
theorem wB{prog:cg}{w:cC}{A:cO}{E:bQ->bS->Prop}{s:bS}{l:bV}{items:Array bQ}{Q:bQ->bS->Prop}(hh:A.handled=none)(hl:s.heap.IsList l items)(ws:List Str)(hw:StrsAre items.toList ws)(hn:items.size<=60)
  (h:∀(h':Heap) (tk:Nat),lb (pY prog w) h' s.heap.objs.size (λx=>decide (x∈ws.take ws.length)) (Ge ws ws.length)->(∀b o,s.heap.get? b=some o->h'.get? b=some o)->Q (.ref s.heap.objs.size) {s with heap:=h',toks:=tk}):
  wpAny (model prog w) A (call (.type "set") [.ref l]) Q E s:=by
 obtain⟨c,tl,B⟩:=ej.mro
 have j:=ej.made
 have D:=ej.sub
 have p:ws.length=items.size:=by
  have:∀{vs:List bQ} {ss:List Str},StrsAre vs ss->ss.length=vs.length:=λh=>by
   induction h with
   | nil=>rfl
   | cons _ _ _ G=>simp[G]
  simpa using this hw
 have I:∀{vs:List bQ} {ss:List Str},StrsAre vs ss->∀(i:Nat) (v:bQ),vs[i]?=some v->∃t,v=g7 (ss.getD i fu) t:=λh=>by
  induction h with
  | nil=>intro i v g;simp at g
  | cons y t _ G=>
   intro i v g
   cases i with
   | zero=>exact⟨t,by simpa using g.symm⟩
   | succ i=>
    obtain⟨u,e⟩:=G i v (by simpa using g)
    exact⟨u,by simpa using e⟩
 refine gh (lA (bO ⟨gl _ (by decide +kernel),dS nE ?_⟩))
 rw[mS (lH "set" [.ref l] []) rfl]
 have h1:=ej.notType
 have h2:=ej.canCreate
 have O:=nZ (.ref l)
 unfold Builtin.«type.__call__»
 refine b7 (by rw[h1];rfl) (b7 (by rw[h2];rfl) (bM (eR O (bM (eR B (b7 rfl (bM (eR j (bM (bO ?_))))))))))
 refine bM (cR (gh (gP (Bx (E:=E) (.ref l) (Q₁:=λv X=>v = .ref s.heap.objs.size/\X=_) ⟨rfl,rfl⟩) λr J H=>?_)))
 cases r with
 | error e=>exact H
 | ok Z=>
  cases Z with
  | ret v=>
   obtain⟨rfl,rfl⟩:=(show v=_/\J=_ from H)
   have a:(s.heap.push {cls:=cX "set",data:=Data.set #[] 0 (fh 0 0 (Fq w))}).get? s.heap.objs.size=some {cls:=cX "set",data:=Data.set #[] 0 (fh 0 0 (Fq w))}:=b4 _ rfl
   refine bM (dQ (T:="set") ⟨_,a,rfl⟩ D (b7 rfl (bM (cR ?_))))
   unfold callSpecial?
   refine bM (fH (T:="set") ⟨_,a,rfl⟩ ej.init.lookup ?_)
   refine cR (bM (eR (ej.init.bind _) (bM (gh (im ej.init.plain n5 (n7 ⟨_,a,rfl⟩ ?_))))))
   unfold Builtin.«set.__init__»
   refine bM (bO ?_)
   dsimp only[n8,ox]
   unfold typeNameOfCut
   unfold shownTypeOf
   refine bM (bM ?_)
   refine bM (gS (T:="set") ⟨_,a,rfl⟩ (b7 rfl (bO (bO (bM (bO (bM (bO ?_))))))))
   unfold setUsed
   refine bM (bM (dg a rfl (by cases Fq w <;> rfl) (bO (b7 rfl ?_))))
   have d:=hl.push {cls:=cX "set",data:=Data.set #[] 0 (fh 0 0 (Fq w))}
   have C:kh {s with heap:=s.heap.push {cls:=cX "set",data:=Data.set #[] 0 (fh 0 0 (Fq w))}} (.ref l) "list":=by
    obtain⟨o,h1,h2,_⟩:=d
    exact⟨o,h1,h2⟩
   unfold jn jK orM
   refine bM (bM (bM (dQ C oX (dQ C lY ?_))))
   refine b7 rfl (bM (gS C (b7 rfl (bM (hO d ?_)))))
   refine bM (jI ?_)
   have n:s.heap.get? s.heap.objs.size=none:=by
    cases e:s.heap.get? s.heap.objs.size with
    | none=>rfl
    | some o=>exact absurd (b6 e) (cJ _)
   have M:l≠s.heap.objs.size:=λz=>by
    obtain⟨o,h1,_⟩:=hl
    rw[z,n]at h1;cases h1
   have q:(s.heap.push {cls:=cX "set",data:=Data.set #[] 0 (fh 0 0 (Fq w))}).objs.size=s.heap.objs.size+1:=kZ ..
   have L:l≠s.heap.objs.size+1:=λz=>by
    obtain⟨o,h1,_⟩:=hl
    rw[z]at h1
    exact absurd (gz (b6 h1)) (cJ _)
   dsimp only
   rw[q]
   refine AZ (rr (oQ (A:=A.in1.in1.in1) hh (s.heap.objs.size+1) l L items)) s.heap.objs.size (λz=>?_) ws p (λi v hi=>?_) (by show items.size+1<4096;omega) items.size 0 _ rfl (cM _) ?_ ?_ (λV m N=>?_)
   ·rcases cj.mp z with z|z
    ·exact absurd z (cF (cV _))
    ·exact M (bY.mp z).symm
   ·exact I hw i v (by simpa using hi)
   ·exact⟨⟨_,(by rw[<-q];exact b4 _ rfl),rfl,rfl⟩,(d.push _)⟩
   ·refine⟨_,#[],0,_,bU _ a,⟨rfl,rfl,rfl⟩,rfl,?_,λk=>?_,by decide,by cases Fq w <;> rfl,rfl⟩
    ·exact λe he=>(nomatch (show e∈([]:List (Int×bQ))from he))
    ·simp
   ·refine bO (bO (bO (b7 rfl (bO ?_))))
    obtain⟨h',U,S,t',Y⟩:=V
    have W:U=s.gens:=m.gens
    have P:S=s.drawn:=m.drawn
    have R:Y=s.os:=m.os
    subst W P R
    rw[<-p]at N
    refine h h' t' N λb o f=>m.heap b o (λz=>?_) (bU _ (bU _ f))
    rcases cj.mp z with z|z
    ·rw[z,n]at f;cases f
    ·rw[bY.mp z]at f
     exact absurd (gz (b6 f)) (cJ _)
  | _=>exact H.elim
theorem CM{prog:cg}{w:cC}{A:cO}{E:bQ->bS->Prop}{s:bS}{a:bV}{S:Str->Bool}{n:Nat}{Q:bQ->bS->Prop}(hS:lb (pY prog w) s.heap a S n)(h:Q (.int n (s.toks+1)) {s with toks:=s.toks+1+1}):
  wpAny (model prog w) A (call (.builtin "len") [.ref a]) Q E s:=by
 obtain⟨o,p,l,t,f,e,g,_,_,j,b,c⟩:=hS
 have k:n<4096:=by rw[<-c];exact j
 have d:s.TypeIs (.ref a) "set":=⟨o,f,e.1⟩
 refine gu kind_len plain_len entry_len (args_len1 _) ?_
 unfold Builtin.«len»
 refine bM (m:=oneArg "len" _) (bO ?_)
 refine bM (m:=callSpecial? (.ref a) (b9 "__len__")) (dA (name:=b9 "__len__") d l5 (df l5 d xF ?_ (PySem.F.args_set_len_1 _)))
 unfold Builtin.«frozenset.__len__» ki setEntries
 refine bM (bO ?_)
 refine bM (bM (bM (dg f g b (bO (bO ?_)))))
 refine bM (wpAny_mkInt (bO ⟨_,rfl,?_⟩))
 refine bM (cR (bO ?_))
 refine bM (j4 ?_)
 rw[c]
 show wpAny _ _ (if((n:Nat):Int)<0 then _ else _) _ _ _
 rw[if_neg (by omega)]
 show wpAny _ _ (if((n:Nat):Int)>=2^63 then _ else _) _ _ _
 rw[if_neg (by omega)]
 exact bM (wpAny_mkInt (bO ⟨_,rfl,h⟩))
def Lq(K:bN)(te:TE):TE:=λσ H Q=>te σ H λx H1=>∃(l:bV) (ws:List Str),x = .ref l/\SqL K H1 l (ws.map V.str)/\ws.length<=60/\Q (.int (Ge ws ws.length:Nat)) H1
theorem zQ{X:Cx}{e:Expr}{te:TE}{p p2 pos pos2:Pos}(hc:X.calm=true)(h1:Gl X "len")(m1:X.mg "len"=none)(h2:Gl X "set")(m2:X.mg "set"=none)(ha:PE X e te)
  (he:cD [e] X.env=(false,eval e X.env)::cD [] X.env:=by rfl):PE X (.Call (.Name "len" p) [.Call (.Name "set" p2) [e] [] pos2] [] pos) (Lq X.K te):=by
 intro b s n H Q I h
 refine d9 (tY I h1 m1 cU ?_)
 refine gD ?_ rfl rfl
 show wpAny _ _ (spliced ((false,eval (.Call (.Name "set" p2) [e] [] pos2) X.env)::[])) _ _ s
 refine eQ ?_
 refine d9 (tY I h2 m2 Boot.set ?_)
 refine du ?_ he rfl
 rw[he]
 show wpAny _ _ (spliced ((false,eval e X.env)::[])) _ _ s
 refine eQ (Fv (ha b s n H _ I h) λu o ⟨x,j,d,t,v⟩=>?_)
 obtain⟨l,c,rfl,m,y,q⟩:=v
 cases(show u=b5 l from t)
 obtain⟨w,g,k,z⟩:=d.list m
 have f:=g.length
 rw[bP]at f
 refine bO (wB (d.ok.hd hc) k.isList c (by simpa using t8 g) (by simp;omega) λr tk a hk=>bO (CM (s:={o with heap:=r,toks:=tk}) a ?_))
 exact⟨.int (Ge c c.length:Nat),j,d.kept hk,⟨_,rfl⟩,q⟩
section
variable{X:Cx}
theorem StrsAre.len:∀{vs:List bQ} {ss:List Str},StrsAre vs ss->vs.length=ss.length
 | _,_,.nil=>rfl
 | _,_,.cons _ _ r=>by rw[cZ,cZ,StrsAre.len r]
theorem xI:∀{vs:List bQ} {ss:List Str} (hi:StrsAre vs ss) {i:Nat} (h:i<vs.length),∃t,vs[i]=g7 (ss[i]'(by rw[<-StrsAre.len hi];exact h)) t
 | _,_,.cons n t r,0,_=>⟨t,rfl⟩
 | _,_,.cons n t r,i+1,h=>xI r (i:=i) (by simpa using h)
theorem wF{prog:cg}{w:cC}{A:cO}{E:bQ->bS->Prop}{s:bS}{a:bV}{vs:List bQ}{ns:List Str}{k:Str}{t:Tok}{Q:bQ->bS->Prop}(ht:IsTup s.heap a vs.toArray)(hi:StrsAre vs ns)
  (hk:k∈ns)(h:Q (.int (ns.idxOf k:Nat) s.toks) {s with toks:=s.toks+1}):wpAny (model prog w) A (call (.builtin "tuple.index") [.ref a,.str k t]) Q E s:=by
 have r:=StrsAre.len hi
 have u:ns.idxOf k<ns.length:=fK.mpr hk
 refine fV iL ht.typeIs jU (jO _ _) (S:=λA R s=>IsTup s.heap a vs.toArray/\R (.ok (.ret (.int (ns.idxOf k:Nat) s.toks))) {s with toks:=s.toks+1}) ?_ ⟨ht,h⟩
 intro prog w A R s ⟨ht,h⟩
 show wpAny _ _ _ _ _ _
 unfold Builtin.«tuple.index»
 simp only[ix]
 wp_walk using pX ht
 have p:([:min vs.toArray.size vs.toArray.size]:oi).size=vs.length:=by simp[lM]
 rw[p]
 refine kM (M:=model prog w) (A:=A.in1) _ (λl b j=>b=((none:Option PySem.Fin),())/\j=s/\∃i,l=j3 i (vs.length-i)/\i<=ns.idxOf k) _ (λx rest b j m=>?_) (λb j m=>?_) _ _ ⟨rfl,rfl,0,rfl,cM _⟩
 ·obtain⟨rfl,rfl,i,e,d⟩:=m
  have f:i<vs.length:=by omega
  rw[show vs.length-i=(vs.length-(i+1))+1 by omega,kI]at e
  injection e with g hrest
  subst g
  obtain⟨n,q⟩:∃n,vs[x]=g7 (ns[x]'(by omega)) n:=xI hi f
  have o:vs.toArray[x]?=some (g7 (ns[x]'(by omega)) n):=by simp[f,q]
  rw[o]
  refine bM (nP ?_)
  by_cases c:ns[x]'(by omega)=k
  ·have g:ns.idxOf k=x:=by
    have h1:ns.idxOf k<=x:=by
     refine kD λz=>?_
     exact absurd c (by simpa using i6 z)
    omega
   rw[decide_eq_true c,if_pos rfl]
   wp_walk
   rw[g]at h
   exact h
  ·rw[decide_eq_false c,if_neg (by decide)]
   refine bO ⟨rfl,rfl,x+1,hrest,?_⟩
   refine mX d λz=>c ?_
   have:=gV u
   simp only[<-z]at this
   exact this
 ·obtain⟨_,_,i,e,d⟩:=m
  have:=congrArg iN e
  simp at this
  omega
def NC(K:bN)(to te:TE):TE:=λσ H Q=>to σ H λx H1=>∃(l:bV) (o:Obj) (xs:List V),x = .ref l/\H1 l=some (.frz o (.tup xs))/\o.dict=none/\te σ H1 λy H2=>∃(ns:List Str) (k:Str),y = .str k/\SqT K H2 l (ns.map V.str)/\k∈ns/\Q (.int (ns.idxOf k:Nat)) H2
theorem Az{K:bN}{o e:Expr}{apos cpos:Pos}{to te:TE}(hK:X.K=K)(ho:PE X o to)(he:PE X e te)(hbase:attributeBase o "index" X.env (eval o X.env)=eval o X.env:=by rfl)
  (hfew:((backTo cpos (cD [e] X.env)).all (λx=>!x.1)&&(backToKw cpos (keywordEach [] X.env)).all (λx=>x.1.isSome)&&decide (([e]:List Expr).length+([]:List Keyword).length+(if([]:List Keyword).isEmpty then 0 else 1)<30))=true:=by rfl)
  (hline:(apos.endLine==cpos.line)=true:=by rfl)(htrees:backTo cpos (cD [e] X.env)=[(false,eval e X.env)]:=by rfl):PE X (.Call (.Attribute o "index" apos) [e] [] cpos) (NC K to te):=by
 subst hK
 intro a s j H Q I h
 refine nK hbase hfew hline PySem.F.plainAttrs_tuple iL PySem.F.type_tuple_index (Fv (ho a s j H _ I h) λu m ⟨x,d,n,t,l,c,C,J,D,q,M⟩=>?_)
 subst J
 obtain rfl:u=b5 l:=t
 obtain⟨g1,S,O,r,v⟩:=(show ObjOk X.prog X.w d m.heap l (.frz c (.tup C))from n.hok l _ D)
 refine⟨v.typeIs,λb z=>?_,?_⟩
 ·cases z
  exact⟨c,g1,q⟩
 rw[htrees]
 refine fZ rfl (ig (eQ (Fv (he a m j d _ n M) λR P ⟨y,E,g,p,T,k,A,B,hk,L⟩=>jZ ?_)))
 subst A
 obtain⟨tk,rfl⟩:=p
 obtain⟨N,G,f,_⟩:=g.tuple B
 exact wF f (t8 G) hk ⟨.int _,E,g.tok _,⟨_,rfl⟩,L⟩
theorem wY{k:Str}:∀{ns:List Str},k∈ns->ns.eraseIdx (ns.idxOf k)=ns.erase k
 | [],h=>by cases h
 | a::ns,h=>by
  by_cases c:a=k
  ·subst c;rw[List.idxOf_cons_self];simp
  ·have b:k∈ns:=by rcases cj.mp h with e|e;exact absurd e.symm c;exact e
   rw[List.idxOf_cons,show(a==k)=false from beq_false_of_ne c,List.erase_cons_tail (by simpa using c)]
   show a::ns.eraseIdx (ns.idxOf k)=_
   rw[wY b]
theorem vj:∀(m:List Str) (j:Nat),(m.eraseIdx j).map V.str=(m.map V.str).eraseIdx j
 | [],_=>rfl
 | _::_,0=>rfl
 | a::m,j+1=>by show V.str a::(m.eraseIdx j).map V.str=_;rw[vj m j];rfl
theorem z7:LH X "list.remove" (λx vs H Q=>∃(l:bV) (ns:List Str) (k:Str),x = .ref l/\vs=[.str k]/\H l=some (.lst (ns.map V.str))/\k∈ns/\Q .non (upd H l (.lst ((ns.erase k).map V.str)))):=by
 intro A s D H x vs v E Q I o B h;obtain⟨l,ns,k,rfl,rfl,d,hk,q⟩:=h
 cases o;obtain⟨u,rfl,tk,rfl⟩:=B.one;obtain⟨z,a,n,r,C,e⟩:=I.lstM d;have b:=t8 r;have c:=StrsAre.len b;have m:ns.idxOf k<ns.length:=fK.mpr hk;refine fV kq ⟨_,e,rfl⟩ PySem.F.entry_list_remove (PySem.F.args_list_remove_2 _ _)
  (MeetsSeq.list_remove l a.toArray n (.str k tk) (jl k) (λy w=>eq_isStrOf k tk b y (by simpa using w)) (ns.idxOf k) (by simpa [c]using m) ?_ ?_ (by rw[cc];omega)) ⟨e,?_⟩
 ·show jl k a[ns.idxOf k]=true;obtain⟨t,ev⟩:=xI b (i:=ns.idxOf k) (by omega);rw[ev];show(ns[ns.idxOf k]==k)=true;simpa using gV m
 ·intro j f g;show jl k a[j]=false;obtain⟨t,ev⟩:=xI b (i:=j) (by simpa using f);rw[ev];show(ns[j]'(by omega)==k)=false;exact beq_false_of_ne (by simpa using i6 g)
 ·have p:(ns.map V.str).eraseIdx (ns.idxOf k)=(ns.erase k).map V.str:=by rw[<-wY hk,vj]
  rw[<-p]at q;refine⟨.non,_,I.lset (its':=a.eraseIdx (ns.idxOf k)) d e ?_ (r.eraseIdx _) ?_,rfl,q⟩
  ·simp
  ·have:=kR (ns.map V.str) (ns.idxOf k);omega
end
def wK(R:List (Str×V)):List (G6×V):=R.map λp=>(Sum.inr p.1,p.2)
def Ft(R:List (Str×V))(x:Str):Option V:=(R.find? λp=>decide (p.1=x)).map (·.2)
def IC(R:List (Str×V))(x:Str)(v:V):List (Str×V):=if R.any (λp=>decide (p.1=x))=true then R.map (λp=>if p.1=x then(p.1,v)else p)else R++[(x,v)]
theorem wy:∀{R:List (Str×V)} {vs:List (G6×bQ)} (_:KV (wK R) vs) (x:Str),RelO (Ft R x) (valueAt vs (Sum.inr x))
 | [],[],_,_=>trivial
 | [],_::_,h,_=>nomatch h
 | _::_,[],h,_=>nomatch h
 | (a,v)::R,(k,u)::vs,h,x=>by
  obtain⟨h1,h2⟩:((Sum.inr a:G6)=k/\RelV v u)/\KV (wK R) vs:=by cases h with|cons p q=>exact⟨p,q⟩
  obtain⟨rfl,f⟩:=h1
  have b:=wy h2 x
  unfold Ft valueAt at b ⊢
  rw[js,js]
  by_cases c:a=x
  ·subst c
   simp
   exact f
  ·have d:decide (a=x)=false:=decide_eq_false c
   have e:decide ((Sum.inr a:G6)=Sum.inr x)=false:=decide_eq_false λz=>c (Sum.inr.inj z)
   simp only[d,e]
   exact b
theorem AO:∀{R:List (Str×V)} {vs:List (G6×bQ)} (_:KV (wK R) vs) (x:Str),(vs.any λkv=>decide (kv.1=Sum.inr x))=R.any λp=>decide (p.1=x)
 | [],[],_,_=>rfl
 | [],_::_,h,_=>nomatch h
 | _::_,[],h,_=>nomatch h
 | (a,v)::R,(k,u)::vs,h,x=>by
  obtain⟨h1,h2⟩:((Sum.inr a:G6)=k/\RelV v u)/\KV (wK R) vs:=by cases h with|cons p q=>exact⟨p,q⟩
  obtain⟨rfl,_⟩:=h1
  rw[gB,gB,AO h2 x]
  congr 1
  exact decide_eq_decide.mpr ⟨λz=>Sum.inr.inj z,λz=>congrArg Sum.inr z⟩
theorem BW{v:V}{u:bQ}(hv:RelV v u)(x:Str):∀{R:List (Str×V)} {vs:List (G6×bQ)} (_:KV (wK R) vs),KV (wK (R.map λp=>if p.1=x then(p.1,v)else p)) (vs.map λkv=>if kv.1=Sum.inr x then(kv.1,u)else kv)
 | [],[],_=> .nil
 | [],_::_,h=>nomatch h
 | _::_,[],h=>nomatch h
 | (a,v0)::R,(k,u0)::vs,h=>by
  obtain⟨h1,h2⟩:((Sum.inr a:G6)=k/\RelV v0 u0)/\KV (wK R) vs:=by cases h with|cons p q=>exact⟨p,q⟩
  obtain⟨rfl,h0⟩:=h1
  refine .cons ?_ (BW hv x h2)
  by_cases c:a=x
  ·subst c
   simp
   exact hv
  ·have b:¬(Sum.inr a:G6)=Sum.inr x:=λz=>c (Sum.inr.inj z)
   simp only[if_neg c,if_neg b,true_and]
   exact h0
theorem DT{R:List (Str×V)}{vs:List (G6×bQ)}{x:Str}{v:V}{u:bQ}(h:KV (wK R) vs)(hv:RelV v u):KV (wK (IC R x v)) (stored vs (Sum.inr x) u):=by
 unfold IC stored;rw[AO h x];split
 ·exact BW hv x h
 ·unfold wK;rw[cb];exact Paired.app h (.cons ⟨rfl,hv⟩ .nil)
theorem zk(R:List (Str×V))(x:Str)(v:V):(IC R x v).length<=R.length+1:=by
 unfold IC;split
 ·rw[bP];omega
 ·rw[cr];exact bX _
theorem xL(R:List (Str×V))(x y:Str)(v:V):Ft (IC R x v) y=if y=x then some v else Ft R y:=by
 unfold IC;split
 ·next c=>
  induction R with
  | nil=>simp at c
  | cons p R b=>
   unfold Ft at b ⊢;rw[dh,js,js];by_cases e:p.1=x
   ·rw[if_pos e];by_cases d:y=x
    ·subst d;simp[e]
    ·have g:decide (p.1=y)=false:=decide_eq_false λz=>d (z.symm.trans e);simp only[g,if_neg d];by_cases a:R.any (λp=>decide (p.1=x))=true
     ·rw[b a,if_neg d]
     ·have:(R.map λp=>if p.1=x then(p.1,v)else p)=R:=by
       refine(eY λq f=>?_).trans (List.map_id R);rw[if_neg (λz=>a (iB.mpr ⟨q,f,decide_eq_true z⟩))];rfl
      rw[this]
   ·rw[if_neg e];have a:R.any (λp=>decide (p.1=x))=true:=by
     rw[gB,decide_eq_false e,pU]at c;exact c
    by_cases d:p.1=y
    ·have:¬y=x:=λz=>e (d.trans z);simp only[decide_eq_true d,if_neg this]
    ·simp only[decide_eq_false d];exact b a
 ·next c=>
  unfold Ft;rw[List.find?_append];by_cases d:y=x
  ·subst d;have:R.find? (λp=>decide (p.1=y))=none:=List.find?_eq_none.mpr λq f z=>c (iB.mpr ⟨q,f,z⟩);rw[this];simp
  ·rw[if_neg d]
   cases h:R.find? (λp=>decide (p.1=y))with
   | some q=>simp
   | none=>simp[Ne.symm d]
section
variable{X:Cx}
def Nh:TE:=λ_ H Q=>∀p,H p=none->Q (.ref p) (upd H p (.dK (wK [])))
theorem Ef{pos:Pos}:PE X (.Dict [] [] pos) Nh:=λb s c H Q I h=>
 oa ⟨.ref s.heap.objs.size,_,I.laid (a:=s.heap.objs.size) (o:= .dK []) (t':=s.toks) (λ_ _ q=>bU _ q) (bX _)
  (show ObjOk X.prog X.w _ _ _ (.dK [])from⟨cM _,beq_eq_false_iff_ne.mpr (Ne.symm (cF I.bigS)),[],.nil,rB s.heap⟩),rfl,h _ (I.hok.fresh (bX _))⟩
theorem yY(P:cg)(w:cC)(x:Str)(t:Tok):(Io P w).is (Sum.inr x) (.str x t)=true:=show(x==x)=true from beq_self_eq_true _
def LW:R2:=λx y H Q=>∃(d:bV) (R:List (Str×V)) (z:Str),x = .str z/\y = .ref d/\H d=some (.dK (wK R))/\Q (.bl (!(Ft R z).isSome)) H
theorem A2{a:Option V}{b:Option bQ}(h:RelO a b):b.isSome=a.isSome:=by
 cases a <;> cases b <;> first|rfl|cases h
theorem Bt:Gw X (compareOp .NotIn) LW:=by
 intro j s k H x y v u Q I g c h;obtain⟨d,R,z,rfl,rfl,e,q⟩:=h;obtain⟨t,rfl⟩:=g
 cases c;obtain⟨_,a,vs,b,f⟩:=(show ObjOk X.prog X.w H s.heap d (.dK (wK R))from I.hok d _ e);refine wpAny_notIn_of (yY X.prog X.w z t) a f.mapOf ?_;rw[A2 (wy b z)];exact⟨.bl _,H,I.tok _,rfl,q⟩
def Ob:R2:=λx y H Q=>∃(d:bV) (R:List (Str×V)) (z:Str) (v:V),x = .ref d/\y = .str z/\H d=some (.dK (wK R))/\Ft R z=some v/\Q v H
theorem Fe:IxR X Ob:=by
 intro f e A s B H x y v u Q I l g h o;obtain⟨d,R,z,r,rfl,rfl,j,k,q⟩:=h
 cases l;obtain⟨t,rfl⟩:=g;obtain⟨_,n,vs,b,a⟩:=(show ObjOk X.prog X.w H s.heap d (.dK (wK R))from I.hok d _ j);obtain⟨m,p,c⟩:=RelO.some_of (v:=r) (by rw[<-k];exact wy b z);refine iW (x:=m) a.typeIs PySem.F.slot_dict_getitem.lookup ?_ o;exact wpAny_getItem_of (yY X.prog X.w z t) a.mapOf p ⟨rfl,r,H,I.tok _,c,q⟩
def M6:V->V->V->Hp->(Hp->Prop)->Prop:=λo i v H Q=>∃(d:bV) (R:List (Str×V)) (x:Str),o = .ref d/\i = .str x/\H d=some (.dK (wK R))/\R.length<1000/\Q (upd H d (.dK (wK (IC R x v))))
theorem Fc:LU X M6:=by
 intro n s L H o i v G J u Q I r B p h;obtain⟨d,R,x,rfl,rfl,j,F,q⟩:=h
 cases r;obtain⟨t,rfl⟩:=B;obtain⟨M,g,vs,c,k⟩:=(show ObjOk X.prog X.w H s.heap d (.dK (wK R))from I.hok d _ j);have E:=Paired.len c;have D:(wK R).length=R.length:=by unfold wK;rw[bP]
 refine wpAny_setItem_pairs (hsz:=by omega) (yY X.prog X.w x t) k λy f m=>?_;have C:∃a,y.get? d=some a:=let⟨a,_,_,l,_⟩:=f;⟨a,l⟩;refine⟨_,I.write (x:=d) (e:=d) (by rw[j];trivial) (.inl rfl) (λb a A z=>(m.2 b A).trans z) C (show ObjOk X.prog X.w _ _ _ (.dK (wK (IC R x v)))from⟨?_,g,_,DT c p,f⟩),q⟩;unfold wK;rw[bP];have:=zk R x v;exact cx (Fg (by omega))
end
structure Mn(P:cg)(w:cC)(K:bN)(mg:Str->Option bQ)(base:Heap)(CX:Js)(k:Nat)(C:bV)(m:Str)(ps:List Str)(sp:Sp):Prop where
 ex:∃f fd,FnOk P w K mg base CX k f fd ps sp/\K3 K C m f/\Binds K fd ps []
def MDef(K:bN)(C:bV)(m q:Str)(st:Stmt):Prop:=∃f fd,Fun K m q st f fd/\K3 K C m f
section
variable{X:Cx}{CX:Js}{k j:Nat}{C:bV}{m:Str}{ps:List Str}{sp:Sp}{E:XK}{pos apos p:Pos}{o e:Expr}{es:List Expr}{ta:TE}{t:TA}
theorem zB{pl:Sem Bool}(he:PE X o ta)(c:Cls X.K C)(D:Mn X.prog X.w X.K X.mg X.base CX k C m ps sp)(hr:Room j X.A)(hk:k<=j)(hx:FS CX X E)(ha:PA X (e::es) t)
  (hst:cD (e::es) X.env=(false,eval e X.env)::cD es X.env:=by rfl)(hpl:(backTo pos (cD es X.env)).any (·.1)=false:=by rfl)
  (ht:eval (.Call (.Attribute o m apos) (e::es) [] pos) X.env=(do
   let ov<-eval o X.env
   standAt apos.atName
   let(f,first)<-holding [ov] (getMethod ov m pl)
   callWith pos f first (backTo pos (cD (e::es) X.env)) (backToKw pos (keywordEach [] X.env))):=by rfl):
  PE X (.Call (.Attribute o m apos) (e::es) [] pos) (JP C m sp [] E ta t):=by
 obtain⟨f,d,F,a,b⟩:=D.ex
 exact DK (pl:=pl) he c a F (hr.mono hk) b .nil hx ha hst hpl ht
theorem Bh{pl:Sem Bool}(he:PE X o ta)(c:Cls X.K C)(D:Mn X.prog X.w X.K X.mg X.base CX k C m ps sp)(hr:Room j X.A)(hk:k<=j)(hx:FS CX X E)
  (ht:eval (.Call (.Attribute o m apos) [] [] pos) X.env=(do
   let ov<-eval o X.env
   standAt apos.atName
   let(f,first)<-holding [ov] (getMethod ov m pl)
   callWith pos f first (backTo pos (cD [] X.env)) (backToKw pos (keywordEach [] X.env))):=by rfl):
  PE X (.Call (.Attribute o m apos) [] [] pos) (JP C m sp [] E ta ML):=by
 obtain⟨f,d,F,a,b⟩:=D.ex
 exact CT (pl:=pl) he c a F (hr.mono hk) b .nil hx ht
theorem Bz{pl:Sem Bool}(he:PE X.nox o ta)(c:Cls X.K C)(D:Mn X.prog X.w X.K X.mg X.base (GM X.prog X.w) k C m ps sp)(hr:Room j X.A)(hk:k<=j)(ha:PA X.nox (e::es) t)
  (hst:cD (e::es) X.env=(false,eval e X.env)::cD es X.env:=by rfl)(hpl:(backTo pos (cD es X.env)).any (·.1)=false:=by rfl)
  (ht:eval (.Call (.Attribute o m apos) (e::es) [] pos) X.env=(do
   let ov<-eval o X.env
   standAt apos.atName
   let(f,first)<-holding [ov] (getMethod ov m pl)
   callWith pos f first (backTo pos (cD (e::es) X.env)) (backToKw pos (keywordEach [] X.env))):=by rfl):
  Nj X (.Call (.Attribute o m apos) (e::es) [] pos) (λE=>JP C m sp [] E ta t):=by
 intro g s L H Q E xe I S h
 obtain⟨f,fd,F,B,Z⟩:=D.ex
 refine g9 (pl:=pl) (eO (he g s L H _ (I.wish _) h) (λu U h1=>?_) λ_ _ z=>dI z) ht
 obtain⟨x,R,N,P,a,dx,fs,ex,V,l,q⟩:=h1
 have J:=N.unwish
 subst ex
 obtain rfl:u=b5 a:=P
 refine uq J V c B l ?_
 refine gQ (first:=[.ref a]) (h₀:=X.base) I.ok.mod.kin B.kp (eO (ha pos g U L R _ N q) (λn v h2=>?_) λ_ _ z=>dI z) hst hpl
 obtain⟨vs,y,b,r,M⟩:=h2
 have b:=b.unwish
 refine⟨b.kIn,?_⟩
 have G:sp (.ref a::vs) y Q E:=by rw[eo]at M;exact M
 have O:(b5 a::n).length=ps.length:=by
  have:=F.len _ _ _ _ G
  rw[cZ]at this ⊢
  rw[<-r.length]
  exact this
 have p:=Z v (.ref a::n) b.kIn (by rw[eo];exact O)
 rw[eo]at p
 refine gh (gP (F.run X.A X.stack v y ⟨.ref a::n,[]⟩ (.ref a::n) (.ref a::vs) Q E (hr.mono hk) b.env0 p (.cons rfl r) G) λr T d=>?_)
 cases r with
 | error e=>exact S y v e T b d
 | ok Y=>
  cases Y with
  | ret u=>exact b.after d
  | next=>exact dI d
  | brk=>exact dI d
  | cont=>exact dI d
theorem DB{f:bV}{fd:FuncData}{x:Str}(M:Mk X.K C f)(F:FnOk X.prog X.w X.K X.mg X.base (GM X.prog X.w) k f fd ps sp)(hr:Room j X.A)(hk:k+1<=j)(hg:Gl X x)(hm:X.mg x=some (.ref C))(hb:Binds X.K fd ps [])(ha:PA X.nox (e::es) t)
  (hdb:(x==("__debug__":Str))=false:=by decide)(he:cD (e::es) X.env=(false,eval e X.env)::cD es X.env:=by rfl)(hpl:(backTo pos (cD es X.env)).any (·.1)=false:=by rfl):
  Nj X (.Call (.Name x p) (e::es) [] pos) (λE=>KH C sp [] E t):=by
 intro l s0 L B Q E R m D h
 refine d9 (uF m hg hm ?_ hdb)
 refine gQ (h₀:=X.base) m.ok.mod.kin M.kp (eO (ha pos l s0 L B _ (m.wish _) h) (λb s h1=>?_) λ_ _ z=>dI z) he hpl
 obtain⟨vs,H,I,r,q⟩:=h1
 have I:=I.unwish
 refine⟨I.kIn,?_⟩
 have g:=q (s.heap.objs.size+1) s.heap.objs.size (I.hok.fresh (dJ _)) (I.hok.fresh (bX _)) (cF (cV _))
 have c:=Inv.made (C:=C) I
 rw[eo]at g
 have n:Vals (V.ref (s.heap.objs.size+1)::vs) (b5 (s.heap.objs.size+1)::b):= .cons rfl r
 have o:(b5 (s.heap.objs.size+1)::b).length=ps.length:=by
  have e:=n.length
  rw[F.len _ _ _ _ g]at e
  exact e.symm
 have d:=hb _ (b5 (s.heap.objs.size+1)::b) c.kIn (by rw[eo];exact o)
 rw[eo]at d
 refine gh (y4 (f:=f) I.kIn M.makes M.init (beq_iff_eq.mp M.fn) (gP (F.run _ X.stack _ _ ⟨b5 (s.heap.objs.size+1)::b,[]⟩ (b5 (s.heap.objs.size+1)::b) _ _ E ((hr.mono hk).make C b [])
  (c.env0.make C b []) d n g) λr G a=>?_))
 cases r with
 | error e=>exact D _ _ e G c a
 | ok O=>
  cases O with
  | ret u=>
   obtain⟨v,J,y,N,ev,P⟩:=c.after a
   subst ev
   exact⟨N,⟨V.ref (s.heap.objs.size+1),J,y,rfl,P⟩⟩
  | next=>exact dI a
  | brk=>exact dI a
  | cont=>exact dI a
theorem EV{c:Expr}{a b:List Stmt}{tc:TT}{ta tb:XK->TS}(hc:PT X.nox c tc)(ha:MO X a ta)(hb:MO X b tb):MO X [.If c a b pos] (λE=>Nx tc (ta E) (tb E)):=by
 intro d s g H D E n I m h;refine iy (eO (Q:=SP X d D) (wpAny_If (eO (hc d s g H _ (I.wish _) h) (λk j h1=>?_) λ_ _ z=>dI z)) (λf j q=>?_) λ_ _ z=>z)
 ·obtain⟨l,e,q⟩:=h1;have e:=e.unwish
  cases k with
  | true=>
   rw[if_pos rfl]at q ⊢;exact ha d j g l D E n e m q
  | false=>
   rw[if_neg cA]at q ⊢;exact hb d j g l D E n e m q
 ·cases f with
  | next=>exact fS q
  | ret v=>exact q
  | brk=>exact q
  | cont=>exact q
end
section
variable{P:cg}{w:cC}{K:bN}{mg:Str->Option bQ}{base:Heap}
theorem MDef.ok{C:bV}{x q:Str}{st:Stmt}{N ps:List Str}{k:Nat}{sp:Sp}(F:MDef K C x q st)(S:Fi N ps (Ff st))(len:∀vs H Q E,sp vs H Q E->vs.length=ps.length)
  (hb:∀(kV doc pm:bQ) (an:Option bV) (cdv ct:bQ) (us:List bQ),us.length=ps.length->bindArgs (fD x q (Fw st) (Fp st) (Ff st) .none kV doc pm an cdv ct) ⟨us,[]⟩=pure (ps.zip us))
  (hbody:∀(f:bV) (cdv:bQ) (A:cO) (outer:List Env) (s:bS) (H:Hp) (vs:List V) (Q:VK) (E:XK),Room k (A.deeper (envOfC q (Ff st) s.heap.objs.size f cdv))->sp vs H Q E->
   ∃t,PSs (Jm Fs P w K mg base N q (Ff st) f cdv A outer s H E).nox (Fp st) t/\t {nx:=λ_ H'=>Q .non H',rt:=Q} (start N vs) H):Mn P w K mg base Fs (k+1) C x ps sp:=by
 obtain⟨f,a,F,m⟩:=F
 exact⟨f,a,F.ok S len (hbody f),m,F.binds hb⟩
theorem MDef.okE{C:bV}{x q:Str}{st:Stmt}{N ps:List Str}{k:Nat}{sp:Sp}(F:MDef K C x q st)(S:Fi N ps (Ff st))(len:∀vs H Q E,sp vs H Q E->vs.length=ps.length)
  (hb:∀(kV doc pm:bQ) (an:Option bV) (cdv ct:bQ) (us:List bQ),us.length=ps.length->bindArgs (fD x q (Fw st) (Fp st) (Ff st) .none kV doc pm an cdv ct) ⟨us,[]⟩=pure (ps.zip us))
  (hbody:∀(f:bV) (cdv:bQ) (A:cO) (outer:List Env) (s:bS) (H:Hp) (vs:List V) (Q:VK) (E:XK),Room k (A.deeper (envOfC q (Ff st) s.heap.objs.size f cdv))->sp vs H Q E->
   ∃t,PSs (Jy P w K mg base N q (Ff st) f cdv A outer s H E) (Fp st) t/\t {nx:=λ_ H'=>Q .non H',rt:=Q} (start N vs) H):Mn P w K mg base (GM P w) (k+1) C x ps sp:=by
 obtain⟨f,h,F,m⟩:=F
 have c:=F.binds hb
 obtain⟨j,g,kV,doc,pm,an,cdv,ct,e,rfl,lk,b⟩:=F.ex
 exact⟨f,_,CC lk b S len λA outer s H vs Q E d a=>hbody f cdv A outer s H vs Q E d a,m,c⟩
end
section
variable{X:Cx}{K:bN}
def KO(is:List Str):TA:=λ_ H Q=>Q (is.map V.str) H
def IB:List Expr->Option (List Str)
 | []=>some []
 | .Constant (.str i) _ _::r=>(IB r).map (i :: ·)
 | _=>none
theorem yF:∀{es:List Expr} {is:List Str},IB es=some is->PA X es (KO is)
 | [],is,h=>by cases h;exact λb a s c H Q I h=>(rG (X:=X)) b a s c H Q I h
 | .Constant (.str i) k po::r,is,h=>by
  have h:(IB r).map (i :: ·)=some is:=h
  cases d:IB r with
  | none=>rw[d]at h;cases h
  | some e=>
   rw[d]at h
   cases h
   exact λb a s c H Q I h=>(lh (X:=X) rX (yF d)) b a s c H Q I h
theorem pso_pickS{i:Nat}{x:Str}{es:List Expr}{is:List Str}{b:Expr}{tb:TE}{r:R2}{pos p1 p2 pos':Pos}(hN:X.N.Nodup)(hi:X.N[i]?=some x)(hx:Loc X.env.scope x)(hr:IxR X r)(hI:IB es=some is)(hb:PE X b tb)(hp:Ju b)
  (hs:swapsWith (.Subscript (.List es p1) b p2) (some (.Name x pos')) pos.line X.env=pure false:=by rfl)(hf:X.fn x=true\/X.env.scope.names.lookup x=some .local:=by first|exact .inl rfl|exact .inr rfl|assumption):
  NW X (.Assign [.Name x pos'] (.Subscript (.List es p1) b p2) pos) (Ln (MH r (Mo (KO is)) tb) (Ia i)):=
 ⟨rL hN hi hx (rR hr (sA (yF hI)) hb hp) hs hf⟩
theorem wt{e:Expr}{f:Str}{pos:Pos}{ta:TE}(h:X.K=K)(he:PE X e ta)(hb:attributeBase e f X.env (eval e X.env)=eval e X.env):PE X (.Attribute e f pos) (M7 K ta f):=by subst h;exact uT he hb
def N4(K:bN)(te:TE):TE:=λσ H Q=>te σ H λx H1=>∃a xs,x = .ref a/\SqL K H1 a xs/\∀p,H1 p=none->Q (.ref p) (upd H1 p (.lst xs.reverse))
theorem EQ{e st:Expr}{te ts:TE}{pos p2:Pos}(he:PE X e te)(hs:PE X st (Ou (rU λi=> .int (-i)) (tC (.int 1)))):PE X (.Subscript e (.Slice none none (some st) p2) pos) (N4 X.K te):=by
 intro c s j H Q I h;refine oN (Fv (he c s j H _ I h) λv D ⟨x,m,G,E,F⟩=>?_);obtain⟨a,f,rfl,o,q⟩:=F
 cases(show v=b5 a from E);refine wpAny_Slice ?_;rw[mq];refine bO (bO ?_);rw[pM];refine Fv (hs c D j m (λy g=>y = .int (-1)/\g=m) G ⟨1,rfl,rfl,rfl⟩) λw d ⟨y,g,B,u,z,n⟩=>?_;subst z n;obtain⟨t,rfl⟩:=u;have k:Inv X c j g {d with heap:=d.heap.push {cls:= .type "slice",data:= .fields #[.none,.none,.int (-1) t]}}:=B.kept (t':=d.toks) λb J q=>bU _ q;obtain⟨its,r,l,C⟩:=k.list o;have p:=r.length;refine qE (ops:=[.ref a,.ref d.heap.objs.size]) l.isList.typeIs j0.lookup ?_ (by with_unfolding_all rfl);refine j9 l.isList (mH ..) .none .none (.int (-1) t) (by decide) ?_ (by rw[cc] <;> omega);rw[PySem.W.krv_pick];refine⟨.ref (d.heap.push {cls:= .type "slice",data:= .fields #[.none,.none,.int (-1) t]}).objs.size,_,k.lnew (ys:=f.reverse) (its:=its.toArray.toList.reverse) (t':=d.toks) ?_ ?_,rfl,q _ (k.hok.fresh (bX _))⟩
 ·have:∀{f:List V} {us:List bQ},Vals f us->Vals f.reverse us.reverse:=λh=>by
   induction h with
   | nil=>exact .nil
   | cons a b A=>rw[nL,nL];exact A.append (.cons a .nil)
  simpa using this r
 ·rw[iF];exact C
end
structure Bn(P:cg)(w:cC)(K:bN)(mg:Str->Option bQ)(base:Heap)(CX:Js)(k:Nat)(C:bV)(x:Str)(ps:List Str)(sp:Sp):Prop where
 ex:∃f fd,FnOk P w K mg base CX k f fd ps sp/\Mk K C f/\Binds K fd ps []/\mg x=some (.ref C)
def BDef(K:bN)(mg:Str->Option bQ)(C:bV)(x q:Str)(st:Stmt):Prop:=∃f fd,Fun K "__init__" q st f fd/\Mk K C f/\mg x=some (.ref C)
section
variable{X:Cx}{CX:Js}{k j:Nat}{C:bV}{x:Str}{ps:List Str}{sp:Sp}{E:XK}{pos p:Pos}{e:Expr}{es:List Expr}{t:TA}
theorem Fd(D:Bn X.prog X.w X.K X.mg X.base CX k C x ps sp)(hr:Room j X.A)(hk:k+1<=j)(hg:Gl X x)(hx:FS CX X E)(ha:PA X (e::es) t)
  (hdb:(x==("__debug__":Str))=false:=by decide)(he:cD (e::es) X.env=(false,eval e X.env)::cD es X.env:=by rfl)(hpl:(backTo pos (cD es X.env)).any (·.1)=false:=by rfl):
  PE X (.Call (.Name x p) (e::es) [] pos) (KH C sp [] E t):=by
 obtain⟨f,a,F,M,b,m⟩:=D.ex
 exact DI M F (hr.mono hk) hg m b .nil hx ha hdb he hpl
theorem E7(D:Bn X.prog X.w X.K X.mg X.base (GM X.prog X.w) k C x ps sp)(hr:Room j X.A)(hk:k+1<=j)(hg:Gl X x)(ha:PA X.nox (e::es) t)
  (hdb:(x==("__debug__":Str))=false:=by decide)(he:cD (e::es) X.env=(false,eval e X.env)::cD es X.env:=by rfl)(hpl:(backTo pos (cD es X.env)).any (·.1)=false:=by rfl):
  Nj X (.Call (.Name x p) (e::es) [] pos) (λE=>KH C sp [] E t):=by
 obtain⟨f,a,F,M,b,m⟩:=D.ex
 exact DB M F hr hk hg m b ha hdb he hpl
end
section
variable{P:cg}{w:cC}{K:bN}{mg:Str->Option bQ}{base:Heap}
theorem BDef.okE{C:bV}{x q:Str}{st:Stmt}{N ps:List Str}{k:Nat}{sp:Sp}(F:BDef K mg C x q st)(S:Fi N ps (Ff st))(len:∀vs H Q E,sp vs H Q E->vs.length=ps.length)
  (hb:∀(kV doc pm:bQ) (an:Option bV) (cdv ct:bQ) (us:List bQ),us.length=ps.length->bindArgs (fD "__init__" q (Fw st) (Fp st) (Ff st) .none kV doc pm an cdv ct) ⟨us,[]⟩=pure (ps.zip us))
  (hbody:∀(f:bV) (cdv:bQ) (A:cO) (outer:List Env) (s:bS) (H:Hp) (vs:List V) (Q:VK) (E:XK),Room k (A.deeper (envOfC q (Ff st) s.heap.objs.size f cdv))->sp vs H Q E->
   ∃t,PSs (Jy P w K mg base N q (Ff st) f cdv A outer s H E) (Fp st) t/\t {nx:=λ_ H'=>Q .non H',rt:=Q} (start N vs) H):Bn P w K mg base (GM P w) (k+1) C x ps sp:=by
 obtain⟨f,h,F,M,m⟩:=F
 have c:=F.binds hb
 obtain⟨j,g,kV,doc,pm,an,cdv,ct,e,rfl,lk,b⟩:=F.ex
 exact⟨f,_,CC lk b S len λA outer s H vs Q E d a=>hbody f cdv A outer s H vs Q E d a,M,c,m⟩
end
theorem Ag:typeLookup (.type "zip") (b9 "__len__")=pure none:=by kernel_rfl
theorem yJ:typeLookup (.type "zip") (b9 "__length_hint__")=pure none:=by kernel_rfl
theorem xy{prog:cg}{w:cC}{A:cO}{R:Result->bS->Prop}{z TI TO i1 i2 d:bV}{fp1 fp2:List bV}{n:Nat}{P1 P2:Nat->bQ->Prop}{St1 St2:Nat->Heap->Prop}{res:bQ}{J:Nat->List bV->bS->Prop}
  (D1:Draws prog w A.in1.in1 i1 fp1 n P1 St1)(D2:Draws prog w A.in1.in1 i2 fp2 n P2 St2)(ap:LZ z TI TO i1 i2 fp1 fp2)(hdz:d≠z)(hdTI:d≠TI)(hdTO:d≠TO)(hd1:d≠i1)(hd2:d≠i2)(hdf1:d∉fp1)(hdf2:d∉fp2)(hn:n<=1000)
  (hJ:∀i bs (s:bS) (h':Heap) tk x y,J i bs s->P1 i x->P2 i y->IsPair h' s.heap.objs.size x y->(∀c o,c≠z->c≠TO->c≠i1->c≠i2->c≠d->s.heap.get? c=some o->h'.get? c=some o)->J (i+1) (bs++[s.heap.objs.size]) {s with heap:=h',toks:=tk})
  (hE:∀bs (s:bS) (h':Heap),J n bs s->(∀c o,c≠z->c≠i1->s.heap.get? c=some o->h'.get? c=some o)->J n bs {s with heap:=h'}):
  ∀(k i:Nat) (s:bS) (T:bV) (bs:List bV) (c:Nat),n-i=k->i<=n->NE s.heap z TI TO T->T≠z->T≠i1->T≠i2->(IsZip s.heap z TI TO .none\/T≠d)->IsPair s.heap TI (.ref i1) (.ref i2)->St1 i s.heap->St2 i s.heap->
   s.heap.get? d=some {cls:= .type "list",data:= .seq (bs.map b5).toArray c}->bs.length=i->J i bs s->
   (∀(s':bS) (bs':List bV) (c':Nat),J n bs' s'->s'.heap.get? d=some {cls:= .type "list",data:= .seq (bs'.map b5).toArray c'}->bs'.length=n->R (.ok (.ret res)) s')->
   codeAny (model prog w) A (Code.builtin "list.extend.loop" {pos:=[.ref d,.ref z,res],kw:=[]}) R s:=by
 intro k
 induction k with
 | zero=>
  intro i s T bs c hk hi L Z P U ab p I s2 O S W hR
  have e:i=n:=by omega
  subst e
  have ht:s.TypeIs (.ref z) "zip":=by
   rcases L with⟨q,_⟩|⟨Y,o,q,_⟩
   ·exact⟨_,q,rfl⟩
   ·exact⟨_,q,rfl⟩
  refine dS mj ?_
  rw[fw iG]
  unfold Builtin.«list.extend.loop»
  have V:wpAny (model prog w) A.in1 (pyNext (.ref z)) (λr s'=>r=none/\∃h',s'={s with heap:=h'}/\∀c o,c≠z->c≠i1->s.heap.get? c=some o->h'.get? c=some o) (λ_ _=>False) s:=by
   refine uu ht ?_
   rcases L with⟨q,a,b,M⟩|q
   ·refine B8 D1 ap.i1z ap.z1 q p M I λh' e g D=>⟨?_,rfl,h',rfl,g⟩
    obtain⟨o,D,G⟩:=D
    exact⟨e,o,rfl,D,G⟩
   ·refine Cz D1 ap.z1 q Z p I λh' e g D=>⟨?_,rfl,h',rfl,g⟩
    obtain⟨o,D,G⟩:=D
    exact⟨e,o,rfl,D,G⟩
  refine bM (eO V (λr s' q=>?_) (λ_ _ z=>z.elim))
  obtain⟨rfl,h',rfl,g⟩:=q
  dsimp only
  exact bO (hR _ bs c (hE bs s h' W g) (g d _ hdz hd1 O) S)
 | succ k ih=>
  intro i s T bs c hk hi L Z P U ab p I s2 O S W hR
  have H:i<n:=by omega
  have ht:s.TypeIs (.ref z) "zip":=by
   rcases L with⟨q,_⟩|⟨Y,o,q,_⟩
   ·exact⟨_,q,rfl⟩
   ·exact⟨_,q,rfl⟩
  have X:∀b o,s.heap.get? b=some o->b≠s.heap.objs.size:=λb o q=>cF (b6 q)
  refine dS mj ?_
  rw[fw iG]
  unfold Builtin.«list.extend.loop»
  have V:wpAny (model prog w) A.in1 (pyNext (.ref z)) (λr s'=>r=some (.ref s.heap.objs.size)/\∃h' tk C x y,s'={s with heap:=h',toks:=tk}/\P1 i x/\P2 i y/\F7 h' z TI TO C/\C≠z/\C≠i1/\C≠i2/\C≠d/\St1 (i+1) h'/\St2 (i+1) h'/\IsPair h' s.heap.objs.size x y/\
    ∀c o,c≠z->c≠TO->c≠i1->c≠i2->s.heap.get? c=some o->h'.get? c=some o) (λ_ _=>False) s:=by
   refine uu ht ?_
   rcases L with⟨q,a,b,M⟩|q
   ·refine eO (y2 D1 D2 ap q p M I s2 H H (E:=λ_ _=>False) (Q:=λv s'=>v = .ref s.heap.objs.size/\∃h' tk x y,s'={s with heap:=h',toks:=tk}/\P1 i x/\P2 i y/\IsZip h' z TI TO (rawInt s.heap.objs.size)/\St1 (i+1) h'/\St2 (i+1) h'/\IsPair h' s.heap.objs.size x y/\∀c o,c≠z->c≠TO->c≠i1->c≠i2->s.heap.get? c=some o->h'.get? c=some o) λx y h' tk u t h aj j l f af g=>⟨rfl,h',tk,x,y,rfl,u,t,h,j,l,f,g⟩) (λfin s' hq=>?_) (λ_ _ z=>z.elim)
    obtain⟨v,e,rfl,h',tk,x,y,rfl,u,t,h,j,l,f,g⟩:=hq
    obtain⟨o1,N⟩:=D1.live _ _ I
    obtain⟨o2,ai⟩:=D2.live _ _ s2
    exact⟨_,e,rfl,h',tk,s.heap.objs.size,x,y,rfl,u,t,⟨false,_,h,f⟩,Ne.symm (X _ _ q),Ne.symm (X _ _ N),Ne.symm (X _ _ ai),Ne.symm (X _ _ O),j,l,f,g⟩
   ·have ae:T≠d:=by
     rcases ab with z0|z0
     ·obtain⟨Y,o,N,_⟩:=q
      have z1:=N.symm.trans z0
      have:=congrArg (λo=>o.map rC) z1
      simp[rawInt]at this
     ·exact z0
    refine eO (B7 D1 D2 ap q Z P U p I s2 H H (E:=λ_ _=>False) (Q:=λv s'=>v = .ref s.heap.objs.size/\∃h' tk x y,s'={s with heap:=h',toks:=tk}/\P1 i x/\P2 i y/\F7 h' z TI TO T/\St1 (i+1) h'/\St2 (i+1) h'/\IsPair h' s.heap.objs.size x y/\∀c o,c≠z->c≠i1->c≠i2->s.heap.get? c=some o->h'.get? c=some o) λx y h' tk u t h j l f af g=>⟨rfl,h',tk,x,y,rfl,u,t,h,j,l,f,g⟩) (λfin s' hq=>?_) (λ_ _ z=>z.elim)
    obtain⟨v,e,rfl,h',tk,x,y,rfl,u,t,h,j,l,f,g⟩:=hq
    exact⟨_,e,rfl,h',tk,T,x,y,rfl,u,t,h,Z,P,U,ae,j,l,f,λc o c1 _ c3 c4 q=>g c o c1 c3 c4 q⟩
  refine bM (eO V (λr s' q=>?_) (λ_ _ z=>z.elim))
  obtain⟨rfl,h',tk,C,x,y,rfl,u,t,h,t1,t2,t3,t4,j,l,f,g⟩:=q
  dsimp only
  have aa:h'.get? d=some {cls:= .type "list",data:= .seq (bs.map b5).toArray c}:=g d _ hdz hdTO hd1 hd2 O
  have ah:s.heap.objs.size≠d:=Ne.symm (X _ _ O)
  refine bM (g8 (s:={s with heap:=h',toks:=tk}) aa rfl ?_ (by simp;exact cx (Fg (by omega))) (by simp;have:=Fg (n:=bs.length) (by omega);omega))
  refine bO ⟨jg iG _,?_⟩
  have up:=gF (show IsL h' d (bs.map b5).toArray c from aa) (λB=>B.push (.ref s.heap.objs.size))
  have m:∀b,b≠d->(h'.update d (dr λB=>B.push (.ref s.heap.objs.size))).get? b=h'.get? b:=λb hb=>ea h' _ (Ne.symm hb)
  have ac:IsPair (h'.update d (dr λB=>B.push (.ref s.heap.objs.size))) TI (.ref i1) (.ref i2):=(m TI (Ne.symm hdTI)).trans (g TI _ ap.TIz ap.TITO ap.TIi1 ap.TIi2 p)
  obtain⟨Y,oT,N,M⟩:=h
  obtain⟨c',ag⟩:∃c',(h'.update d (dr λB=>B.push (.ref s.heap.objs.size))).get? d=some {cls:= .type "list",data:= .seq ((bs++[s.heap.objs.size]).map b5).toArray c'}:=⟨_,up.trans (by rw[cb];simp only[List.push_toArray];rfl)⟩
  refine ih (i+1) {s with heap:=h'.update d (dr λB=>B.push (.ref s.heap.objs.size)),toks:=tk} C (bs++[s.heap.objs.size]) c' (by omega) (by omega) (.inr ⟨Y,oT,(m z (Ne.symm hdz)).trans N,(m C t4).trans M⟩) t1 t2 t3 (.inr t4) ac (D1.frame _ _ _ j λc G o q=>(m c (λe=>hdf1 (e▸G))).trans q) (D2.frame _ _ _ l λc G o q=>(m c (λe=>hdf2 (e▸G))).trans q) ?_ (by rw[cr,S];rfl) ?_ hR
  ·exact ag
  ·exact hJ i bs s _ tk x y W u t ((m _ ah).trans f) λc o c1 c2 c3 c4 c5 q=>(m c c5).trans (g c o c1 c2 c3 c4 q)
theorem xB{prog:cg}{w:cC}{A:cO}{E:bQ->bS->Prop}{s:bS}{z TI TO i1 i2 l1 l2:bV}{t1 t2:Bool}{xs ys:Array bQ}{Q:bQ->bS->Prop}{J:Nat->List bV->bS->Prop}(hh:A.handled=none)
  (ap:ZipB z TI TO i1 i2 l1 l2)(hz:IsZip s.heap z TI TO .none)(hTI:IsPair s.heap TI (.ref i1) (.ref i2))(hTO:IsPair s.heap TO .none .none)(s1:Itx s.heap t1 i1 l1 0)(s2:Itx s.heap t2 i2 l2 0)(h1:Sqx s.heap t1 l1 xs)(h2:Sqx s.heap t2 l2 ys)(hsz:xs.size=ys.size)(hn:xs.size<=1000)
  (hJ:∀i bs (s':bS) (h':Heap) tk x y,J i bs s'->xs[i]?=some x->ys[i]?=some y->IsPair h' s'.heap.objs.size x y->(∀c o,c≠z->c≠TO->c≠i1->c≠i2->c≠s.heap.objs.size->s'.heap.get? c=some o->h'.get? c=some o)->J (i+1) (bs++[s'.heap.objs.size]) {s' with heap:=h',toks:=tk})
  (hE:∀bs (s':bS) (h':Heap),J xs.size bs s'->(∀c o,c≠z->c≠i1->s'.heap.get? c=some o->h'.get? c=some o)->J xs.size bs {s' with heap:=h'})
  (hJ0:∀(h':Heap) (tk:Nat),(∀c o,c≠s.heap.objs.size->s.heap.get? c=some o->h'.get? c=some o)->s.heap.objs.size<h'.objs.size->J 0 [] {s with heap:=h',toks:=tk})
  (hQ:∀(s':bS) (bs:List bV) (c:Nat),J xs.size bs s'->s'.heap.get? s.heap.objs.size=some {cls:= .type "list",data:= .seq (bs.map b5).toArray c}->bs.length=xs.size->Q (.ref s.heap.objs.size) s'):
  wpAny (model prog w) A (call (.type "list") [.ref z]) Q E s:=by
 refine callType_codes F.called_list (F.typeCall_list_1 _) F.entry_list_init (code_list_new (.ref z) (Q₁:=λv s1=>v = .ref s.heap.objs.size/\s1=_) ⟨rfl,rfl⟩) λN L a=>?_
 obtain⟨rfl,rfl⟩:=a
 have f:(s.heap.push {cls:=cX "list",data:=ii #[]}).get? s.heap.objs.size=some {cls:=cX "list",data:=ii #[]}:=b4 _ rfl
 have d:∀b o,s.heap.get? b=some o->b≠s.heap.objs.size:=λb o q=>cF (b6 q)
 have D:∀b o,s.heap.get? b=some o->(s.heap.push {cls:=cX "list",data:=ii #[]}).get? b=some o:=λb o q=>bU _ q
 refine⟨⟨_,f,rfl⟩,F.args_list_init_2 _ _,?_⟩
 unfold Builtin.«list.__init__»
 dsimp only
 refine b7 rfl (b7 (by simp) ?_)
 refine bM (wpAny_listItems f rfl ?_)
 refine bM (g8 f rfl ?_ (by simp) (by simp))
 have r:=gF (show IsL _ s.heap.objs.size #[] 0 from f) (λ_=> #[])
 generalize hh1:(s.heap.push {cls:=cX "list",data:=ii #[]}).update s.heap.objs.size (dr λ_=> #[])=g1 at r
 have j:∀b o,s.heap.get? b=some o->g1.get? b=some o:=λb o q=>by rw[<-hh1];exact(ea _ _ (Ne.symm (d b o q))).trans (D b o q)
 refine bM (j4 ?_)
 unfold fA
 refine bM (gS (T:="zip") ⟨_,j _ _ hz,rfl⟩ ?_)
 refine b7 (by
  refine decide_eq_false ?_
  show ¬((s.heap.objs.size==z)||_||_)=true
  rw[beq_eq_false_iff_ne.mpr (Ne.symm (d _ _ hz))]
  decide) ?_
 refine bM (kK (j _ _ hz) ?_)
 refine bM (cR ?_)
 unfold h9
 refine bM (fH (T:="zip") ⟨_,j _ _ hz,rfl⟩ Ag ?_)
 dsimp only
 refine b7 rfl (b7 rfl ?_)
 refine bM (fH (T:="zip") ⟨_,j _ _ hz,rfl⟩ yJ ?_)
 refine bO ?_
 refine iu rfl (bM (iq ?_))
 unfold k8
 refine bM (bM (g8 (s:={s with heap:=g1}) r rfl ?_ (by simp) (by simp)))
 have t:=gF r (λx=>x.push bQ.none)
 generalize hh2:g1.update s.heap.objs.size (dr λx=>x.push bQ.none)=g2 at t
 have C:∀b o,s.heap.get? b=some o->g2.get? b=some o:=λb o q=>by rw[<-hh2];exact(ea _ _ (Ne.symm (d b o q))).trans (j b o q)
 refine g8 (s:={s with heap:=g2}) t rfl ?_ (by show 1<=sizeLine;decide) (by simp)
 have m:=gF t (λx=>x.pop)
 generalize hh3:g2.update s.heap.objs.size (dr λx=>x.pop)=g3 at m
 have g:∀b o,s.heap.get? b=some o->g3.get? b=some o:=λb o q=>by rw[<-hh3];exact(ea _ _ (Ne.symm (d b o q))).trans (C b o q)
 refine bO ⟨jg iG _,?_⟩
 have B:∃o,s.heap.get? i1=some o:=by obtain⟨vs,n,e|⟨o,e,_⟩⟩:=s1.get <;> exact⟨_,e⟩
 have u:∃o,s.heap.get? i2=some o:=by obtain⟨vs,n,e|⟨o,e,_⟩⟩:=s2.get <;> exact⟨_,e⟩
 obtain⟨O,p⟩:=B
 obtain⟨P,l⟩:=u
 have k:∀b,b<s.heap.objs.size->s.heap.objs.size≠b:=λb h=>Ne.symm (cF h)
 have I:Draws prog w A.in1.in1.in1 i2 [i2,l2] xs.size (λi v=>ys[i]?=some v) (λi h=>Itx h t2 i2 l2 i/\Sqx h t2 l2 ys):=by
  rw[hsz]
  exact uh (A:=A.in1.in1.in1) hh t2 i2 l2 ap.l2j ys
 refine xy (A:=A.in1) (J:=J) (uh (A:=A.in1.in1.in1) hh t1 i1 l1 ap.l1i xs) I ap.a (Ne.symm (d _ _ hz)) (Ne.symm (d _ _ hTI)) (Ne.symm (d _ _ hTO)) (Ne.symm (d _ _ p)) (Ne.symm (d _ _ l)) (by simp[Ne.symm (d _ _ p),k _ h1.lt]) (by simp[Ne.symm (d _ _ l),k _ h2.lt]) hn hJ hE
  xs.size 0 {s with heap:=g3} (s.heap.objs.size+1) [] _ (by simp) (cM _) (.inl ⟨g _ _ hz,_,_,g _ _ hTO⟩) ?_ ?_ ?_ (.inl (g _ _ hz)) (g _ _ hTI) ⟨s1.keep λo q=>g _ _ q,h1.keep λo q=>g _ _ q⟩ ⟨s2.keep λo q=>g _ _ q,h2.keep λo q=>g _ _ q⟩ m rfl (hJ0 g3 s.toks (λc o _ q=>g c o q) (b6 m)) λs' bs c G M H=>⟨rfl,hQ s' bs c G M H⟩
 ·exact Ne.symm (cF (cS (b6 hz)))
 ·exact Ne.symm (cF (cS (b6 p)))
 ·exact Ne.symm (cF (cS (b6 l)))
structure ZJ(xs ys:Array bQ)(s1:bS)(d N:Nat)(z TO i1 i2:bV)(i:Nat)(bs:List bV)(s':bS):Prop where
 at':∀(j:Nat) (t:bV),bs[j]?=some t->∃x y,xs[j]?=some x/\ys[j]?=some y/\IsPair s'.heap t x y
 keep:∀b o,s1.heap.get? b=some o->s'.heap.get? b=some o
 ge:∀t∈bs,s1.heap.objs.size<=t
 ne:∀t∈bs,t≠z/\t≠TO/\t≠i1/\t≠i2/\t≠d
 nd:bs.Nodup
 sz:i<xs.size->N<s'.heap.objs.size
 gens:s'.gens=s1.gens
 drawn:s'.drawn=s1.drawn
 os:s'.os=s1.os
 len:bs.length=i
def IM(H:Hp)(d:bV)(bs:List bV)(xs ys:List V):Hp:=λa=>if a=d then some (.lst (bs.map V.ref))else
 if a∈bs then some (.tup [xs.getD (bs.idxOf a) .non,ys.getD (bs.idxOf a) .non])else H a
def Lv(K:bN)(ta:TA):TE:=λσ H Q=>ta σ H λvs H1=>∃(t1 t2:Bool) (a b:bV) (xs ys:List V),vs=[.ref a,.ref b]/\KR K H1 t1 a xs/\KR K H1 t2 b ys/\xs.length=ys.length/\xs.length<=1000/\
 ∀(l:bV) (ts:List bV) (H':Hp),Same H1 H'->H1 l=none->H' l=some (.lst (ts.map V.ref))->ts.length=xs.length->(∀(i:Nat) (t:bV) (x y:V),ts[i]?=some t->xs[i]?=some x->ys[i]?=some y->H' t=some (.tup [x,y]))->Q (.ref l) H'
theorem Al{X:Cx}{a b:Expr}{ta:TA}{p p2 pos pos2:Pos}(hc:X.calm=true)(h1:Gl X "list")(m1:X.mg "list"=none)(h2:Gl X "zip")(m2:X.mg "zip"=none)(ha:PA X [a,b] ta)
  (hs:cD [a,b] X.env=[(false,eval a X.env),(false,eval b X.env)]:=by rfl)(hs2:cD [b] X.env=[(false,eval b X.env)]:=by rfl):PE X (.Call (.Name "list" p) [.Call (.Name "zip" p2) [a,b] [] pos2] [] pos) (Lv X.K ta):=by
 intro aa s σ H Q I h
 refine d9 (tY I h1 m1 Boot.list ?_)
 refine du ?_ rfl rfl
 show wpAny _ _ (spliced ((false,eval (.Call (.Name "zip" p2) [a,b] [] pos2) X.env)::[])) _ _ s
 refine eQ ?_
 refine rk (tY I h2 m2 lJ (du (Fv (ha pos2 aa s σ H _ I h) λus r ⟨vs,G,P,r1,q1⟩=>?_) (by rw[hs,hs2]) (by rw[hs2];rfl)))
 obtain⟨t1,t2,l1,l2,D,E,e,hx,hy,aE,aG,q⟩:=q1
 subst e
 obtain⟨u,v,rfl,ru,rv⟩:=Kb r1
 cases ru
 cases rv
 obtain⟨C,ak,p1⟩:=P.sqx hx
 obtain⟨U,ae,p2⟩:=P.sqx hy
 have hA:X.A.handled=none:=P.ok.hd hc
 have ao:D.length=C.length:=ak.length
 have aF:E.length=U.length:=ae.length
 refine yc p1 p2 λm hz av ap az aA F kk=>?_
 refine bO ?_
 refine xB (s:={r with heap:=m}) (J:=ZJ C.toArray U.toArray r m.objs.size m.objs.size (r.heap.objs.size+4) (r.heap.objs.size+3) r.heap.objs.size (r.heap.objs.size+1)) hA (y8 p1.lt p2.lt) hz av ap az aA (p1.keep λo q=>kk _ _ q) (p2.keep λo q=>kk _ _ q) (by simp;omega) (by simp;omega)
  (λi f T h2 tk x y J px py ac z=>?_) (λf T h2 J z=>?_) (λh2 tk z aq=>?_) (λT f c J hd ax=>?_)
 ·have aD:∀t∈f,t<T.heap.objs.size:=λt d=>by
   obtain⟨j,g⟩:=lN.mp d
   obtain⟨_,_,_,_,e⟩:=J.at' j t g
   exact b6 e
  have au:i<C.toArray.size:=(jQ.mp px).1
  have B:=J.sz au
  have am:T.heap.objs.size<h2.objs.size:=b6 ac
  have W:∀k,k<=5->T.heap.objs.size≠r.heap.objs.size+k:=λk hk=>gO (ec (by rw[F];exact Nat.add_le_add_left hk _) B)
  refine⟨λj t g=>?_,λb o e=>?_,λt d=>?_,λt d=>?_,?_,λ_=>qu B am,J.gens,J.drawn,J.os,by rw[cr,J.len];rfl⟩
  ·by_cases ag:j<f.length
   ·rw[gt ag]at g
    obtain⟨Z,Y,R,N,S⟩:=J.at' j t g
    have M:=J.ne t (cz g)
    exact⟨Z,Y,R,N,z t _ M.1 M.2.1 M.2.2.1 M.2.2.2.1 M.2.2.2.2 S⟩
   ·have ab:j=f.length:=by
     have:=(b8.mp g).1
     rw[cr,dB]at this
     omega
    rw[ab,d3 (bX _),gT]at g
    have e0:T.heap.objs.size=t:=Option.some.inj g
    rw[ab,J.len,<-e0]
    exact⟨x,y,px,py,ac⟩
  ·have hb:=b6 e
   have L:∀k,b≠r.heap.objs.size+k:=λk=>cF (ci hb (gf _ _))
   exact z b o (L 4) (L 3) (L 0) (L 1) (by show b≠m.objs.size;rw[F];exact L 5) (J.keep b o e)
  ·rcases cN.mp d with d|d
   ·exact J.ge t d
   ·rw[bY.mp d]
    exact cx (ec (by rw[F];exact gf _ _) B)
  ·rcases cN.mp d with d|d
   ·exact J.ne t d
   ·rw[bY.mp d]
    exact⟨W 4 (by decide),W 3 (by decide),W 0 (by decide),W 1 (by decide),gO B⟩
  ·refine fP.mpr ⟨J.nd,by simp,λa ha b hb e=>?_⟩
   rw[bY.mp hb]at e
   exact absurd e (cF (aD a ha))
 ·refine⟨λj t g=>?_,λb o e=>?_,J.ge,J.ne,J.nd,λO=>absurd O (cJ _),J.gens,J.drawn,J.os,J.len⟩
  ·obtain⟨Z,Y,R,N,S⟩:=J.at' j t g
   have M:=J.ne t (cz g)
   exact⟨Z,Y,R,N,z t _ M.1 M.2.2.1 S⟩
  ·have hb:=b6 e
   have L:∀k,b≠r.heap.objs.size+k:=λk=>cF (ci hb (gf _ _))
   exact z b o (L 4) (L 0) (J.keep b o e)
 ·refine⟨λj t g=>by simp at g,λb o e=>z b o ?_ (kk b o e),(λt d=>nomatch d),(λt d=>nomatch d),.nil,(λ_=>aq),rfl,rfl,rfl,rfl⟩
  show b≠m.objs.size
  rw[F]
  exact cF (ci (b6 e) (gf _ _))
 ·obtain⟨ai,g2,aw,aB,aC⟩:=T
  have R:g2=r.gens:=J.gens
  have N:aw=r.drawn:=J.drawn
  have S:aC=r.os:=J.os
  subst R N S
  have al:r.heap.objs.size<=m.objs.size:=by rw[F];exact gf _ _
  have af:∀a,a<r.heap.objs.size->IM G m.objs.size f D E a=G a:=λa ha=>by
   unfold IM
   rw[if_neg (cF (ci ha al)),if_neg (λO=>absurd (ci ha (J.ge a O)) (cJ _))]
  have trk:∀a o,G a=some o->IM G m.objs.size f D E a=some o:=λa o e=>by rw[af a (P.hok.lt e)];exact e
  have an:f.length=C.length:=by rw[ax];simp
  have ar:m.objs.size∉f:=λO=>(J.ne _ O).2.2.2.2 rfl
  have tp:∀(i:Nat) (t:bV) (x y:V),f[i]?=some t->D[i]?=some x->E[i]?=some y->IM G m.objs.size f D E t=some (.tup [x,y]):=λi t x y d hx hy=>by
   have hm:=cz d
   have hi:i<f.length:=(b8.mp d).1
   have ei:f.idxOf t=i:=by
    have h3:=(b8.mp d).2
    rw[<-h3]
    exact J.nd.idxOf_getElem i hi
   unfold IM
   rw[if_neg (λ(O:t=m.objs.size)=>ar (by rw[<-O];exact hm)),if_pos hm,ei,bR,bR,hx,hy]
   rfl
  have vr:∀l:List bV,Vals (l.map V.ref) (l.map b5):=λl=>by
   induction l with
   | nil=>exact .nil
   | cons a l ih=>exact .cons rfl ih
  have ay:HOk X.prog X.w (IM G m.objs.size f D E) ai:=λa o e=>by
   by_cases c1:a=m.objs.size
   ·subst c1
    unfold IM at e
    rw[if_pos rfl]at e
    cases e
    exact⟨by rw[bP];exact cx (Fg (by omega)),_,c,vr f,hd⟩
   ·by_cases c2:a∈f
    ·obtain⟨j,g⟩:=lN.mp c2
     obtain⟨Z,Y,R,N,S⟩:=J.at' j a g
     have ag:j<f.length:=(b8.mp g).1
     have aj:D[j]?=some D[j]:=bT (by omega)
     have ah:E[j]?=some E[j]:=bT (by omega)
     rw[tp j a _ _ g aj ah]at e
     cases e
     obtain⟨u,hu,ru⟩:=ak.get aj
     obtain⟨v,hv,rv⟩:=ae.get ah
     have eu:u=Z:=by
      have:C[j]?=some Z:=by simpa using R
      rw[hu]at this
      exact Option.some.inj this
     have ev:v=Y:=by
      have:U[j]?=some Y:=by simpa using N
      rw[hv]at this
      exact Option.some.inj this
     subst eu ev
     exact⟨by show 2<=sizeLine;decide,[u,v],.cons ru (.cons rv .nil),⟨_,S,rfl,_,rfl⟩⟩
    ·have e':G a=some o:=by
      unfold IM at e
      rw[if_neg c1,if_neg c2]at e
      exact e
     exact(P.hok a o e').stay (λb u _ q=>J.keep b u q) (λb q=>trk b _ q) λb D q=>trk b _ q
  have I2:Inv X aa σ (IM G m.objs.size f D E) {r with heap:=ai,toks:=aB}:=P.un ⟨λb o e n _ _=>J.keep b o e,λb o e n _ _=>⟨o.slots,J.keep b o e⟩,λb o e n _=>by rw[af b (b6 e)];exact n,λb o e _=>⟨o,J.keep b o e⟩,λb D e=>trk b _ e,λb o u e=>trk b _ e,λb ps e=>⟨#[],by rw[trk b _ e];simp⟩⟩ ay
  refine⟨.ref m.objs.size,_,I2,rfl,q m.objs.size f _ (λb o e=>trk b o e) (P.hok.fresh al) ?_ (by rw[an,ao]) tp⟩
  unfold IM
  rw[if_pos rfl]
structure Wd(z:Str):Prop where
 lo:1<=z.length
 hi:z.length<=12
 cs:∀c∈z.cps.toList,97<=c/\c<=122
structure Roll(ws:List Str):Prop where
 lo:1<=ws.length
 hi:ws.length<=6
 wd:∀w∈ws,Wd w
 nd:ws.Nodup
def FL(z:Str):Prop:=∀c∈z.cps.toList,c<128
def FE(z:Str):Bool:=decide (1<=z.length/\z.length<=12)&&z.cps.toList.all λc=>decide (97<=c)&&decide (c<=122)
def F2(ws:List Str):Bool:=decide (1<=ws.length/\ws.length<=6)&&ws.all FE&&decide ws.Nodup
theorem wH{z:Str}:FE z=true↔Wd z:=by
 unfold FE;rw[cH,decide_eq_true_iff,de];exact⟨λ⟨⟨a,b⟩,c⟩=>⟨a,b,λx d=>by simpa using c x d⟩,λw=>⟨⟨w.lo,w.hi⟩,λx d=>by have:=w.cs x d;simp[this]⟩⟩
theorem ur{ws:List Str}:F2 ws=true↔Roll ws:=by
 unfold F2;rw[cH,cH,decide_eq_true_iff,decide_eq_true_iff,de];exact⟨λ⟨⟨⟨a,b⟩,c⟩,d⟩=>⟨a,b,λx e=>wH.mp (c x e),d⟩,λr=>⟨⟨⟨r.lo,r.hi⟩,λx e=>wH.mpr (r.wd x e)⟩,r.nd⟩⟩
def JK:Sp:=λvs H Q _=>∃z:Str,vs=[.str z]/\z.length<=1000/\FL z/\∀H',Same H H'->Q (.bl (FE z)) H'
def JU(K:bN):Sp:=λvs H Q _=>∃(a:bV) (ws:List Str),vs=[.ref a]/\SqL K H a (ws.map V.str)/\ws.length<=60/\(∀w∈ws,w.length<=1000/\FL w)/\∀H',Same H H'->Q (.bl (F2 ws)) H'
theorem wX{z:Str}(h:¬(1<=z.length/\z.length<=12)):FE z=false:=by
 unfold FE;rw[decide_eq_false h,iU]
theorem zZ{z:Str}(h:1<=z.length/\z.length<=12):FE z=z.cps.toList.all λc=>decide (97<=c)&&decide (c<=122):=by
 unfold FE;rw[decide_eq_true h,pZ]
theorem Ak{ws:List Str}(h:¬(1<=ws.length/\ws.length<=6)):F2 ws=false:=by
 unfold F2;rw[decide_eq_false h,iU,iU]
theorem xT{ws:List Str}(h:ws.all FE=false):F2 ws=false:=by
 unfold F2;rw[h,jC,iU]
theorem Ae{ws:List Str}(h1:1<=ws.length/\ws.length<=6)(h:ws.all FE=true):F2 ws=decide (V.int (Ge ws ws.length:Nat)=V.int (ws.length:Nat)):=by
 unfold F2;rw[h,decide_eq_true h1,Bool.and_true,pZ,decide_eq_decide];constructor
 ·intro r;rw[wL r _ (bX _)]
 ·intro e;have a:Ge ws ws.length=ws.length:=by injection e with e1;omega
  refine da λz=>?_;have:=BE (ws:=ws) (i:=ws.length) (bX _) (by rw[cI];exact z);omega
theorem ui(t:Str):∀G:List Str,Jw (.str t) (G.map V.str)=decide (t∈G)
 | []=>by simp[Jw]
 | x::G=>by
  have a:=ui t G
  unfold Jw at a ⊢
  rw[dh,gB,a]
  by_cases h1:x=t
  ·subst h1
   simp[Lc]
  ·have:Lc (.str x) (.str t)=false:=beq_eq_false_iff_ne.mpr h1
   simp[Lc,h1,Ne.symm h1]
theorem ul(G:List Str):(G.map V.str).all GT=true:=by
 rw[de];intro v a;obtain⟨i,_,rfl⟩:=cP.mp a;rfl
theorem Reps.strs{K:bN}{H:Hp}:∀ns:List Str,Reps K H (ns.map V.str) (ns.map d4)
 | []=> .nil
 | n::ns=> .cons (.str n) (Reps.strs ns)
theorem wj:∀a b:List Str,gc (a.map d4) (b.map d4)=decide (a=b)
 | [],[]=>by simp[gc]
 | [],_::_=>by simp[gc]
 | _::_,[]=>by simp[gc]
 | x::a,y::b=>by
  simp only[dh,gc,eh,wj a b]
  by_cases h1:x=y <;> by_cases h2:a=b <;> simp[h1,h2]
theorem sE(a b:List Str):eh (.list (a.map d4)) (.list (b.map d4))=decide (a=b):=by
 rw[eh,wj]
theorem Dr{x:Str}(h:FL x)(n:Nat):GQ n (.str x)=true:=by
 have h2:eg (.str x)=true:=by
  unfold eg io;simp[iz,PyData.strOk];intro i a;have:=h x.cps[i] (by simp);omega
 cases n <;> simpa [GQ]using h2
theorem tG{l:List Str}(h:∀w∈l,FL w):GQ 1 (.list (l.map d4))=true:=by
 show(l.map d4).all (GQ 0)=true;rw[de];intro d a;obtain⟨i,b,rfl⟩:=cP.mp a;exact Dr (h i b) 0
theorem yf{t y:Str}(h:FL t):∀w∈Txt.split t y,FL w:=λw b c a=>h c (by
 rw[<-mY t y];exact(mem_join y c _).mpr (.inl ⟨w,b,a⟩))
structure BookAt(C:bV)(H:Hp)(x d:bV)(ps ts:List Str)(R:List (Str×V)):Prop where
 ex:∃(dx pp pt:bV) (op ot:Obj),H x=some (.ins C dx [("people",.ref pp),("things",.ref pt),("wishes_told",.ref d)])/\H pp=some (.frz op (.tup (ps.map V.str)))/\op.dict=none/\
  H pt=some (.frz ot (.tup (ts.map V.str)))/\ot.dict=none/\H d=some (.dK (wK R))
theorem BookAt.mono{C:bV}{H H':Hp}{x d:bV}{ps ts:List Str}{R:List (Str×V)}(e:Same H H')(h:BookAt C H x d ps ts R):BookAt C H' x d ps ts R:=by
 obtain⟨a,f,c,b,g,h1,h2,h3,h4,h5,h6⟩:=h.ex;exact⟨a,f,c,b,g,e _ _ h1,e _ _ h2,h3,e _ _ h4,h5,e _ _ h6⟩
def SameBut1(x:bV)(H H':Hp):Prop:=∀b o,b≠x->H b=some o->H' b=some o
theorem SqL.overI{K:bN}{H:Hp}{a p C dx:bV}{fs:List (Str×V)}{o:HO}{xs:List V}(h:SqL K H a xs)(hp:H p=some (.ins C dx fs)):SqL K (upd H p o) a xs:=by
 rcases h with(h|⟨u,h⟩)|h
 ·exact .inl (.inl (by rw[rQ (λz=>by rw[z,hp]at h;cases h)];exact h))
 ·exact .inl (.inr ⟨u,by rw[rQ (λz=>by rw[z,hp]at h;cases h)];exact h⟩)
 ·exact .inr h
theorem JJ{c A B:Prop}[Decidable c](hc:¬c)(h:A):if(!decide c)=true then A else B:=by
 rw[decide_eq_false hc];exact FG h
theorem SameBut1.of{x:bV}{H H':Hp}(h:Same H H'):SameBut1 x H H':=λb o _ e=>h b o e
theorem SameBut1.trans{x:bV}{H H1 H2:Hp}(h:SameBut1 x H H1)(h':SameBut1 x H1 H2):SameBut1 x H H2:=λb o a e=>h' b o a (h b o a e)
theorem SameBut1.upd{x:bV}{H:Hp}{o:HO}:SameBut1 x H (upd H x o):=λb u a e=>by rw[rQ a];exact e
def Kh(K:bN)(C:bV)(x:Xs):Sp:=λvs H Q E=>∃(s a b dx:bV) (ps ts:List Str),vs=[.ref s,.ref a,.ref b]/\H s=some (.ins C dx [])/\SqL K H a (ps.map V.str)/\SqL K H b (ts.map V.str)/\ps.length<=60/\ts.length<=60/\
 (∀w∈ps,w.length<=1000/\FL w)/\(∀w∈ts,w.length<=1000/\FL w)/\(¬(Roll ps/\Roll ts/\ps.length=ts.length)->∀H',Same H H'->E (.ref x.NoRoll) none H')/\
 (Roll ps->Roll ts->ps.length=ts.length->∀d H',SameBut1 s H H'->H d=none->BookAt C H' s d ps ts []->Q .non H')
def Jp(C:bV)(x:Xs):Sp:=λvs H Q E=>∃(s d:bV) (ps ts:List Str) (R:List (Str×V)) (p:Str),vs=[.ref s,.str p]/\BookAt C H s d ps ts R/\(p∉ps->E (.ref x.NoPerson) none H)/\(p∈ps->Q .non H)
def HH(C:bV):Sp:=λvs H Q _=>∃(s d:bV) (ps ts:List Str) (R:List (Str×V)),vs=[.ref s]/\BookAt C H s d ps ts R/\ps.length<=60/\
 ∀l H',Same H H'->H l=none->H' l=some (.lst ((ps.filter λp=>!(Ft R p).isSome).map V.str))->Q (.ref l) H'
def wordsOf(t:Str):List Str:=Txt.split t " "
def Hd(ts ws:List Str):List Int:=ws.map λw=>(ts.idxOf w:Int)
def Lg(K:bN)(C:bV)(x:Xs):Sp:=λvs H Q E=>∃(s d:bV) (ps ts:List Str) (R:List (Str×V)) (p t:Str),vs=[.ref s,.str p,.str t]/\BookAt C H s d ps ts R/\ts.length<=60/\(∀w∈ts,FL w)/\t.length<=500/\FL t/\(wordsOf t).length<64/\R.length<1000/\
 (p∉ps->∀H',Same H H'->E (.ref x.NoPerson) none H')/\(p∈ps->¬(wordsOf t).Perm ts->∀H',Same H H'->E (.ref x.NoWishes) none H')/\
 (p∈ps->(wordsOf t).Perm ts->∀r H',SameBut1 d H H'->H r=none->H' r=some (.tup ((Hd ts (wordsOf t)).map V.int))->BookAt C H' s d ps ts (IC R p (.ref r))->Q .non H')
def TabBy(n:Nat)(W:List (List Int))(way:Str)(Z:List (List Int))(T:Int):Prop:=
 (way="eaten"/\∃N,EM.Stops W n N/\Z=FN W n N/\T=(EM.st W n N).D)\/(way="turns"/\Z=Im n (GN n W)/\T=TM.fct n)
theorem TabBy.tb{n:Nat}{W:List (List Int)}{way:Str}{Z:List (List Int)}{T:Int}(hw:GI n W)(h:TabBy n W way Z T):K9 n T Z:=by
 rcases h with⟨_,N,a,rfl,rfl⟩|⟨_,rfl,rfl⟩
 ·exact EO ⟨hw.lo,hw.hi,hw.len,hw.pm⟩ a
 ·exact D6 hw
def Kc(K:bN)(H:Hp)(R:List (Str×V))(ps:List Str)(W:List (List Int)):Prop:=cT (λp row=>∃v,Ft R p=some v/\IsR K H v row) ps W
def HN(K:bN)(C:bV)(x:Xs):Sp:=λvs H Q E=>∃(s d:bV) (ps ts:List Str) (R:List (Str×V)) (way:Str),vs=[.ref s,.str way]/\BookAt C H s d ps ts R/\ps.length<=60/\
 ((∃p∈ps,Ft R p=none)->∀H',Same H H'->E (.ref x.Unready) none H')/\
 ((∀p∈ps,Ft R p≠none)->∃W,Kc K H R ps W/\GI ps.length W/\(way≠"eaten"->way≠"turns"->∀H',Same H H'->E (.ref x.NoWay) none H')/\
  ∀Z T q us H',TabBy ps.length W way Z T->Same H H'->H q=none->H' q=some (.lst us)->cT (RwFT K H' T) us Z->Q (.ref q) H')
theorem xz{R:List (Str×V)}{ps:List Str}:(ps.filter λp=>!(Ft R p).isSome)=[]↔∀p∈ps,Ft R p≠none:=by
 rw[List.filter_eq_nil_iff];refine forall_congr' λp=>forall_congr' λ_=>?_
 cases Ft R p <;> simp
def HK(ts:List Str)(row z:List Int):List (Str×Int):=(row.filter λt=>decide (EM.at0 z t≠0)).map λt=>(ts.getD t.toNat fu,EM.at0 z t)
def IsShr(K:bN)(H:Hp)(T:Int)(v:V)(x:Str×Int):Prop:=∃a g,v = .ref a/\SqT K H a [.str x.1,.ref g]/\IsF K H (.ref g) (FQ.red x.2 T)
theorem IsShr.mono{K:bN}{H H':Hp}{T:Int}{v:V}{x:Str×Int}(e:Same H H')(h:IsShr K H T v x):IsShr K H' T v x:=by
 obtain⟨a,g,rfl,h1,h2⟩:=h;exact⟨a,g,rfl,e.tup h1,h2.mono e⟩
def Iu(K:bN)(C:bV)(x:Xs):Sp:=λvs H Q E=>∃(s d:bV) (ps ts:List Str) (R:List (Str×V)) (p way:Str),vs=[.ref s,.str p,.str way]/\BookAt C H s d ps ts R/\ps.length<=60/\ts.length=ps.length/\
 (p∉ps->∀H',Same H H'->E (.ref x.NoPerson) none H')/\(p∈ps->(∃p∈ps,Ft R p=none)->∀H',Same H H'->E (.ref x.Unready) none H')/\
 (p∈ps->(∀p∈ps,Ft R p≠none)->∃W,Kc K H R ps W/\GI ps.length W/\(way≠"eaten"->way≠"turns"->∀H',Same H H'->E (.ref x.NoWay) none H')/\
  ∀Z T l xs H',TabBy ps.length W way Z T->Same H H'->H l=none->H' l=some (.lst xs)->cT (IsShr K H' T) xs (HK ts (W.getD (ps.idxOf p) []) (Z.getD (ps.idxOf p) []))->Q (.ref l) H')
theorem cw_lots(Z:List (List Int))(T:Int)(k:Nat):∀i,i<=k->cw (HM.lotsL Z T k) i=HM.sm i λj=>(HM.lotAt Z T j).1
 | 0,_=>rfl
 | i+1,hi=>by
  have e:(HM.lotsL Z T k)[i]?=some (HM.lotAt Z T i):=by
   unfold HM.lotsL
   rw[bZ,dy (show i<k by omega)]
   rfl
  rw[cw_succ e,cw_lots Z T k i (by omega)]
  rfl
theorem TabBy.le{n:Nat}{W:List (List Int)}{way:Str}{Z:List (List Int)}{T:Int}(hw:GI n W)(h:TabBy n W way Z T):T<=262144:=by
 rcases h with⟨_,N,b,rfl,rfl⟩|⟨_,rfl,rfl⟩
 ·have a:EM.Ws n W:=⟨hw.lo,hw.hi,hw.len,hw.pm⟩;exact EM.D_le (EM.st_ok a N b.up).1 a.n6
 ·have h:=zv hw.hi;omega
theorem DR{n k:Nat}{T:Int}{Z:List (List Int)}(tb:K9 n T Z)(hT:T<=262144)(hf:HM.Fin Z T k):LotsOk n (HM.lotsL Z T k) T:=by
 have I:=HM.it_ok tb.reg tb.t0 tb.lo k hf.2;have b:(HM.lotsL Z T k).length=k:=by unfold HM.lotsL;rw[bP,eJ]
 have c:∀l∈HM.lotsL Z T k,∃j,j<k/\l=HM.lotAt Z T j:=λl h=>by
  unfold HM.lotsL at h;obtain⟨j,a,rfl⟩:=cP.mp h;exact⟨j,dq.mp a,rfl⟩
 refine⟨?_,λl h=>?_,λl h=>?_,?_,?_,λl h=>?_⟩
 ·rw[b,cw_lots Z T k k (bX _),I.wts,hf.1];omega
 ·obtain⟨j,a,rfl⟩:=c l h;exact(I.lots j a).w1
 ·obtain⟨j,a,rfl⟩:=c l h;have h1:=(I.lots j a).wR;have h2:=(HM.it_ok tb.reg tb.t0 tb.lo j λi d=>hf.2 i (by omega)).rT;show HM.wOf (HM.it Z T j).1<=_;omega
 ·rw[b]
  cases k with
  | zero=>
   have:T=0:=hf.1;have:=tb.t0;omega
  | succ k=>omega
 ·rw[b];have h1:=I.last hf.1;have h2:=HM.pn_le tb.hi Z;omega
 ·obtain⟨j,a,rfl⟩:=c l h;exact(I.lots j a).pm.len
def N8(K:bN)(H:Hp)(v:V)(x:Str×Str):Prop:=∃a,v = .ref a/\SqT K H a [.str x.1,.str x.2]
def Fz(ts:List Str)(d:List Int):List Str:=d.map λt=>ts.getD t.toNat fu
def J8(K:bN)(C:bV)(x:Xs):Sp:=λvs H Q E=>∃(s d m:bV) (ps ts:List Str) (R:List (Str×V)) (way:Str) (num:Int×Int),vs=[.ref s,.str way,.ref m]/\BookAt C H s d ps ts R/\ps.length<=60/\ts.length=ps.length/\IsF K H (.ref m) num/\Sz 2000 num/\0<num.2/\
 ((∃p∈ps,Ft R p=none)->∀H',Same H H'->E (.ref x.Unready) none H')/\
 ((∀p∈ps,Ft R p≠none)->∃W,Kc K H R ps W/\GI ps.length W/\(way≠"eaten"->way≠"turns"->∀H',Same H H'->E (.ref x.NoWay) none H')/\
  (way="eaten"\/way="turns"->Gm num->∀H',Same H H'->E (.ref x.NoPick) none H')/\
  (¬Gm num->∀Z T k i l xs H',TabBy ps.length W way Z T->HM.Fin Z T k->Mf (HM.lotsL Z T k) T num i->Same H H'->H l=none->H' l=some (.lst xs)->cT (N8 K H') xs (ps.zip (Fz ts ((HM.lotsL Z T k).getD i (0,[])).2))->Q (.ref l) H'))
theorem TabBy.way{n:Nat}{W:List (List Int)}{way:Str}{Z:List (List Int)}{T:Int}(h:TabBy n W way Z T):way="eaten"\/way="turns":=by
 rcases h with⟨h,_⟩|⟨h,_⟩
 ·exact .inl h
 ·exact .inr h
def Ltr(z:Str):Prop:=∀c∈z.cps.toList,97<=c/\c<=122
def Lr:Str:="abcdefghijklmnopqrstuvwxyz"
theorem Ed:Lr.cps.toList=(cp 26).map λi=>97+i:=by decide +kernel
theorem Dk{i:Int}(h0:0<=i)(h1:i<26):HU Lr.cps.toList i=some (97+i.toNat):=by
 refine tJ h0 ?_;rw[Ed,bZ,dy (by omega)];rfl
theorem sG(a b:Str):(a++b).cps.toList=a.cps.toList++b.cps.toList:=by
 show(a.cps++b.cps).toList=_;simp
theorem sZ(a:Str):a.length=a.cps.toList.length:=by simp[jB]
theorem sH(a b:Str):(a++b).length=a.length+b.length:=by rw[sZ,sZ,sZ,sG,cr]
theorem Ltr.app{a b:Str}(h1:Ltr a)(h2:Ltr b):Ltr (a++b):=λc d=>by
 rw[sG]at d;rcases cN.mp d with h|h
 ·exact h1 c h
 ·exact h2 c h
theorem Ltr.one{n:Nat}(h:n<26):Ltr ⟨#[97+n]⟩:=λc a=>by
 have:c=97+n:=by simpa using a
 omega
def Lj:Sp:=λvs H Q _=>∃(c:Int) (n:Nat),vs=[.int c,.int n]/\n<=60/\∀z:Str,z.length=n->Ltr z->Q (.str z) H
theorem CL{i:Nat}(h:i<26):qM Lr ⟨#[97+i]⟩=(i:Int):=by
 have:∀i,i<26->qM Lr ⟨#[97+i]⟩=(i:Int):=by decide +kernel
 exact this i h
def F3(b:List Nat)(p sz k:Nat):List Nat:=b.take p++([97+(b.getD p 97-97+3*k)%26]++(b.drop (p+1)).take (sz-(p+1)))
def JW:Sp:=λvs H Q _=>∃(b:Str) (p sz k:Nat),vs=[.str b,.int p,.int sz,.int k]/\b.length=12/\Ltr b/\p<sz/\sz<=12/\k<=60/\Q (.str ⟨(F3 b.cps.toList p sz k).toArray⟩) H
theorem vC{b:Str}{p:Nat}(h:p<=b.cps.toList.length):gd b none (some (p:Int))=⟨(b.cps.toList.take p).toArray⟩:=by
 rw[eq_of_beq (slice_closes_to (x:=b) (j:=(p:Int)) ⟨by omega,by omega⟩)];rw[show((p:Int)-0).toNat=p by omega,show rz 0=0 from rfl,o4]
theorem A1{b:Str}{i j:Nat}(h1:i<=j)(h2:j<=b.cps.toList.length):gd b (some (i:Int)) (some (j:Int))=⟨((b.cps.toList.drop i).take (j-i)).toArray⟩:=by
 rw[eq_of_beq (slice_closes (x:=b) (i:=(i:Int)) (j:=(j:Int)) ⟨by omega,by omega,by omega⟩)];rw[show((j:Int)-(i:Int)).toNat=j-i by omega,show(i:Int).toNat=i by omega]
theorem ue(l:List Nat):(⟨l.toArray⟩:Str).length=l.length:=by rw[sZ]
theorem yq{b:List Nat}{p sz k:Nat}(hb:b.length=12)(hp:p<sz)(hs:sz<=12):(F3 b p sz k).length=sz:=by
 unfold F3;rw[cr,cr,cf,cf,dP,dB,hb];omega
theorem CK{b:List Nat}{p sz k:Nat}(hb:b.length=12)(hp:p<12):(F3 b p sz k)[p]?=some (97+(b.getD p 97-97+3*k)%26):=by
 unfold F3;have a:(b.take p).length=p:=by rw[cf,hb];omega
 rw[d3 (by omega),a,gT];rfl
theorem A6{b:List Nat}{p sz k k':Nat}(hb:b.length=12)(hp:p<12)(hk:k<6)(hk':k'<6)(h:F3 b p sz k=F3 b p sz k'):k=k':=by
 have e:=congrArg (λl:List Nat=>l[p]?) h;simp only[CK hb hp]at e;have:=Option.some.inj e;omega
theorem Bl{b:List Nat}{p sz k:Nat}(hb:∀c∈b,97<=c/\c<=122):∀c∈F3 b p sz k,97<=c/\c<=122:=λc a=>by
 unfold F3 at a;rcases cN.mp a with h|h
 ·exact hb c (dO h)
 ·rcases cN.mp h with h|h
  ·rw[bY.mp h];omega
  ·exact hb c (fO (dO h))
theorem AB{n:Nat}(h1:1<=n)(h6:n<=6){f:Nat->Str}(hw:∀k,k<n->Wd (f k))(hi:∀k k',k<n->k'<n->f k=f k'->k=k'):Roll ((cp n).map f):=by
 refine⟨by simpa using h1,by simpa using h6,λw h=>?_,?_⟩
 ·obtain⟨k,hk,rfl⟩:=cP.mp h;exact hw k (dq.mp hk)
 ·refine iX.mpr (p7 (λ {i j} b a c e=>c ?_) n9);exact hi i j (dq.mp b) (dq.mp a) e
theorem yW{b:Str}{p sz n:Nat}(hb:b.length=12)(hl:Ltr b)(hp:p<sz)(hs:sz<=12)(h1:1<=n)(h6:n<=6):Roll ((cp n).map λk=>(⟨(F3 b.cps.toList p sz k).toArray⟩:Str)):=by
 have a:b.cps.toList.length=12:=by rw[<-sZ];exact hb
 refine AB h1 h6 (λk _=>⟨?_,?_,λc d=>Bl hl c (by simpa using d)⟩) λk g hk f e=>?_
 ·rw[ue,yq a hp hs];omega
 ·rw[ue,yq a hp hs];exact hs
 ·refine A6 (sz:=sz) a (show p<12 by omega) (by omega) (by omega) ?_;have:=congrArg (λz:Str=>z.cps.toList) e;simpa using this
theorem zH{b:Str}{n:Nat}(hb:b.length=12)(hl:Ltr b)(h1:1<=n)(h6:n<=6):Roll ((cp n).map λk=>(⟨(b.cps.toList.take (k+1)).toArray⟩:Str)):=by
 have a:b.cps.toList.length=12:=by rw[<-sZ];exact hb
 refine AB h1 h6 (λk hk=>⟨?_,?_,λc d=>hl c (dO (by simpa using d))⟩) λk g hk f e=>?_
 ·rw[ue,cf,a];omega
 ·rw[ue,cf,a];omega
 ·have:=congrArg jB e;simp only[ue,cf,a]at this;omega
def Jd(K:bN):Sp:=λvs H Q _=>∃(a:bV) (ns:List Int) (at' n:Nat),vs=[.ref a,.int at',.int n]/\SqL K H a (ns.map V.int)/\1<=n/\n<=6/\∀p ws H',Same H H'->H p=none->H' p=some (.lst (ws.map V.str))->Roll ws->ws.length=n->Q (.ref p) H'
def Ms(x:Xs)(C:bV)(nm:Str):Prop:=(C=x.NoWishes/\nm="NoWishes")\/(C=x.NoPick/\nm="NoPick")\/(C=x.NoRoll/\nm="NoRoll")\/(C=x.NoPerson/\nm="NoPerson")\/(C=x.Unready/\nm="Unready")\/(C=x.NoWay/\nm="NoWay")
def Hx(x:Xs):Sp:=λvs H Q _=>∃(a C:bV) (nm:Str),vs=[.ref a]/\H a=some (Kg C a)/\Ms x C nm/\∀p H',Same H H'->H p=none->H' p=some (.lst [.str nm])->Q (.ref p) H'
theorem Aq{b:Str}{p sz n:Nat}{c:Prop}[Decidable c](hb:b.length=12)(hl:Ltr b)(hp:p<sz)(hs:sz<=12)(h1:1<=n)(h6:n<=6):Roll ((cp n).map λk=>if c then(⟨(b.cps.toList.take (k+1)).toArray⟩:Str)else⟨(F3 b.cps.toList p sz k).toArray⟩):=by
 by_cases h:c
 ·simp only[if_pos h];exact zH hb hl h1 h6
 ·simp only[if_neg h];exact yW hb hl hp hs h1 h6
theorem Ltr.asc{z:Str}(h:Ltr z):FL z:=λc a=>by have:=h c a;omega
theorem Wd.asc{z:Str}(h:Wd z):FL z:=λc a=>by have:=h.cs c a;omega
def Gk(ws us:List Str):Prop:=us.length<=60/\(∀w∈us,w.length<=1000/\FL w)/\¬(Roll us/\us.length=ws.length)
def IY:Sp:=λvs H Q _=>∃(a:bV) (ws:List Str) (c:Int),vs=[.ref a,.int c]/\H a=some (.lst (ws.map V.str))/\Roll ws/\∀p us H',Same H H'->H' p=some (.lst (us.map V.str))->Gk ws us->Q (.ref p) H'
theorem Roll.okw{ws:List Str}(h:Roll ws):∀w∈ws,w.length<=1000/\FL w:=λw a=>⟨by have:=(h.wd w a).hi;omega,(h.wd w a).asc⟩
theorem DD{ws:List Str}:Gk ws []:=⟨by decide,(λw h=>nomatch h),λh=>by have:=h.1.lo;simp at this⟩
theorem uE{z:Str}(h:(z.cps.toList.all λc=>decide (c<128))=true):FL z:=λc a=>by simpa using de.mp h c a
def LC:List Str:=["a","b","c","d","e","f","g"]
theorem BN{ws:List Str}:Gk ws LC:=by
 refine⟨by decide,λw h=>?_,λh=>by have:=h.1.hi;revert this;decide⟩;have e:(LC.all λw=>decide (w.length<=1000)&&w.cps.toList.all λc=>decide (c<128))=true:=by decide +kernel
 have:=de.mp e w h;rw[cH,decide_eq_true_iff]at this;exact⟨this.1,uE this.2⟩
theorem CQ{ws:List Str}(h:Roll ws):Gk ws (ws.drop 1):=by
 have h1:=h.lo;have h6:=h.hi;refine⟨by rw[dP];omega,λw a=>h.okw w (fO a),λz=>?_⟩;have:=z.2;rw[dP]at this;omega
theorem Cm{ws:List Str}{o:Str}(h:Roll ws)(ho:o.length<=1000/\FL o):Gk ws (ws++[o]):=by
 have h6:=h.hi;refine⟨by rw[cr,dB];omega,λw a=>?_,λz=>?_⟩
 ·rcases cN.mp a with h1|h1
  ·exact h.okw w h1
  ·rw[bY.mp h1];exact ho
 ·have:=z.2;rw[cr,dB]at this;omega
theorem AU{ws:List Str}{o:Str}{k:Nat}(h:Roll ws)(ho:o.length<=1000/\FL o)(hb:¬Roll (ws.take k++[o]++ws.drop (k+1))):Gk ws (ws.take k++[o]++ws.drop (k+1)):=by
 have h6:=h.hi;refine⟨?_,λw a=>?_,λz=>hb z.1⟩
 ·rw[cr,cr,cf,dP,dB];omega
 ·rcases cN.mp a with h1|h1
  ·rcases cN.mp h1 with h1|h1
   ·exact h.okw w (dO h1)
   ·rw[bY.mp h1];exact ho
  ·exact h.okw w (fO h1)
theorem xx{ws:List Str}{o:Str}{k:Nat}(h:Roll ws)(ho:o.length<=1000/\FL o)(hw:¬Wd o):Gk ws (ws.take k++[o]++ws.drop (k+1)):=
 AU h ho λz=>hw (z.wd o (gw _ (dc _ (bY.mpr rfl))))
theorem AD{ws:List Str}{v:Str}{k j:Nat}(h:Roll ws)(hk:k<ws.length)(hj:ws[j]?=some v)(hne:j≠k):Gk ws (ws.take k++[v]++ws.drop (k+1)):=by
 refine AU h (h.okw v (cz hj)) λz=>?_;have e:ws.take k++[v]++ws.drop (k+1)=ws.set k v:=by
  rw[List.set_eq_take_append_cons_drop,if_pos hk,nF];rfl
 rw[e]at z;have g:=z.nd;have a:j<ws.length:=(b8.mp hj).1;have d:(ws.set k v)[j]'(by rw[fU];exact a)=v:=by
  rw[List.getElem_set_ne (Ne.symm hne)];exact(b8.mp hj).2
 have b:(ws.set k v)[k]'(by rw[fU];exact hk)=v:=List.getElem_set_self ..;have f:=jV.mp g;rcases Nat.lt_or_gt_of_ne hne with c|c
 ·exact f j k (by rw[fU];exact a) (by rw[fU];exact hk) c (by rw[d,b])
 ·exact f k j (by rw[fU];exact hk) (by rw[fU];exact a) c (by rw[d,b])
theorem zo(c:Array Nat)(x:Nat):∀(k:Nat) (acc:Array Nat),x∈((fC k c).foldl (· ++ ·) acc).toList->x∈acc.toList\/x∈c.toList
 | 0,acc,h=> .inl h
 | k+1,acc,h=>by
  rw[mh,List.foldl_cons]at h
  rcases zo c x k _ h with h1|h1
  ·rw[Array.toList_append]at h1
   exact cN.mp h1
  ·exact .inr h1
theorem Dz{z:Str}{n:Int}(h:FL z):FL (i7 z n):=λc a=>by
 unfold i7 at a;split at a
 ·exact nomatch (show c∈([]:List Nat)from a)
 ·split at a
  ·exact h c a
  ·rcases zo z.cps c _ _ a with h1|h1
   ·exact nomatch h1
   ·exact h c h1
theorem Bg{z:Str}(h:Wd z):(gd (i7 z 13) none (some 13)).length=13/\FL (gd (i7 z 13) none (some 13)):=by
 have f:((i7 z 13).length:Int)=(z.length:Int)*13:=by rw[len_mul];rfl
 have h1:=h.lo;have e:=vC (b:=i7 z 13) (p:=13) (by rw[<-sZ];omega);have a:gd (i7 z 13) none (some 13)=⟨((i7 z 13).cps.toList.take 13).toArray⟩:=e;rw[a];refine⟨?_,λc d=>Dz h.asc c (dO (by simpa using d))⟩;rw[ue,cf,<-sZ];omega
def FM:Str:=" !\"#$&'()*+,-./0123456789:;<=>?@ABCDEFGHIJKLMNOPQRSTUVWXYZ[\\]^_`{|}~"
theorem BB:∀c∈FM.cps.toList,c<128/\¬(97<=c/\c<=122):=by
 have e:(FM.cps.toList.all λc=>decide (c<128) && !(decide (97<=c)&&decide (c<=122)))=true:=by decide +kernel
 intro c a;have:=de.mp e c a;simp at this;omega
theorem uP:FM.length=68:=by decide +kernel
theorem Af{b:Str}{i:Nat}(h:i<=b.cps.toList.length):gd b (some (i:Int)) none=⟨(b.cps.toList.drop i).toArray⟩:=by
 rw[slice_from_eq (by omega) (by rw[sZ];omega) (rfl:((b.length:Nat):Int)=_)];refine wx ?_;show List.take _ _=List.drop _ _;rw[show(i:Int).toNat=i by omega,dz (by rw[dP,sZ];omega)]
theorem Cs{z:Str}{p s:Nat}(h:Wd z)(hs:s∈FM.cps.toList):((⟨(z.cps.toList.take p).toArray⟩++⟨#[s]⟩++⟨(z.cps.toList.drop (p+1)).toArray⟩:Str)).length<=1000/\FL (⟨(z.cps.toList.take p).toArray⟩++⟨#[s]⟩++⟨(z.cps.toList.drop (p+1)).toArray⟩:Str)/\¬Wd (⟨(z.cps.toList.take p).toArray⟩++⟨#[s]⟩++⟨(z.cps.toList.drop (p+1)).toArray⟩:Str):=by
 have a:=h.hi;rw[sZ]at a;have e:(⟨(z.cps.toList.take p).toArray⟩++⟨#[s]⟩++⟨(z.cps.toList.drop (p+1)).toArray⟩:Str).cps.toList=z.cps.toList.take p++[s]++z.cps.toList.drop (p+1):=by
  rw[sG,sG]
 have b:=BB s hs;refine⟨?_,λc d=>?_,λw=>?_⟩
 ·rw[sZ,e,cr,cr,cf,dP,dB];omega
 ·rw[e]at d;rcases cN.mp d with h1|h1
  ·rcases cN.mp h1 with h1|h1
   ·exact h.asc c (dO h1)
   ·rw[bY.mp h1];exact b.1
  ·exact h.asc c (fO h1)
 ·exact b.2 (w.cs s (by rw[e];exact gw _ (dc _ (bY.mpr rfl))))
theorem BP:¬Wd "":=λw=>by have:=w.lo;revert this;decide
theorem zq{α:Type}{xs:List α}{k:Nat}{v:α}(hk:k<xs.length)(h:xs[if k=0 then xs.length-1 else k-1]?=some v):HU xs ((k:Int)-1)=some v:=by
 unfold HU Lb;by_cases h0:k=0
 ·subst h0;rw[if_neg (by omega),if_pos (by omega)];rw[if_pos rfl]at h;show xs[_]?=_;rw[show(((0:Nat):Int)-1+xs.length).toNat=xs.length-1 by omega];exact h
 ·rw[if_neg h0]at h;rw[if_pos (by omega),if_pos (by omega)];show xs[_]?=_;rw[show((k:Int)-1).toNat=k-1 by omega];exact h
theorem BU{ws:List Str}{k:Nat}(h:k<=ws.length):Gx (ws.map V.str) none (some (k:Int))=(ws.take k).map V.str:=by
 rw[EW (by rw[bP];exact h),kf]
theorem vV{ws:List Str}{k:Nat}(h:k<=ws.length):Gx (ws.map V.str) (some (k:Int)) none=(ws.drop k).map V.str:=by
 rw[Cf (by rw[bP];exact h),kg]
end L2
namespace L2
theorem Nc{p:Prop}[Decidable p]{X B:Prop}(hB:B)(h:p->B->X):if decide p=true then X else B:=by
 by_cases c:p
 ·rw[decide_eq_true c];exact FG (h c hB)
 ·rw[decide_eq_false c];exact Fu hB
end L2
namespace L2
open PySem PySem.Spec PyProof.Rows
def J0:Sp:=λvs H Q _=>∃(a b:bV) (ps ts:List Str) (c:Int),vs=[.ref a,.ref b,.int c]/\H a=some (.lst (ps.map V.str))/\H b=some (.lst (ts.map V.str))/\Roll ps/\Roll ts/\ps.length=ts.length/\∀H',Same H H'->Q (.bl true) H'
def IJ(K:bN):Sp:=λvs H Q _=>∃(a m:bV) (ps:List Str) (ns:List Int),vs=[.ref a,.ref m]/\SqL K H a (ps.map V.str)/\Roll ps/\SqL K H m (ns.map V.int)/\ns.length=8/\∀p H',Same H H'->p.length<=100->FL p->Q (.str p) H'
theorem yo{ns:List Int}{i:Nat}(h:i<ns.length):HU (ns.map V.int) (i:Int)=some (.int (ns.getD i 0)):=sM (tV h)
theorem xE{z:Str}(h:1<=z.length):gd z none (some (-1))=⟨(z.cps.toList.take (z.length-1)).toArray⟩:=by
 rw[eq_of_beq (slice_closes_to_neg (x:=z) (j:= -1) (k:= -1+z.length) (by decide) (by omega) rfl)];rw[show(-1+(z.length:Int)-0).toNat=z.length-1 by omega,show rz 0=0 from rfl,o4]
theorem yG{a b:Str}(h1:FL a)(h2:FL b):FL (a++b):=λc d=>by
 rw[sG]at d;rcases cN.mp d with h|h
 ·exact h1 c h
 ·exact h2 c h
theorem D9:(" ":Str)=⟨#[32]⟩:=by decide +kernel
def Mu(w:Str):Prop:=32∉w.cps.toList
theorem y3:∀{a b r s:List Nat},32∉a->32∉b->a++32::r=b++32::s->a=b/\r=s
 | [],[],r,s,_,_,h=>by simpa using h
 | [],y::b,r,s,_,hb,h=>by
  have:32=y:=(List.cons.inj h).1
  exact absurd (this▸b0) hb
 | x::a,[],r,s,ha,_,h=>by
  have:x=32:=(List.cons.inj h).1
  exact absurd (this▸b0) ha
 | x::a,y::b,r,s,ha,hb,h=>by
  have h1:=List.cons.inj h
  have c:=y3 (λz=>ha (b3 _ z)) (λz=>hb (b3 _ z)) h1.2
  exact⟨by rw[h1.1,c.1],c.2⟩
theorem KG(x y:Str)(r:List Str):(jR " " (x::y::r)).cps.toList=x.cps.toList++32::(jR " " (y::r)).cps.toList:=by
 show(x++" "++jR " " (y::r)).cps.toList=_;rw[sG,sG,D9];simp
theorem zm:∀{a b:List Str},a≠[]->b≠[]->(∀w∈a,Mu w)->(∀w∈b,Mu w)->jR " " a=jR " " b->a=b
 | [],_,h,_,_,_,_=>absurd rfl h
 | _::_,[],_,h,_,_,_=>absurd rfl h
 | [x],[y],_,_,_,_,h=>by rw[show x=y from h]
 | [x],y::z::b,_,_,ha,_,h=>by
  have e:=congrArg (λs:Str=>s.cps.toList) h
  rw[KG]at e
  refine absurd ?_ (ha x b0)
  show 32∈(jR " " [x]).cps.toList
  rw[e]
  simp
 | x::z::a,[y],_,_,_,hb,h=>by
  have e:=congrArg (λs:Str=>s.cps.toList) h
  rw[KG]at e
  refine absurd ?_ (hb y b0)
  show 32∈(jR " " [y]).cps.toList
  rw[<-e]
  simp
 | x::u::a,y::v::b,_,_,ha,hb,h=>by
  have e:=congrArg (λs:Str=>s.cps.toList) h
  rw[KG,KG]at e
  have c:=y3 (ha x b0) (hb y b0) e
  have f:=zm (a:=u::a) (b:=v::b) (eX _ _) (eX _ _) (λw d=>ha w (b3 _ d)) (λw d=>hb w (b3 _ d)) (wx c.2)
  rw[f,wx c.1]
theorem Ar{ws:List Str}(h0:ws≠[])(h:∀w∈ws,Mu w):wordsOf (kP " " ws)=ws:=by
 unfold wordsOf;refine zm ?_ h0 ?_ h ?_
 ·have:=split_pos (kP " " ws) " ";intro z;rw[z]at this;exact absurd this (by decide)
 ·rw[D9];exact StrLaws.split_free _ 32
 ·rw[mY];exact lO " " ws
structure TxtOk(ws:List Str):Prop where
 len:ws.length<=7
 wd:∀w∈ws,w.length<=13
 cs:∀w∈ws,∀c∈w.cps.toList,c<128/\c≠32
theorem xb:∀{ws:List Str},(∀w∈ws,w.length<=13)->(ws.map (·.length)).sum<=13*ws.length
 | [],_=>bX _
 | x::ws,h=>by
  have b:=xb (ws:=ws) λw a=>h w (b3 _ a)
  have:=h x b0
  simp only[dh,eS,cZ]
  omega
theorem TxtOk.out{ws:List Str}(h:TxtOk ws):(kP " " ws).length<=500/\FL (kP " " ws)/\(wordsOf (kP " " ws)).length<64:=by
 have d:=h.len;have f:=xb h.wd;have e:kP " " ws=jR " " ws:=lO " " ws;refine⟨?_,?_,?_⟩
 ·have:=StrLaws.join_length_le " " ws;rw[show(" ":Str).length=1 by decide +kernel]at this;rw[e];omega
 ·rw[e];intro c a;rcases(mem_join " " c ws).mp a with⟨w,b,a⟩|⟨_,a⟩
  ·exact(h.cs w b c a).1
  ·rw[D9]at a;have:c=32:=by simpa using a
   omega
 ·by_cases h0:ws=[]
  ·subst h0;decide +kernel
  ·rw[Ar h0 λw b a=>(h.cs w b 32 a).2 rfl];omega
theorem TxtOk.sumk{ws:List Str}(h:TxtOk ws):(ws.map jB).sum+ws.length<=1048576:=by
 have b:=h.len;have a:(ws.map jB).sum<=13*ws.length:=xb h.wd;omega
def JB(K:bN):Sp:=λvs H Q _=>∃(a m:bV) (ts:List Str) (ns:List Int),vs=[.ref a,.ref m]/\SqL K H a (ts.map V.str)/\Roll ts/\SqL K H m (ns.map V.int)/\ns.length=8/\∀t H',Same H H'->t.length<=500->FL t->(wordsOf t).length<64->Q (.str t) H'
theorem zN{ts:List Str}{d:List Int}(h:∀t∈d,t.toNat<ts.length):∀w∈Fz ts d,w∈ts:=λw a=>by
 unfold Fz at a;obtain⟨t,b,rfl⟩:=cP.mp a;rw[bR,bT (h t b)];exact cm _
theorem AW{num:Int}{n:Nat}:∀t∈LM.perm num n,0<=t/\t.toNat<n:=λt a=>by
 have:=(LM.perm_succ_perm num n).mem_iff.mp a;obtain⟨i,b,rfl⟩:=cP.mp this;have:=dq.mp b;show 0<=(i:Int)/\(i:Int).toNat<n;omega
theorem C9{ts:List Str}{num:Int}(h:Roll ts):TxtOk (Fz ts (LM.perm num ts.length))/\(∀w∈Fz ts (LM.perm num ts.length),w∈ts)/\(Fz ts (LM.perm num ts.length)).length=ts.length:=by
 have b:=zN (ts:=ts) (d:=LM.perm num ts.length) λt f=>(AW t f).2;have e:(Fz ts (LM.perm num ts.length)).length=ts.length:=by unfold Fz;rw[bP,LM.perm_len]
 refine⟨⟨by rw[e];have:=h.hi;omega,λw a=>by have:=(h.wd w (b w a)).hi;omega,λw a c g=>?_⟩,b,e⟩;have:=(h.wd w (b w a)).cs c g;omega
theorem TxtOk.set{ws:List Str}{k:Nat}{o:Str}(h:TxtOk ws)(h1:o.length<=13)(h2:∀c∈o.cps.toList,c<128/\c≠32):TxtOk (ws.set k o):=by
 refine⟨by rw[fU];exact h.len,λw a=>?_,λw a=>?_⟩
 ·rcases jW a with z|z
  ·exact h.wd w z
  ·rw[z];exact h1
 ·rcases jW a with z|z
  ·exact h.cs w z
  ·rw[z];exact h2
theorem TxtOk.erase{ws:List Str}{k:Nat}(h:TxtOk ws):TxtOk (ws.eraseIdx k):=
 ⟨cG (kR ..) h.len,λw a=>h.wd w (kr a),λw a=>h.cs w (kr a)⟩
theorem TxtOk.more{ws:List Str}{o:Str}{k:Nat}(h:TxtOk ws)(h6:ws.length<=6)(h1:o.length<=13)(h2:∀c∈o.cps.toList,c<128/\c≠32):TxtOk (ws.take k++o::ws.drop k):=by
 have b:∀w∈ws.take k++o::ws.drop k,w∈ws\/w=o:=λw a=>by
  rcases cN.mp a with z|z
  ·exact .inl (dO z)
  ·rcases cj.mp z with z|z
   ·exact .inr z
   ·exact .inl (fO z)
 refine⟨?_,λw a=>?_,λw a=>?_⟩
 ·rw[cr,cZ,cf,dP];omega
 ·rcases b w a with z|z
  ·exact h.wd w z
  ·rw[z];exact h1
 ·rcases b w a with z|z
  ·exact h.cs w z
  ·rw[z];exact h2
theorem Dq{a b:Str}(h1:∀c∈a.cps.toList,c<128/\c≠32)(h2:∀c∈b.cps.toList,c<128/\c≠32):∀c∈(a++b).cps.toList,c<128/\c≠32:=λc d=>by
 rw[sG]at d;rcases cN.mp d with h|h
 ·exact h1 c h
 ·exact h2 c h
theorem A9{z:Str}(h:(z.cps.toList.all λc=>decide (c<128/\c≠32))=true):∀c∈z.cps.toList,c<128/\c≠32:=λc a=>of_decide_eq_true (de.mp h c a)
inductive Hg where
 | wish (p t:Str):Hg
 | shares (p way:Str):Hg
 | deal (way:Str) (num:Int×Int):Hg
def IsDeed(K:bN)(H:Hp)(v:V):Hg->Prop
 | .wish p t=>∃a,v = .ref a/\SqT K H a [.str "wish",.str p,.str t]/\t.length<=500/\FL t/\(wordsOf t).length<64
 | .shares p way=>∃a,v = .ref a/\SqT K H a [.str "shares",.str p,.str way]
 | .deal way num=>∃a g,v = .ref a/\SqT K H a [.str "deal",.str way,.ref g]/\SqT K H g [.int num.1,.int num.2]/\Sz 2000 num/\0<num.2
def Fy(ps ts lacks:List Str):Hg->List Str
 | .wish p t=>if p∈ps then(if(wordsOf t).Perm ts then[]else[b9 "NoWishes"])else[b9 "NoPerson"]
 | .shares p way=>if p∈ps then(if lacks=[]then(if way∈[b9 "eaten",b9 "turns"]then[]else[b9 "NoWay"])else[b9 "Unready"])else[b9 "NoPerson"]
 | .deal way num=>if lacks=[]then(if way∈[b9 "eaten",b9 "turns"]then(if 0<=num.1/\num.1<num.2 then[]else[b9 "NoPick"])else[b9 "NoWay"])else[b9 "Unready"]
def JT(K:bN):Sp:=λvs H Q _=>∃(a b m:bV) (ps ts:List Str) (ns:List Int),vs=[.ref a,.ref b,.ref m]/\SqL K H a (ps.map V.str)/\Roll ps/\SqL K H b (ts.map V.str)/\Roll ts/\SqL K H m (ns.map V.int)/\ns.length=8/\∀v D H',Same H H'->IsDeed K H' v D->Q v H'
def K1(K:bN):Sp:=λvs H Q _=>∃(a b l:bV) (v:V) (ps ts ls:List Str) (D:Hg),vs=[.ref a,.ref b,.ref l,v]/\SqL K H a (ps.map V.str)/\SqL K H b (ts.map V.str)/\ts.length<64/\(∀w∈ts,FL w)/\SqL K H l (ls.map V.str)/\(∀w∈ls,FL w)/\ls.length<=60/\IsDeed K H v D/\∀p H',Same H H'->H p=none->H' p=some (.lst ((Fy ps ts ls D).map V.str))->Q (.ref p) H'
def HP:List Str:=["eaten","turns","eaten","turns","eaten","Turns","","eaten "]
theorem Ep{i:Int}(h0:0<=i)(h8:i<8):∃w,HU (HP.map V.str) i=some (.str w):=by
 have a:i.toNat<HP.length:=by show _<8;omega
 exact⟨HP[i.toNat],tJ h0 (by rw[bZ,bT a];rfl)⟩
theorem M1{t b:Int}(hb:0<b)(h1:t.natAbs<4000)(h2:b.natAbs<4000):Sz 2000 (FQ.red t b)/\0<(FQ.red t b).2:=by
 refine⟨t7 (by omega) (ci h1 ?_) (ci h2 ?_),(FQ.red_low (by omega)).pos⟩
 ·exact cG (show 4000<=2^12 by decide) (dM (by decide) (by decide))
 ·exact cG (show 4000<=2^12 by decide) (dM (by decide) (by decide))
theorem wh{num:Int×Int}:¬Gm num↔0<=num.1/\num.1<num.2:=by
 unfold Gm FJ;simp
def Fn(ps:List Str)(R:List (Str×V)):List Str:=ps.filter λp=>!(Ft R p).isSome
def ToldOk(K:bN)(H:Hp)(R:List (Str×V))(n:Nat):Prop:=∀p v,Ft R p=some v->∃row,IsR K H v row/\LN.Pm n row
theorem ze{K:bN}{H:Hp}{R:List (Str×V)}{n:Nat}(h:ToldOk K H R n):∀ps:List Str,(∀p∈ps,Ft R p≠none)->∃W:List (List Int),Kc K H R ps W/\∀w∈W,LN.Pm n w
 | [],_=>⟨[],.nil,λw a=>nomatch a⟩
 | p::ps,hp=>by
  obtain⟨W,h1,h2⟩:=ze h ps λq f=>hp q (b3 _ f)
  cases e:Ft R p with
  | none=>exact absurd e (hp p b0)
  | some v=>
   obtain⟨b,d,c⟩:=h p v e
   exact⟨b::W,.cons ⟨v,e,d⟩ h1,λw a=>by rcases cj.mp a with z|z;exact z▸c;exact h2 w z⟩
theorem A3{K:bN}{H:Hp}{R:List (Str×V)}{ps:List Str}(rp:Roll ps)(h:ToldOk K H R ps.length)(hp:∀p∈ps,Ft R p≠none):∃W,Kc K H R ps W/\GI ps.length W:=by
 obtain⟨W,h1,h2⟩:=ze h ps hp;exact⟨W,h1,rp.lo,rp.hi,(Paired.len h1).symm,h2⟩
def After(K:bN)(H':Hp)(ps ts:List Str)(R R':List (Str×V))(tv:V)(D:Hg):Prop:=
 (Fy ps ts (Fn ps R) D≠[]/\R'=R)\/(Fy ps ts (Fn ps R) D=[]/\match D with
  | .wish p t=>tv = .non/\∃r,R'=IC R p (.ref r)/\H' r=some (.tup ((Hd ts (wordsOf t)).map V.int))
  | _=>R'=R/\∃l xs,tv = .ref l/\H' l=some (.lst xs))
def JR(K:bN)(C:bV):Sp:=λvs H Q _=>∃(s d:bV) (v:V) (ps ts:List Str) (R:List (Str×V)) (D:Hg),vs=[.ref s,v]/\BookAt C H s d ps ts R/\Roll ps/\Roll ts/\ts.length=ps.length/\R.length<900/\ToldOk K H R ps.length/\IsDeed K H v D/\
 ∀pt q tv R' H',SameBut1 d H H'->H' pt=some (.tup [tv,.ref q])->H q=none->H' q=some (.lst ((Fy ps ts (Fn ps R) D).map V.str))->BookAt C H' s d ps ts R'->After K H' ps ts R R' tv D->Q (.ref pt) H'
theorem tQ{R:List (Str×V)}{ps:List Str}:Fn ps R=[]↔∀p∈ps,Ft R p≠none:=xz
theorem yz{R:List (Str×V)}{ps:List Str}(h:∃p∈ps,Ft R p=none):Fn ps R≠[]:=λz=>by
 obtain⟨p,hp,e⟩:=h;exact tQ.mp z p hp e
theorem Dw{way:Str}(h1:way≠"eaten")(h2:way≠"turns"):way∉[b9 "eaten",b9 "turns"]:=λz=>by
 rcases cj.mp z with e|e
 ·exact h1 e
 ·exact h2 (bY.mp e)
theorem yI{way:Str}(h:way="eaten"\/way="turns"):way∈[b9 "eaten",b9 "turns"]:=by
 rcases h with rfl|rfl
 ·exact b0
 ·exact b3 _ b0
def HZ(K:bN)(C:bV):Sp:=λvs H Q _=>∃(s d l:bV) (ps ts:List Str) (R:List (Str×V)),vs=[.ref s,.ref l]/\BookAt C H s d ps ts R/\ps.length<=60/\(∀w∈ps,FL w)/\SqL K H l ((Fn ps R).map V.str)/\∀H',Same H H'->Q (.bl true) H'
theorem wO(ps:List Str)(R:List (Str×V)):(Fn ps R).length<=ps.length:=dC ..
theorem w5{ps:List Str}{R:List (Str×V)}{p:Str}:p∈Fn ps R↔p∈ps/\Ft R p=none:=by
 unfold Fn;rw[dw]
 cases Ft R p <;> simp
theorem Am{ps:List Str}{R:List (Str×V)}{p:Str}{v:V}(nd:ps.Nodup):Fn ps (IC R p v)=(Fn ps R).erase p:=by
 unfold Fn;rw[o5 (qO _ nd)];rw[List.filter_filter];refine fQ λq _=>?_;rw[xL];by_cases h:q=p
 ·subst h;simp
 ·simp[h]
theorem SameBut1.sqT{K:bN}{H H':Hp}{d a:bV}{kvs:List (G6×V)}{xs:List V}(hd:H d=some (.dK kvs))(s:SameBut1 d H H')(h:SqT K H a xs):SqT K H' a xs:=by
 rcases h with(h|⟨u,h⟩)|h
 ·exact .inl (.inl (s _ _ (uk h hd (λz=>nomatch z)) h))
 ·exact .inl (.inr ⟨u,s _ _ (uk h hd (λz=>nomatch z)) h⟩)
 ·exact .inr h
theorem ToldOk.but{K:bN}{H H':Hp}{d:bV}{kvs:List (G6×V)}{R:List (Str×V)}{n:Nat}(hd:H d=some (.dK kvs))(s:SameBut1 d H H')(h:ToldOk K H R n):ToldOk K H' R n:=λp v e=>by
 obtain⟨b,⟨a,rfl,c⟩,hp⟩:=h p v e;exact⟨b,⟨a,rfl,s.sqT hd c⟩,hp⟩
theorem EZ{ts:List Str}(nd:ts.Nodup){i:Nat}(hi:i<ts.length):ts.idxOf ts[i]=i:=by
 have a:ts.idxOf ts[i]<ts.length:=fK.mpr (cm hi);have e:=gV a;have b:=jV.mp nd;rcases nB (ts.idxOf ts[i]) i with c|c|c
 ·exact absurd e (b _ _ a hi c)
 ·exact c
 ·exact absurd e.symm (b _ _ hi a c)
theorem CG{ts ws:List Str}(rt:Roll ts)(h:ws.Perm ts):LN.Pm ts.length (Hd ts ws):=by
 unfold LN.Pm Hd;refine(h.map _).trans ?_;have e:ts.map (λw=>(ts.idxOf w:Int))=LM.rng ts.length:=by
  unfold LM.rng;refine kF (by simp) λi h1 h2=>?_;rw[bP]at h1;rw[List.getElem_map];have a:=EZ rt.nd h1;rw[a];simp
 rw[e]
theorem Roll.rev{ws:List Str}(h:Roll ws):Roll ws.reverse:=by
 refine⟨?_,?_,λw a=>h.wd w (jd.mp a),List.pairwise_reverse.mpr (j2 (λz=>Ne.symm z) h.nd)⟩
 ·rw[iF];exact h.lo
 ·rw[iF];exact h.hi
theorem Roll.ok{ws:List Str}(h:Roll ws):∀w∈ws,w.length<=1000/\FL w:=λw a=>⟨cG (h.wd w a).hi (by decide),(h.wd w a).asc⟩
theorem Nv{c:Prop}{_:Decidable c}{A:Prop}{G:bV->Hp->Prop}(P:bV->Hp->Prop)(t:bV)(H:Hp)(hx:P t H)(h:∀t H,P t H->G t H)(hA:(∀t H,P t H->G t H)->A):if decide c=true then A else G t H:=by
 by_cases e:c
 ·exact FC e (hA h)
 ·exact Fo e (h t H hx)
theorem SqT.overL{K:bN}{H:Hp}{l a:bV}{ys:List V}{o:HO}{xs:List V}(hl:H l=some (.lst ys))(h:SqT K H a xs):SqT K (upd H l o) a xs:=by
 rcases h with(h|⟨u,h⟩)|h
 ·exact .inl (.inl (by rw[rQ (uk h hl (λz=>nomatch z))];exact h))
 ·exact .inl (.inr ⟨u,by rw[rQ (uk h hl (λz=>nomatch z))];exact h⟩)
 ·exact .inr h
theorem BookAt.overL{C:bV}{H:Hp}{x d l:bV}{ps ts:List Str}{R:List (Str×V)}{ys:List V}{o:HO}(hl:H l=some (.lst ys))(h:BookAt C H x d ps ts R):BookAt C (upd H l o) x d ps ts R:=by
 obtain⟨a,e,c,b,f,h1,h2,h3,h4,h5,h6⟩:=h.ex;refine⟨a,e,c,b,f,?_,?_,h3,?_,h5,?_⟩
 ·rw[rQ (uk h1 hl (λz=>nomatch z))];exact h1
 ·rw[rQ (uk h2 hl (λz=>nomatch z))];exact h2
 ·rw[rQ (uk h4 hl (λz=>nomatch z))];exact h4
 ·rw[rQ (uk h6 hl (λz=>nomatch z))];exact h6
theorem IsDeed.but{K:bN}{H H':Hp}{d:bV}{kvs:List (G6×V)}{v:V}{D:Hg}(hd:H d=some (.dK kvs))(s:SameBut1 d H H')(h:IsDeed K H v D):IsDeed K H' v D:=by
 cases D with
 | wish p t=>
  obtain⟨a,rfl,h1,h2⟩:=h;exact⟨a,rfl,s.sqT hd h1,h2⟩
 | shares p b=>
  obtain⟨a,rfl,h1⟩:=h;exact⟨a,rfl,s.sqT hd h1⟩
 | deal b c=>
  obtain⟨a,g,rfl,h1,h2,h3⟩:=h;exact⟨a,g,rfl,s.sqT hd h1,s.sqT hd h2,h3⟩
theorem IsDeed.mono{K:bN}{H H':Hp}{v:V}{D:Hg}(s:Same H H')(h:IsDeed K H v D):IsDeed K H' v D:=by
 cases D with
 | wish p t=>
  obtain⟨a,rfl,h1,h2⟩:=h;exact⟨a,rfl,s.tup h1,h2⟩
 | shares p b=>
  obtain⟨a,rfl,h1⟩:=h;exact⟨a,rfl,s.tup h1⟩
 | deal b c=>
  obtain⟨a,g,rfl,h1,h2,h3⟩:=h;exact⟨a,g,rfl,s.tup h1,s.tup h2,h3⟩
structure At51(K:bN)(C:bV)(H:Hp)(pl tl c l s d:bV)(ps ts:List Str)(xs:List V)(L:List Str)(R:List (Str×V)):Prop where
 pe:H pl=some (.lst (ps.map V.str))
 th:H tl=some (.lst (ts.map V.str))
 ce:H c=some (.lst xs)
 la:H l=some (.lst (L.map V.str))
 bk:BookAt C H s d ps ts R
 ok:ToldOk K H R ps.length
theorem ToldOk.mono{K:bN}{H H':Hp}{R:List (Str×V)}{n:Nat}(s:Same H H')(h:ToldOk K H R n):ToldOk K H' R n:=λp v e=>by
 obtain⟨a,b,hp⟩:=h p v e;exact⟨a,b.mono s,hp⟩
section
variable{K:bN}{C:bV}{H H':Hp}{pl tl c l s d:bV}{ps ts:List Str}{xs:List V}{L L':List Str}{R R':List (Str×V)}
theorem At51.mono(e:Same H H')(h:At51 K C H pl tl c l s d ps ts xs L R):At51 K C H' pl tl c l s d ps ts xs L R:=
 ⟨e _ _ h.pe,e _ _ h.th,e _ _ h.ce,e _ _ h.la,h.bk.mono e,h.ok.mono e⟩
theorem At51.dk(h:At51 K C H pl tl c l s d ps ts xs L R):H d=some (.dK (wK R)):=by
 obtain⟨a,f,e,b,g,h1,h2,h3,h4,h5,h6⟩:=h.bk.ex;exact h6
theorem At51.told(h:At51 K C H pl tl c l s d ps ts xs L R)(U:SameBut1 d H H')(hb:BookAt C H' s d ps ts R')(ok:ToldOk K H' R' ps.length):At51 K C H' pl tl c l s d ps ts xs L R':=
 ⟨U _ _ (uk h.pe h.dk (λz=>nomatch z)) h.pe,U _ _ (uk h.th h.dk (λz=>nomatch z)) h.th,U _ _ (uk h.ce h.dk (λz=>nomatch z)) h.ce,U _ _ (uk h.la h.dk (λz=>nomatch z)) h.la,hb,ok⟩
theorem At51.rem(h:At51 K C H pl tl c l s d ps ts xs L R)(n1:pl≠l)(n2:tl≠l)(n3:c≠l):At51 K C (upd H l (.lst (L'.map V.str))) pl tl c l s d ps ts xs L' R:=
 ⟨by rw[rQ n1];exact h.pe,by rw[rQ n2];exact h.th,by rw[rQ n3];exact h.ce,rE,h.bk.overL h.la,λp v e=>by
  obtain⟨b,⟨a,rfl,f⟩,hp⟩:=h.ok p v e
  exact⟨b,⟨a,rfl,f.overL h.la⟩,hp⟩⟩
theorem CD{p t:Str}(h:Fy ps ts L (.wish p t)=[]):(wordsOf t).Perm ts:=by
 have a:(if p∈ps then(if(wordsOf t).Perm ts then[]else[b9 "NoWishes"])else[b9 "NoPerson"])=[]:=h;by_cases b:p∈ps
 ·rw[if_pos b]at a;by_cases c:(wordsOf t).Perm ts
  ·exact c
  ·rw[if_neg c]at a
   cases a
 ·rw[if_neg b]at a
  cases a
theorem After.ok{tv:V}{D:Hg}{kvs:List (G6×V)}(ok:ToldOk K H R ps.length)(hd:H d=some (.dK kvs))(U:SameBut1 d H H')(rt:Roll ts)(hlen:ts.length=ps.length)(h:After K H' ps ts R R' tv D):ToldOk K H' R' ps.length:=by
 rcases h with⟨_,rfl⟩|⟨a,h⟩
 ·exact ok.but hd U
 cases D with
 | wish p t=>
  obtain⟨_,r,rfl,c⟩:=h;intro q v e;rw[xL]at e;split at e
  ·cases e;exact⟨_,⟨r,rfl,SqT.of c⟩,hlen▸CG rt (CD a)⟩
  ·exact ok.but hd U q v e
 | shares p b=>
  obtain⟨rfl,_⟩:=h;exact ok.but hd U
 | deal b f=>
  obtain⟨rfl,_⟩:=h;exact ok.but hd U
theorem After.len{tv:V}{D:Hg}(h:After K H' ps ts R R' tv D):R'.length<=R.length+1:=by
 rcases h with⟨_,rfl⟩|⟨b,h⟩
 ·omega
 cases D with
 | wish p t=>
  obtain⟨_,r,rfl,d⟩:=h;exact zk ..
 | shares p a=>
  obtain⟨rfl,_⟩:=h;omega
 | deal a c=>
  obtain⟨rfl,_⟩:=h;omega
theorem sX{P:List Str->Prop}{c:Prop}[Decidable c]{a b:List Str}(ha:P a)(hb:P b):P (if c then a else b):=by
 by_cases h:c
 ·rw[if_pos h];exact ha
 ·rw[if_neg h];exact hb
theorem Dy(D:Hg):∀w∈Fy ps ts L D,FL w:=by
 have j:FL (b9 "NoWishes"):=by unfold FL;decide +kernel
 have f:FL (b9 "NoPerson"):=by unfold FL;decide +kernel
 have e:FL (b9 "NoWay"):=by unfold FL;decide +kernel
 have d:FL (b9 "Unready"):=by unfold FL;decide +kernel
 have k:FL (b9 "NoPick"):=by unfold FL;decide +kernel
 have a:∀{z:Str},FL z->∀w∈[z],FL w:=λh w b=>by rw[bY.mp b];exact h
 have c:∀w∈([]:List Str),FL w:=λw b=>nomatch b
 cases D with
 | wish p t=>exact sX (P:=λl=>∀w∈l,FL w) (sX (P:=λl=>∀w∈l,FL w) c (a j)) (a f)
 | shares p g=>exact sX (P:=λl=>∀w∈l,FL w) (sX (P:=λl=>∀w∈l,FL w) (sX (P:=λl=>∀w∈l,FL w) c (a e)) (a d)) (a f)
 | deal g m=>exact sX (P:=λl=>∀w∈l,FL w) (sX (P:=λl=>∀w∈l,FL w) (sX (P:=λl=>∀w∈l,FL w) c (a k)) (a e)) (a d)
theorem DX(D:Hg):(Fy ps ts L D).length<=1:=by
 have a:∀{z:Str},[z].length<=1:=bX _;have b:([]:List Str).length<=1:=cM _
 cases D with
 | wish p t=>exact sX (P:=λl=>l.length<=1) (sX (P:=λl=>l.length<=1) b a) a
 | shares p c=>exact sX (P:=λl=>l.length<=1) (sX (P:=λl=>l.length<=1) (sX (P:=λl=>l.length<=1) b a) a) a
 | deal c d=>exact sX (P:=λl=>l.length<=1) (sX (P:=λl=>l.length<=1) (sX (P:=λl=>l.length<=1) b a) a) a
theorem Gp{q p:bV}(hq:H q=some (.lst (L.map V.str)))(ha:∀w∈L,FL w)(hl:L.length<=60)(hp:H p=none):Rep K (upd H p (.lst [])) (.ref q) (.list (L.map d4))/\Rep K (upd H p (.lst [])) (.ref p) (.list (([]:List Str).map d4))/\eg (.list (L.map d4))=true/\eg (.list (([]:List Str).map d4))=true:=
 ⟨.lst (SqL.of (mJ hp _ _ _ hq)) (Reps.strs L) (by rw[bP];omega),.lst (SqL.of rE) (Reps.strs []) (by simp),sx (tG ha) (by decide),sx (tG (λw a=>nomatch a)) (by decide)⟩
theorem Ab(ps:List Str):Fn ps []=ps:=List.filter_eq_self.mpr λ_ _=>rfl
theorem D0{ns:List Int}{lo hi:Option Int}{i:Nat}{v:V}(h:(Gx (ns.map V.int) lo hi)[i]?=some v):∃c:Int,v=V.int c:=by
 have h1:=cz h;unfold Gx at h1;obtain⟨c,_,rfl⟩:=cP.mp (fO (dO h1));exact⟨c,rfl⟩
end
def Ld(x:Xs):Nat->bV
 | 0=>x.NoFraction
 | 1=>x.NoWishes
 | 2=>x.NoTable
 | 3=>x.NoPick
 | 4=>x.NoOrder
 | 5=>x.NoRoll
 | 6=>x.NoPerson
 | 7=>x.Unready
 | _=>x.NoWay
def MV:Nat->Str
 | 1=>"NoWishes"
 | 3=>"NoPick"
 | 5=>"NoRoll"
 | 6=>"NoPerson"
 | 7=>"Unready"
 | 8=>"NoWay"
 | 0=>"NoFraction"
 | 2=>"NoTable"
 | _=>"NoOrder"
structure KK(K:bN)(x:Xs)(C:bV)(i:Nat):Prop where
 is:L8 K C
 one:∀j,j<9->fe K (.ref C) (.ref (Ld x j))=some (decide (i=j))
 val:fe K (.ref C) (.type "ValueError")=some true
theorem Na{α:Type}{f g:Nat->α}(h:(cp 9).map f=(cp 9).map g)(j:Nat)(hj:j<9):f j=g j:=by
 have e:=congrArg (λl:List α=>l[j]?) h;simp only[bZ,dy hj]at e;exact Option.some.inj e
theorem z8{K:bN}{x:Xs}{C:bV}{i:Nat}(h:L8 K C)(he:(cp 9).map (λj=>f8 K (Ld x j) MQ "ValueError.__new__")=(cp 9).map λ_=>true)(hm:(cp 9).map (λj=>d6 K C (.ref (Ld x j)))=(cp 9).map λj=>some (decide (i=j)))(hv:d6 K C (.type "ValueError")=some true):KK K x C i:=
 ⟨h,λj a=>EF (Na he j a) (Na hm j a),DA hv⟩
theorem Hu{c:Prop}{_:Decidable c}{A:Prop}{G:Hp->Prop}(P:Hp->Prop)(H:Hp)(hx:¬c->P H)(h:∀H,P H->G H)(hA:c->(∀H,P H->G H)->A):if decide c=true then A else G H:=by
 by_cases e:c
 ·exact FC e (hA e h)
 ·exact Fo e (h H (hx e))
def kL(i j:Nat):List V:=if i<j then[.str (MV i)]else[]
theorem xk{i j:Nat}(h:¬i=j):kL i (j+1)=kL i j:=by
 unfold kL;by_cases c:i<j
 ·rw[if_pos c,if_pos (by omega)]
 ·rw[if_neg c,if_neg (by omega)]
theorem EX{i j:Nat}(h:i=j):kL i j++[.str (MV j)]=kL i (j+1):=by
 unfold kL;rw[if_neg (by omega),if_pos (by omega),h];rfl
theorem uM(i j:Nat):(kL i j).length<sizeLine:=by
 unfold kL;by_cases c:i<j
 ·rw[if_pos c];exact Fg (show 1<=1000 by decide)
 ·rw[if_neg c];exact Fg (show 0<=1000 by decide)
def KP(H:Hp)(C a p:bV)(i j:Nat)(H':Hp):Prop:=H' a=some (Kg C a)/\Same H H'/\H' p=some (.lst (kL i j))
theorem KP.put{H H1:Hp}{C a p:bV}{i j:Nat}(h1:H1 a=some (Kg C a))(h2:Same H H1)(ne:a≠p)(hp:H p=none)(e:i=j):KP H C a p i (j+1) (upd H1 p (.lst (kL i j++[.str (MV j)]))):=
 ⟨by rw[rQ ne];exact h1,h2.over hp _,by rw[rE,EX e]⟩
theorem G5{x a b:Int}(e:x=a)(h:a≠b):¬V.int x=V.int b:=λz=>h (e.symm.trans (Kn z))
theorem xp{x:Int}{n:Nat}(h:1<=n):∃k:Nat,x%(n:Int)=(k:Int)/\k<n:=by
 have h0:=cY x (show(n:Int)≠0 by omega);have h1:=cQ x (show(0:Int)<n by omega);exact⟨(x%(n:Int)).toNat,by omega,by omega⟩
theorem yR{α:Type}{ws:List α}{f:α->V}(h:1<=ws.length):(0:Int)<((ws.map f).length:Int):=by
 rw[bP];exact oF.mpr h
theorem Eo{k n:Nat}(h:k<n):Lb n (k:Int)=some k:=by
 unfold Lb;rw[if_pos (by omega),if_pos (by omega)];exact congrArg some (by omega)
theorem LI(x:Int):x=1\/x=3\/x=5\/x=7\/x=9\/x=11\/(x≠1/\x≠3/\x≠5/\x≠7/\x≠9/\x≠11):=by omega
section
variable{X:Cx}
def KE:Expr->Option Str
 | .Constant (.str z) _ _=>some z
 | _=>none
theorem CS{e:Expr}{z:Str}(h:KE e=some z):∃k p,e = .Constant (.str z) k p:=by
 cases e with
 | Constant c k p=>
  cases c with
  | str y=>exact⟨k,p,by rw[show y=z from Option.some.inj h]⟩
  | _=>cases h
 | _=>cases h
def JV:List Expr->Option (List Str)
 | []=>some []
 | e::es=>(KE e).bind λz=>(JV es).map (z :: ·)
theorem zd:∀(es:List Expr) {is:List Str},JV es=some is->PA X es (KO is)
 | [],is,h=>by
  cases h
  exact λb a s d H Q I h=>(rG (X:=X)) b a s d H Q I h
 | e::es,is,h=>by
  have h:(KE e).bind (λz=>(JV es).map (z :: ·))=some is:=h
  cases c:KE e with
  | none=>rw[c]at h;cases h
  | some z=>
   cases f:JV es with
   | none=>rw[c,f]at h;cases h
   | some g=>
    rw[c,f]at h
    cases h
    obtain⟨k,p,rfl⟩:=CS c
    exact λb a s d H Q I h=>(lh (X:=X) rX (zd es f)) b a s d H Q I h
theorem Bb{i:Nat}{x:Str}{es:List Expr}{is:List Str}{b:Expr}{tb:TE}{r:R2}{pos p1 p2 pos':Pos}(hN:X.N.Nodup)(hi:X.N[i]?=some x)(hx:Loc X.env.scope x)(hr:IxR X r)(hI:JV es=some is)(hb:PE X b tb)(hp:Ju b)
  (hs:swapsWith (.Subscript (.List es p1) b p2) (some (.Name x pos')) pos.line X.env=pure false:=by rfl)(hf:X.fn x=true\/X.env.scope.names.lookup x=some .local:=by first|exact .inl rfl|exact .inr rfl|assumption):
  NW X (.Assign [.Name x pos'] (.Subscript (.List es p1) b p2) pos) (Ln (MH r (Mo (KO is)) tb) (Ia i)):=
 ⟨rL hN hi hx (rR hr (sA (zd es hI)) hb hp) hs hf⟩
end
@[elab_as_elim] theorem Ko {P:List bQ->Prop} (h:∀a0,P [a0]) (us:List bQ) (e:us.length=1):P us:=match us,e with|[a0],_=>h a0
@[elab_as_elim] theorem HX {P:List bQ->Prop} (h:∀a0 a1,P [a0,a1]) (us:List bQ) (e:us.length=2):P us:=match us,e with|[a0,a1],_=>h a0 a1
@[elab_as_elim] theorem K7 {P:List bQ->Prop} (h:∀a0 a1 a2,P [a0,a1,a2]) (us:List bQ) (e:us.length=3):P us:=match us,e with|[a0,a1,a2],_=>h a0 a1 a2
@[elab_as_elim] theorem Oj {P:List bQ->Prop} (h:∀a0 a1 a2 a3,P [a0,a1,a2,a3]) (us:List bQ) (e:us.length=4):P us:=match us,e with|[a0,a1,a2,a3],_=>h a0 a1 a2 a3
end L2
namespace Nk51
open PySem PySem.Spec PyProof.Rows L2
def Fk(i:Nat):Stmt:=bW.main.body.getD i (.Pass ⟨0,0,0,0⟩)
def IW(i j:Nat):Stmt:=match Fk i with | .ClassDef _ _ _ b _ _ _ _ _ _ _=>b.getD j (.Pass ⟨0,0,0,0⟩)|s=>s
structure Md(K:bN)(mg:Str->Option bQ)(x:Xs)(cB:bV):Prop where
 f_is_whole:Def K mg "is_whole" (Fk 14)
 f_common_divisor:Def K mg "common_divisor" (Fk 15)
 f_fraction:Def K mg "fraction" (Fk 16)
 f_plus:Def K mg "plus" (Fk 17)
 f_minus:Def K mg "minus" (Fk 18)
 f_times:Def K mg "times" (Fk 19)
 f_before:Def K mg "before" (Fk 20)
 f_total:Def K mg "total" (Fk 21)
 f_least:Def K mg "least" (Fk 22)
 f_best_left:Def K mg "best_left" (Fk 24)
 f_time_to_stop:Def K mg "time_to_stop" (Fk 25)
 f_left_behind:Def K mg "left_behind" (Fk 26)
 f_courses_of:Def K mg "courses_of" (Fk 27)
 f_eaten_of:Def K mg "eaten_of" (Fk 28)
 f_eaten_by:Def K mg "eaten_by" (Fk 29)
 f_eaten:Def K mg "eaten" (Fk 30)
 f_deal_within:Def K mg "deal_within" (Fk 32)
 f_row_without:Def K mg "row_without" (Fk 33)
 f_lots_of:Def K mg "lots_of" (Fk 34)
 f_picked:Def K mg "picked" (Fk 35)
 f_is_listing:Def K mg "is_listing" (Fk 38)
 f_has_people:Def K mg "has_people" (Fk 39)
 f_best_free:Def K mg "best_free" (Fk 41)
 f_with_one:Def K mg "with_one" (Fk 42)
 f_turns_from:Def K mg "turns_from" (Fk 43)
 f_orders_of:Def K mg "orders_of" (Fk 44)
 f_counts_of:Def K mg "counts_of" (Fk 45)
 f_shares_by_turns:Def K mg "shares_by_turns" (Fk 46)
 f_by_turns:Def K mg "by_turns" (Fk 47)
 f_is_word:Def K mg "is_word" (Fk 50)
 f_is_roll:Def K mg "is_roll" (Fk 51)
 k_Book:BDef K mg cB "Book" "Book.__init__" (IW 52 0)
 cl:Cls K cB
 na_people:NoAttr K cB "people"
 na_things:NoAttr K cB "things"
 na_wishes_told:NoAttr K cB "wishes_told"
 m_check_person:MDef K cB "check_person" "Book.check_person" (IW 52 1)
 m_wish:MDef K cB "wish" "Book.wish" (IW 52 2)
 m_lacking:MDef K cB "lacking" "Book.lacking" (IW 52 3)
 m_table_by:MDef K cB "table_by" "Book.table_by" (IW 52 4)
 m_shares:MDef K cB "shares" "Book.shares" (IW 52 5)
 m_deal:MDef K cB "deal" "Book.deal" (IW 52 6)
 f__law_cell_at:Def K mg "_law_cell_at" (Fk 54)
 f__law_mixed:Def K mg "_law_mixed" (Fk 55)
 f__law_perm:Def K mg "_law_perm" (Fk 56)
 f__law_base:Def K mg "_law_base" (Fk 59)
 f__law_word:Def K mg "_law_word" (Fk 60)
 f__law_words:Def K mg "_law_words" (Fk 61)
 f__law_divisor:Def K mg "_law_divisor" (Fk 57)
 f__law_lowest:Def K mg "_law_lowest" (Fk 58)
 f__law_same:Def K mg "_law_same" (Fk 62)
 f__law_kinds:Def K mg "_law_kinds" (Fk 63)
 f__law_bad_roll:Def K mg "_law_bad_roll" (Fk 64)
 f__law_no_roll:Def K mg "_law_no_roll" (Fk 65)
 f__law_person:Def K mg "_law_person" (Fk 66)
 f__law_text:Def K mg "_law_text" (Fk 67)
 f__law_deed:Def K mg "_law_deed" (Fk 68)
 f__law_due:Def K mg "_law_due" (Fk 69)
 f__law_told:Def K mg "_law_told" (Fk 70)
 f__law_lacks_well:Def K mg "_law_lacks_well" (Fk 71)
 b_isinstance:mg "isinstance"=none
 b_int:mg "int"=none
 b_bool:mg "bool"=none
 b_str:mg "str"=none
 b_list:mg "list"=none
 b_tuple:mg "tuple"=none
 b_abs:mg "abs"=none
 b_len:mg "len"=none
 b_range:mg "range"=none
 b_sorted:mg "sorted"=none
 b_set:mg "set"=none
 b_enumerate:mg "enumerate"=none
 b_zip:mg "zip"=none
 b_any:mg "any"=none
 b_all:mg "all"=none
 b_min:mg "min"=none
 b_max:mg "max"=none
 b_sum:mg "sum"=none
 b_ValueError:mg "ValueError"=none
 c_NOTHING:L3 K mg "NOTHING" [.int 0,.int 1]
 c_WHOLE:L3 K mg "WHOLE" [.int 1,.int 1]
 c_MOST_PEOPLE:∃t,mg "MOST_PEOPLE"=some (.int 6 t)
 c_MOST_SIGNS:∃t,mg "MOST_SIGNS"=some (.int 12 t)
 x_WishError:HL K mg "WishError" x.WishError
 x_NoFraction:HL K mg "NoFraction" x.NoFraction
 x_NoWishes:HL K mg "NoWishes" x.NoWishes
 x_NoTable:HL K mg "NoTable" x.NoTable
 x_NoPick:HL K mg "NoPick" x.NoPick
 x_NoOrder:HL K mg "NoOrder" x.NoOrder
 x_NoRoll:HL K mg "NoRoll" x.NoRoll
 x_NoPerson:HL K mg "NoPerson" x.NoPerson
 x_Unready:HL K mg "Unready" x.Unready
 x_NoWay:HL K mg "NoWay" x.NoWay
 s_NoWishes:d6 K x.NoWishes (.ref x.WishError)=some true
 q_NoWishes:KK K x x.NoWishes 1
 s_NoPick:d6 K x.NoPick (.ref x.WishError)=some true
 q_NoPick:KK K x x.NoPick 3
 s_NoRoll:d6 K x.NoRoll (.ref x.WishError)=some true
 q_NoRoll:KK K x x.NoRoll 5
 s_NoPerson:d6 K x.NoPerson (.ref x.WishError)=some true
 q_NoPerson:KK K x x.NoPerson 6
 s_Unready:d6 K x.Unready (.ref x.WishError)=some true
 q_Unready:KK K x x.Unready 7
 s_NoWay:d6 K x.NoWay (.ref x.WishError)=some true
 q_NoWay:KK K x x.NoWay 8
section
variable{P:cg}{w:cC}{K:bN}{mg:Str->Option bQ}{base:Heap}{x:Xs}{cB:bV}
theorem Ib:Fi ["value"] ["value"] (Ff (Fk 14)):=⟨rfl,rfl,rfl,by decide +kernel,rfl,by decide +kernel,by decide +kernel⟩
set_option maxHeartbeats 4000000
theorem KD(M:Md K mg x cB):Dn P w K mg base Fs 1 "is_whole" ["value"] (KT):=by
 have g:=(Ib).nd;refine M.f_is_whole.ok Ib (λvs H Q E h=>?_) (λ_ _ _ _ _ _ b c=>Ko (λ_=>rfl) b c) (λf d A a s H vs Q E e h=>?_)
 ·obtain⟨i,rfl,q⟩:=h;rfl
 obtain⟨i,rfl,q⟩:=h;refine⟨_,(rJ (rP (u6 (rK sC rfl M.b_isinstance Boot.«isinstance» (lh (pv 0) (lh (tZ rfl M.b_int Boot.«int») rG))) (vS (Dh (rK sC rfl M.b_isinstance Boot.«isinstance» (lh (pv 0) (lh (tZ rfl M.b_bool Boot.«bool») rG)))))))),?_⟩;refine⟨_,rfl,.int i,"int","int",rfl,by decide,rfl,_,rfl,?_⟩;refine FG ⟨_,rfl,.int i,"bool","int",rfl,by decide,rfl,_,rfl,q⟩
theorem F8:Fi ["one","two","greater","smaller","rest"] ["one","two"] (Ff (Fk 15)):=⟨rfl,rfl,rfl,by decide +kernel,rfl,by decide +kernel,by decide +kernel⟩
theorem Hz(M:Md K mg x cB):Dn P w K mg base Fs 1 "common_divisor" ["one","two"] (L4):=by
 have g:=(F8).nd;refine M.f_common_divisor.ok F8 (λvs H Q E h=>?_) (λ_ _ _ _ _ _ B t=>HX (λ_ _=>rfl) B t) (λf G A p s H vs Q E L h=>?_)
 ·obtain⟨i,j,rfl,q⟩:=h;rfl
 obtain⟨i,j,rfl,q⟩:=h;refine⟨_,(rF (rL (i:=2) g rfl (Or.inl rfl) (rK xh rfl M.b_abs Boot.«abs» (lh (pv 0) rG)))
   (rF (rL (i:=3) g rfl (Or.inl rfl) (rK xh rfl M.b_abs Boot.«abs» (lh (pv 1) rG)))
   (rF (uw db (rM xZ (pv 3) rH (Fj _)) (rF (rL (i:=4) g rfl (Or.inl rfl) (rO sh (pv 2) (pv 3)))
   (rF (rL (i:=2) g rfl (Or.inl rfl) (pv 3))
   (rJ (rL (i:=3) g rfl (Or.inl rfl) (pv 4))))))
   (rJ (rP (pv 2)))))),?_⟩
 refine⟨_,rfl,i,rfl,_,rfl,j,rfl,?_⟩;refine xu (λm n l=>l=H/\∃(a b:Int) (r:Option V),n=[some (.int i),some (.int j),some (.int a),some (.int b),r]/\0<=a/\0<=b/\Int.gcd a b=Int.gcd i j/\m=b.toNat)
  ⟨_,rfl,_,_,_,rfl,?_,?_,?_,rfl⟩ (λm n l F=>?_) (λn l J N D h=>?_)
 ·split <;> omega
 ·split <;> omega
 ·split <;> split <;> simp
 ·obtain⟨rfl,a,b,r,rfl,I,C,o,rfl⟩:=F;refine⟨_,rfl,rfl,_,rfl,?_⟩;refine K2 (λc=>?_) (λc=>?_)
  ·have d:b≠0:=λz=>by subst z;simp at c
   refine⟨_,rfl,_,rfl,a,b,rfl,rfl,by show(0:Int)<b;omega,_,rfl,_,rfl,?_⟩;refine⟨(a%b).toNat,?_,rfl,b,a%b,_,rfl,C,cY _ d,?_,rfl⟩
   ·have:=cQ a (show 0<b by omega);have:=cY a d;omega
   ·rw[FQ.gcd_turn,o]
  ·have d:b=0:=by
    by_cases z:b=0
    ·exact z
    ·exact absurd (by simpa using z) c
   subst d;refine⟨_,rfl,?_⟩;have e:(a:Int)=(Int.gcd i j:Int):=by rw[<-o];simp;omega
   rw[e];exact q
 ·obtain⟨v,e,y,k,u,q⟩:=h;exact⟨v,e,y,k,u,D _ _ q⟩
theorem HR:Fi ["top","bottom","divisor"] ["top","bottom"] (Ff (Fk 16)):=⟨rfl,rfl,rfl,by decide +kernel,rfl,by decide +kernel,by decide +kernel⟩
theorem Ku(M:Md K mg x cB)
  (Gis_whole:Dn P w K mg base Fs 1 "is_whole" ["value"] (KT))
  (Gcommon_divisor:Dn P w K mg base Fs 1 "common_divisor" ["one","two"] (L4)):Dn P w K mg base (GM P w) 2 "fraction" ["top","bottom"] (FV x):=by
 have j:=(HR).nd
 refine M.f_fraction.okE HR (λvs H Q E h=>?_) (λ_ _ _ _ _ _ u o=>HX (λ_ _=>rfl) u o) (λf v A n s H vs Q E d h=>?_)
 ·obtain⟨t,b,rfl,k,q⟩:=h
  rfl
 obtain⟨t,b,rfl,k,q⟩:=h
 refine⟨_,(rF (si (PW.pt (xR (tS (sB (sf Gis_whole d (by decide) rfl Fm (lh (pv 0) rG)))) (xR (tS (sB (sf Gis_whole d (by decide) rfl Fm (lh (pv 1) rG)))) (wS (rM sY (pv 1) rH (Fj _)))))) (rJ (uc M.x_NoFraction rfl (lh rX rG))) rN)
   (rF (rL (i:=2) j rfl (Or.inl rfl) (sf Gcommon_divisor d (by decide) rfl Fm (lh (pv 0) (lh (pv 1) rG))))
   (rF (si (rM z6 (pv 1) rH (Fj _)) (rJ (rL (i:=2) j rfl (Or.inl rfl) (Bo yv (pv 2)))) rN)
   (rJ (rP (sw (lh (rO Be (pv 0) (pv 2)) (lh (rO Be (pv 1) (pv 2)) rG)))))))),?_⟩
 refine⟨_,rfl,t,rfl,_,rfl,Fu ⟨_,rfl,b,rfl,_,rfl,Fu ⟨_,rfl,rfl,_,rfl,FD (λc=>?_) (λc=>?_)⟩⟩⟩
 ·exact⟨by show 1<=sizeLine;decide,k (Kn c)⟩
 have m:b≠0:=λz=>c (by rw[z])
 obtain⟨r,q⟩:=q m
 refine⟨_,rfl,_,rfl,t,b,rfl,?_⟩
 refine⟨_,rfl,b,0,rfl,rfl,_,rfl,?_⟩
 have l:=vo (t:=t) m r
 refine K2 (λc=>?_) (λc=>?_)
 ·have g:b<0:=of_decide_eq_true c
  have e:=l.1 g
  refine⟨_,rfl,_,rfl,?_⟩
  refine⟨_,rfl,_,rfl,t,_,rfl,rfl,e.1,_,rfl,_,rfl,b,_,rfl,rfl,e.1,by show 2<=sizeLine;decide,λp hp=>q p _ (mJ hp _) ?_⟩
  rw[rE]
  show some (HO.tup [V.int (t.fdiv _),V.int (b.fdiv _)])=_
  rw[e.2.1,e.2.2]
  rfl
 ·have a:¬b<0:=of_decide_eq_false (nu.mpr c)
  have e:=l.2 a
  refine⟨_,rfl,_,rfl,t,_,rfl,rfl,e.1,_,rfl,_,rfl,b,_,rfl,rfl,e.1,by show 2<=sizeLine;decide,λp hp=>q p _ (mJ hp _) ?_⟩
  rw[rE]
  show some (HO.tup [V.int (t.fdiv _),V.int (b.fdiv _)])=_
  rw[e.2.1,e.2.2]
  rfl
theorem KS:Fi ["one","two"] ["one","two"] (Ff (Fk 17)):=⟨rfl,rfl,rfl,by decide +kernel,rfl,by decide +kernel,by decide +kernel⟩
theorem MI(M:Md K mg x cB)
  (Gfraction:Dn P w K mg base (GM P w) 2 "fraction" ["top","bottom"] (FV x)):Dn P w K mg base Fs 3 "plus" ["one","two"] (IR G0 K):=by
 have B:=(KS).nd
 refine M.f_plus.ok KS (λvs H Q E h=>?_) (λ_ _ _ _ _ _ t n=>HX (λ_ _=>rfl) t n) (λf v A l s H vs Q E r h=>?_)
 ·obtain⟨a,b,x,y,rfl,c,d,k,e,q⟩:=h
  rfl
 obtain⟨a,b,x,y,rfl,c,d,k,e,q⟩:=h
 refine⟨_,(rJ (rP (sf Gfraction r (by decide) rfl JQ (lh (rO sJ (rO sK (rR rZ (pv 0) rH (λ_ _=>rfl)) (rR rZ (pv 1) rH (λ_ _=>rfl))) (rO sK (rR rZ (pv 1) rH (λ_ _=>rfl)) (rR rZ (pv 0) rH (λ_ _=>rfl)))) (lh (rO sK (rR rZ (pv 0) rH (λ_ _=>rfl)) (rR rZ (pv 1) rH (λ_ _=>rfl))) rG))))),?_⟩
 obtain⟨m,g,o⟩:=k
 obtain⟨u,j,p⟩:=e
 refine⟨_,rfl,a,_,0,_,rfl,rfl,c,rfl,?_⟩
 refine⟨_,rfl,b,_,1,_,rfl,rfl,d,rfl,?_⟩
 refine⟨_,_,rfl,rfl,IU m j,?_⟩
 refine⟨_,rfl,b,_,0,_,rfl,rfl,d,rfl,?_⟩
 refine⟨_,rfl,a,_,1,_,rfl,rfl,c,rfl,?_⟩
 refine⟨_,_,rfl,rfl,IU u g,?_⟩
 refine⟨_,_,rfl,rfl,?_⟩
 refine⟨_,rfl,a,_,1,_,rfl,rfl,c,rfl,?_⟩
 refine⟨_,rfl,b,_,1,_,rfl,rfl,d,rfl,?_⟩
 refine⟨_,_,rfl,rfl,IU g j,?_⟩
 exact⟨_,_,rfl,λz=>absurd z (cW o p),λ_=>⟨Mq g j,q⟩⟩
theorem Ke:Fi ["one","two"] ["one","two"] (Ff (Fk 18)):=⟨rfl,rfl,rfl,by decide +kernel,rfl,by decide +kernel,by decide +kernel⟩
theorem LO(M:Md K mg x cB)
  (Gfraction:Dn P w K mg base (GM P w) 2 "fraction" ["top","bottom"] (FV x)):Dn P w K mg base Fs 3 "minus" ["one","two"] (IR Ky K):=by
 have B:=(Ke).nd
 refine M.f_minus.ok Ke (λvs H Q E h=>?_) (λ_ _ _ _ _ _ t n=>HX (λ_ _=>rfl) t n) (λf v A l s H vs Q E r h=>?_)
 ·obtain⟨a,b,x,y,rfl,c,d,k,e,q⟩:=h
  rfl
 obtain⟨a,b,x,y,rfl,c,d,k,e,q⟩:=h
 refine⟨_,(rJ (rP (sf Gfraction r (by decide) rfl JQ (lh (rO wJ (rO sK (rR rZ (pv 0) rH (λ_ _=>rfl)) (rR rZ (pv 1) rH (λ_ _=>rfl))) (rO sK (rR rZ (pv 1) rH (λ_ _=>rfl)) (rR rZ (pv 0) rH (λ_ _=>rfl)))) (lh (rO sK (rR rZ (pv 0) rH (λ_ _=>rfl)) (rR rZ (pv 1) rH (λ_ _=>rfl))) rG))))),?_⟩
 obtain⟨m,g,o⟩:=k
 obtain⟨u,j,p⟩:=e
 refine⟨_,rfl,a,_,0,_,rfl,rfl,c,rfl,?_⟩
 refine⟨_,rfl,b,_,1,_,rfl,rfl,d,rfl,?_⟩
 refine⟨_,_,rfl,rfl,IU m j,?_⟩
 refine⟨_,rfl,b,_,0,_,rfl,rfl,d,rfl,?_⟩
 refine⟨_,rfl,a,_,1,_,rfl,rfl,c,rfl,?_⟩
 refine⟨_,_,rfl,rfl,IU u g,?_⟩
 refine⟨_,_,rfl,rfl,?_⟩
 refine⟨_,rfl,a,_,1,_,rfl,rfl,c,rfl,?_⟩
 refine⟨_,rfl,b,_,1,_,rfl,rfl,d,rfl,?_⟩
 refine⟨_,_,rfl,rfl,IU g j,?_⟩
 exact⟨_,_,rfl,λz=>absurd z (cW o p),λ_=>⟨Mq g j,q⟩⟩
theorem JO:Fi ["one","two"] ["one","two"] (Ff (Fk 19)):=⟨rfl,rfl,rfl,by decide +kernel,rfl,by decide +kernel,by decide +kernel⟩
theorem LV(M:Md K mg x cB)
  (Gfraction:Dn P w K mg base (GM P w) 2 "fraction" ["top","bottom"] (FV x)):Dn P w K mg base Fs 3 "times" ["one","two"] (IR Kl K):=by
 have B:=(JO).nd
 refine M.f_times.ok JO (λvs H Q E h=>?_) (λ_ _ _ _ _ _ t n=>HX (λ_ _=>rfl) t n) (λf v A l s H vs Q E r h=>?_)
 ·obtain⟨a,b,x,y,rfl,d,e,g,c,q⟩:=h
  rfl
 obtain⟨a,b,x,y,rfl,d,e,g,c,q⟩:=h
 refine⟨_,(rJ (rP (sf Gfraction r (by decide) rfl JQ (lh (rO sK (rR rZ (pv 0) rH (λ_ _=>rfl)) (rR rZ (pv 1) rH (λ_ _=>rfl))) (lh (rO sK (rR rZ (pv 0) rH (λ_ _=>rfl)) (rR rZ (pv 1) rH (λ_ _=>rfl))) rG))))),?_⟩
 obtain⟨m,j,o⟩:=g
 obtain⟨u,k,p⟩:=c
 refine⟨_,rfl,a,_,0,_,rfl,rfl,d,rfl,?_⟩
 refine⟨_,rfl,b,_,0,_,rfl,rfl,e,rfl,?_⟩
 refine⟨_,_,rfl,rfl,IU m u,?_⟩
 refine⟨_,rfl,a,_,1,_,rfl,rfl,d,rfl,?_⟩
 refine⟨_,rfl,b,_,1,_,rfl,rfl,e,rfl,?_⟩
 refine⟨_,_,rfl,rfl,IU j k,?_⟩
 exact⟨_,_,rfl,λz=>absurd z (cW o p),λ_=>⟨Mq j k,q⟩⟩
theorem Je:Fi ["one","two"] ["one","two"] (Ff (Fk 20)):=⟨rfl,rfl,rfl,by decide +kernel,rfl,by decide +kernel,by decide +kernel⟩
theorem Lp(M:Md K mg x cB):Dn P w K mg base Fs 1 "before" ["one","two"] (Ir K):=by
 have u:=(Je).nd;refine M.f_before.ok Je (λvs H Q E h=>?_) (λ_ _ _ _ _ _ n l=>HX (λ_ _=>rfl) n l) (λf r A j s H vs Q E z h=>?_)
 ·obtain⟨a,b,x,y,rfl,d,e,g,c,q⟩:=h;rfl
 obtain⟨a,b,x,y,rfl,d,e,g,c,q⟩:=h;refine⟨_,(rJ (rP (ua z6 (rO sK (rR rZ (pv 0) rH (λ_ _=>rfl)) (rR rZ (pv 1) rH (λ_ _=>rfl))) (rO sK (rR rZ (pv 1) rH (λ_ _=>rfl)) (rR rZ (pv 0) rH (λ_ _=>rfl))) (Fj _)))),?_⟩;obtain⟨k,m,t⟩:=g;obtain⟨o,p,v⟩:=c;refine⟨_,rfl,a,_,0,_,rfl,rfl,d,rfl,?_⟩;refine⟨_,rfl,b,_,1,_,rfl,rfl,e,rfl,?_⟩;refine⟨_,_,rfl,rfl,IU k p,?_⟩;refine⟨_,rfl,b,_,0,_,rfl,rfl,e,rfl,?_⟩;refine⟨_,rfl,a,_,1,_,rfl,rfl,d,rfl,?_⟩;exact⟨_,_,rfl,rfl,IU o m,_,_,rfl,rfl,q⟩
theorem JG:Fi ["parts","so_far","part"] ["parts"] (Ff (Fk 21)):=⟨rfl,rfl,rfl,by decide +kernel,rfl,by decide +kernel,by decide +kernel⟩
theorem LR(M:Md K mg x cB)
  (Gplus:Dn P w K mg base Fs 3 "plus" ["one","two"] (IR G0 K)):Dn P w K mg base Fs 4 "total" ["parts"] (Lo K):=by
 have D:=(JG).nd
 refine M.f_total.ok JG (λvs H Q E h=>?_) (λ_ _ _ _ _ _ T R=>Ko (λ_=>rfl) T R) (λf U A O s H vs Q E S h=>?_)
 ·obtain⟨a,G,j,rfl,l,z,N,o,q⟩:=h
  rfl
 obtain⟨a,G,j,rfl,l,z,N,o,q⟩:=h
 refine⟨_,(rF (rL (i:=1) D rfl (Or.inl rfl) (uj M.c_NOTHING))
   (rF (tN db rfl (EY (pv 0)) (rS (i:=2) D rfl (Or.inl rfl)) (rJ (rL (i:=1) D rfl (Or.inl rfl) (sf Gplus S (by decide) rfl Fm (lh (pv 1) (lh (pv 2) rG))))))
   (rJ (rP (pv 1))))),?_⟩
 refine λB C=>?_
 rcases l with l|l
 ·refine .inl ⟨_,rfl,a,rfl,⟨_,l⟩,?_⟩
  refine vJ (xs:=G) (λi k c=>Same H c/\∃d r,k=[some (.ref a),some d,r]/\IsF K c d (Gv (j.take i)))
   ⟨Same.refl _,.ref B,_,rfl,B,rfl,C _⟩ (λi k c _ e=>e.1.seq l) (λi v k c J e=>?_) (λk c e=>?_)
  ·obtain⟨g,d,r,rfl,b⟩:=e
   obtain⟨y,n,m⟩:=Paired.get' z J
   obtain⟨t,rfl,b⟩:=b
   obtain⟨I,rfl,m⟩:=m
   refine⟨_,rfl,_,rfl,t,I,Gv (j.take i),y,rfl,b,g.tup m,N i,o y (cz n),λp L F hp=>?_⟩
   refine⟨g.trans F,.ref p,_,rfl,p,rfl,?_⟩
   rw[cv,n]
   show SqT K L p [.int (Gv (j.take i++[y])).1,.int (Gv (j.take i++[y])).2]
   rw[uZ]
   exact SqT.of hp
  ·obtain⟨g,d,r,rfl,b⟩:=e
   have u:=Paired.len z
   rw[u,cI]at b
   exact⟨_,rfl,q d c g b⟩
 ·refine .inr ⟨_,rfl,a,rfl,⟨_,l⟩,?_⟩
  refine Em (xs:=G) (λi k c=>Same H c/\∃d r,k=[some (.ref a),some d,r]/\IsF K c d (Gv (j.take i)))
   ⟨Same.refl _,.ref B,_,rfl,B,rfl,C _⟩ (λi k c _ e=>e.1.tup l) (λi v k c J e=>?_) (λk c e=>?_)
  ·obtain⟨g,d,r,rfl,b⟩:=e
   obtain⟨y,n,m⟩:=Paired.get' z J
   obtain⟨t,rfl,b⟩:=b
   obtain⟨I,rfl,m⟩:=m
   refine⟨_,rfl,_,rfl,t,I,Gv (j.take i),y,rfl,b,g.tup m,N i,o y (cz n),λp L F hp=>?_⟩
   refine⟨g.trans F,.ref p,_,rfl,p,rfl,?_⟩
   rw[cv,n]
   show SqT K L p [.int (Gv (j.take i++[y])).1,.int (Gv (j.take i++[y])).2]
   rw[uZ]
   exact SqT.of hp
  ·obtain⟨g,d,r,rfl,b⟩:=e
   have u:=Paired.len z
   rw[u,cI]at b
   exact⟨_,rfl,q d c g b⟩
theorem JY:Fi ["parts","smallest","part"] ["parts"] (Ff (Fk 22)):=⟨rfl,rfl,rfl,by decide +kernel,rfl,by decide +kernel,by decide +kernel⟩
theorem LP(M:Md K mg x cB)
  (Gbefore:Dn P w K mg base Fs 1 "before" ["one","two"] (Ir K)):Dn P w K mg base Fs 2 "least" ["parts"] (Jh K):=by
 have F:=(JY).nd
 refine M.f_least.ok JY (λvs H Q E h=>?_) (λ_ _ _ _ _ _ us j=>Ko (λ_=>rfl) us j) (λf aa A X s H vs Q E hr h=>?_)
 ·obtain⟨a,G,b,rfl,t,C,k,j,B,q⟩:=h
  rfl
 obtain⟨a,G,b,rfl,t,C,k,j,B,q⟩:=h
 refine⟨_,(rF (rL (i:=1) F rfl (Or.inl rfl) (rR rY (pv 0) rH (λ_ _=>rfl)))
   (rF (tN db rfl (tE (pv 0)) (rS (i:=2) F rfl (Or.inl rfl)) (rJ (si (sB (sf Gbefore hr (by decide) rfl Fm (lh (pv 2) (lh (pv 1) rG)))) (rJ (rL (i:=1) F rfl (Or.inl rfl) (pv 2))) rN)))
   (rJ (rP (pv 1))))),?_⟩
 obtain⟨g,m⟩:∃p,b[0]?=some p:=by
  cases b with
  | nil=>exact absurd rfl k
  | cons p r=>exact⟨p,rfl⟩
 have W:b.headD (0,1)=g:=by
  cases b with
  | nil=>exact absurd rfl k
  | cons p r=>exact Option.some.inj m
 have sz:∀i,Sz 4000 (FF g (b.take i)):=λi=>by
  have:∀(l:List (Int×Int)) (s:Int×Int),Sz 4000 s->(∀p∈l,Sz 4000 p)->Sz 4000 (FF s l):=by
   intro l
   induction l with
   | nil=>intro s J _;exact J
   | cons x r Z=>
    intro s J j
    refine Z _ ?_ λp hp=>j p (b3 _ hp)
    show Sz 4000 (if FJ x s=true then x else s)
    split
    ·exact j x b0
    ·exact J
  exact this _ _ (B _ (cz m)) λp hp=>B p (dO hp)
 obtain⟨S,U,T⟩:=Paired.get C m
 refine⟨_,rfl,a,G,0,S,rfl,rfl,t,sM U,?_⟩
 refine⟨_,rfl,a,rfl,⟨_,t⟩,?_⟩
 refine vJ (xs:=G) (λi z u=>u=H/\∃n r,z=[some (.ref a),some n,r]/\IsF K H n (FF g (b.take i)))
  ⟨rfl,S,_,rfl,T⟩ (λi z u _ o=>by rw[o.1];exact t) (λi v z u Y o=>?_) (λz u o=>?_)
 ·obtain⟨rfl,n,r,rfl,d⟩:=o
  obtain⟨y,R,L⟩:=Paired.get' C Y
  have e:FF g (b.take (i+1))=if FJ y (FF g (b.take i))=true then y else FF g (b.take i):=by
   rw[cv,R]
   unfold FF
   rw[nG]
   rfl
  obtain⟨D,rfl,I⟩:=id d
  obtain⟨N,rfl,O⟩:=id L
  refine⟨_,rfl,_,rfl,N,D,y,FF g (b.take i),rfl,O,I,B y (cz R),sz i,_,rfl,?_⟩
  rw[e]
  show if FJ y (FF g (b.take i))=true then _ else _
  refine K2 (λc=>?_) (λc=>?_)
  ·refine⟨_,rfl,rfl,.ref N,_,rfl,?_⟩
   rw[if_pos c]
   exact L
  ·refine⟨rfl,.ref D,_,rfl,?_⟩
   rw[if_neg c]
   exact d
 ·obtain⟨rfl,n,r,rfl,d⟩:=o
  have V:=Paired.len C
  rw[V,cI]at d
  refine⟨_,rfl,q n ?_⟩
  unfold Iw
  rw[W]
  exact d
theorem Hv:Fi ["wish","left"] ["wish","left"] (Ff (Fk 24)):=⟨rfl,rfl,rfl,by decide +kernel,rfl,by decide +kernel,by decide +kernel⟩
theorem JZ(M:Md K mg x cB):Dn P w K mg base Fs 1 "best_left" ["wish","left"] (KL K):=by
 have nd:=(Hv).nd;refine M.f_best_left.ok Hv (λvs H Q E h=>?_) (λ_ _ _ _ _ _ us n=>HX (λ_ _=>rfl) us n) (λf aa A U s H vs Q E hr h=>?_)
 ·obtain⟨w,l,b,d,D,I,rfl,B,n,T,hD,k,J,u,q⟩:=h;rfl
 obtain⟨w,l,b,d,D,I,rfl,B,n,T,hD,k,J,u,q⟩:=h;refine⟨_,(rJ (rP (rR rY (sS rfl (N:=["thing","left"]) (caps:=[none,some 1]) (CompOk.of (by kernel_rfl)) (sj rfl) (vP (pv 0)) (λ_ _ _ _=>(rS (i:=0) (show(["thing","left"]:List Str).Nodup by decide +kernel) rfl (Or.inl rfl) (Or.inr rfl))) (λ_ _ _ _=>(uH (rM (Bd (K:=K) rfl hr) (rR (t9 (K:=K) rfl) (pv 1) (pv 0) (λ_ _=>rfl)) (vD (K:=K) rfl M.c_NOTHING) (Fj _)))) (λ_ _ _ _=>(pv 0))) rH (λ_ _=>rfl)))),?_⟩;refine⟨_,rfl,w,rfl,⟨_,B⟩,?_⟩;refine uX (xs:=b.map V.int) (λi o p=>p=H/\o=((b.take i).filter λt=>decide (EM.at0 d t≠0)).map V.int)
  ⟨rfl,rfl⟩ (λi o p _ m=>by rw[m.1];exact B) (λi x o p g m=>?_) (λo p m Dd L=>?_)
 ·obtain⟨rfl,rfl⟩:=m;rw[bZ]at g
  cases e:b[i]? with
  | none=>rw[e]at g;cases g
  | some t=>
   rw[e]at g;have S:V.int t=x:=Option.some.inj g;subst S;have R:=k t (cz e);have O:t.toNat<d.length:=by omega
   have F:(fr D d)[t.toNat]?=some (FQ.red (EM.at0 d t) D):=by
    unfold fr EM.at0;rw[bZ,bR,bT O];rfl
   obtain⟨v,Y,W⟩:=Paired.get T F;refine⟨_,rfl,_,rfl,l,I,t,v,rfl,rfl,n,tJ R.1 Y,λc0 G=>?_⟩;refine⟨dF (FQ.red (EM.at0 d t) D),dF (0,1),W.rep,IsF.rep ⟨c0,rfl,G _⟩,sO _,sO _,_,rfl,?_⟩;rw[vk,cv,e,gp,cb];have y:(((b.take i).filter λt=>decide (EM.at0 d t≠0)).map V.int).length<sizeLine:=by
    rw[bP];have h1:=dC (λt=>decide (EM.at0 d t≠0)) (b.take i);rw[cf]at h1;exact Fg (by omega)
   refine ID (λc=>?_) (λc=>?_)
   ·have j:EM.at0 d t≠0:=λz=>c ((sI (by omega)).mpr z);refine⟨_,rfl,y,rfl,?_⟩;simp[j]
   ·have j:EM.at0 d t=0:=(sI (by omega)).mp c;refine⟨rfl,?_⟩;simp[j]
 ·obtain⟨rfl,rfl⟩:=m;rw[bP,cI];obtain⟨t,X,j⟩:=u;have C:t∈b.filter λt=>decide (EM.at0 d t≠0):=dw.mpr ⟨X,decide_eq_true j⟩;have Z:(b.filter λt=>decide (EM.at0 d t≠0))[0]?=some (EM.best d b):=by
   unfold EM.best
   cases hf:b.filter λt=>decide (EM.at0 d t≠0)with
   | nil=>rw[hf]at C;cases C
   | cons a r=>rfl
  refine⟨Dd,_,0,_,rfl,rfl,SqL.of rE,sM (by rw[bZ,Z];rfl),q _ (mJ L _)⟩
theorem Gu:Fi ["dishes","left"] ["dishes","left"] (Ff (Fk 25)):=⟨rfl,rfl,rfl,by decide +kernel,rfl,by decide +kernel,by decide +kernel⟩
theorem Iq(M:Md K mg x cB)
  (Gtimes:Dn P w K mg base Fs 3 "times" ["one","two"] (IR Kl K))
  (Gleast:Dn P w K mg base Fs 2 "least" ["parts"] (Jh K)):Dn P w K mg base Fs 4 "time_to_stop" ["dishes","left"] (KU K):=by
 have nd:=(Gu).nd
 refine M.f_time_to_stop.ok Gu (λvs H Q E h=>?_) (λ_ _ _ _ _ _ us L=>HX (λ_ _=>rfl) us L) (λf aj A ai s H vs Q E hr h=>?_)
 ·obtain⟨d,l,b,ms,D,gs,rfl,z,L,hg,X,U,C,aa,r,I,q⟩:=h
  rfl
 obtain⟨d,l,b,ms,D,gs,rfl,z,L,hg,X,U,C,aa,r,I,q⟩:=h
 refine⟨_,(rJ (rP (sf Gleast hr (by decide) rfl Fm (lh (sS rfl (N:=["thing","dishes","left"]) (caps:=[none,some 0,some 1]) (CompOk.of (by kernel_rfl)) (sj rfl) (tE (pv 0)) (λ_ _ _ _=>(rS (i:=0) (show(["thing","dishes","left"]:List Str).Nodup by decide +kernel) rfl (Or.inl rfl) (Or.inr rfl))) (λ_ _ _ _=>sQ) (λ_ _ _ _=>(sf Gtimes hr (by decide) rfl Fm (lh (rR (t9 (K:=K) rfl) (pv 2) (pv 0) (λ_ _=>rfl)) (lh (sw (lh rH (lh (Dp (K:=K) rfl cu kS kT (x5 (K:=K) rfl) (pv 1) (lh (pv 0) rG)) rG))) rG))))) rG)))),?_⟩
 refine⟨_,rfl,d,rfl,⟨_,z⟩,?_⟩
 refine tm (xs:=b.map V.int) (λi y c=>Same H c/\cT (IsF K c) y ((b.take i).map (FO D b ms)))
  ⟨Same.refl _,.nil⟩ (λi y c _ J=>J.1.seq z) (λi x y c G J=>?_) (λy c J Dd ac=>?_)
 ·obtain⟨o,j⟩:=J
  rw[bZ]at G
  cases u:b[i]? with
  | none=>rw[u]at G;cases G
  | some t=>
   rw[u]at G
   have ah:V.int t=x:=Option.some.inj G
   subst ah
   have T:=cz u
   have g:=r t T
   have ae:t.toNat<ms.length:=by omega
   have Z:(fr D ms)[t.toNat]?=some (FQ.red (EM.at0 ms t) D):=by
    unfold fr EM.at0
    rw[bZ,bR,bT ae]
    rfl
   have af:=I _ (EM.at0_mem (ms:=ms) g.1 g.2)
   have S:=EM.cnt_pos T
   have ag:=EM.cnt_le b t
   obtain⟨v,O,va,rfl,hF⟩:=Paired.get hg Z
   refine⟨_,rfl,_,rfl,l,gs,t,_,rfl,rfl,o.seq L,tJ g.1 O,?_⟩
   refine⟨_,rfl,.inl ⟨rfl,_,o.seq z⟩,_,rfl,d,b,t,rfl,rfl,o.seq z,by show 2<=sizeLine;decide,λp hp=>?_⟩
   have k:Same c (upd c p (.tup [.int 1,.int (b.count t:Nat)])):=mJ hp _
   have W:upd c p (.tup [.int 1,.int (b.count t:Nat)]) p=some (.tup [.int 1,.int (b.count t:Nat)]):=rE
   generalize upd c p (.tup [.int 1,.int (b.count t:Nat)])=H2 at k W ⊢
   have B:=Paired.len j
   rw[bP,cf]at B
   have R:D≠0:=by omega
   have ak:EM.cnt b t=(b.count t:Nat):=rfl
   refine⟨va,p,FQ.red (EM.at0 ms t) D,(1,EM.cnt b t),rfl,(o.trans k).tup hF,SqT.of W,(t7 (n:=30) R (by omega) (by omega)).up (by decide),Sz.up (m:=30) ⟨by show(1:Int).natAbs<2^30;decide,by show(EM.cnt b t).natAbs<2^30;omega,by show EM.cnt b t≠0;omega⟩ (by decide),λpf H3 S3 ab=>⟨Fg (by omega),o.trans (k.trans S3),?_⟩⟩
   rw[cv,u,cb]
   refine Paired.app (rW (k.trans S3) j) (.cons ⟨pf,rfl,?_⟩ .nil)
   have e:FO D b ms t=Kl (FQ.red (EM.at0 ms t) D) (1,EM.cnt b t):=by
    unfold FO
    rw[BQ (vq R) (At (a:=1) (D:=EM.cnt b t) (by omega)),gL]
   rw[e]
   exact SqT.of ab
 ·obtain⟨o,j⟩:=J
  rw[bP,cI]at j
  have B:=Paired.len j
  rw[bP]at B
  have k:Same c (upd c Dd (.lst y)):=mJ ac _
  refine⟨Dd,y,b.map (FO D b ms),rfl,SqL.of rE,rW k j,by simpa using C,by rw[bP];omega,λp hp=>?_,λv O=>?_⟩
  ·obtain⟨t,Y,rfl⟩:=cP.mp hp
   have g:=r t Y
   have af:=I _ (EM.at0_mem (ms:=ms) g.1 g.2)
   have S:=EM.cnt_pos Y
   have ag:=EM.cnt_le b t
   have h1:0<D*EM.cnt b t:=ip X S
   have h2:D*EM.cnt b t<=262144*6:=iZ U (by omega) (by omega) (by decide)
   exact(t7 (n:=30) (by omega) (by omega) (by omega)).up (by decide)
  ·rw[zI X C]at O
   exact q v _ (o.trans k) O
theorem GJ:Fi ["dishes","left","length"] ["dishes","left","length"] (Ff (Fk 26)):=⟨rfl,rfl,rfl,by decide +kernel,rfl,by decide +kernel,by decide +kernel⟩
theorem IN(M:Md K mg x cB)
  (Gminus:Dn P w K mg base Fs 3 "minus" ["one","two"] (IR Ky K))
  (Gtimes:Dn P w K mg base Fs 3 "times" ["one","two"] (IR Kl K)):Dn P w K mg base Fs 4 "left_behind" ["dishes","left","length"] (KM K):=by
 have nd:=(GJ).nd
 refine M.f_left_behind.ok GJ (λvs H Q E h=>?_) (λ_ _ _ _ _ _ us o=>K7 (λ_ _ _=>rfl) us o) (λf aq A ak s H vs Q E hr h=>?_)
 ·obtain⟨d,l,p,b,ms,D,c,m,gs,rfl,hd,o,hg,hp,hD,T,W,ab,I,ag,ae,ac,V,q⟩:=h
  rfl
 obtain⟨d,l,p,b,ms,D,c,m,gs,rfl,hd,o,hg,hp,hD,T,W,ab,I,ag,ae,ac,V,q⟩:=h
 refine⟨_,(rJ (rP (sS rfl (N:=["thing","part","dishes","length"]) (caps:=[none,none,some 0,some 2]) (CompOk.of (by kernel_rfl)) (za (tO sU (sj rfl) (tO sU (sj rfl) xo))) (AN rfl M.b_enumerate (lh (pv 1) rG)) (λ_ _ _ _=>(xH (K:=K) rfl 2 rfl (sF (rS (i:=0) (show(["thing","part","dishes","length"]:List Str).Nodup by decide +kernel) rfl (Or.inl rfl) (Or.inr rfl)) (sF (rS (i:=1) (show(["thing","part","dishes","length"]:List Str).Nodup by decide +kernel) rfl (Or.inl rfl) (Or.inr rfl)) uo)))) (λ_ _ _ _=>sQ) (λ_ _ _ _=>(sf Gminus hr (by decide) rfl Fm (lh (pv 1) (lh (sf Gtimes hr (by decide) rfl Fm (lh (sw (lh (Dp (K:=K) rfl cu kS kT (x5 (K:=K) rfl) (pv 2) (lh (pv 0) rG)) (lh rH rG))) (lh (pv 3) rG))) rG))))))),?_⟩
 have z:=Paired.len hg
 unfold fr at z
 rw[bP]at z
 have Z:D≠0:=by omega
 have am:0<D*c:=ip hD W
 have ap:D*c<=262144*6:=iZ T (by omega) (by omega) (by decide)
 refine⟨_,rfl,l,rfl,⟨_,o⟩,?_⟩
 refine Aj (xs:=gs) (λi G e=>Same H e/\cT (IsF K e) G (fr (D*c) (((LM.rng ms.length).take i).map λj=>EM.at0 ms j*c-EM.cnt b j*m)))
  ⟨Same.refl _,.nil⟩ (λi G e _ B=>B.1.seq o) (λi x G e t hx ht B=>?_) (λG e B Dd r=>?_)
 ·obtain⟨L,g⟩:=B
  have an:i<gs.length:=(b8.mp hx).1
  obtain⟨y,hy,u,rfl,hF⟩:=Paired.get' hg hx
  have aj:=EM.rng_get (n:=ms.length) (k:=i) (by omega)
  have ah:(fr D ms)[i]?=some (FQ.red (EM.at0 ms (i:Int)) D):=by
   unfold fr EM.at0
   rw[bZ,bR,e9,bT (by omega)]
   rfl
  rw[ah]at hy
  cases hy
  have au:=V _ (EM.at0_mem (ms:=ms) (t:=(i:Int)) (by omega) (by omega))
  have aa:=EM.cnt_nn b (i:Int)
  have ao:=EM.cnt_le b (i:Int)
  have S2:Same e (upd e t (.tup [.int i,.ref u])):=mJ ht _
  have R:upd e t (.tup [.int i,.ref u]) t=some (.tup [.int i,.ref u]):=rE
  generalize upd e t (.tup [.int i,.ref u])=O at S2 R ⊢
  have v:=L.trans S2
  refine⟨t,_,rfl,SqT.of R,rfl,_,_,rfl,_,_,rfl,rfl,?_⟩
  refine⟨_,rfl,_,rfl,.inl ⟨rfl,_,v.seq hd⟩,_,rfl,d,b,(i:Int),rfl,rfl,v.seq hd,by show 2<=sizeLine;decide,λC af=>?_⟩
  have S3:Same O (upd O C (.tup [.int (b.count (i:Int):Nat),.int 1])):=mJ af _
  have Y:upd O C (.tup [.int (b.count (i:Int):Nat),.int 1]) C=some (.tup [.int (b.count (i:Int):Nat),.int 1]):=rE
  generalize upd O C (.tup [.int (b.count (i:Int):Nat),.int 1])=H3 at S3 Y ⊢
  have J:=v.trans S3
  obtain⟨_,e0,ai⟩:=hp
  cases e0
  refine⟨_,rfl,C,p,(EM.cnt b (i:Int),1),FQ.red m (D*c),rfl,SqT.of Y,J.tup ai,Sz.up (m:=30) ⟨by show(EM.cnt b (i:Int)).natAbs<2^30;omega,by show(1:Int).natAbs<2^30;decide,by show(1:Int)≠0;decide⟩ (by decide),(t7 (n:=30) (by omega) (by omega) (by omega)).up (by decide),λpm H4 S4 U=>?_⟩
  have em:Kl (EM.cnt b (i:Int),1) (FQ.red m (D*c))=FQ.red (EM.cnt b (i:Int)*m) (D*c):=by
   rw[BQ (At (a:=EM.cnt b (i:Int)) (D:=1) (by decide)) (vq (by omega)),jk]
  rw[em]at U
  have al:0<=EM.cnt b (i:Int)*m:=iY aa I
  have ar:EM.cnt b (i:Int)*m<=6*262144:=iZ (by omega) (by omega) I (by decide)
  have X:=Paired.len g
  unfold fr at X
  rw[bP,bP,cf,LM.rng_len]at X
  refine⟨u,pm,FQ.red (EM.at0 ms (i:Int)) D,FQ.red (EM.cnt b (i:Int)*m) (D*c),rfl,(J.trans S4).tup hF,SqT.of U,(t7 (n:=30) Z (by omega) (by omega)).up (by decide),(t7 (n:=30) (by omega) (by omega) (by omega)).up (by decide),λpf H5 S5 S=>⟨Fg (by omega),J.trans (S4.trans S5),?_⟩⟩
  rw[xU Z (by omega)]at S
  rw[cv,aj]
  unfold fr
  rw[cb,cb]
  exact Paired.app (rW (S2.trans (S3.trans (S4.trans S5))) g) (.cons ⟨pf,rfl,SqT.of S⟩ .nil)
 ·obtain⟨L,g⟩:=B
  rw[z,dz (by rw[LM.rng_len];exact bX _)]at g
  exact q Dd G _ (L.trans (mJ r _)) (L.free r) rE (rW (mJ r _) g)
theorem GR:Fi ["wishes","left","courses","dishes","length","gone"] ["wishes"] (Ff (Fk 27)):=⟨rfl,rfl,rfl,by decide +kernel,rfl,by decide +kernel,by decide +kernel⟩
theorem Jk(M:Md K mg x cB)
  (Gtotal:Dn P w K mg base Fs 4 "total" ["parts"] (Kt K))
  (Gbest_left:Dn P w K mg base Fs 1 "best_left" ["wish","left"] (KL K))
  (Gtime_to_stop:Dn P w K mg base Fs 4 "time_to_stop" ["dishes","left"] (KU K))
  (Gleft_behind:Dn P w K mg base Fs 4 "left_behind" ["dishes","left","length"] (KM K)):Dn P w K mg base Fs 5 "courses_of" ["wishes"] (I8 K):=by
 have nd:=(GR).nd
 refine M.f_courses_of.ok GR (λvs H Q E h=>?_) (λ_ _ _ _ _ _ us hl=>Ko (λ_=>rfl) us hl) (λf bx A bo s H vs Q E r h=>?_)
 ·obtain⟨a,ws,W,n,rfl,hA,hW,G,q⟩:=h
  rfl
 obtain⟨a,ws,W,n,rfl,hA,hW,G,q⟩:=h
 refine⟨_,(rF (rL (i:=1) nd rfl (Or.inr rfl) (sS rfl (N:=["wish"]) (caps:=[none]) (CompOk.of (by kernel_rfl)) (sj rfl) (tE (pv 0)) (λ_ _ _ _=>(rS (i:=0) (show(["wish"]:List Str).Nodup by decide +kernel) rfl (Or.inl rfl) (Or.inr rfl))) (λ_ _ _ _=>sQ) (λ_ _ _ _=>(vD (K:=K) rfl M.c_WHOLE))))
   (rF (rL (i:=2) nd rfl (Or.inl rfl) (sA rG))
   (rF (uw db (rM (vW r) (sf Gtotal r (by decide) rfl Fm (lh (pv 1) rG)) (uj M.c_NOTHING) (Fj _)) (rF (tq (i:=3) nd rfl rfl rfl rfl (N:=["wish","left"]) (caps:=[none,some 1]) (CompOk.of (by kernel_rfl)) (sj rfl) (tE (pv 0)) (λ_ _ _ _=>(rS (i:=0) (show(["wish","left"]:List Str).Nodup by decide +kernel) rfl (Or.inl rfl) (Or.inr rfl))) (λ_ _ _ _=>sQ) (λ_ _ _ _=>(sf Gbest_left r (by decide) rfl Fm (lh (pv 0) (lh (pv 1) rG)))))
   (rF (rL (i:=4) nd rfl (Or.inl rfl) (sf Gtime_to_stop r (by decide) rfl Fm (lh (pv 3) (lh (pv 1) rG))))
   (rF (rL (i:=1) nd rfl (Or.inr rfl) (sf Gleft_behind r (by decide) rfl Fm (lh (pv 3) (lh (pv 1) (lh (pv 4) rG)))))
   (rF (tq (i:=5) nd rfl rfl rfl rfl (N:=["thing","left"]) (caps:=[none,some 1]) (CompOk.of (by kernel_rfl)) (sj rfl) (tE (x6 rfl rfl M.b_sorted rfl M.b_set (pv 3))) (λ_ _ _ _=>(rS (i:=0) (show(["thing","left"]:List Str).Nodup by decide +kernel) rfl (Or.inl rfl) (Or.inr rfl))) (λ_ _ _ _=>(uH (rM (DL (K:=K) rfl r) (rR (t9 (K:=K) rfl) (pv 1) (pv 0) (λ_ _=>rfl)) (vD (K:=K) rfl M.c_NOTHING) (Fj _)))) (λ_ _ _ _=>(pv 0)))
   (rJ (su (tL cu cK cL sq (pv 2) (lh (sw (lh (pv 4) (lh (pv 3) (lh (sv tD rfl M.b_tuple Boot.«tuple» (lh (pv 5) rG)) rG)))) rG)))))))))
   (rJ (rP (pv 2)))))),?_⟩
 have aZ:=Paired.len hW
 have hn:=G.len
 have bu:=G.n1
 have a9:=G.n6
 have aG:(0:Nat)<=sizeLine:=by decide
 refine⟨_,rfl,a,rfl,⟨_,hA⟩,?_⟩
 refine tm (xs:=ws) (λi e H'=>H'=H/\cT (IsF K H) e (fr 1 (fC i 1)))
  ⟨rfl,.nil⟩ (λi e H' _ b=>by rw[b.1];exact hA) (λi x e H' k b=>?_) (λe H' b l0 aC=>?_)
 ·obtain⟨rfl,O⟩:=b
  have bs:i<ws.length:=(b8.mp k).1
  have aV:=Paired.len O
  unfold fr at aV
  rw[bP,gq]at aV
  refine λc hc=>⟨Fg (by omega),rfl,?_⟩
  rw[List.replicate_succ']
  unfold fr
  rw[cb]
  exact Paired.app O (.cons ⟨c,rfl,hc _⟩ .nil)
 obtain⟨rfl,O⟩:=b
 rw[aZ,hn]at O
 refine⟨aG,λy B=>?_⟩
 have aq:H' y=none:=(mJ aC _).free B
 refine⟨λm σ X=>∃(i:Nat) (l:bV) (Z cs:List V) (r3 r4 r5:Option V),m=n-i/\σ=[some (.ref a),some (.ref l),some (.ref y),r3,r4,r5]/\Same H' X/\EM.Upto W n i/\X l=some (.lst Z)/\cT (IsF K X) Z (fr (EM.st W n i).D (EM.st W n i).ms)/\l≠y/\
   X y=some (.lst cs)/\cT (IsC K y X) cs (F0 W n i),
  ⟨_,0,l0,e,[],_,_,_,rfl,rfl,(mJ aC _).trans (mJ B _),(λi hi=>absurd hi (fX _)),mJ B _ _ _ rE,rW ((mJ aC _).trans (mJ B _)) O,(λz=>by rw[z,rE]at B;cases B),rE,.nil⟩,λm σ X b=>?_⟩
 obtain⟨i,l,Z,cs,r3,r4,r5,rfl,rfl,S1,up,hl,hg,bz,hc,aj⟩:=b
 obtain⟨St,_⟩:=EM.st_ok G i up
 have hD:=St.pos
 have aO:=EM.D_le St a9
 have al:(EM.st W n i).D≠0:=by omega
 have aL:=St.len
 have aE:∀m∈(EM.st W n i).ms,0<=m/\m<=(EM.st W n i).D:=λm hm=>⟨St.nn m hm,St.le m hm⟩
 have aS:=Paired.len hg
 unfold fr at aS
 rw[bP]at aS
 have aM:=Paired.len aj
 unfold F0 at aM
 rw[bP,eJ]at aM
 have bv:=EM.upto_le G up
 refine⟨_,rfl,l,Z,fr (EM.st W n i).D (EM.st W n i).ms,rfl,SqL.of hl,hg,λp hp=>?_,by unfold fr;rw[bP];omega,λv H2 I hv=>λc0 ba=>?_⟩
 ·unfold fr at hp
  obtain⟨x,k,rfl⟩:=cP.mp hp
  have:=aE x k
  exact t7 al (by omega) (by omega)
 refine⟨_,_,hv.rep,IsF.rep (p:=(0,1)) ⟨c0,rfl,ba _⟩,sO _,sO _,_,rfl,?_⟩
 rw[vk,Es al]
 by_cases hs:(EM.st W n i).ms.sum=0
 ·rw[decide_eq_true ((sI al).mpr hs)]
  exact⟨_,rfl,q y cs i H2 (S1.trans I) aq (I _ _ hc) ⟨up,hs⟩ (Paired.mapP aj λ_ _ h=>h.mono I)⟩
 rw[decide_eq_false (λz=>hs ((sI al).mp z))]
 refine⟨_,(λbr H' z=>z),?_⟩
 have U:=EM.step_of G up hs
 have af:=S1.trans I
 have au:=I _ _ hl
 have aB:=rW I hg
 have ag:=I _ _ hc
 have a4:=Paired.mapP aj λ_ _ (h:IsC K y X _ _)=>h.mono I
 clear hl hg hc aj hv
 have eC:EM.cs W (EM.st W n i)=⟨EM.at0 (EM.st W n i).ms (EM.pick (EM.dishes W (EM.st W n i).ms) (EM.st W n i).ms),(EM.st W n i).D*EM.cnt (EM.dishes W (EM.st W n i).ms) (EM.pick (EM.dishes W (EM.st W n i).ms) (EM.st W n i).ms),EM.dishes W (EM.st W n i).ms,EM.goneOf (EM.dishes W (EM.st W n i).ms) (EM.nextMs (EM.dishes W (EM.st W n i).ms) (EM.st W n i).ms)⟩:=rfl
 have eN:EM.st W n (i+1)=EM.nxt W (EM.st W n i):=rfl
 -- the dishes
 refine⟨_,rfl,a,rfl,⟨_,af.seq hA⟩,?_⟩
 refine tm (xs:=ws) (λj e T=>Same H2 T/\e=((W.take j).map (EM.best (EM.st W n i).ms)).map V.int)
  ⟨Same.refl _,rfl⟩ (λj e T _ b=>(af.trans b.1).seq hA) (λj x e T k b=>?_) (λe T b g ar=>?_)
 ·obtain⟨S3,rfl⟩:=b
  obtain⟨aW,r,wa,rfl,bk⟩:=Paired.get' hW k
  have a8:=cz r
  have an:=G.pm aW a8
  have bA:j<W.length:=(b8.mp r).1
  obtain⟨t,bj,bw,aA⟩:=EM.some_left hs
  refine⟨_,rfl,_,rfl,wa,l,aW,(EM.st W n i).ms,(EM.st W n i).D,Z,rfl,(af.trans S3).tup bk,SqL.of (S3 _ _ au),rW S3 aB,hD,λt S=>by rw[aL];exact LM.mem_rng.mp (an.mem_iff.mp S),by rw[an.length_eq,LM.rng_len];omega,⟨t,an.mem_iff.mpr (LM.mem_rng.mpr ⟨bj,by omega⟩),aA⟩,λH4 S4=>⟨Fg (by rw[bP,bP,cf];omega),S3.trans S4,?_⟩⟩
  rw[cv,r,cb,cb]
  rfl
 obtain⟨S3,rfl⟩:=b
 rw[aZ,cI]
 have eD:W.map (EM.best (EM.st W n i).ms)=EM.dishes W (EM.st W n i).ms:=rfl
 rw[eD]
 have a1:g≠y:=λz=>by rw[z,S3 _ _ ag]at ar;cases ar
 have ac:Same H2 (upd T g (.lst ((EM.dishes W (EM.st W n i).ms).map V.int))):=S3.trans (mJ ar _)
 have ak:upd T g (.lst ((EM.dishes W (EM.st W n i).ms).map V.int)) g=some (.lst ((EM.dishes W (EM.st W n i).ms).map V.int)):=rE
 generalize upd T g (.lst ((EM.dishes W (EM.st W n i).ms).map V.int))=H4 at ac ak ⊢
 have aP:=U.dl
 have J:=U.dm
 have bm:0<EM.at0 (EM.st W n i).ms (EM.pick (EM.dishes W (EM.st W n i).ms) (EM.st W n i).ms):=U.m0
 have bh:EM.at0 (EM.st W n i).ms (EM.pick (EM.dishes W (EM.st W n i).ms) (EM.st W n i).ms)<=(EM.st W n i).D:=U.mD
 have a5:0<EM.cnt (EM.dishes W (EM.st W n i).ms) (EM.pick (EM.dishes W (EM.st W n i).ms) (EM.st W n i).ms):=U.c0
 have a3:EM.cnt (EM.dishes W (EM.st W n i).ms) (EM.pick (EM.dishes W (EM.st W n i).ms) (EM.st W n i).ms)<=6:=U.c6
 have a6:EM.dishes W (EM.st W n i).ms≠[]:=λz=>by rw[z]at aP;simp at aP;omega
 -- the time
 refine⟨_,rfl,_,rfl,g,l,EM.dishes W (EM.st W n i).ms,(EM.st W n i).ms,(EM.st W n i).D,Z,rfl,SqL.of ak,SqL.of (ac _ _ au),rW ac aB,hD,aO,a6,by omega,λt S=>by rw[aL];exact(J t S).1,aE,λv5 H5 S5 a7=>?_⟩
 obtain⟨C,rfl,aY⟩:=a7
 have ah:=ac.trans S5
 -- what is left
 refine⟨_,rfl,_,rfl,_,rfl,g,l,C,EM.dishes W (EM.st W n i).ms,(EM.st W n i).ms,(EM.st W n i).D,_,_,Z,rfl,SqL.of (S5 _ _ ak),SqL.of (ah _ _ au),rW ah aB,⟨C,rfl,aY⟩,hD,aO,a5,a3,ef bm,bh,by omega,by omega,aE,λl6 ay H6 S6 aH aK az=>?_⟩
 have bc:=ah.trans S6
 have aI:l6≠y:=λz=>by rw[z,ah _ _ ag]at aH;cases aH
 change cT (IsF K H6) ay (fr (EM.st W n (i+1)).D (EM.st W n (i+1)).ms)at az
 have am:=U.S'
 rw[<-eN]at am
 have a0:(EM.st W n (i+1)).ms.length=n:=am.len
 have aR:(EM.st W n (i+1)).D≠0:=by have:=am.pos;omega
 have aQ:=S6 _ _ (S5 _ _ ak)
 -- what is gone
 refine⟨_,rfl,g,EM.dishes W (EM.st W n i).ms,rfl,SqL.of aQ,λt S=>by have:=(J t S).1;omega,λls u bl aa aX aJ=>⟨ls,rfl,⟨_,SqL.of rE⟩,?_⟩⟩
 have R:Same H6 (upd H6 ls (.lst (u.map V.int))):=mJ bl _
 have av:upd H6 ls (.lst (u.map V.int)) ls=some (.lst (u.map V.int)):=rE
 generalize upd H6 ls (.lst (u.map V.int))=H7 at R av ⊢
 have bq:u.length<=6:=EM.nodup_len 6 aX λt S=>by have:=(J t ((aa t).mp S)).1;omega
 refine wm (xs:=u.map V.int) (λj e L=>L=H7/\e=((u.take j).filter λt=>decide (EM.at0 (EM.st W n (i+1)).ms t=0)).map V.int)
  ⟨rfl,rfl⟩ (λj e L _ b=>by rw[b.1];exact SqL.of av) (λj x e L k b=>?_) (λe L b pg bg=>?_)
 ·obtain⟨rfl,rfl⟩:=b
  rw[bZ]at k
  cases ae:u[j]? with
  | none=>rw[ae]at k;cases k
  | some t=>
   rw[ae]at k
   have bf:V.int t=x:=Option.some.inj k
   subst bf
   have bn:=(J t ((aa t).mp (cz ae))).1
   have aA:t.toNat<(EM.st W n (i+1)).ms.length:=by omega
   have bi:(fr (EM.st W n (i+1)).D (EM.st W n (i+1)).ms)[t.toNat]?=some (FQ.red (EM.at0 (EM.st W n (i+1)).ms t) (EM.st W n (i+1)).D):=by
    unfold fr EM.at0
    rw[bZ,bR,bT aA]
    rfl
   obtain⟨v,hv,hF⟩:=Paired.get az bi
   refine⟨_,rfl,_,rfl,l6,ay,t,v,rfl,rfl,SqL.of (R _ _ aK),tJ bn.1 hv,λc1 bb=>?_⟩
   refine⟨_,_,(hF.mono R).rep,IsF.rep (p:=(0,1)) ⟨c1,rfl,bb _⟩,sO _,sO _,_,rfl,?_⟩
   rw[vk,cv,ae,gp,cb]
   have a2:(((u.take j).filter λt=>decide (EM.at0 (EM.st W n (i+1)).ms t=0)).map V.int).length<sizeLine:=by
    rw[bP]
    have h1:=dC (λt=>decide (EM.at0 (EM.st W n (i+1)).ms t=0)) (u.take j)
    rw[cf]at h1
    exact Fg (by omega)
   refine FD (λc=>?_) (λc=>?_)
   ·have hz:EM.at0 (EM.st W n (i+1)).ms t=0:=(sI aR).mp c
    refine⟨_,rfl,a2,rfl,?_⟩
    simp[hz]
   ·have hz:EM.at0 (EM.st W n (i+1)).ms t≠0:=λz=>c ((sI aR).mpr z)
    refine⟨rfl,?_⟩
    simp[hz]
 obtain⟨rfl,rfl⟩:=b
 rw[bP,cI,EM.gone_eq aa aX aJ (λd hd=>by rw[a0];exact(J d hd).1)]
 have eG:EM.goneOf (EM.dishes W (EM.st W n i).ms) (EM.st W n (i+1)).ms=(EM.cs W (EM.st W n i)).gone:=rfl
 rw[eG]
 have ap:Same L (upd L pg (.lst ((EM.cs W (EM.st W n i)).gone.map V.int))):=mJ bg _
 have aD:upd L pg (.lst ((EM.cs W (EM.st W n i)).gone.map V.int)) pg=some (.lst ((EM.cs W (EM.st W n i)).gone.map V.int)):=rE
 generalize upd L pg (.lst ((EM.cs W (EM.st W n i)).gone.map V.int))=H9 at ap aD ⊢
 have aT:=bc.trans (R.trans ap)
 refine⟨_,rfl,.inl ⟨rfl,_,SqL.of (aT _ _ ag)⟩,_,rfl,_,rfl,_,rfl,pg,_,rfl,.inl ⟨SqL.of aD,λo be=>?_⟩⟩
 refine⟨by show 3<=sizeLine;decide,λY aU=>?_⟩
 have aw:Same H9 (upd (upd H9 o (.tup ((EM.cs W (EM.st W n i)).gone.map V.int))) Y (.tup [.ref C,.ref g,.ref o])):=(mJ be _).trans (mJ aU _)
 have ax:upd (upd H9 o (.tup ((EM.cs W (EM.st W n i)).gone.map V.int))) Y (.tup [.ref C,.ref g,.ref o]) o=some (.tup ((EM.cs W (EM.st W n i)).gone.map V.int)):=mJ aU _ _ _ rE
 have aF:upd (upd H9 o (.tup ((EM.cs W (EM.st W n i)).gone.map V.int))) Y (.tup [.ref C,.ref g,.ref o]) Y=some (.tup [.ref C,.ref g,.ref o]):=rE
 generalize upd (upd H9 o (.tup ((EM.cs W (EM.st W n i)).gone.map V.int))) Y (.tup [.ref C,.ref g,.ref o])=HB at aw ax aF ⊢
 have ao:=aT.trans aw
 have ab:Same H6 HB:=R.trans (ap.trans aw)
 have ai:=ao _ _ ag
 refine⟨y,cs,_,rfl,rfl,ai,Fg (by omega),?_⟩
 have aN:=up.snoc hs
 have bp:=EM.upto_le G aN
 refine⟨n-(i+1),by omega,i+1,l6,ay,cs++[.ref Y],_,_,_,rfl,rfl,(af.trans ao).over aq _,aN,by rw[rQ aI];exact ab _ _ aK,Paired.mapP az (λ_ _ h=>(h.mono ab).over ai),aI,rE,?_⟩
 unfold F0
 rw[fG,cb]
 refine Paired.app (Paired.mapP a4 λ_ _ h=>(h.mono ao).over ai) (.cons (IsC.over ?_ ai) .nil)
 refine⟨Y,C,g,o,rfl,SqT.of aF,⟨C,rfl,(S6.trans ab).tup aY⟩,ab _ _ aQ,SqT.of ax,a1⟩
theorem HS:Fi ["courses","person","thing"] ["courses","person","thing"] (Ff (Fk 28)):=⟨rfl,rfl,rfl,by decide +kernel,rfl,by decide +kernel,by decide +kernel⟩
theorem KC(M:Md K mg x cB)
  (Gtotal:Dn P w K mg base Fs 4 "total" ["parts"] (Kt K)):Dn P w K mg base Fs 5 "eaten_of" ["courses","person","thing"] (IZ K):=by
 have nd:=(HS).nd
 refine M.f_eaten_of.ok HS (λvs H Q E h=>?_) (λ_ _ _ _ _ _ us hl=>K7 (λ_ _ _=>rfl) us hl) (λf ak A ae s H vs Q E hr h=>?_)
 ·obtain⟨c,cs,W,n,N,p,t,rfl,U,I,G,u,hp,q⟩:=h
  rfl
 obtain⟨c,cs,W,n,N,p,t,rfl,U,I,G,u,hp,q⟩:=h
 refine⟨_,(rJ (rP (sf Gtotal hr (by decide) rfl Fm (lh (sS rfl (N:=["length","dishes","gone","person","thing"]) (caps:=[none,none,none,some 1,some 2]) (CompOk.of (by kernel_rfl)) (za (tO sU (sj rfl) (tO sU (sj rfl) (tO sU (sj rfl) xo)))) (tE (pv 0)) (λ_ _ _ _=>(xH (K:=K) rfl 3 rfl (sF (rS (i:=0) (show(["length","dishes","gone","person","thing"]:List Str).Nodup by decide +kernel) rfl (Or.inl rfl) (Or.inr rfl)) (sF (rS (i:=1) (show(["length","dishes","gone","person","thing"]:List Str).Nodup by decide +kernel) rfl (Or.inl rfl) (Or.inr rfl)) (sF (rS (i:=2) (show(["length","dishes","gone","person","thing"]:List Str).Nodup by decide +kernel) rfl (Or.inl rfl) (Or.inr rfl)) uo))))) (λ_ _ _ _=>(uH (rM sY (rR (t9 (K:=K) rfl) (pv 1) (pv 3) (λ_ _=>rfl)) (pv 4) (Fj _)))) (λ_ _ _ _=>(pv 0))) rG)))),?_⟩
 have o:=Paired.len u
 unfold F0 at o
 rw[bP,eJ]at o
 have ah:=EM.upto_le I G
 have Z:=I.n6
 refine⟨_,rfl,c,rfl,⟨_,SqL.of U⟩,?_⟩
 refine wm (xs:=cs) (λi B F=>F=H/\i<=N/\∃b,cT (IsF K H) B b/\(∀p∈b,Sz 30 p)/\b.length<=i/\Gv b=FQ.red (EM.et W n i p t) (EM.st W n i).D)
  ⟨rfl,cM _,[],.nil,(λ_ z=>nomatch z),cM _,by show((0:Int),(1:Int))=FQ.red 0 1;exact(vI (by decide)).symm⟩ (λi B F _ r=>by rw[r.1];exact SqL.of U) (λi x B F hx r=>?_) (λB F r Dd J=>?_)
 ·obtain⟨rfl,_,b,j,k,R,a⟩:=r
  obtain⟨co,aa,ac⟩:=Paired.get' u hx
  obtain⟨C,rfl⟩:=zX aa
  obtain⟨xa,l,d,g,rfl,h1,h2,h3,h4,_⟩:=ac
  have s:=EM.step_of I (G.mono (cx C)) (G i C)
  have hD:=s.S.pos
  have X:=EM.D_le s.S Z
  have L:(EM.st W n i).D≠0:=by omega
  have ab:=s.c0
  have Y:=s.c6
  have af:0<(EM.st W n i).D*EM.cn W (EM.st W n i):=ip hD ab
  have aj:(EM.st W n i).D*EM.cn W (EM.st W n i)<=262144*6:=iZ X Y (by omega) (by decide)
  have an:=s.m0
  have am:=s.mD
  have ai:(EM.cs W (EM.st W n i)).ds.length=n:=s.dl
  have O:(EM.cs W (EM.st W n i)).D=(EM.st W n i).D*EM.cn W (EM.st W n i):=rfl
  have ag:(EM.cs W (EM.st W n i)).ds=EM.dishes W (EM.st W n i).ms:=rfl
  have eE:EM.et W n (i+1) p t=EM.et W n i p t*EM.cn W (EM.st W n i)+if(EM.dishes W (EM.st W n i).ms).getD p 0=t then(EM.cs W (EM.st W n i)).m else 0:=rfl
  have eD:(EM.st W n (i+1)).D=(EM.st W n i).D*EM.cn W (EM.st W n i):=rfl
  have al:=Paired.len j
  refine⟨xa,_,rfl,h1,rfl,_,_,rfl,_,_,rfl,_,_,rfl,rfl,?_⟩
  refine⟨_,rfl,_,rfl,d,_,_,_,rfl,rfl,SqL.of h3,sM (tV (by omega)),_,rfl,rfl,_,rfl,FD (λe=>?_) (λe=>?_)⟩
  ·have T:(EM.dishes W (EM.st W n i).ms).getD p 0=t:=Kn e
   refine⟨_,rfl,Fg (by omega),rfl,C,b++[FQ.red (EM.cs W (EM.st W n i)).m (EM.cs W (EM.st W n i)).D],Paired.app j (.cons h2 .nil),λz hz=>?_,by rw[cr];simp;omega,?_⟩
   ·rcases cN.mp hz with y|y
    ·exact k z y
    ·rw[bY.mp y,O]
     exact t7 (by omega) (by omega) (by omega)
   ·rw[uZ,a,O,By L (by omega),eE,if_pos T,eD]
  ·have T:¬(EM.dishes W (EM.st W n i).ms).getD p 0=t:=λz=>e (by show V.int ((EM.dishes W (EM.st W n i).ms).getD p 0)=V.int t;rw[z])
   refine⟨rfl,C,b,j,k,by omega,?_⟩
   rw[a,eE,if_neg T,f6,eD,AI L (by omega)]
 ·obtain⟨rfl,_,b,j,k,R,a⟩:=r
  rw[o]at R a
  refine⟨Dd,B,b,rfl,SqL.of rE,rW (mJ J _) j,k,by omega,λv H2 S2 hv=>q v H2 ((mJ J _).trans S2) ?_⟩
  rw[<-a]
  exact hv
theorem HV:Fi ["courses","person","count"] ["courses","person","count"] (Ff (Fk 29)):=⟨rfl,rfl,rfl,by decide +kernel,rfl,by decide +kernel,by decide +kernel⟩
theorem Kw(M:Md K mg x cB)
  (Geaten_of:Dn P w K mg base Fs 5 "eaten_of" ["courses","person","thing"] (IZ K)):Dn P w K mg base Fs 6 "eaten_by" ["courses","person","count"] (Jb K):=by
 have S:=(HV).nd
 refine M.f_eaten_by.ok HV (λvs H Q E h=>?_) (λ_ _ _ _ _ _ L C=>K7 (λ_ _ _=>rfl) L C) (λf O A B s H vs Q E I h=>?_)
 ·obtain⟨c,cs,W,n,N,p,rfl,z,o,y,m,hp,q⟩:=h
  rfl
 obtain⟨c,cs,W,n,N,p,rfl,z,o,y,m,hp,q⟩:=h
 refine⟨_,(rJ (rP (sv tD rfl M.b_tuple Boot.«tuple» (lh (sS rfl (N:=["thing","courses","person"]) (caps:=[none,some 0,some 1]) (CompOk.of (by kernel_rfl)) (sj rfl) (sD rfl M.b_range (lh (pv 2) rG)) (λ_ _ _ _=>(rS (i:=0) (show(["thing","courses","person"]:List Str).Nodup by decide +kernel) rfl (Or.inl rfl) (Or.inr rfl))) (λ_ _ _ _=>sQ) (λ_ _ _ _=>(sf Geaten_of I (by decide) rfl Fm (lh (pv 1) (lh (pv 2) (lh (pv 0) rG)))))) rG)))),?_⟩
 have R:=o.n6
 refine⟨_,rfl,(n:Int),rfl,by omega,by omega,?_⟩
 refine ud (n:=n) (λj d e=>Same H e/\cT (IsF K e) d (fr (EM.st W n N).D (((LM.rng n).take j).map (EM.et W n N p))))
  ⟨Same.refl _,.nil⟩ (λj d e J r=>?_) (λd e r G k=>?_)
 ·obtain⟨b,a⟩:=r
  have g:=Paired.len a
  unfold fr at g
  rw[bP,bP,cf,LM.rng_len]at g
  refine⟨_,rfl,_,rfl,_,rfl,c,cs,W,n,N,p,(j:Int),by rw[d2];rfl,b _ _ z,o,y,Paired.mapP m (λ_ _ h=>h.mono b),hp,λv T t F=>⟨Fg (by omega),b.trans t,?_⟩⟩
  rw[cv,EM.rng_get J]
  unfold fr
  rw[cb,cb]
  exact Paired.app (rW t a) (.cons F .nil)
 ·obtain⟨b,a⟩:=r
  rw[dz (by rw[LM.rng_len];exact bX _)]at a
  refine⟨G,d,rfl,.inl ⟨SqL.of rE,λu l=>q (.ref u) _ (b.trans ((mJ k _).trans (mJ l _))) ⟨u,d,rfl,SqT.of rE,?_⟩⟩⟩
  exact rW ((mJ k _).trans (mJ l _)) a
theorem J4:Fi ["wishes","courses"] ["wishes"] (Ff (Fk 30)):=⟨rfl,rfl,rfl,by decide +kernel,rfl,by decide +kernel,by decide +kernel⟩
theorem LS(M:Md K mg x cB)
  (Gcourses_of:Dn P w K mg base Fs 5 "courses_of" ["wishes"] (I8 K))
  (Geaten_by:Dn P w K mg base Fs 6 "eaten_by" ["courses","person","count"] (Jb K)):Dn P w K mg base Fs 7 "eaten" ["wishes"] (KQ K):=by
 have I:=(J4).nd
 refine M.f_eaten.ok J4 (λvs H Q E h=>?_) (λ_ _ _ _ _ _ S F=>Ko (λ_=>rfl) S F) (λf U A C s H vs Q E y h=>?_)
 ·obtain⟨a,k,W,n,rfl,hA,p,g,q⟩:=h
  rfl
 obtain⟨a,k,W,n,rfl,hA,p,g,q⟩:=h
 refine⟨_,(rF (rL (i:=1) I rfl (Or.inr rfl) (sf Gcourses_of y (by decide) rfl Fm (lh (pv 0) rG)))
   (rJ (rP (sS rfl (N:=["person","wishes","courses"]) (caps:=[none,some 0,some 1]) (CompOk.of (by kernel_rfl)) (sj rfl) (sD rfl M.b_range (lh (rK rV rfl M.b_len cU (lh (pv 0) rG)) rG)) (λ_ _ _ _=>(rS (i:=0) (show(["person","wishes","courses"]:List Str).Nodup by decide +kernel) rfl (Or.inl rfl) (Or.inr rfl))) (λ_ _ _ _=>sQ) (λ_ _ _ _=>(sf Geaten_by y (by decide) rfl Fm (lh (pv 2) (lh (pv 0) (lh (rK (u8 (K:=K) rfl) rfl M.b_len cU (lh (pv 1) rG)) rG))))))))),?_⟩
 have V:=g.n6
 have Y:=Paired.len p
 have hn:=g.len
 refine⟨_,rfl,a,k,W,n,rfl,hA,p,g,λc cs N J l X T t B=>?_⟩
 refine⟨_,rfl,a,_,rfl,.inl (l.seq hA),(k.length:Int),rfl,by omega,by omega,?_⟩
 have O:((k.length:Nat):Int).toNat=n:=by omega
 rw[O]
 refine ud (n:=n) (λj m o=>Same J o/\cT (RwFT K o (EM.st W n N).D) m ((cp j).map (Gn W n N)))
  ⟨Same.refl _,.nil⟩ (λj m o R r=>?_) (λm o r L e=>?_)
 ·obtain⟨b,d⟩:=r
  have u:=Paired.len d
  rw[bP,eJ]at u
  refine⟨_,rfl,_,rfl,_,rfl,a,_,rfl,.inl ((l.trans b).seq hA),c,cs,W,n,N,j,by rw[d2,show k.length=n by omega];rfl,b _ _ T,g,t.up,Paired.mapP B (λ_ _ h=>h.mono b),R,λv Z z G=>⟨Fg (by omega),b.trans z,?_⟩⟩
  rw[fG,cb]
  exact Paired.app (Paired.mapP d λ_ _ h=>h.mono z) (.cons G .nil)
 ·obtain⟨b,d⟩:=r
  exact q L m N _ (l.trans (b.trans (mJ e _))) ((l.trans b).free e) rE t (Paired.mapP d λ_ _ h=>h.mono (mJ e _))
theorem GH:Fi ["left","begun","person","thing","part","deal"] ["left","begun"] (Ff (Fk 32)):=⟨rfl,rfl,rfl,by decide +kernel,rfl,by decide +kernel,by decide +kernel⟩
theorem FA{m:Nat}(M:Md K mg x cB)
  (Gdeal_within:Dn P w K mg base Fs m "deal_within" ["left","begun"] (Li (IL K) m)):Dn P w K mg base Fs (m+1) "deal_within" ["left","begun"] (IL K m):=by
 have G:=(GH).nd
 refine M.f_deal_within.ok GH (λvs H Q E h=>?_) (λ_ _ _ _ _ _ us hl=>HX (λ_ _=>rfl) us hl) (λf an A aj s H vs Q E hr h=>?_)
 ·obtain⟨l,b,u,e,T,n,k,a,rfl,L,O,y,F,ac,ae,q0,q1⟩:=h
  rfl
 obtain⟨l,b,u,e,T,n,k,a,rfl,L,O,y,F,ac,ae,q0,q1⟩:=h
 refine⟨_,(rF (rL (i:=2) G rfl (Or.inl rfl) (rK rV rfl M.b_len cU (lh (pv 1) rG)))
   (rF (si (rM sY (pv 2) (rK rV rfl M.b_len cU (lh (pv 0) rG)) (Fj _)) (rJ (rP (pv 1))) rN)
   (rF (tN db rfl (AN rfl M.b_enumerate (lh (rR rY (pv 0) (pv 2) (λ_ _=>rfl)) rG)) (yp rfl (sF (rS (i:=3) G rfl (Or.inl rfl)) (sF (rS (i:=4) G rfl (Or.inl rfl)) uo))) (rJ (si (PW.pt (uA (rM (vW hr) (pv 4) (uj M.c_NOTHING) (Fj _)) (uD (rM tI (pv 3) (pv 1) (by with_unfolding_all rfl))))) (rF (rL (i:=5) G rfl (Or.inl rfl) (sf Gdeal_within hr (bX _) rfl Fm (lh (pv 0) (lh (rO AR (pv 1) (sw (lh (pv 3) rG))) rG))))
   (rJ (si (rM BO (pv 5) uC (Fj _)) (rJ (rP (pv 5))) rN))) rN)))
   (rJ (rP uC))))),?_⟩
 have ak:=Paired.len O
 have al:=y.hi
 have am:=y.len
 have hT:=y.t0
 have U:(a.map V.int).length=a.length:=bP _
 refine⟨_,rfl,b,_,rfl,.inr F,?_⟩
 refine⟨_,rfl,_,rfl,l,u,rfl,.inl L,rfl,_,rfl,FD (λc=>?_) (λc=>?_)⟩
 ·have c':(a.map V.int).length=u.length:=by have:=Kn c;omega
  have aa:k=0:=by omega
  subst aa
  exact⟨_,rfl,q1 a rfl b H (Same.refl _) F⟩
 have c':a.length≠u.length:=λz=>c (by show V.int _=V.int _;rw[U,z])
 obtain⟨k,rfl⟩:∃k',k=k'+1:=⟨k-1,by omega⟩
 obtain⟨m,rfl⟩:∃m',m=m'+1:=⟨m-1,by omega⟩
 have B:a.length<e.length:=by omega
 obtain⟨rv,ai,ra,gs,rfl,R,D⟩:=Paired.get O (bT B)
 have ab:=y.cols _ (cm B)
 have eM:e.getD a.length []=e[a.length]:=HM.getD_lt B
 have eE:∀t,HM.ent e a.length t=(e[a.length]).getD t 0:=λt=>by unfold HM.ent;rw[eM]
 generalize e[a.length]=q at D ab eE
 have ag:=Paired.len D
 rw[y9]at ag
 refine⟨_,rfl,_,rfl,l,u,_,_,rfl,rfl,L,by rw[U];exact sM ai,ra,rfl,⟨_,R⟩,?_⟩
 refine Ch (xs:=gs) (λi J j=>Same H j/\(cp i).findSome? (λt=>if HM.ent e a.length t≠0/\(t:Int)∉a then HM.within e k (a++[(t:Int)])else none)=none/\∃r3 r4 r5,J=[some (.ref l),some (.ref b),some (.int (a.map V.int).length),r3,r4,r5])
  ⟨Same.refl _,rfl,_,_,_,rfl⟩ (λi J j _ C=>C.1.seq R) (λi v J j t hv ht C=>?_) (λJ j C=>?_)
 ·obtain⟨Z,g,r3,r4,r5,rfl⟩:=C
  have hi:i<q.length:=by
   have:=(b8.mp hv).1
   omega
  obtain⟨p,hp,hF⟩:=Paired.get' D hv
  rw[Bs hi]at hp
  cases hp
  have r:Same H (upd j t (.tup [.int i,v])):=Z.trans (mJ ht _)
  have S:upd j t (.tup [.int i,v]) t=some (.tup [.int i,v]):=rE
  generalize upd j t (.tup [.int i,v])=I at r S ⊢
  refine⟨t,_,rfl,SqT.of S,rfl,_,_,rfl,_,_,rfl,rfl,?_⟩
  refine⟨_,rfl,λc0 ah=>⟨dF (FQ.red (q.getD i 0) T),dF (0,1),(hF.mono r).rep,IsF.rep ⟨c0,rfl,ah _⟩,sO _,sO _,_,rfl,?_⟩⟩
  rw[vk]
  refine ID (λc1=>?_) (λc1=>?_)
  case refine_2=>
   have hz:q.getD i 0=0:=(sI (by omega)).mp c1
   refine⟨r,?_,_,_,_,rfl⟩
   rw[LN.findSome_snoc g,if_neg (λz=>z.1 (by rw[eE];exact hz))]
  have hz:q.getD i 0≠0:=λz=>c1 ((sI (by omega)).mpr z)
  refine⟨_,rfl,_,rfl,b,_,rfl,.inr (r.tup F),rfl,wq _,_,rfl,?_⟩
  show if(!Jw (.int (i:Int)) (a.map V.int))=true then _ else _
  rw[xj]
  refine ID (λc2=>?_) (λc2=>?_)
  case refine_2=>
   refine⟨r,?_,_,_,_,rfl⟩
   rw[LN.findSome_snoc g,if_neg (λz=>z.2 c2)]
  have Y:HM.ent e a.length i≠0/\(i:Int)∉a:=⟨by rw[eE];exact hz,c2⟩
  refine⟨_,rfl,_,rfl,_,rfl,by show 1<=sizeLine;decide,λN af=>?_⟩
  have S3:Same I (upd I N (.tup [.int i])):=mJ af _
  have X:SqT K (upd I N (.tup [.int i])) N (([(i:Int)]:List Int).map V.int):=SqT.of rE
  generalize upd I N (.tup [.int i])=H3 at S3 X ⊢
  have W:=r.trans S3
  refine EI (W.tup F) X (by simp;omega) λp4 H4 S4 h4=>?_
  have o:=W.trans S4
  refine⟨l,p4,u,e,T,n,k,a++[(i:Int)],rfl,o.seq L,Paired.mapP O (λ_ _ h=>h.mono o),y,h4,by rw[cr];simp;omega,by omega,λe5 H5 S5=>?_,λd e5 p5 H5 S5 h5=>?_⟩
  ·refine⟨_,rfl,rfl,_,rfl,Fu ?_⟩
   refine⟨o.trans S5,?_,_,_,_,rfl⟩
   rw[LN.findSome_snoc g,if_pos Y]
   exact e5
  ·refine⟨_,rfl,rfl,_,rfl,FG ?_⟩
   refine⟨_,rfl,q1 d ?_ p5 H5 (o.trans S5) h5⟩
   show(cp e.length).findSome? _=some d
   exact LN.findSome_up (i:=i+1) (by rw[LN.findSome_snoc g,if_pos Y];exact e5) (by omega)
 ·obtain⟨Z,g,r3,r4,r5,rfl⟩:=C
  refine q0 ?_ _ Z
  show(cp e.length).findSome? _=none
  rw[show e.length=gs.length by omega]
  exact g
theorem GD:Fi ["row","thing","weight","rest"] ["row","thing","weight"] (Ff (Fk 33)):=⟨rfl,rfl,rfl,by decide +kernel,rfl,by decide +kernel,by decide +kernel⟩
theorem IT(M:Md K mg x cB)
  (Gminus:Dn P w K mg base Fs 3 "minus" ["one","two"] (IR Ky K)):Dn P w K mg base Fs 4 "row_without" ["row","thing","weight"] (Lm K):=by
 have W:=(GD).nd
 refine M.f_row_without.ok GD (λvs H Q E h=>?_) (λ_ _ _ _ _ _ us U=>K7 (λ_ _ _=>rfl) us U) (λf aa A S s H vs Q E Z h=>?_)
 ·obtain⟨r,w,a,m,t,T,x,rfl,d,j,C,⟨hT,J⟩,⟨c,L⟩,R,⟨y,z⟩,⟨u,B⟩,q⟩:=h
  rfl
 obtain⟨r,w,a,m,t,T,x,rfl,d,j,C,⟨hT,J⟩,⟨c,L⟩,R,⟨y,z⟩,⟨u,B⟩,q⟩:=h
 refine⟨_,(rF (rL (i:=3) W rfl (Or.inl rfl) (sv sT rfl M.b_list Boot.«list» (lh (pv 0) rG)))
   (rF (vp (sf Gminus Z (by decide) rfl Fm (lh (rR rY (pv 0) (pv 1) (λ_ _=>rfl)) (lh (pv 2) rG))) (we (pv 3) (pv 1) vG))
   (rJ (rP (pv 3))))),?_⟩
 have g:T≠0:=by omega
 have N:=Paired.len j
 rw[y9]at N
 obtain⟨_,e0,I⟩:=id C
 cases e0
 have F:t.toNat<m.length:=by omega
 refine⟨_,rfl,r,a,rfl,.inl d,λp hp=>?_⟩
 have b:Same H (upd H p (.lst a)):=mJ hp _
 have n:upd H p (.lst a) p=some (.lst a):=rE
 generalize upd H p (.lst a)=H1 at b n ⊢
 obtain⟨v,V,X,rfl,G⟩:=Paired.get j (Bs (D:=T) F)
 refine⟨_,rfl,_,rfl,r,a,t,_,rfl,rfl,b.seq d,tJ c V,_,rfl,X,w,_,_,rfl,b.tup G,b.tup I,vX g (by omega) (by omega),vX g (by omega) (by omega),λY H2 o l=>?_⟩
 rw[Cu g]at l
 have k:=o _ _ n
 have O:Lb a.length t=some t.toNat:=by
  unfold Lb
  rw[if_pos c,if_pos (by omega)]
 refine⟨_,rfl,_,rfl,p,_,_,_,rfl,rfl,k,O,?_⟩
 refine⟨_,rfl,q p _ _ ((b.trans o).over hp _) hp rE ?_⟩
 have e:fr T (LM.addOne m t (-x))=(fr T m).set t.toNat (FQ.red (m.getD t.toNat 0-x) T):=by
  unfold fr LM.addOne
  rw[lg,mU]
 rw[e]
 exact Paired.mapP (wP (rW (b.trans o) j) ⟨Y,rfl,SqT.of l⟩) λ_ _ h=>h.over k
theorem IG:Fi ["table","left","spent","lots","deal","weight"] ["table"] (Ff (Fk 34)):=⟨rfl,rfl,rfl,by decide +kernel,rfl,by decide +kernel,by decide +kernel⟩
theorem K8(M:Md K mg x cB)
  (Gdeal_within:Dn P w K mg base Fs 7 "deal_within" ["left","begun"] (IL K 6))
  (Gleast:Dn P w K mg base Fs 2 "least" ["parts"] (Jh K))
  (Grow_without:Dn P w K mg base Fs 4 "row_without" ["row","thing","weight"] (Lm K))
  (Gplus:Dn P w K mg base Fs 3 "plus" ["one","two"] (IR G0 K)):Dn P w K mg base Fs 8 "lots_of" ["table"] (Jx K):=by
 have nd:=(IG).nd
 refine M.f_lots_of.ok IG (λvs H Q E h=>?_) (λ_ _ _ _ _ _ us hl=>Ko (λ_=>rfl) us hl) (λf bl A bh s H vs Q E hr h=>?_)
 ·obtain⟨a,us,Z,T,n,rfl,hA,hZ,ok,q⟩:=h
  rfl
 obtain⟨a,us,Z,T,n,rfl,hA,hZ,ok,q⟩:=h
 refine⟨_,(rF (tq (i:=1) nd rfl rfl rfl rfl (N:=["row"]) (caps:=[none]) (CompOk.of (by kernel_rfl)) (sj rfl) (tE (pv 0)) (λ_ _ _ _=>(rS (i:=0) (show(["row"]:List Str).Nodup by decide +kernel) rfl (Or.inl rfl) (Or.inr rfl))) (λ_ _ _ _=>sQ) (λ_ _ _ _=>(sv (xD (K:=K) rfl) rfl M.b_list Boot.«list» (lh (pv 0) rG))))
   (rF (rL (i:=2) nd rfl (Or.inl rfl) (uj M.c_NOTHING))
   (rF (rL (i:=3) nd rfl (Or.inl rfl) (sA rG))
   (rF (uw db (rM (vW hr) (pv 2) (uj M.c_WHOLE) (Fj _)) (rF (rL (i:=4) nd rfl (Or.inl rfl) (sf Gdeal_within hr (by decide) rfl Fm (lh (pv 1) (lh (sw rG) rG))))
   (rF (rL (i:=5) nd rfl (Or.inr rfl) (sf Gleast hr (by decide) rfl Fm (lh (sS rfl (N:=["row","thing"]) (caps:=[none,none]) (CompOk.of (by kernel_rfl)) (za (tO sU (sj rfl) (tO sU (sj rfl) xo))) (Dj rfl M.b_zip (lh (pv 1) (lh (pv 4) rG))) (λ_ _ _ _=>(xH (K:=K) rfl 2 rfl (sF (rS (i:=0) (show(["row","thing"]:List Str).Nodup by decide +kernel) rfl (Or.inl rfl) (Or.inr rfl)) (sF (rS (i:=1) (show(["row","thing"]:List Str).Nodup by decide +kernel) rfl (Or.inl rfl) (Or.inr rfl)) uo)))) (λ_ _ _ _=>sQ) (λ_ _ _ _=>(rR (t9 (K:=K) rfl) (pv 0) (pv 1) (λ_ _=>rfl)))) rG)))
   (rF (tq (i:=1) nd rfl rfl rfl rfl (N:=["row","thing","weight"]) (caps:=[none,none,some 5]) (CompOk.of (by kernel_rfl)) (za (tO sU (sj rfl) (tO sU (sj rfl) xo))) (Dj rfl M.b_zip (lh (pv 1) (lh (pv 4) rG))) (λ_ _ _ _=>(xH (K:=K) rfl 2 rfl (sF (rS (i:=0) (show(["row","thing","weight"]:List Str).Nodup by decide +kernel) rfl (Or.inl rfl) (Or.inr rfl)) (sF (rS (i:=1) (show(["row","thing","weight"]:List Str).Nodup by decide +kernel) rfl (Or.inl rfl) (Or.inr rfl)) uo)))) (λ_ _ _ _=>sQ) (λ_ _ _ _=>(sf Grow_without hr (by decide) rfl Fm (lh (pv 0) (lh (pv 1) (lh (pv 2) rG))))))
   (rF (rL (i:=2) nd rfl (Or.inl rfl) (sf Gplus hr (by decide) rfl Fm (lh (pv 2) (lh (pv 5) rG))))
   (rJ (su (tL cu cK cL sq (pv 3) (lh (sw (lh (pv 5) (lh (pv 4) rG))) rG)))))))))
   (rJ (rP (pv 3))))))),?_⟩
 have a4:=Paired.len hZ
 have au:=ok.lo
 have ay:=ok.hi
 have hT:=ok.t0
 have aR:=ok.t1
 have Y:T≠0:=by omega
 have bn:=ok.reg.len
 have ai:(0:Nat)<=sizeLine:=by decide
 refine⟨_,rfl,a,rfl,⟨_,hA⟩,?_⟩
 refine tm (xs:=us) (λi ys J=>Same H J/\cT (λv (m:List Int)=>∃a G,v = .ref a/\J a=some (.lst G)/\cT (IsF K J) G (fr T m)) ys (Z.take i)) ⟨Same.refl _,by rw[dX];exact .nil⟩ (λi ys J _ c=>c.1.seq hA) (λi x ys J W c=>?_) (λys J c l0 aU=>?_)
 ·obtain⟨S1,ae⟩:=c
  obtain⟨r,bf,ta,G,rfl,bg,bc⟩:=Paired.get' hZ W
  have a7:=Paired.len ae
  rw[cf]at a7
  refine⟨_,rfl,ta,G,rfl,.inr (S1.tup bg),λp hp=>⟨Fg (by omega),S1.trans (mJ hp _),?_⟩⟩
  rw[cv,bf]
  exact Paired.app (Paired.mapP ae λ_ _ ⟨a',ac,e1,e2,e3⟩=>⟨a',ac,e1,mJ hp _ _ _ e2,rW (mJ hp _) e3⟩) (.cons ⟨p,G,rfl,rE,rW (S1.trans (mJ hp _)) bc⟩ .nil)
 obtain⟨S1,ae⟩:=c
 rw[a4,cI]at ae
 refine λc0 a6=>?_
 refine⟨ai,λlo aD=>?_⟩
 have Sl:Same J (upd (upd J l0 (.lst ys)) lo (.lst [])):=(mJ aU _).trans (mJ aD _)
 have az:upd (upd J l0 (.lst ys)) lo (.lst []) l0=some (.lst ys):=mJ aD _ _ _ rE
 have al:upd (upd J l0 (.lst ys)) lo (.lst []) lo=some (.lst []):=rE
 have ak:J lo=none:=(mJ aU _).free aD
 have a0:H lo=none:=S1.free ak
 generalize upd (upd J l0 (.lst ys)) lo (.lst [])=H1 at Sl az al ⊢
 refine⟨λm σ C=>∃(i:Nat) (lf sp:bV) (rs ls:List V) (r4 r5:Option V),m=(HM.it Z T i).2.toNat/\σ=[some (.ref a),some (.ref lf),some (.ref sp),some (.ref lo),r4,r5]/\Same J C/\(∀j,j<i->(HM.it Z T j).2≠0)/\SqL K C lf rs/\cT (RwFX K C T lo) rs (HM.it Z T i).1/\
   IsF K C (.ref sp) (FQ.red (T-(HM.it Z T i).2) T)/\C lo=some (.lst ls)/\cT (IsLot K C T) ls (HM.lotsL Z T i),
  ⟨_,0,l0,c0,ys,[],_,_,rfl,rfl,Sl,(λj k=>absurd k (fX _)),SqL.of az,Paired.mapP ae (λ_ _ ⟨a',ac,e1,e2,e3⟩=>⟨a',ac,e1,(λz=>by rw[z,ak]at e2;cases e2),Sl _ _ e2,rW Sl e3⟩),⟨c0,rfl,by rw[show T-(HM.it Z T 0).2=0 from Int.sub_self T,vI Y];exact a6 _⟩,al,.nil⟩,λm σ C c=>?_⟩
 clear Sl az al
 obtain⟨i,lf,sp,rs,ls,r4,r5,rfl,rfl,S2,ar,ag,ap,aB,O,aI⟩:=c
 obtain⟨_,e0,aG⟩:=id aB
 cases e0
 have I:=HM.it_ok ok.reg hT au i ar
 have a8:=I.r0
 have a5:=I.rT
 refine⟨_,rfl,λc1 ba=>⟨_,_,aB.rep,IsF.rep (p:=(1,1)) ⟨c1,rfl,ba _⟩,sO _,sO _,_,rfl,?_⟩⟩
 rw[vk]
 by_cases hz:(HM.it Z T i).2=0
 ·rw[decide_eq_true (by rw[hz,qp];exact yV Y)]
  exact⟨_,rfl,q i lo ls C ⟨hz,ar⟩ (S1.trans S2) a0 O aI⟩
 rw[decide_eq_false (λz=>hz (by have:=(Aw Y).mp z;omega))]
 refine⟨_,(λbj J z=>z),?_⟩
 have S:=I.reg.step (by omega) au
 have eN:(HM.it Z T (i+1))=(LM.addDeal (HM.it Z T i).1 (HM.dealOf (HM.it Z T i).1) (-HM.wOf (HM.it Z T i).1),(HM.it Z T i).2-HM.wOf (HM.it Z T i).1):=rfl
 have eL:HM.lotsL Z T (i+1)=HM.lotsL Z T i++[(HM.wOf (HM.it Z T i).1,HM.dealOf (HM.it Z T i).1)]:=by
  unfold HM.lotsL
  rw[fG,cb]
  rfl
 have aZ:∀j,j<i+1->(HM.it Z T j).2≠0:=λj k=>by
  rcases ff.mp k with z|z
  ·exact ar j z
  ·rw[z];exact hz
 have bi:i<=60:=by
  have h1:=I.few hz
  have h2:=HM.pn_le ay Z
  have h3:0<=HM.pn n (HM.it Z T i).1:=by
   have:=HM.sm_le (n:=n) (f:=λ_=>0) (g:=λp=>(HM.cnt n λt=>decide (HM.ent (HM.it Z T i).1 p t≠0):Nat)) λp _=>Int.natCast_nonneg _
   rw[HM.sm_zero]at this
   exact this
  omega
 have o:=I.reg
 clear I
 generalize HM.it Z T i=MR at *
 obtain⟨M,R⟩:=MR
 dsimp only at hz S eN eL o a8 a5 ap aB aG ⊢
 have an:=o.len
 have bk:=Paired.len ap
 have aw:=S.pm
 have ax:=aw.len
 have bo:=S.w1
 have bm:=S.wR
 have aY:Nw n T M:=⟨au,ay,hT,aR,an,o.cols⟩
 -- the deal
 refine⟨_,rfl,ai,λpe be=>?_⟩
 have S3:Same C (upd C pe (.tup [])):=mJ be _
 have aC:SqT K (upd C pe (.tup [])) pe (([]:List Int).map V.int):=SqT.of rE
 generalize upd C pe (.tup [])=H3 at S3 aC ⊢
 refine⟨lf,pe,rs,M,T,n,n,[],rfl,S3.seq ag,Paired.mapP ap (λ_ _ h=>(h.mono S3).fl),aY,aC,by simp,by omega,λz=>absurd (S.some.symm.trans z) (by simp),λd ed pd H4 S4 af=>?_⟩
 rw[S.some]at ed
 cases ed
 have am:=S3.trans S4
 -- the weight
 have aN:∀p,p<n->HM.ent M p ((HM.dealOf M).getD p 0).toNat<=T:=λp hp=>by
  have hb:=aw.mem.mp (show(HM.dealOf M).getD p 0∈HM.dealOf M by rw[HM.getD_lt (by omega)];exact cm _)
  have h1:=HM.sm_one_le (n:=n) (λi=>o.nn p i) (show((HM.dealOf M).getD p 0).toNat<n by omega)
  rw[o.row p hp]at h1
  omega
 have vl:(HM.valsM M (HM.dealOf M)).length=n:=by unfold HM.valsM;simp[an,ax]
 have aK:∀j,j<n->∃B G,rs[j]?=some (.ref B)/\SqL K C B G/\cT (IsF K C) G (fr T (M.getD j [])):=λj k=>by
  obtain⟨rv,ah,B,G,rfl,_,h1,h2⟩:=Paired.get ap (bT (show j<M.length by omega))
  exact⟨B,G,ah,SqL.of h1,by rw[HM.getD_lt (by omega)];exact h2⟩
 have aj:∀j,j<n->(M.getD j []).length=n:=λj k=>by rw[HM.getD_lt (by omega)];exact o.cols _ (cm _)
 have aO:∀j,j<n->0<=(HM.dealOf M).getD j 0/\(HM.dealOf M).getD j 0<n:=λj k=>aw.mem.mp (by rw[HM.getD_lt (by omega)];exact cm _)
 have aW:rs.length=((HM.dealOf M).map V.int).length:=by rw[bP];omega
 refine⟨_,rfl,_,rfl,false,true,lf,pd,rfl,⟨_,am.seq ag⟩,⟨_,af⟩,?_⟩
 refine yr (xs:=rs) (ys:=(HM.dealOf M).map V.int) (λj l b=>Same H4 b/\cT (IsF K b) l (fr T ((HM.valsM M (HM.dealOf M)).take j))) aW ⟨Same.refl _,by rw[dX];exact .nil⟩ (λj l b _ c=>⟨(am.trans c.1).seq ag,c.1.tup af⟩) (λj x y l b t W hy ht c=>?_) (λl b c Dd a3=>?_)
 ·obtain⟨S5,u⟩:=c
  have k:j<n:=by have:=(b8.mp W).1;omega
  obtain⟨B,G,ah,h1,h2⟩:=aK j k
  rw[ah]at W
  cases W
  rw[tV (by omega)]at hy
  cases hy
  have hb:=aO j k
  have a9:((HM.dealOf M).getD j 0).toNat<(M.getD j []).length:=by rw[aj j k];omega
  have U:Same b (upd b t (.tup [.ref B,.int ((HM.dealOf M).getD j 0)])):=mJ ht _
  have ab:upd b t (.tup [.ref B,.int ((HM.dealOf M).getD j 0)]) t=some (.tup [.ref B,.int ((HM.dealOf M).getD j 0)]):=rE
  generalize upd b t (.tup [.ref B,.int ((HM.dealOf M).getD j 0)])=Hy at U ab ⊢
  obtain⟨v,hv,hF⟩:=Paired.get h2 (Bs (D:=T) a9)
  have L:=am.trans (S5.trans U)
  have aJ:=Paired.len u
  rw[y9,cf]at aJ
  refine⟨t,_,rfl,SqT.of ab,rfl,_,_,rfl,_,_,rfl,rfl,?_⟩
  refine⟨_,rfl,_,rfl,B,G,_,v,rfl,rfl,L.seq h1,tJ hb.1 hv,Fg (by omega),S5.trans U,?_⟩
  rw[cv,HM.valsM_get an ax k]
  unfold fr
  rw[cb]
  exact Paired.app (rW U u) (.cons (hF.mono L) .nil)
 obtain⟨S5,u⟩:=c
 rw[show rs.length=(HM.valsM M (HM.dealOf M)).length by omega,cI]at u
 have U:Same b (upd b Dd (.lst l)):=mJ a3 _
 have aT:SqL K (upd b Dd (.lst l)) Dd l:=SqL.of rE
 generalize upd b Dd (.lst l)=H6 at U aT ⊢
 have aL:HM.valsM M (HM.dealOf M)≠[]:=λz=>by rw[z]at vl;simp at vl;omega
 refine⟨Dd,l,fr T (HM.valsM M (HM.dealOf M)),rfl,aT,rW U u,(λz=>aL (by unfold fr at z;exact List.map_eq_nil_iff.mp z)),by rw[y9];omega,λp hp=>?_,λv hv=>?_⟩
 ·unfold fr at hp
  obtain⟨x,W,rfl⟩:=cP.mp hp
  obtain⟨j,k,e⟩:=dW.mp W
  have aQ:j<n:=by omega
  have e2:=HM.valsM_get an ax aQ
  rw[bT k,e]at e2
  have e3:x=HM.ent M j ((HM.dealOf M).getD j 0).toNat:=Option.some.inj e2
  have h1:=aN j aQ
  have h2:=o.nn j ((HM.dealOf M).getD j 0).toNat
  rw[<-e3]at h1 h2
  exact vX Y (by omega) (by omega)
 have ew:Iw (fr T (HM.valsM M (HM.dealOf M)))=FQ.red (HM.wOf M) T:=by
  unfold fr HM.wOf
  exact z4 hT aL
 rw[ew]at hv
 obtain⟨wa,rfl,aH⟩:=hv
 have L:=am.trans (S5.trans U)
 -- what is left
 refine⟨_,rfl,_,rfl,false,true,lf,pd,rfl,⟨_,L.seq ag⟩,⟨_,(S5.trans U).tup af⟩,?_⟩
 refine yr (xs:=rs) (ys:=(HM.dealOf M).map V.int) (λj l b=>Same H6 b/\cT (RwFX K b T lo) l ((LM.addDeal M (HM.dealOf M) (-HM.wOf M)).take j)) aW ⟨Same.refl _,by rw[dX];exact .nil⟩ (λj l b _ c=>⟨(L.trans c.1).seq ag,(S5.trans (U.trans c.1)).tup af⟩) (λj x y l b t W hy ht c=>?_) (λl H7 c l7 ao=>?_)
 ·obtain⟨S7,u⟩:=c
  have k:j<n:=by have:=(b8.mp W).1;omega
  obtain⟨B,G,ah,h1,h2⟩:=aK j k
  rw[ah]at W
  cases W
  rw[tV (by omega)]at hy
  cases hy
  have hb:=aO j k
  have S8:Same b (upd b t (.tup [.ref B,.int ((HM.dealOf M).getD j 0)])):=mJ ht _
  have ab:upd b t (.tup [.ref B,.int ((HM.dealOf M).getD j 0)]) t=some (.tup [.ref B,.int ((HM.dealOf M).getD j 0)]):=rE
  generalize upd b t (.tup [.ref B,.int ((HM.dealOf M).getD j 0)])=Hy at S8 ab ⊢
  have aa:=L.trans (S7.trans S8)
  have aJ:=Paired.len u
  rw[cf,HM.addDeal_len (by omega)]at aJ
  have h3:=aN j k
  have h4:=o.nn j ((HM.dealOf M).getD j 0).toNat
  refine⟨t,_,rfl,SqT.of ab,rfl,_,_,rfl,_,_,rfl,rfl,?_⟩
  refine⟨_,rfl,_,rfl,_,rfl,B,wa,G,M.getD j [],_,T,HM.wOf M,rfl,aa.seq h1,rW aa h2,⟨wa,rfl,(S7.trans S8).tup aH⟩,⟨hT,aR⟩,⟨hb.1,by rw[aj j k];exact hb.2⟩,by rw[aj j k];exact ay,⟨h4,h3⟩,⟨by omega,by omega⟩,λp ac Hw Sw aP hp a2=>⟨Fg (by omega),S7.trans (S8.trans Sw),?_⟩⟩
  rw[cv,HM.addDeal_get (by omega) (by omega)]
  exact Paired.app (Paired.mapP u λ_ _ h=>h.mono (S8.trans Sw)) (.cons ⟨p,ac,rfl,(λz=>by rw[z,aa _ _ O]at aP;cases aP),hp,a2⟩ .nil)
 obtain⟨S7,u⟩:=c
 rw[dz (by rw[HM.addDeal_len (by omega)];omega)]at u
 have S8:Same H7 (upd H7 l7 (.lst l)):=mJ ao _
 have aX:upd H7 l7 (.lst l) l7=some (.lst l):=rE
 generalize upd H7 l7 (.lst l)=H8 at S8 aX ⊢
 have aA:=S7.trans S8
 have aa:=L.trans aA
 -- spent
 refine⟨_,rfl,_,rfl,sp,wa,_,_,rfl,aa.tup aG,aA.tup aH,vX Y (by omega) (by omega),vX Y (by omega) (by omega),λpf H9 S9 aM=>?_⟩
 rw[xf Y]at aM
 have aS:=aa.trans S9
 -- the lot
 have a1:=aS _ _ O
 have av:=Paired.len aI
 unfold HM.lotsL at av
 rw[bP,eJ]at av
 refine⟨_,rfl,.inl ⟨rfl,_,SqL.of a1⟩,_,rfl,_,rfl,by show 2<=sizeLine;decide,λpt bb=>?_⟩
 have SA:Same H9 (upd H9 pt (.tup [.ref wa,.ref pd])):=mJ bb _
 have aE:upd H9 pt (.tup [.ref wa,.ref pd]) pt=some (.tup [.ref wa,.ref pd]):=rE
 generalize upd H9 pt (.tup [.ref wa,.ref pd])=HA at SA aE ⊢
 have aq:=aS.trans SA
 have X:=aq _ _ O
 refine⟨lo,ls,_,rfl,rfl,X,Fg (by omega),?_⟩
 have aF:=S9.trans SA
 have aV:=aA.trans aF
 refine⟨(R-HM.wOf M).toNat,by omega,i+1,l7,pf,l,ls++[.ref pt],_,_,by rw[eN],rfl,(S2.trans aq).over ak _,aZ,?_,?_,?_,rE,?_⟩
 ·exact SqL.over (SqL.of (aF _ _ aX)) (λz=>by rw[z]at ao;rw[(L.trans S7) _ _ O]at ao;cases ao)
 ·rw[eN]
  exact Paired.mapP u λ_ _ h=>(h.mono (S8.trans aF)).over X
 ·rw[eN]
  refine IsF.over ⟨pf,rfl,SqT.of (SA _ _ ?_)⟩ X
  rw[aM]
  show some (Lf (FQ.red (T-R+HM.wOf M) T))=some (Lf (FQ.red (T-(R-HM.wOf M)) T))
  rw[show T-R+HM.wOf M=T-(R-HM.wOf M)by omega]
 ·rw[eL]
  refine Paired.app (Paired.mapP aI λ_ _ h=>(h.mono aq).over X) (.cons (IsLot.over ⟨pt,wa,pd,rfl,SqT.of aE,⟨wa,rfl,aV.tup aH⟩,((S5.trans U).trans aV).tup af⟩ X) .nil)
theorem Jc:Fi ["lots","number","place","so_far"] ["lots","number"] (Ff (Fk 35)):=⟨rfl,rfl,rfl,by decide +kernel,rfl,by decide +kernel,by decide +kernel⟩
theorem Ly(M:Md K mg x cB)
  (Gbefore:Dn P w K mg base Fs 1 "before" ["one","two"] (Ir K))
  (Gplus:Dn P w K mg base Fs 3 "plus" ["one","two"] (IR G0 K)):Dn P w K mg base (GM P w) 4 "picked" ["lots","number"] (Kd K x):=by
 have C:=(Jc).nd
 refine M.f_picked.okE Jc (λvs H Q E h=>?_) (λ_ _ _ _ _ _ us hl=>HX (λ_ _=>rfl) us hl) (λf am A ai s H vs Q E D h=>?_)
 ·obtain⟨L,m,B,a,T,n,p,rfl,F,g,l,hm,hz,hp,S,q⟩:=h
  rfl
 obtain⟨L,m,B,a,T,n,p,rfl,F,g,l,hm,hz,hp,S,q⟩:=h
 refine⟨_,(rF (si (PW.pt (xR (sB (sf Gbefore D (by decide) rfl Fm (lh (pv 1) (lh (uj M.c_NOTHING) rG)))) (wS (tS (sB (sf Gbefore D (by decide) rfl Fm (lh (pv 1) (lh (uj M.c_WHOLE) rG)))))))) (rJ (uc M.x_NoPick rfl (lh rX rG))) rN)
   (rF (rL (i:=2) C rfl (Or.inl rfl) rH)
   (rF (rL (i:=3) C rfl (Or.inl rfl) (rR rZ (rR rY (pv 0) rH (λ_ _=>rfl)) rH (λ_ _=>rfl)))
   (rF (uw rn (tS (sB (sf Gbefore D (by decide) rfl Fm (lh (pv 1) (lh (pv 3) rG))))) (rF (rL (i:=2) C rfl (Or.inl rfl) (rO sJ (pv 2) rH))
   (rJ (rL (i:=3) C rfl (Or.inl rfl) (sf Gplus D (by decide) rfl Fm (lh (pv 3) (lh (rR rZ (rR rY (pv 0) (pv 2) (λ_ _=>rfl)) rH (λ_ _=>rfl)) rG)))))))
   (rJ (rP (rR rZ (rR rY (pv 0) (pv 2) (λ_ _=>rfl)) rH (λ_ _=>rfl)))))))),?_⟩
 obtain⟨_,W,v⟩:=id hm
 cases W
 have hT:=l.T0
 have o:T≠0:=by omega
 have y:Sz 4000 p:=hz.up (by decide)
 have ab:Sz 4000 ((0,1):Int×Int):=Sz.up (m:=30) ⟨by decide,by decide,by decide⟩ (by decide)
 have ag:Sz 4000 ((1,1):Int×Int):=Sz.up (m:=30) ⟨by decide,by decide,by decide⟩ (by decide)
 refine⟨_,rfl,λc0 ae=>⟨m,c0,p,(0,1),rfl,v,ae _,y,ab,_,rfl,?_⟩⟩
 show if FJ p (0,1)=true then _ else _
 refine K2 (λc=>⟨by show 1<=sizeLine;decide,S (.inl c)⟩) (λn0=>?_)
 refine⟨_,rfl,λc1 ah=>⟨m,c1,p,(1,1),rfl,v,ah _,y,ag,_,rfl,?_⟩⟩
 show if(!FJ p (1,1))=true then _ else _
 refine K2 (λc=>⟨by show 1<=sizeLine;decide,S (.inr (by simpa using c))⟩) (λR=>?_)
 have Z:¬Gm p:=λz=>by
  rcases z with z|z
  ·exact n0 z
  ·rw[z]at R;exact R rfl
 have q:=q Z
 have y1:FJ p (1,1)=true:=by simpa using R
 have an:=Paired.len g
 have aj:=l.ne
 obtain⟨v0,aa,a0,f0,g0,rfl,h1,h2,h3⟩:=Paired.get g (bT (show 0<a.length by omega))
 refine⟨_,rfl,L,B,0,_,rfl,rfl,F,sM aa,a0,_,0,_,rfl,rfl,h1,rfl,?_⟩
 have e1:cw a 1=(a[0]).1:=by
  have:=cw_succ (bT (show 0<a.length by omega))
  rw[cw_zero,d2]at this
  exact this
 refine⟨λk σ u=>∃(i:Nat) (Y:V),k=a.length-i/\i<a.length/\Same H u/\σ=[some (.ref L),some (.ref m),some (.int i),some Y]/\IsF K u Y (FQ.red (cw a (i+1)) T)/\∀j,j<i->FJ p (FQ.red (cw a (j+1)) T)=false,
  ⟨_,0,.ref f0,rfl,by omega,Same.refl _,rfl,by rw[nH,e1];exact h2,λj O=>absurd O (fX _)⟩,λk σ u hP=>?_⟩
 obtain⟨i,Y,rfl,G,b,rfl,af,N⟩:=hP
 obtain⟨J,rfl,t⟩:=af
 have bd:=l.bd (i:=i+1) G
 have zc:Sz 4000 (FQ.red (cw a (i+1)) T):=vX o (by omega) (by omega)
 refine⟨_,rfl,_,rfl,m,J,p,FQ.red (cw a (i+1)) T,rfl,b.tup v,t,y,zc,_,rfl,?_⟩
 show if(!FJ p (FQ.red (cw a (i+1)) T))=true then _ else _
 refine K2 (λc=>?_) (λc=>?_)
 ·have cn:FJ p (FQ.red (cw a (i+1)) T)=false:=by simpa using c
  have d:i+1<a.length:=by
   refine da λz=>?_
   have e:i+1=a.length:=by omega
   rw[e,l.tot,yV o,y1]at cn
   cases cn
  obtain⟨v1,r,U,f1,g1,rfl,X,k2,k3⟩:=Paired.get g (bT d)
  obtain⟨_,W,ac⟩:=id k2
  cases W
  have wb:=l.w1 _ (cm d)
  have al:=l.w2 _ (cm d)
  refine⟨_,(λak u z=>z),?_⟩
  refine⟨_,rfl,_,_,rfl,rfl,?_⟩
  refine⟨_,rfl,_,rfl,_,rfl,L,B,_,_,rfl,rfl,b.seq F,by show HU B ((i:Int)+1)=_;exact tJ (by omega) (by rw[show((i:Int)+1).toNat=i+1 by omega];exact r),U,_,0,_,rfl,rfl,b.tup X,rfl,J,f1,_,_,rfl,t,b.tup ac,zc,vX o (by omega) (by omega),λpf H2 S2 I=>?_⟩
  rw[xf o,<-cw_succ (bT d)]at I
  exact⟨a.length-(i+1),by omega,i+1,.ref pf,rfl,d,b.trans S2,rfl,⟨pf,rfl,SqT.of I⟩,λj O=>by
   rcases ff.mp O with z|z
   ·exact N j z
   ·rw[z];exact cn⟩
 ·have cy:FJ p (FQ.red (cw a (i+1)) T)=true:=by simpa using c
  obtain⟨v1,r,U,f1,g1,rfl,X,k2,k3⟩:=Paired.get g (bT G)
  refine⟨_,rfl,_,rfl,L,B,_,_,rfl,rfl,b.seq F,sM r,U,_,1,_,rfl,rfl,b.tup X,rfl,?_⟩
  refine q i (.ref g1) u ⟨G,cy,N⟩ b ⟨g1,rfl,?_⟩
  rw[bR,bT G]
  exact b.tup k3
theorem GU:Fi ["value"] ["value"] (Ff (Fk 38)):=⟨rfl,rfl,rfl,by decide +kernel,rfl,by decide +kernel,by decide +kernel⟩
theorem Jg(M:Md K mg x cB):Dn P w K mg base Fs 1 "is_listing" ["value"] (IV K):=by
 have k:=(GU).nd;refine M.f_is_listing.ok GU (λvs H Q E h=>?_) (λ_ _ _ _ _ _ g d=>Ko (λ_=>rfl) g d) (λf j A c s H vs Q E l h=>?_)
 ·obtain⟨v,t,rfl,b,q⟩:=h;rfl
 obtain⟨v,t,rfl,b,q⟩:=h;refine⟨_,(rJ (rP (rK BD rfl M.b_isinstance Boot.«isinstance» (lh (pv 0) (lh (sw (lh (tZ rfl M.b_list Boot.«list») (lh (tZ rfl M.b_tuple Boot.«tuple») rG))) rG))))),?_⟩;refine⟨_,rfl,by show 2<=sizeLine;decide,λe a=>?_⟩;exact⟨v,e,t,rfl,SqT.of rE,b.mono (mJ a _),q _ (mJ a _)⟩
theorem GP:Fi ["rows"] ["rows"] (Ff (Fk 39)):=⟨rfl,rfl,rfl,by decide +kernel,rfl,by decide +kernel,by decide +kernel⟩
theorem Jt(M:Md K mg x cB)
  (Gis_listing:Dn P w K mg base Fs 1 "is_listing" ["value"] (IV K)):Dn P w K mg base Fs 2 "has_people" ["rows"] (J6 K):=by
 have y:=(GP).nd
 refine M.f_has_people.ok GP (λvs H Q E h=>?_) (λ_ _ _ _ _ _ b p=>Ko (λ_=>rfl) b p) (λf v A n s H vs Q E r h=>?_)
 ·obtain⟨a,b,rfl,d,q⟩:=h
  rfl
 obtain⟨a,b,rfl,d,q⟩:=h
 refine⟨_,(rJ (rP (u6 (sf Gis_listing r (by decide) rfl Fm (lh (pv 0) rG)) (vS (y0 AL AL rH (rK rV rfl M.b_len cU (lh (pv 0) rG)) (BC M.c_MOST_PEOPLE)))))),?_⟩
 have m:∃t,tyOf K H (.ref a) t/\(Ie t "list"||Ie t "tuple")=true:=by
  rcases d with d|d
  ·exact⟨"list",.inl ⟨rfl,_,d⟩,rfl⟩
  ·exact⟨"tuple",.inr ⟨rfl,_,d⟩,rfl⟩
 obtain⟨t,u,o⟩:=m
 refine⟨_,rfl,.ref a,t,rfl,u,λg j=>⟨_,rfl,?_⟩⟩
 rw[o]
 refine FG ?_
 have l:SqL K g a b\/SqT K g a b:=d.imp j.seq j.tup
 refine⟨_,rfl,a,b,rfl,l,_,_,rfl,rfl,_,rfl,?_⟩
 have k:=q g j
 refine FD (λc=>?_) (λc=>?_)
 ·refine⟨_,_,rfl,rfl,?_⟩
  have e:decide ((b.length:Int)<=6)=decide (1<=b.length/\b.length<=6):=by
   apply fT.mpr;simp only[decide_eq_true_eq];omega
  dsimp only
  rw[e]
  exact k
 ·have e:decide (1<=b.length/\b.length<=6)=false:=decide_eq_false (by omega)
  rw[e]at k
  exact k
theorem Hj:Fi ["wish","taken"] ["wish","taken"] (Ff (Fk 41)):=⟨rfl,rfl,rfl,by decide +kernel,rfl,by decide +kernel,by decide +kernel⟩
theorem J2(M:Md K mg x cB):Dn P w K mg base Fs 1 "best_free" ["wish","taken"] (JI K):=by
 have I:=(Hj).nd;refine M.f_best_free.ok Hj (λvs H Q E h=>?_) (λ_ _ _ _ _ _ F m=>HX (λ_ _=>rfl) F m) (λf G A C s H vs Q E J h=>?_)
 ·obtain⟨w,l,a,e,rfl,r,m,B,p,q⟩:=h;rfl
 obtain⟨w,l,a,e,rfl,r,m,B,p,q⟩:=h;refine⟨_,(rJ (rP (rR rY (sS rfl (N:=["thing","taken"]) (caps:=[none,some 1]) (CompOk.of (by kernel_rfl)) (sj rfl) (vP (pv 0)) (λ_ _ _ _=>(rS (i:=0) (show(["thing","taken"]:List Str).Nodup by decide +kernel) rfl (Or.inl rfl) (Or.inr rfl))) (λ_ _ _ _=>(uH (rM (u7 (K:=K) rfl) (pv 0) (pv 1) (by with_unfolding_all rfl)))) (λ_ _ _ _=>(pv 0))) rH (λ_ _=>rfl)))),?_⟩;refine⟨_,rfl,w,rfl,⟨_,r⟩,?_⟩;refine uX (xs:=a.map V.int) (λj n o=>o=H/\n=(F9 (a.take j) e).map V.int)
  ⟨rfl,rfl⟩ (λj n o _ k=>by rw[k.1];exact r) (λj y n o d k=>?_) (λn o k D z=>?_)
 ·obtain⟨rfl,rfl⟩:=k;rw[bZ]at d
  cases g:a[j]? with
  | none=>rw[g]at d;cases d
  | some u=>
   rw[g]at d;have v:V.int u=y:=Option.some.inj d;subst v;refine⟨_,rfl,_,rfl,l,_,rfl,m,rfl,wq _,_,rfl,?_⟩;have b:((F9 (a.take j) e).map V.int).length<sizeLine:=by
    rw[bP];have h1:=dC (λt=>!decide (t∈e)) (a.take j);rw[cf]at h1;exact Fg (by unfold F9;omega)
   show if(!Jw (.int u) (e.map V.int))=true then _ else _
   unfold F9 at b ⊢;rw[xj,cv,g,gp,cb];refine ID (λc=>?_) (λc=>?_)
   ·refine⟨_,rfl,b,rfl,?_⟩;simp[c]
   ·refine⟨rfl,?_⟩;simp[c]
 ·obtain⟨rfl,rfl⟩:=k;rw[bP,cI];exact⟨D,_,0,_,rfl,rfl,SqL.of rE,tJ (by decide) (by show _=_;rw[show(0:Int).toNat=0 from rfl];rw[bZ,(xN p).1];rfl),q _ (mJ z _)⟩
theorem HQ:Fi ["numbers","number"] ["numbers","number"] (Ff (Fk 42)):=⟨rfl,rfl,rfl,by decide +kernel,rfl,by decide +kernel,by decide +kernel⟩
theorem KA(M:Md K mg x cB):Dn P w K mg base Fs 1 "with_one" ["numbers","number"] (Jf K):=by
 have y:=(HQ).nd;refine M.f_with_one.ok HQ (λvs H Q E h=>?_) (λ_ _ _ _ _ _ r c=>HX (λ_ _=>rfl) r c) (λf u A m s H vs Q E C h=>?_)
 ·obtain⟨a,k,x,rfl,hA,g,q⟩:=h;rfl
 obtain⟨a,k,x,rfl,hA,g,q⟩:=h;refine⟨_,(rJ (rP (sv tD rfl M.b_tuple Boot.«tuple» (lh (rK (yA) rfl M.b_sorted Boot.«sorted» (lh (rO AR (pv 0) (sw (lh (pv 1) rG))) rG)) rG)))),?_⟩;refine⟨_,rfl,_,rfl,by show 1<=sizeLine;decide,λb j=>?_⟩;have d:Same H (upd H b (.tup [.int x])):=mJ j _;have h1:SqT K (upd H b (.tup [.int x])) b (([x]:List Int).map V.int):=SqT.of rE;generalize upd H b (.tup [.int x])=z at d h1 ⊢;refine EI (d.tup hA) h1 (by simp;omega) λt B n h2=>?_;refine⟨t,k++[x],rfl,.inr h2,by simp;omega,λl v c hp o=>?_⟩;refine⟨l,_,rfl,.inl ⟨SqL.of rE,λp e=>q p _ (d.trans (n.trans ((mJ c _).trans (mJ e _)))) ?_⟩⟩;rw[TM.srt_eq hp o];exact SqT.of rE
theorem GS:Fi ["wishes","gone","taken","people"] ["wishes","gone","taken"] (Ff (Fk 43)):=⟨rfl,rfl,rfl,by decide +kernel,rfl,by decide +kernel,by decide +kernel⟩
theorem Ji(M:Md K mg x cB)
  (Gbest_free:Dn P w K mg base Fs 1 "best_free" ["wish","taken"] (JI K)):Dn P w K mg base Fs 2 "turns_from" ["wishes","gone","taken"] (J7 K):=by
 have nd:=(GS).nd
 refine M.f_turns_from.ok GS (λvs H Q E h=>?_) (λ_ _ _ _ _ _ us hl=>K7 (λ_ _ _=>rfl) us hl) (λf aj A ae s H vs Q E hr h=>?_)
 ·obtain⟨a,g,t,B,W,n,b,rfl,hA,O,F,hg,T,I,q⟩:=h
  rfl
 obtain⟨a,g,t,B,W,n,b,rfl,hA,O,F,hg,T,I,q⟩:=h
 refine⟨_,(rF (tq (i:=3) nd rfl rfl rfl rfl (N:=["person","gone"]) (caps:=[none,some 1]) (CompOk.of (by kernel_rfl)) (sj rfl) (sD rfl M.b_range (lh (rK rV rfl M.b_len cU (lh (pv 0) rG)) rG)) (λ_ _ _ _=>(rS (i:=0) (show(["person","gone"]:List Str).Nodup by decide +kernel) rfl (Or.inl rfl) (Or.inr rfl))) (λ_ _ _ _=>(uH (rM (u7 (K:=K) rfl) (pv 0) (pv 1) (by with_unfolding_all rfl)))) (λ_ _ _ _=>(pv 0)))
   (rJ (rP (sS rfl (N:=["person","wishes","taken"]) (caps:=[none,some 0,some 2]) (CompOk.of (by kernel_rfl)) (sj rfl) (tE (pv 3)) (λ_ _ _ _=>(rS (i:=0) (show(["person","wishes","taken"]:List Str).Nodup by decide +kernel) rfl (Or.inl rfl) (Or.inr rfl))) (λ_ _ _ _=>sQ) (λ_ _ _ _=>(sw (lh (pv 0) (lh (sf Gbest_free hr (by decide) rfl Fm (lh (rR (t9 (K:=K) rfl) (pv 1) (pv 0) (λ_ _=>rfl)) (lh (pv 2) rG))) rG)))))))),?_⟩
 have al:=Paired.len O
 have af:=F.lo
 have ah:=F.hi
 have ak:=F.len
 have ag:B.length=n:=by omega
 refine⟨_,rfl,a,B,rfl,.inl hA,_,rfl,by omega,by omega,?_⟩
 refine wT (n:=B.length) (λi e l=>l=H/\e=(((LM.rng n).take i).filter λp=>!decide (p∈b.1)).map V.int) ⟨rfl,rfl⟩ (λi e l hi d=>?_) (λe l d D hD=>?_)
 ·obtain⟨rfl,rfl⟩:=d
  have U:(LM.rng n)[i]?=some (i:Int):=by unfold LM.rng;rw[bZ,dy (by omega)];rfl
  have R:((((LM.rng n).take i).filter λp=>!decide (p∈b.1)).map V.int).length<sizeLine:=by
   rw[bP]
   have h1:=dC (λp=>!decide (p∈b.1)) ((LM.rng n).take i)
   rw[cf]at h1
   exact Fg (by omega)
  refine⟨_,rfl,_,rfl,g,_,rfl,.inr hg,rfl,wq _,_,rfl,?_⟩
  show if(!Jw (.int (0+(i:Int))) (b.1.map V.int))=true then _ else _
  rw[d2,xj,cv,U,gp,cb]
  refine ID (λc=>?_) (λc=>?_)
  ·refine⟨_,rfl,R,rfl,?_⟩
   simp[c]
  ·refine⟨rfl,?_⟩
   simp[c]
 obtain⟨rfl,rfl⟩:=d
 rw[dz (by rw[LM.rng_len];omega),show qJ (λp=>!decide (p∈b.1)) (LM.rng n)=TM.freeP n b.1 from rfl]
 have r:Same l (upd l D (.lst ((TM.freeP n b.1).map V.int))):=mJ hD _
 have z:SqL K (upd l D (.lst ((TM.freeP n b.1).map V.int))) D ((TM.freeP n b.1).map V.int):=SqL.of rE
 generalize upd l D (.lst ((TM.freeP n b.1).map V.int))=H2 at r z ⊢
 refine⟨_,rfl,D,rfl,⟨_,z⟩,?_⟩
 refine tm (xs:=(TM.freeP n b.1).map V.int) (λj e v=>Same H2 v/\cT (IsF K v) e ((FI n W b).take j)) ⟨Same.refl _,by rw[dX];exact .nil⟩ (λj e v _ d=>d.1.seq z) (λj y e v S d=>?_) (λe v d De C=>?_)
 ·obtain⟨o,k⟩:=d
  have hj:j<(TM.freeP n b.1).length:=by have:=(b8.mp S).1;rw[bP]at this;exact this
  obtain⟨p,hp⟩:∃p,(TM.freeP n b.1)[j]?=some p:=⟨_,bT hj⟩
  rw[bZ,hp]at S
  cases S
  have X:=LM.mem_rng.mp (dw.mp (cz hp)).1
  have u:p.toNat<W.length:=by omega
  have m:=F.pm _ (cm u)
  have eW:W.getD p.toNat []=W[p.toNat]:=HM.getD_lt u
  obtain⟨wv,Y,aa⟩:=Paired.get O (bT u)
  obtain⟨wa,rfl,L⟩:=aa.mono (r.trans o)
  have ab:=Paired.len k
  rw[cf]at ab
  have ai:(TM.freeP n b.1).length<=n:=by
   have h1:=dC (λp=>!decide (p∈b.1)) (LM.rng n)
   rw[LM.rng_len]at h1
   exact h1
  have et:(FI n W b)[j]?=some (p,Gg W[p.toNat] b.2):=by
   unfold FI
   rw[bZ,hp]
   show some (p,Gd W p b.2)=_
   unfold Gd
   rw[eW]
  have G:=m.len
  generalize W[p.toNat]=ac at L m et G
  refine⟨_,rfl,_,rfl,_,rfl,a,B,_,_,rfl,rfl,(r.trans o).seq hA,tJ X.1 Y,_,rfl,wa,t,ac,b.2,rfl,L,.inr ((r.trans o).tup T),by omega,AT m I,λH4 Z=>⟨by show 2<=sizeLine;decide,λpt J=>⟨Fg (by omega),o.trans (Z.trans (mJ J _)),?_⟩⟩⟩
  rw[cv,et]
  exact Paired.app (rW (Z.trans (mJ J _)) k) (.cons ⟨pt,rfl,SqT.of rE⟩ .nil)
 ·obtain⟨o,k⟩:=d
  rw[dz (by unfold FI;rw[bP,bP];exact bX _)]at k
  exact q De e _ (r.trans (o.trans (mJ C _))) ((r.trans o).free C) rE (rW (mJ C _) k)
theorem Ho:Fi ["count","orders","number"] ["count"] (Ff (Fk 44)):=⟨rfl,rfl,rfl,by decide +kernel,rfl,by decide +kernel,by decide +kernel⟩
theorem J1(M:Md K mg x cB):Dn P w K mg base Fs 1 "orders_of" ["count"] (GZ):=by
 have a:=(Ho).nd;refine M.f_orders_of.ok Ho (λvs H Q E h=>?_) (λ_ _ _ _ _ _ l j=>Ko (λ_=>rfl) l j) (λf m A g s H vs Q E o h=>?_)
 ·obtain⟨k,rfl,hk,q⟩:=h;rfl
 obtain⟨k,rfl,hk,q⟩:=h;refine⟨_,(rF (rL (i:=1) a rfl (Or.inl rfl) rH)
   (rF (tN db rfl (B4 rfl M.b_range (lh rH (lh (rO sJ (pv 0) rH) rG))) (rS (i:=2) a rfl (Or.inl rfl)) (rJ (rL (i:=1) a rfl (Or.inl rfl) (rO sK (pv 1) (pv 2)))))
   (rJ (rP (pv 1))))),?_⟩
 refine⟨_,rfl,_,_,rfl,rfl,_,_,rfl,⟨by omega,by omega,by omega,by omega⟩,?_⟩;have e:((k:Int)+1-1).toNat=k:=by omega
 show ∃_,_;rw[e];refine sN (n:=k) (λi c b=>b=H/\∃r,c=[some (.int k),some (.int (TM.fct i)),r]) ⟨rfl,_,rfl⟩ (λi c b p d=>?_) (λc b d=>?_)
 ·obtain⟨rfl,r,rfl⟩:=d;refine⟨_,rfl,_,rfl,_,_,rfl,rfl,LK (by omega),rfl,some (.int (1+(i:Int))),?_⟩;rw[show TM.fct (i+1)=TM.fct i*(1+(i:Int))by show TM.fct i*((i:Int)+1)=_;rw[qw (i:Int) 1]];rfl
 ·obtain⟨rfl,r,rfl⟩:=d;exact⟨_,rfl,q⟩
theorem Ha:Fi ["wishes","counts","beginnings","turn","endings","longer","beginning","number","person","thing","state"] ["wishes"] (Ff (Fk 45)):=⟨rfl,rfl,rfl,by decide +kernel,rfl,by decide +kernel,by decide +kernel⟩
theorem JC(M:Md K mg x cB)
  (Gorders_of:Dn P w K mg base Fs 1 "orders_of" ["count"] (GZ))
  (Gturns_from:Dn P w K mg base Fs 2 "turns_from" ["wishes","gone","taken"] (J7 K))
  (Gwith_one:Dn P w K mg base Fs 1 "with_one" ["numbers","number"] (Jf K)):Dn P w K mg base Fs 3 "counts_of" ["wishes"] (JD P w K):=by
 have N:=(Ha).nd
 refine M.f_counts_of.ok Ha (λvs H Q E h=>?_) (λ_ _ _ _ _ _ us hl=>Ko (λ_=>rfl) us hl) (λf bH A bz s H vs Q E hr h=>?_)
 ·obtain⟨a,ws,W,n,rfl,hA,hW,ok,q⟩:=h
  rfl
 obtain⟨a,ws,W,n,rfl,hA,hW,ok,q⟩:=h
 refine⟨_,(rF (rL (i:=1) N rfl (Or.inl rfl) (B3 (W:=Ig) (P:=P) (w:=w) (K:=K) rfl rfl rfl))
   (rF (rL (i:=2) N rfl (Or.inl rfl) (C6 (W:=Ih) (P:=P) (w:=w) (K:=K) rfl rfl rfl hr (sw (lh (sw rG) (lh (sw rG) rG))) rH))
   (rF (tN db rfl (sD rfl M.b_range (lh (rK rV rfl M.b_len cU (lh (pv 0) rG)) rG)) (rS (i:=3) N rfl (Or.inl rfl)) (rF (rL (i:=4) N rfl (Or.inl rfl) (sf Gorders_of hr (by decide) rfl Fm (lh (rO wJ (rO wJ (rK rV rfl M.b_len cU (lh (pv 0) rG)) (pv 3)) rH) rG)))
   (rF (rL (i:=5) N rfl (Or.inl rfl) (B3 (W:=Ih) (P:=P) (w:=w) (K:=K) rfl rfl rfl))
   (rF (tN db rfl (Cp (W:=Ih) (P:=P) (w:=w) (K:=K) rfl rfl rfl (pv 2)) (yp rfl (sF (rS (i:=6) N rfl (Or.inl rfl)) (sF (rS (i:=7) N rfl (Or.inl rfl)) uo))) (rJ (tN db rfl (tE (sf Gturns_from hr (by decide) rfl Fm (lh (pv 0) (lh (rR rZ (pv 6) rH (λ_ _=>rfl)) (lh (rR rZ (pv 6) rH (λ_ _=>rfl)) rG))))) (yp rfl (sF (rS (i:=8) N rfl (Or.inl rfl)) (sF (rS (i:=9) N rfl (Or.inl rfl)) uo))) (rF (vp (rO sJ (yO (W:=Ig) (P:=P) (w:=w) (K:=K) rfl rfl rfl hr (pv 1) (sw (lh (pv 8) (lh (pv 9) rG))) rH) (rO sK (pv 7) (pv 4))) (we (pv 1) (sw (lh (pv 8) (lh (pv 9) rG))) (Ex (W:=Ig) (P:=P) (w:=w) (K:=K) rfl rfl rfl hr)))
   (rF (rL (i:=10) N rfl (Or.inl rfl) (sw (lh (sf Gwith_one hr (by decide) rfl Fm (lh (rR rZ (pv 6) rH (λ_ _=>rfl)) (lh (pv 8) rG))) (lh (sf Gwith_one hr (by decide) rfl Fm (lh (rR rZ (pv 6) rH (λ_ _=>rfl)) (lh (pv 9) rG))) rG))))
   (rJ (vp (rO sJ (yO (W:=Ih) (P:=P) (w:=w) (K:=K) rfl rfl rfl hr (pv 5) (pv 10) rH) (pv 7)) (we (pv 5) (pv 10) (Ex (W:=Ih) (P:=P) (w:=w) (K:=K) rfl rfl rfl hr)))))))))
   (rJ (rL (i:=2) N rfl (Or.inl rfl) (pv 5)))))))
   (rJ (rP (pv 1)))))),?_⟩
 have bK:=Paired.len hW
 have bB:=ok.lo
 have bF:=ok.hi
 have bJ:=ok.len
 have bh:ws.length=n:=by omega
 have ac:(0:Nat)<=sizeLine:=by decide
 have u:(2:Nat)<=sizeLine:=by decide
 refine λc H1 aZ aJ aP=>?_
 have S1:Same H H1:=by obtain⟨φ,rfl⟩:=aJ;exact mJ aZ _
 clear aJ
 refine λm H2 U aA ax=>?_
 have ae:H m=none:=S1.free U
 have S2:Same H1 H2:=by obtain⟨φ,rfl⟩:=aA;exact mJ U _
 have T:c≠m:=λz=>by obtain⟨φ,e⟩:=aP.ext;rw[z,U]at e;cases e
 clear aA
 refine⟨ac,λD aT=>⟨ac,λG aD=>⟨u,λp3 al=>?_⟩⟩⟩
 have S3:Same H2 (upd (upd (upd H2 D (.tup [])) G (.tup [])) p3 (.tup [.ref D,.ref G])):=(mJ aT _).trans ((mJ aD _).trans (mJ al _))
 have aM:SqT K (upd (upd (upd H2 D (.tup [])) G (.tup [])) p3 (.tup [.ref D,.ref G])) p3 [.ref D,.ref G]:=SqT.of rE
 have aC:SqT K (upd (upd (upd H2 D (.tup [])) G (.tup [])) p3 (.tup [.ref D,.ref G])) D (([]:List Int).map V.int):=SqT.of (mJ al _ _ _ (mJ aD _ _ _ rE))
 have aH:SqT K (upd (upd (upd H2 D (.tup [])) G (.tup [])) p3 (.tup [.ref D,.ref G])) G (([]:List Int).map V.int):=SqT.of (mJ al _ _ _ rE)
 generalize upd (upd (upd H2 D (.tup [])) G (.tup [])) p3 (.tup [.ref D,.ref G])=H3 at S3 aM aC aH ⊢
 refine⟨p3,([],[]),1,rfl,rfl,⟨D,G,aM,aC,aH⟩,ax.mono S3,λH4 aE a2=>?_⟩
 have aU:=(ax.mono S3).ext
 have X4:KX [m] H3 H4:=KX.put (λb hb=>by rw[bY.mp hb];exact aU) (bY.mpr rfl) aE
 have az:Same H H4:=X4.same (S1.trans (S2.trans S3)) λb hb=>by rw[bY.mp hb];exact ae
 have aX:DictI Ig P w K H4 c []:=by
  obtain⟨ep,hC⟩:=aP
  exact⟨ep,X4.dict (hC.mono (S2.trans S3)) (λz=>T (bY.mp z))⟩
 clear X4 aE aU S3 aM aC aH ax aP S1 S2 aT aD al U
 refine⟨_,rfl,a,ws,rfl,.inl (az.seq hA),_,rfl,by omega,by omega,?_⟩
 refine sN (n:=ws.length) (λk F H5=>Same H H5/\∃(m:bV) (C:List (List Int×Int)) (B:List (FK×Int)) (r3 r4 r5 r6 r7 r8 r9 R:Option V),F=[some (.ref a),some (.ref c),some (.ref m),r3,r4,r5,r6,r7,r8,r9,R]/\H m=none/\c≠m/\
   DictI Ig P w K H5 c C/\CI n W k C/\DictI Ih P w K H5 m B/\BI n W k B)
  ⟨az,m,[],_,_,_,_,_,_,_,_,_,rfl,ae,T,aX,CI.zero,a2,BI.zero⟩ (λk F H5 hk r=>?_) (λF H5 r=>?_)
 ·clear az aX a2 T ae
  obtain⟨S5,m,C,B,r3,r4,r5,r6,r7,r8,r9,R,rfl,U,T,hC,ak,hB,ao⟩:=r
  have bE:k<n:=by omega
  refine⟨_,rfl,a,ws,rfl,.inl (S5.seq hA),_,rfl,_,_,rfl,rfl,_,_,rfl,rfl,n-(k+1),by show[V.int _]=[V.int _];rw[show(ws.length:Int)-(0+(k:Int))-1=((n-(k+1):Nat):Int)by omega],by omega,?_⟩
  have bL:=zv (show n-(k+1)<=6 by omega)
  refine λl H6 ar au bu=>?_
  have a4:H l=none:=S5.free ar
  have S6:Same H5 H6:=by obtain⟨φ,rfl⟩:=au;exact mJ ar _
  have ay:c≠l:=λz=>by obtain⟨φ,e⟩:=hC.ext;rw[z,ar]at e;cases e
  have bk:m≠l:=λz=>by obtain⟨φ,e⟩:=hB.ext;rw[z,ar]at e;cases e
  clear au
  obtain⟨ep,aV⟩:=hB.mono S6
  have a8:m∉[c,l]:=λz=>by
   rcases cj.mp z with z|z
   ·exact T z.symm
   ·exact bk (bY.mp z)
  have bv:∀b∈[c,l],H b=none:=λb hb=>by
   rcases cj.mp hb with z|z
   ·rw[z];exact aZ
   ·rw[bY.mp z];exact a4
  have exts:∀{H':Hp} {C:List (List Int×Int)} {L:List (FK×Int)},DictI Ig P w K H' c C->DictI Ih P w K H' l L->∀b∈[c,l],∃φ,H' b=some (.ext φ):=λh1 h2 b hb=>by
   rcases cj.mp hb with z|z
   ·rw[z];exact h1.ext
   ·rw[bY.mp z];exact h2.ext
  refine⟨_,rfl,m,ep,B,rfl,aV,?_⟩
  refine Br (kvs:=B) (λi F S=>Same H S/\DictE Ih P w K S m ep B/\∃(o:List (List Int×Int)) (L:List (FK×Int)) (r6 r7 r8 r9 R:Option V),F=[some (.ref a),some (.ref c),some (.ref m),some (.int (0+(k:Int))),some (.int (TM.fct (n-(k+1)))),some (.ref l),r6,r7,r8,r9,R]/\
    DictI Ig P w K S c o/\DictI Ih P w K S l L/\TI0 n W k B i o L)
   ⟨S5.trans S6,aV,C,[],_,_,_,_,_,rfl,hC.mono S6,bu,TI0.start ak⟩ (λi F S _ r=>r.2.1) (λi g J ka F S t aN bl ht r=>?_) (λF S r=>?_)
  ·obtain⟨S7,av,o,L,bf,bi,aw,aB,ah,rfl,aj,ap,hT⟩:=r
   obtain⟨kx,ky,aI,a1,a3⟩:=bl
   obtain⟨π,aS,Z⟩:=ao.key _ (cz aN)
   have I:=TM.pre_ok aS
   have bG:g.1.length=k:=by rw[show g=FX W π from Z];show(TM.srt π).length=k;rw[BX,I.len]
   have bD:g.2.length=k:=by rw[show g=FX W π from Z];show(TM.srt (KZ W π)).length=k;rw[BX];unfold KZ;rw[B0,I.len]
   have S8:Same S (upd S t (.tup [.ref ka,.int J])):=mJ ht _
   have aR:upd S t (.tup [.ref ka,.int J]) t=some (.tup [.ref ka,.int J]):=rE
   generalize upd S t (.tup [.ref ka,.int J])=H8 at S8 aR ⊢
   refine⟨t,_,rfl,SqT.of aR,rfl,_,_,rfl,_,_,rfl,rfl,?_⟩
   refine⟨_,rfl,_,rfl,ka,_,0,_,rfl,rfl,S8.tup aI,rfl,_,rfl,ka,_,1,_,rfl,rfl,S8.tup aI,rfl,a,kx,ky,ws,W,n,g,rfl,(S7.trans S8).seq hA,Paired.mapP hW (λ_ _ h=>h.mono (S7.trans S8)),ok,S8.tup a1,S8.tup a3,by omega,λtl ls H9 S9 bA aY a6=>?_⟩
   have y:=S8.trans S9
   have bx:=Paired.len a6
   have bb:(FI n W g).length<=6:=by
    unfold FI TM.freeP
    rw[bP]
    have h1:=dC (λp=>!decide (p∈g.1)) (LM.rng n)
    rw[LM.rng_len]at h1
    omega
   have bp:=exts (aj.mono y) (ap.mono y)
   refine⟨tl,rfl,⟨_,SqL.of aY⟩,?_⟩
   refine vJ (xs:=ls) (λj F O=>KX [c,l] H9 O/\∃(o:List (List Int×Int)) (L:List (FK×Int)) (r8 r9 R:Option V),F=[some (.ref a),some (.ref c),some (.ref m),some (.int (0+(k:Int))),some (.int (TM.fct (n-(k+1)))),some (.ref l),some (.ref ka),some (.int J),r8,r9,R]/\
     DictI Ig P w K O c o/\DictI Ih P w K O l L/\TJ n W k B i g J j o L)
    ⟨KX.refl bp,o,L,_,_,_,rfl,aj.mono y,ap.mono y,hT g J⟩ (λj F O _ r=>SqL.of (r.1.lst aY)) (λj v F O hv r=>?_) (λF O r=>?_)
   ·obtain⟨XA,o,L,aw,aB,ah,rfl,Y,am,X⟩:=r
    obtain⟨d,aG,pa,rfl,bw⟩:=Paired.get' a6 hv
    have bC:j<6:=by have:=(b8.mp aG).1;omega
    have bI:i<=7776:=by
     have h1:=(b8.mp aN).1
     have h2:6^k<=6^5:=dM (by decide) (by omega)
     have h3:=ao.len
     have h4:(6:Nat)^5=7776:=by decide
     omega
    have a7:o.length<=1000000:=by have:=X.cl;omega
    have a9:L.length<=1000000:=by have:=X.ll;omega
    refine⟨pa,_,rfl,XA.tup bw,rfl,_,_,rfl,_,_,rfl,rfl,?_⟩
    -- the count
    refine⟨_,rfl,c,rfl,⟨_,Y⟩,_,rfl,_,rfl,u,λpk a5=>?_⟩
    have SB:Same O (upd O pk (.tup [.int d.1,.int d.2])):=mJ a5 _
    have ai:SqT K (upd O pk (.tup [.int d.1,.int d.2])) pk (([d.1,d.2]:List Int).map V.int):=SqT.of rE
    generalize upd O pk (.tup [.int d.1,.int d.2])=HB at SB ai ⊢
    refine⟨pk,[d.1,d.2],0,o,rfl,rfl,Y.mono SB,ai,?_⟩
    refine⟨_,rfl,_,rfl,_,_,rfl,rfl,LK (by omega),_,_,rfl,rfl,?_⟩
    refine⟨_,rfl,_,rfl,_,rfl,u,λab aF=>?_⟩
    have SC:Same HB (upd HB ab (.tup [.int d.1,.int d.2])):=mJ aF _
    have af:SqT K (upd HB ab (.tup [.int d.1,.int d.2])) ab (([d.1,d.2]:List Int).map V.int):=SqT.of rE
    generalize upd HB ab (.tup [.int d.1,.int d.2])=HC at SC af ⊢
    refine⟨c,ab,[d.1,d.2],_,o,rfl,rfl,rfl,Y.mono (SB.trans SC),af,a7,λHD ag bn=>?_⟩
    have aa:=SB.trans SC
    have aQ:=exts (Y.mono aa) (am.mono aa)
    have XD:KX [c,l] O HD:=(KX.of aa XA.is).trans (KX.put aQ b0 ag)
    have bo:DictI Ih P w K HD l L:=by
     obtain⟨e2,hL⟩:=am.mono aa
     obtain⟨φ,bq,h1,rfl⟩:=ag
     exact⟨e2,hL.overX h1 (Ne.symm ay)⟩
    clear ag aQ af ai SB SC aa a5 aF
    -- the state
    have an:=XA.trans XD
    have a0:=an.tup ((y).tup aI)
    refine⟨_,rfl,ka,_,0,_,rfl,rfl,a0,rfl,_,rfl,kx,g.1,d.1,rfl,an.tup (y.tup a1),by omega,λq1 HE SE br=>?_⟩
    refine⟨_,rfl,ka,_,1,_,rfl,rfl,SE.tup a0,rfl,_,rfl,ky,g.2,d.2,rfl,SE.tup (an.tup (y.tup a3)),by omega,λq2 HF SF bm=>?_⟩
    refine⟨u,λqs aL=>?_⟩
    have SG:Same HD (upd HF qs (.tup [.ref q1,.ref q2])):=SE.trans (SF.trans (mJ aL _))
    have aK:Ih.at' K (upd HF qs (.tup [.ref q1,.ref q2])) (GA g d) qs:=⟨q1,q2,SqT.of rE,(SF.trans (mJ aL _)).tup br,(mJ aL _).tup bm⟩
    generalize upd HF qs (.tup [.ref q1,.ref q2])=HG at SG aK ⊢
    have aq:=bo.mono SG
    refine⟨_,rfl,l,rfl,⟨_,aq⟩,_,rfl,qs,GA g d,0,L,rfl,rfl,aq,aK,?_⟩
    refine⟨_,rfl,_,_,rfl,rfl,?_⟩
    refine⟨_,rfl,_,rfl,l,qs,GA g d,_,L,rfl,rfl,rfl,aq,aK,a9,λHI aO bs=>?_⟩
    have aW:=bn.mono SG
    have bj:=exts aW aq
    have XI:KX [c,l] HD HI:=(KX.of SG XD.is).trans (KX.put bj (b3 _ (bY.mpr rfl)) aO)
    have ba:DictI Ig P w K HI c (J9 o [d.1,d.2] (J*TM.fct (n-(k+1)))):=by
     obtain⟨e2,hC⟩:=aW
     obtain⟨φ,bq,h1,rfl⟩:=aO
     exact⟨e2,hC.overX h1 ay⟩
    refine⟨an.trans XI,_,_,_,_,_,rfl,ba,bs,X.step aG ?_⟩
    rw[show g=FX W π from Z]
    exact Cn aS (by rw[<-show g=FX W π from Z];exact cz aG)
   ·obtain⟨XA,o,L,aw,aB,ah,rfl,Y,am,X⟩:=r
    rw[bx]at X
    refine⟨XA.same (S7.trans y) bv,XA.dict (av.mono y) a8,o,L,_,_,_,_,_,rfl,Y,am,X.done aN bb⟩
  ·obtain⟨S7,av,o,L,bf,bi,aw,aB,ah,rfl,aj,ap,hT⟩:=r
   obtain⟨be,bc⟩:=TI0.finish ao (by omega) hT
   exact⟨_,rfl,S7,l,o,L,_,_,_,_,_,_,_,_,rfl,a4,ay,aj,be,ap,bc⟩
 ·obtain⟨S5,m,C,B,r3,r4,r5,r6,r7,r8,r9,R,rfl,U,T,hC,ak,hB,ao⟩:=r
  rw[bh]at ak
  exact⟨_,rfl,q c C H5 S5 hC ak⟩
theorem F4:Fi ["counts","person","count","orders"] ["counts","person","count"] (Ff (Fk 46)):=⟨rfl,rfl,rfl,by decide +kernel,rfl,by decide +kernel,by decide +kernel⟩
theorem G8(M:Md K mg x cB)
  (Gorders_of:Dn P w K mg base Fs 1 "orders_of" ["count"] (GZ))
  (Gfraction:Dn P w K mg base (GM P w) 2 "fraction" ["top","bottom"] (FV x)):Dn P w K mg base Fs 3 "shares_by_turns" ["counts","person","count"] (J3 P w K):=by
 have S:=(F4).nd
 refine M.f_shares_by_turns.ok F4 (λvs H Q E h=>?_) (λ_ _ _ _ _ _ U O=>K7 (λ_ _ _=>rfl) U O) (λf Z A L s H vs Q E v h=>?_)
 ·obtain⟨d,C,W,n,p,rfl,B,o,g,q⟩:=h
  rfl
 obtain⟨d,C,W,n,p,rfl,B,o,g,q⟩:=h
 refine⟨_,(rF (rL (i:=3) S rfl (Or.inr rfl) (sf Gorders_of v (by decide) rfl Fm (lh (pv 2) rG)))
   (rJ (rP (sv tD rfl M.b_tuple Boot.«tuple» (lh (sS rfl (N:=["thing","counts","person","orders"]) (caps:=[none,some 0,some 1,some 3]) (CompOk.of (by kernel_rfl)) (sj rfl) (sD rfl M.b_range (lh (pv 2) rG)) (λ_ _ _ _=>(rS (i:=0) (show(["thing","counts","person","orders"]:List Str).Nodup by decide +kernel) rfl (Or.inl rfl) (Or.inr rfl))) (λ_ _ _ _=>sQ) (λ_ _ _ _=>(sf Gfraction v (by decide) rfl JQ (lh (yO (W:=Ig) (P:=P) (w:=w) (K:=K) rfl rfl rfl v (pv 1) (sw (lh (pv 2) (lh (pv 0) rG))) rH) (lh (pv 3) rG))))) rG))))),?_⟩
 have hf:=zv g
 refine⟨_,rfl,n,rfl,g,?_⟩
 refine⟨_,rfl,_,rfl,by omega,by omega,?_⟩
 refine ud (n:=n) (λi e a=>Same H a/\cT (IsF K a) e ((Ga n W p).take i)) ⟨Same.refl _,by rw[dX];exact .nil⟩ (λi e a Y F=>?_) (λe a F D X=>?_)
 ·obtain⟨c,b⟩:=F
  have G:=Paired.len b
  rw[cf]at G
  refine⟨_,rfl,d,rfl,⟨_,B.mono c⟩,_,rfl,_,rfl,by show 2<=sizeLine;decide,λj I=>?_⟩
  rw[d2]
  have r:Same a (upd a j (.tup [.int p,.int (i:Int)])):=mJ I _
  have k:SqT K (upd a j (.tup [.int p,.int (i:Int)])) j (([p,(i:Int)]:List Int).map V.int):=SqT.of rE
  generalize upd a j (.tup [.int p,.int (i:Int)])=H2 at r k ⊢
  refine⟨j,[p,(i:Int)],0,C,rfl,rfl,B.mono (c.trans r),k,_,rfl,L5 C [p,(i:Int)],TM.fct n,rfl,λz=>by omega,λ_=>⟨v9 (m:=30) (by omega) (by decide),λT H3 J t=>⟨Fg (by omega),c.trans (r.trans J),?_⟩⟩⟩
  rw[Cr C o.kn n W o.sum]at t
  rw[cv,show(Ga n W p)[i]?=some (FQ.red (FU n W (λl=>Ip p i (l.getD 0 0) (l.getD 1 0)) n) (TM.fct n))by unfold Ga;rw[bZ,dy Y];rfl]
  exact Paired.app (rW (r.trans J) b) (.cons ⟨T,rfl,SqT.of t⟩ .nil)
 ·obtain⟨c,b⟩:=F
  rw[dz (by rw[Aa];exact bX _)]at b
  have y:=mJ X (.lst e)
  exact⟨D,e,rfl,.inl ⟨SqL.of rE,λR u=>q R e _ (c.trans (y.trans (mJ u _))) (c.free (y.free u)) rE (rW (y.trans (mJ u _)) b)⟩⟩
theorem HW:Fi ["wishes","counts"] ["wishes"] (Ff (Fk 47)):=⟨rfl,rfl,rfl,by decide +kernel,rfl,by decide +kernel,by decide +kernel⟩
theorem Kk(M:Md K mg x cB)
  (Gcounts_of:Dn P w K mg base Fs 3 "counts_of" ["wishes"] (JD P w K))
  (Gshares_by_turns:Dn P w K mg base Fs 3 "shares_by_turns" ["counts","person","count"] (J3 P w K)):Dn P w K mg base Fs 4 "by_turns" ["wishes"] (Ja K):=by
 have J:=(HW).nd
 refine M.f_by_turns.ok HW (λvs H Q E h=>?_) (λ_ _ _ _ _ _ T G=>Ko (λ_=>rfl) T G) (λf U A F s H vs Q E u h=>?_)
 ·obtain⟨a,e,W,n,rfl,hA,m,l,q⟩:=h
  rfl
 obtain⟨a,e,W,n,rfl,hA,m,l,q⟩:=h
 refine⟨_,(rF (rL (i:=1) J rfl (Or.inr rfl) (sf Gcounts_of u (by decide) rfl Fm (lh (pv 0) rG)))
   (rJ (rP (sS rfl (N:=["person","wishes","counts"]) (caps:=[none,some 0,some 1]) (CompOk.of (by kernel_rfl)) (sj rfl) (sD rfl M.b_range (lh (rK rV rfl M.b_len cU (lh (pv 0) rG)) rG)) (λ_ _ _ _=>(rS (i:=0) (show(["person","wishes","counts"]:List Str).Nodup by decide +kernel) rfl (Or.inl rfl) (Or.inr rfl))) (λ_ _ _ _=>sQ) (λ_ _ _ _=>(sf Gshares_by_turns u (by decide) rfl Fm (lh (pv 2) (lh (pv 0) (lh (rK (u8 (K:=K) rfl) rfl M.b_len cU (lh (pv 1) rG)) rG))))))))),?_⟩
 have Z:=Paired.len m
 have r:=l.hi
 have Y:=l.len
 have v:e.length=n:=by omega
 refine⟨_,rfl,a,e,W,n,rfl,hA,m,l,λd C L g S y=>?_⟩
 refine⟨_,rfl,a,e,rfl,.inl (g.seq hA),_,rfl,by omega,by omega,?_⟩
 refine ud (n:=e.length) (λi j k=>Same L k/\cT (RwG K k) j ((Ka n W).take i)) ⟨Same.refl _,by rw[dX];exact .nil⟩ (λi j k hi p=>?_) (λj k p D o=>?_)
 ·obtain⟨c,b⟩:=p
  have t:=Paired.len b
  rw[cf]at t
  refine⟨_,rfl,_,rfl,_,rfl,a,e,rfl,.inl ((g.trans c).seq hA),d,C,W,n,(i:Int),by show[V.ref d,V.int _,V.int _]=[V.ref d,V.int _,V.int _];rw[v,d2],S.mono c,y,r,λI R H3 z X O B=>⟨Fg (by omega),c.trans z,?_⟩⟩
  rw[cv,show(Ka n W)[i]?=some (Ga n W i)by unfold Ka;rw[bZ,dy (by omega)];rfl]
  exact Paired.app (Paired.mapP b λ_ _ h=>h.mono z) (.cons ⟨I,R,rfl,SqT.of O,B⟩ .nil)
 ·obtain⟨c,b⟩:=p
  rw[dz (by rw[Cd];omega)]at b
  exact q D j _ (g.trans (c.trans (mJ o _))) ((g.trans c).free o) rE (Paired.mapP b λ_ _ h=>h.mono (mJ o _))
theorem IA:Fi ["value"] ["value"] (Ff (Fk 50)):=⟨rfl,rfl,rfl,by decide +kernel,rfl,by decide +kernel,by decide +kernel⟩
theorem La(M:Md K mg x cB):Dn P w K mg base Fs 1 "is_word" ["value"] (JK):=by
 have R:=(IA).nd;refine M.f_is_word.ok IA (λvs H Q E h=>?_) (λ_ _ _ _ _ _ C u=>Ko (λ_=>rfl) C u) (λf L A t s H vs Q E S h=>?_)
 ·obtain⟨z,rfl,k,m,q⟩:=h;rfl
 obtain⟨z,rfl,k,m,q⟩:=h;refine⟨_,(rF (si (PW.pt (xR (tS (sB (rK sC rfl M.b_isinstance Boot.«isinstance» (lh (pv 0) (lh (tZ rfl M.b_str Boot.«str») rG))))) (wS (tS (zf AL AL rH (rK uf rfl M.b_len cU (lh (pv 0) rG)) (BC M.c_MOST_SIGNS)))))) (rJ (rP vc)) rN)
   (rJ (rP (rK (zi rfl) rfl M.b_all Boot.«all» (lh (sS rfl (N:=["sign"]) (caps:=[none]) (CompOk.of (by kernel_rfl)) (sj rfl) (EU (pv 0)) (λ_ _ _ _=>(rS (i:=0) (show(["sign"]:List Str).Nodup by decide +kernel) rfl (Or.inl rfl) (Or.inr rfl))) (λ_ _ _ _=>sQ) (λ_ _ _ _=>(y0 x8 x8 rX (pv 0) rX))) rG))))),?_⟩
 have r:z.length<=sizeLine:=cx (Fg k);refine⟨_,rfl,_,"str","str",rfl,by decide,rfl,_,rfl,Fu ?_⟩;refine⟨_,rfl,z,rfl,r,_,_,rfl,rfl,_,rfl,?_⟩;refine FD (λy=>?_) (λy=>?_);rotate_left
 ·rw[wX (by omega)]at q;exact⟨_,rfl,FG (q H (Same.refl _))⟩
 refine⟨_,_,rfl,rfl,_,rfl,?_⟩;by_cases n:(z.length:Int)<=12;rotate_left
 ·rw[wX (by omega)]at q;dsimp only;rw[decide_eq_false n];exact FG (q H (Same.refl _))
 dsimp only;rw[decide_eq_true n];refine Fu ?_;rw[zZ (by omega)]at q;refine⟨_,rfl,z,rfl,m,?_⟩;have B:(b9 "a").cps.toList=[97]:=by decide +kernel
 have F:(b9 "z").cps.toList=[122]:=by decide +kernel
 have d:z.cps.size=z.cps.toList.length:=by simp
 have O:z.cps.toList.length<=1000:=by rw[<-d];exact k
 refine B5 (z:=z) (λi j g=>g=H/\j=((z.cps.toList.take i).map λc=>decide (97<=c)&&decide (c<=122)).map V.bl) ⟨rfl,rfl⟩ (λi c j g p l=>?_) (λj g l D G=>?_)
 ·obtain⟨rfl,rfl⟩:=l;have T:i<z.cps.toList.length:=by rw[<-d];exact(jQ.mp p).1
  have a:(((z.cps.toList.take i).map λc=>decide (97<=c)&&decide (c<=122)).map V.bl).length<sizeLine:=Fg (by rw[bP,bP,cf];omega);have o:z.cps.toList[i]?=some c:=by rw[fb];exact p
  have e:∀b:Bool,b=(decide (97<=c)&&decide (c<=122))->(((z.cps.toList.take i).map λc=>decide (97<=c)&&decide (c<=122)).map V.bl)++[V.bl b]=(((z.cps.toList.take (i+1)).map λc=>decide (97<=c)&&decide (c<=122)).map V.bl):=λb I=>by
   rw[cv,o,cb,cb,I];rfl
  refine⟨_,rfl,_,_,rfl,rfl,_,rfl,?_⟩;show if(!decide ([c]<(b9 "a").cps.toList))=true then _ else _
  rw[B];by_cases v:c<97
  ·rw[decide_eq_true (show[c]<[97]by rw[gr];exact .inl v)];exact Fu ⟨a,rfl,e false (by rw[decide_eq_false (by omega)];rfl)⟩
  ·rw[decide_eq_false (show ¬[c]<[97]by rw[gr];simp;omega)];refine FG ⟨_,_,rfl,rfl,a,rfl,e _ ?_⟩;show(!decide ((b9 "z").cps.toList<[c]))=_;rw[F];by_cases J:122<c
   ·rw[decide_eq_true (show[122]<[c]by rw[gr];exact .inl J),decide_eq_false (show ¬c<=122 by omega),jC];rfl
   ·rw[decide_eq_false (show ¬[122]<[c]by rw[gr];simp;omega),decide_eq_true (show 97<=c by omega),decide_eq_true (show c<=122 by omega)];rfl
 ·obtain⟨rfl,rfl⟩:=l;rw[d,cI];refine⟨D,_,rfl,SqL.of rE,?_⟩;rw[qx];exact q _ (mJ G _)
theorem IK:Fi ["words"] ["words"] (Ff (Fk 51)):=⟨rfl,rfl,rfl,by decide +kernel,rfl,by decide +kernel,by decide +kernel⟩
theorem K5(M:Md K mg x cB)
  (Ghas_people:Dn P w K mg base Fs 2 "has_people" ["rows"] (J6 K))
  (Gis_word:Dn P w K mg base Fs 1 "is_word" ["value"] (JK)):Dn P w K mg base Fs 3 "is_roll" ["words"] (JU K):=by
 have U:=(IK).nd
 refine M.f_is_roll.ok IK (λvs H Q E h=>?_) (λ_ _ _ _ _ _ R u=>Ko (λ_=>rfl) R u) (λf T A L s H vs Q E F h=>?_)
 ·obtain⟨a,b,rfl,hA,r,t,q⟩:=h
  rfl
 obtain⟨a,b,rfl,hA,r,t,q⟩:=h
 refine⟨_,(rJ (rP (u6 (sf Ghas_people F (by decide) rfl Fm (lh (pv 0) rG)) (u6 (rK (zi rfl) rfl M.b_all Boot.«all» (lh (sS rfl (N:=["word"]) (caps:=[none]) (CompOk.of (by kernel_rfl)) (sj rfl) (tE (pv 0)) (λ_ _ _ _=>(rS (i:=0) (show(["word"]:List Str).Nodup by decide +kernel) rfl (Or.inl rfl) (Or.inr rfl))) (λ_ _ _ _=>sQ) (λ_ _ _ _=>(sf Gis_word F (by decide) rfl Fm (lh (pv 0) rG)))) rG)) (vS (ua sY (zQ rfl rfl M.b_len rfl M.b_set (pv 0)) (rK rV rfl M.b_len cU (lh (pv 0) rG)) (Fj _))))))),?_⟩
 refine⟨_,rfl,a,b.map V.str,rfl,.inl hA,λB z=>⟨_,rfl,?_⟩⟩
 rw[bP]
 refine FD (λc=>?_) (λc=>?_)
 rotate_left
 ·have I:=q B z
  rw[Ak c]at I
  exact I
 have p:=z.seq hA
 refine⟨_,rfl,a,rfl,⟨_,p⟩,?_⟩
 refine tm (xs:=b.map V.str) (λi l d=>Same B d/\l=((b.take i).map FE).map V.bl) ⟨Same.refl _,rfl⟩ (λi l d _ k=>k.1.seq p) (λi v l d e k=>?_) (λl d k D S=>?_)
 ·obtain⟨y,rfl⟩:=k
  rw[bZ]at e
  cases g:b[i]? with
  | none=>rw[g]at e;cases e
  | some w=>
   rw[g]at e
   have J:V.str w=v:=Option.some.inj e
   subst J
   have W:i<b.length:=(b8.mp g).1
   obtain⟨u,O⟩:=t w (cz g)
   refine⟨_,rfl,w,rfl,u,O,λC m=>⟨Fg (by rw[bP,bP,cf];omega),y.trans m,?_⟩⟩
   rw[cv,g,cb,cb]
   rfl
 obtain⟨y,rfl⟩:=k
 rw[bP,cI]
 have m:Same d (upd d D (.lst ((b.map FE).map V.bl))):=mJ S _
 have o:upd d D (.lst ((b.map FE).map V.bl)) D=some (.lst ((b.map FE).map V.bl)):=rE
 generalize upd d D (.lst ((b.map FE).map V.bl))=C at m o ⊢
 have j:=z.trans (y.trans m)
 have n:=q C j
 refine⟨D,b.map FE,rfl,SqL.of o,_,rfl,?_⟩
 rw[qx]
 show if b.all FE=true then _ else _
 cases G:b.all FE with
 | false=>
  rw[xT G]at n
  exact Fu n
 | true=>
  rw[Ae c G]at n
  refine FG ?_
  refine⟨_,rfl,a,b,rfl,j.seq hA,r,_,rfl,a,_,rfl,.inl (j.seq hA),rfl,?_⟩
  rw[bP]
  exact n
theorem Gi:Fi ["self","people","things"] ["self","people","things"] (Ff (IW 52 0)):=⟨rfl,rfl,rfl,by decide +kernel,rfl,by decide +kernel,by decide +kernel⟩
theorem Il(M:Md K mg x cB)
  (Gis_roll:Dn P w K mg base Fs 3 "is_roll" ["words"] (JU K)):Bn P w K mg base (GM P w) 4 cB "Book" ["self","people","things"] (Kh K cB x):=by
 have nd:=(Gi).nd
 refine M.k_Book.okE Gi (λvs H Q E h=>?_) (λ_ _ _ _ _ _ us hl=>K7 (λ_ _ _=>rfl) us hl) (λf ah A ag s H vs Q E hr h=>?_)
 ·obtain⟨s0,a,b,g,l,m,rfl,hs,hA,G,N,W,L,R,J,q⟩:=h
  rfl
 obtain⟨s0,a,b,g,l,m,rfl,hs,hA,G,N,W,L,R,J,q⟩:=h
 refine⟨_,(rF (si (PW.pt (xR (tS (sB (sf Gis_roll hr (by decide) rfl Fm (lh (pv 1) rG)))) (xR (tS (sB (sf Gis_roll hr (by decide) rfl Fm (lh (pv 2) rG)))) (wS (rM xZ (rK rV rfl M.b_len cU (lh (pv 1) rG)) (rK rV rfl M.b_len cU (lh (pv 2) rG)) (Fj _)))))) (rJ (uc M.x_NoRoll rfl (lh rX rG))) rN)
   (rF (Bw (pv 0) (sv uz rfl M.b_tuple Boot.«tuple» (lh (pv 1) rG)) rfl)
   (rF (Bw (pv 0) (sv uz rfl M.b_tuple Boot.«tuple» (lh (pv 2) rG)) rfl)
   (rJ (Bw (pv 0) Ef rfl))))),?_⟩
 refine⟨_,rfl,a,l,rfl,hA,N,L,λH1 X=>⟨_,rfl,?_⟩⟩
 cases ep:F2 l with
 | false=>exact FG ⟨by show 1<=sizeLine;decide,J (λz=>by rw[ur.mpr z.1]at ep;cases ep) H1 X⟩
 | true=>
 have rp:=ur.mp ep
 refine Fu ?_
 refine⟨_,rfl,b,m,rfl,X.seq G,W,R,λr S2=>⟨_,rfl,?_⟩⟩
 have k:=X.trans S2
 cases et:F2 m with
 | false=>exact FG ⟨by show 1<=sizeLine;decide,J (λz=>by rw[ur.mpr z.2.1]at et;cases et) r k⟩
 | true=>
 have rt:=ur.mp et
 refine Fu ?_
 refine⟨_,rfl,a,_,rfl,.inl (k.seq hA),_,rfl,b,_,rfl,.inl (k.seq G),rfl,_,rfl,?_⟩
 rw[bP,bP]
 by_cases Z:l.length=m.length
 rotate_left
 ·refine JJ (Ol (by omega)) ⟨by show 1<=sizeLine;decide,J (λz=>Z z.2.2) r k⟩
 refine Hl (by rw[Z]) ?_
 have t:=k _ _ hs
 have ac:=k.seq hA
 have aa:=k.seq G
 refine⟨_,rfl,a,_,rfl,ac,λc n T af=>?_⟩
 have F:=mJ T (.frz n (.tup (l.map V.str)))
 refine⟨_,rfl,s0,cB,g,_,rfl,F _ _ t,M.cl,M.na_people,by show 0<1000;decide,?_⟩
 have Y:c≠s0:=Ne.symm (sd t T)
 have U3:SameBut1 s0 H (upd (upd r c (.frz n (.tup (l.map V.str)))) s0 (.ins cB g (FY "people" (.ref c) []))):=(SameBut1.of (k.trans F)).trans SameBut1.upd
 have C:upd (upd r c (.frz n (.tup (l.map V.str)))) s0 (.ins cB g (FY "people" (.ref c) [])) s0=some (.ins cB g [("people",.ref c)]):=rE
 have B:upd (upd r c (.frz n (.tup (l.map V.str)))) s0 (.ins cB g (FY "people" (.ref c) [])) c=some (.frz n (.tup (l.map V.str))):=by rw[rQ Y,rE]
 have O:=(F.seq aa).overI (o:= .ins cB g (FY "people" (.ref c) [])) (F _ _ t)
 dsimp only
 generalize upd (upd r c (.frz n (.tup (l.map V.str)))) s0 (.ins cB g (FY "people" (.ref c) []))=u at U3 C B O ⊢
 refine⟨_,rfl,b,_,rfl,O,λj p y ab=>?_⟩
 have T2:=mJ y (.frz p (.tup (m.map V.str)))
 refine⟨_,rfl,s0,cB,g,_,rfl,T2 _ _ C,M.cl,M.na_things,by show 1<1000;decide,?_⟩
 have n2:j≠s0:=Ne.symm (sd C y)
 have n3:c≠j:=sd B y
 have U4:SameBut1 s0 H (upd (upd u j (.frz p (.tup (m.map V.str)))) s0 (.ins cB g (FY "things" (.ref j) [("people",.ref c)]))):=(U3.trans (SameBut1.of T2)).trans SameBut1.upd
 have v:upd (upd u j (.frz p (.tup (m.map V.str)))) s0 (.ins cB g (FY "things" (.ref j) [("people",.ref c)])) s0=some (.ins cB g [("people",.ref c),("things",.ref j)]):=rE
 have S:upd (upd u j (.frz p (.tup (m.map V.str)))) s0 (.ins cB g (FY "things" (.ref j) [("people",.ref c)])) c=some (.frz n (.tup (l.map V.str))):=by rw[rQ Y,rQ n3];exact B
 have U:upd (upd u j (.frz p (.tup (m.map V.str)))) s0 (.ins cB g (FY "things" (.ref j) [("people",.ref c)])) j=some (.frz p (.tup (m.map V.str))):=by rw[rQ n2,rE]
 dsimp only
 generalize upd (upd u j (.frz p (.tup (m.map V.str)))) s0 (.ins cB g (FY "things" (.ref j) [("people",.ref c)]))=H4 at U4 v S U ⊢
 refine λd D=>?_
 have I:=mJ D (.dK (wK []))
 have n4:d≠s0:=Ne.symm (sd v D)
 have ae:H d=none:=by
  cases e:H d with
  | none=>rfl
  | some o=>rw[U4 d o n4 e]at D;cases D
 refine⟨_,rfl,s0,cB,g,_,rfl,I _ _ v,M.cl,M.na_wishes_told,by show 2<1000;decide,?_⟩
 refine q rp rt Z d _ ((U4.trans (SameBut1.of I)).trans SameBut1.upd) ae ⟨g,c,j,n,p,rE,?_,af,?_,ab,?_⟩
 ·rw[rQ Y];exact I _ _ S
 ·rw[rQ n2];exact I _ _ U
 ·rw[rQ n4,rE]
theorem FT:Fi ["self","person"] ["self","person"] (Ff (IW 52 1)):=⟨rfl,rfl,rfl,by decide +kernel,rfl,by decide +kernel,by decide +kernel⟩
theorem GL(M:Md K mg x cB):Mn P w K mg base (GM P w) 1 cB "check_person" ["self","person"] (Jp cB x):=by
 have t:=(FT).nd;refine M.m_check_person.okE FT (λvs H Q E h=>?_) (λ_ _ _ _ _ _ n j=>HX (λ_ _=>rfl) n j) (λf o A g s H vs Q E v h=>?_)
 ·obtain⟨s0,d,a,l,R,p,rfl,e,b,q⟩:=h;rfl
 obtain⟨s0,d,a,l,R,p,rfl,e,b,q⟩:=h;refine⟨_,(rJ (si (rM tI (pv 1) (uT (pv 0) rfl) (by with_unfolding_all rfl)) (rJ (uc M.x_NoPerson rfl (lh rX rG))) rN)),?_⟩;obtain⟨k,m,u,r,y,h1,h2,h3,h4,h5,h6⟩:=e.ex;refine⟨_,rfl,_,rfl,s0,cB,k,_,_,rfl,h1,M.cl,M.na_people,rfl,m,_,rfl,.inr (SqT.frz h2),rfl,ul _,_,rfl,?_⟩;show if(!Jw (.str p) (a.map V.str))=true then _ else _
 rw[ui];by_cases c:p∈a
 ·rw[decide_eq_true c];exact Fu (q c)
 ·rw[decide_eq_false c];exact FG ⟨by show 1<=sizeLine;decide,b c⟩
theorem Hi:Fi ["self","person","text","words"] ["self","person","text"] (Ff (IW 52 2)):=⟨rfl,rfl,rfl,by decide +kernel,rfl,by decide +kernel,by decide +kernel⟩
theorem JS(M:Md K mg x cB)
  (GBook_check_person:Mn P w K mg base (GM P w) 1 cB "check_person" ["self","person"] (Jp cB x)):Mn P w K mg base (GM P w) 2 cB "wish" ["self","person","text"] (Lg K cB x):=by
 have nd:=(Hi).nd
 refine M.m_wish.okE Hi (λvs H Q E h=>?_) (λ_ _ _ _ _ _ j hl=>K7 (λ_ _ _=>rfl) j hl) (λf ar A aq s H vs Q E m h=>?_)
 ·obtain⟨s0,d,ps,e,R,p,t,rfl,hb,ak,ab,al,I,L,hR,qP,qW,q⟩:=h
  rfl
 obtain⟨s0,d,ps,e,R,p,t,rfl,hb,ak,ab,al,I,L,hR,qP,qW,q⟩:=h
 refine⟨_,(rF (su (zB (pl:=_) (pv 0) M.cl GBook_check_person m (by decide) (Kf (λ_ _ _ z=>z)) (lh (pv 1) rG)))
   (rF (rL (i:=3) nd rfl (Or.inl rfl) (tL gW kQ lj zz (pv 2) (lh rX rG)))
   (rF (si (rM (vW m) (rK (tW) rfl M.b_sorted Boot.«sorted» (lh (pv 3) rG)) (rK (tW) rfl M.b_sorted Boot.«sorted» (lh (uT (pv 0) rfl) rG)) (Fj _)) (rJ (uc M.x_NoWishes rfl (lh rX rG))) rN)
   (rJ (vp (sv tD rfl M.b_tuple Boot.«tuple» (lh (sS rfl (N:=["word","self"]) (caps:=[none,some 0]) (CompOk.of (by kernel_rfl)) (sj rfl) (tE (pv 3)) (λ_ _ _ _=>(rS (i:=0) (show(["word","self"]:List Str).Nodup by decide +kernel) rfl (Or.inl rfl) (Or.inr rfl))) (λ_ _ _ _=>sQ) (λ_ _ _ _=>(Az (K:=K) rfl (wt (K:=K) rfl (pv 1) rfl) (pv 0)))) rG)) (we (uT (pv 0) rfl) (pv 1) Fc)))))),?_⟩
 obtain⟨B,pp,pt,op,ot,h1,h2,h3,h4,h5,h6⟩:=hb.ex
 have ao:∀w∈L2.wordsOf t,FL w:=yf I
 refine⟨_,rfl,s0,B,_,rfl,h1,rfl,_,rfl,s0,d,ps,e,R,p,rfl,hb,(λc=>qP c H (Same.refl _)),λhp=>?_⟩
 refine⟨_,rfl,rfl,t," ",rfl,rfl,by decide,cx (Fg (by omega)),λo ac=>?_⟩
 have S1:Same H (upd H o (.lst ((L2.wordsOf t).map V.str))):=mJ ac _
 have l:upd H o (.lst ((L2.wordsOf t).map V.str)) o=some (.lst ((L2.wordsOf t).map V.str)):=rE
 change LY _ _ _ _ (upd H o (.lst ((L2.wordsOf t).map V.str)))
 generalize upd H o (.lst ((L2.wordsOf t).map V.str))=Y at S1 l ⊢
 refine⟨_,rfl,o,L2.wordsOf t,rfl,.inl (SqL.of l),L,λZ n ah y af=>?_⟩
 have S2:Same Y (upd Y Z (.lst (n.map V.str))):=mJ ah _
 have T:upd Y Z (.lst (n.map V.str)) Z=some (.lst (n.map V.str)):=rE
 generalize upd Y Z (.lst (n.map V.str))=U at S2 T ⊢
 have C:=S1.trans S2
 refine⟨_,rfl,s0,cB,B,_,_,rfl,C _ _ h1,M.cl,M.na_things,rfl,pt,e,rfl,.inr (SqT.frz (C _ _ h4)),by omega,λW j ai u ae=>?_⟩
 have S3:Same U (upd U W (.lst (j.map V.str))):=mJ ai _
 have S:upd U W (.lst (j.map V.str)) W=some (.lst (j.map V.str)):=rE
 generalize upd U W (.lst (j.map V.str))=H3 at S3 S ⊢
 have a:=C.trans S3
 refine⟨.list (n.map d4),.list (j.map d4),.lst (SqL.of (S3 _ _ T)) (Reps.strs n) (by rw[bP,y.length_eq];omega),.lst (SqL.of S) (Reps.strs j) (by rw[bP,u.length_eq];omega),sx (tG λw g=>ao w (y.mem_iff.mp g)) (by decide),sx (tG λw g=>ab w (u.mem_iff.mp g)) (by decide),_,rfl,?_⟩
 rw[sE]
 by_cases k:(L2.wordsOf t).Perm e
 rotate_left
 ·rw[decide_eq_false (λ(z:n=j)=>k (y.symm.trans (by rw[z];exact u)))]
  exact FG ⟨by show 1<=sizeLine;decide,qW hp k H3 a⟩
 rw[decide_eq_true (vv af ae (y.trans (k.trans u.symm)))]
 refine Fu ?_
 have O:=(S2.trans S3) _ _ l
 have aj:=a _ _ h1
 have aa:=a _ _ h4
 refine⟨_,rfl,o,rfl,⟨_,SqL.of O⟩,?_⟩
 refine tm (xs:=(L2.wordsOf t).map V.str) (λi ys X=>X=H3/\ys=(Hd e ((L2.wordsOf t).take i)).map V.int) ⟨rfl,rfl⟩ (λi ys X _ J=>by rw[J.1];exact SqL.of O) (λi v ys X G J=>?_) (λys X J D hD=>?_)
 ·obtain⟨rfl,rfl⟩:=J
  rw[bZ]at G
  cases g:(L2.wordsOf t)[i]? with
  | none=>rw[g]at G;cases G
  | some w=>
   rw[g]at G
   have ap:V.str w=v:=Option.some.inj G
   subst ap
   have hi:i<(L2.wordsOf t).length:=(b8.mp g).1
   have hm:w∈e:=k.mem_iff.mp (cz g)
   refine⟨_,rfl,s0,cB,B,_,_,rfl,aj,M.cl,M.na_things,rfl,pt,ot,_,rfl,aa,h5,_,rfl,e,w,rfl,SqT.frz aa,hm,Fg (by unfold Hd;rw[bP,bP,cf];omega),rfl,?_⟩
   unfold Hd
   rw[cv,g,cb,cb]
   rfl
 obtain⟨rfl,rfl⟩:=J
 rw[bP,cI]
 have S4:=mJ hD (.lst ((Hd e (L2.wordsOf t)).map V.int))
 refine⟨D,_,rfl,.inl ⟨SqL.of rE,λr m=>?_⟩⟩
 have S5:=mJ m (.tup ((Hd e (L2.wordsOf t)).map V.int))
 have b:=a.trans (S4.trans S5)
 have ag:=b _ _ h6
 have an:r≠d:=λz=>by rw[z,(a.trans S4) _ _ h6]at m;cases m
 have am:H r=none:=(a.trans S4).free m
 refine⟨_,rfl,s0,cB,B,_,_,rfl,b _ _ h1,M.cl,M.na_wishes_told,rfl,_,rfl,d,R,p,rfl,rfl,ag,hR,?_⟩
 refine q hp k r _ ((SameBut1.of b).trans SameBut1.upd) am (by rw[rQ an,rE]) ⟨B,pp,pt,op,ot,?_,?_,h3,?_,h5,rE⟩
 ·rw[rQ (uk h1 h6 (λz=>nomatch z))];exact b _ _ h1
 ·rw[rQ (uk h2 h6 (λz=>nomatch z))];exact b _ _ h2
 ·rw[rQ (uk h4 h6 (λz=>nomatch z))];exact b _ _ h4
theorem Gq:Fi ["self"] ["self"] (Ff (IW 52 3)):=⟨rfl,rfl,rfl,by decide +kernel,rfl,by decide +kernel,by decide +kernel⟩
theorem Ix(M:Md K mg x cB):Mn P w K mg base Fs 1 cB "lacking" ["self"] (HH cB):=by
 have I:=(Gq).nd;refine M.m_lacking.ok Gq (λvs H Q E h=>?_) (λ_ _ _ _ _ _ D g=>Ko (λ_=>rfl) D g) (λf F A z s H vs Q E L h=>?_)
 ·obtain⟨s0,d,b,B,R,rfl,t,r,q⟩:=h;rfl
 obtain⟨s0,d,b,B,R,rfl,t,r,q⟩:=h;refine⟨_,(rJ (rP (sS rfl (N:=["person","self"]) (caps:=[none,some 0]) (CompOk.of (by kernel_rfl)) (sj rfl) (vP (uT (pv 0) rfl)) (λ_ _ _ _=>(rS (i:=0) (show(["person","self"]:List Str).Nodup by decide +kernel) rfl (Or.inl rfl) (Or.inr rfl))) (λ_ _ _ _=>(uH (rM Bt (pv 0) (wt (K:=K) rfl (pv 1) rfl) (by with_unfolding_all rfl)))) (λ_ _ _ _=>(pv 0))))),?_⟩;obtain⟨o,C,J,G,O,h1,h2,h3,h4,h5,h6⟩:=t.ex;have y:=SqT.frz (K:=K) h2;refine⟨_,rfl,s0,cB,o,_,_,rfl,h1,M.cl,M.na_people,rfl,C,rfl,⟨_,y⟩,?_⟩;refine uX (xs:=b.map V.str) (λi j k=>k=H/\j=((b.take i).filter λp=>!(Ft R p).isSome).map V.str) ⟨rfl,rfl⟩ (λi j k _ a=>by rw[a.1];exact y) (λi v j k e a=>?_) (λj k a l g=>?_)
 ·obtain⟨rfl,rfl⟩:=a;rw[bZ]at e
  cases m:b[i]? with
  | none=>rw[m]at e;cases e
  | some w=>
   rw[m]at e;have u:V.str w=v:=Option.some.inj e;subst u;have S:i<b.length:=(b8.mp m).1;have n:(((b.take i).filter λp=>!(Ft R p).isSome).map V.str).length<sizeLine:=by
    rw[bP];have h1:=dC (λp=>!(Ft R p).isSome) (b.take i);rw[cf]at h1;exact Fg (by omega)
   refine⟨_,rfl,_,rfl,s0,cB,o,_,_,rfl,h1,M.cl,M.na_wishes_told,rfl,d,R,w,rfl,rfl,h6,_,rfl,?_⟩;rw[cv,m,gp,cb]
   cases c:(!(Ft R w).isSome)with
   | true=>
    refine FG ⟨_,rfl,n,rfl,?_⟩;show _=_++List.map V.str ([w].filter _);rw[List.filter_cons_of_pos (p:=λp=>!(Ft R p).isSome) c];rfl
   | false=>
    refine Fu ⟨rfl,?_⟩;show _=_++List.map V.str ([w].filter _);rw[List.filter_cons_of_neg (p:=λp=>!(Ft R p).isSome) (by rw[c];exact cA)];exact(eo _).symm
 ·obtain⟨rfl,rfl⟩:=a;rw[bP,cI];exact q l _ (mJ g _) g rE
theorem Gh:Fi ["self","way","wishes"] ["self","way"] (Ff (IW 52 4)):=⟨rfl,rfl,rfl,by decide +kernel,rfl,by decide +kernel,by decide +kernel⟩
theorem Ij(M:Md K mg x cB)
  (GBook_lacking:Mn P w K mg base Fs 1 cB "lacking" ["self"] (HH cB))
  (Geaten:Dn P w K mg base Fs 7 "eaten" ["wishes"] (KQ K))
  (Gby_turns:Dn P w K mg base Fs 4 "by_turns" ["wishes"] (Ja K)):Mn P w K mg base (GM P w) 8 cB "table_by" ["self","way"] (HN K cB x):=by
 have nd:=(Gh).nd
 refine M.m_table_by.okE Gh (λvs H Q E h=>?_) (λ_ _ _ _ _ _ G O=>HX (λ_ _=>rfl) G O) (λf am A al s H vs Q E T h=>?_)
 ·obtain⟨s0,d,a,ts,R,t,rfl,hb,J,qU,q⟩:=h
  rfl
 obtain⟨s0,d,a,ts,R,t,rfl,hb,J,qU,q⟩:=h
 refine⟨_,(rF (si (Ci (Bh (pl:=_) (pv 0) M.cl GBook_lacking T (by decide) Fm) (λ_=>rfl)) (rJ (uc M.x_Unready rfl (lh rX rG))) rN)
   (rF (tq (i:=2) nd rfl rfl rfl rfl (N:=["person","self"]) (caps:=[none,some 0]) (CompOk.of (by kernel_rfl)) (sj rfl) (vP (uT (pv 0) rfl)) (λ_ _ _ _=>(rS (i:=0) (show(["person","self"]:List Str).Nodup by decide +kernel) rfl (Or.inl rfl) (Or.inr rfl))) (λ_ _ _ _=>sQ) (λ_ _ _ _=>(rR Fe (wt (K:=K) rfl (pv 1) rfl) (pv 0) (λ_ _=>rfl))))
   (rF (si (rM sY (pv 1) rX (Fj _)) (rJ (rP (sf Geaten T (by decide) rfl Fm (lh (pv 2) rG)))) rN)
   (rF (si (rM sY (pv 1) rX (Fj _)) (rJ (rP (sf Gby_turns T (by decide) rfl Fm (lh (pv 2) rG)))) rN)
   (rJ (uc M.x_NoWay rfl (lh rX rG))))))),?_⟩
 obtain⟨S,pp,pt,op,ot,h1,h2,h3,h4,h5,h6⟩:=hb.ex
 refine⟨_,rfl,s0,S,_,rfl,h1,rfl,s0,d,a,ts,R,rfl,hb,J,λl Y n ao O=>?_⟩
 refine⟨_,.inl ⟨_,SqL.of O,rfl⟩,?_⟩
 by_cases hall:∀p∈a,Ft R p≠none
 rotate_left
 ·have af:∃p∈a,Ft R p=none:=da λz=>hall λp hp e=>z ⟨p,hp,e⟩
  have ab:¬(a.filter λp=>!(Ft R p).isSome)=[]:=λz=>hall (xz.mp z)
  have e:(!(((a.filter λp=>!(Ft R p).isSome).map V.str).isEmpty))=true:=by simpa using ab
  rw[e]
  exact FG ⟨by show 1<=sizeLine;decide,qU af Y n⟩
 have e:(!(((a.filter λp=>!(Ft R p).isSome).map V.str).isEmpty))=false:=by rw[xz.mpr hall];rfl
 rw[e]
 refine Fu ?_
 obtain⟨W,hT,r,qN,q⟩:=q hall
 have aj:=Paired.len hT
 have L:=n _ _ h1
 have hP:=SqT.frz (K:=K) (n _ _ h2)
 have ah:=n _ _ h6
 refine⟨_,rfl,s0,cB,S,_,_,rfl,L,M.cl,M.na_people,rfl,pp,rfl,⟨_,hP⟩,?_⟩
 refine yb (xs:=a.map V.str) (λi b g=>g=Y/\cT (IsR K Y) b (W.take i)) ⟨rfl,by rw[dX];exact .nil⟩ (λi b g _ k=>by rw[k.1];exact hP) (λi v b g B k=>?_) (λb g k o ae=>?_)
 ·obtain⟨rfl,j⟩:=k
  rw[bZ]at B
  cases hw:a[i]? with
  | none=>rw[hw]at B;cases B
  | some w=>
   rw[hw]at B
   have ak:V.str w=v:=Option.some.inj B
   subst ak
   obtain⟨an,aa,u,ai,ac⟩:=Paired.get' hT hw
   have ag:=Paired.len j
   rw[cf]at ag
   refine⟨_,rfl,s0,cB,S,_,_,rfl,L,M.cl,M.na_wishes_told,rfl,_,rfl,d,R,w,u,rfl,rfl,ah,ai,Fg (by omega),rfl,?_⟩
   rw[cv,aa]
   exact Paired.app j (.cons (ac.mono n) .nil)
 obtain⟨rfl,j⟩:=k
 rw[bP,aj,cI]at j
 have S3:Same g (upd g o (.lst b)):=mJ ae _
 have C:upd g o (.lst b) o=some (.lst b):=rE
 generalize upd g o (.lst b)=H3 at S3 C ⊢
 have F:=Paired.mapP j λ_ _ (h:IsR K g _ _)=>h.mono S3
 have m:=n.trans S3
 refine⟨_,rfl,rfl,_,rfl,?_⟩
 refine FD (λc=>?_) (λc=>?_)
 ·have ew:t="eaten":=by injection c
  refine⟨_,rfl,o,b,W,a.length,rfl,SqL.of C,F,⟨r.lo,r.hi,r.len,r.pm⟩,λU G N X Z y D hN I=>?_⟩
  exact q _ _ U G X (.inl ⟨ew,N,hN,rfl,rfl⟩) (m.trans Z) (m.free y) D I
 refine⟨_,rfl,rfl,_,rfl,?_⟩
 refine FD (λc2=>?_) (λc2=>?_)
 ·have ew:t="turns":=by injection c2
  refine⟨_,rfl,o,b,W,a.length,rfl,SqL.of C,F,r,λU G X Z y D I=>?_⟩
  rw[Ea]at I
  exact q _ _ U G X (.inr ⟨ew,rfl,rfl⟩) (m.trans Z) (m.free y) D (uW I)
 ·exact⟨by show 1<=sizeLine;decide,qN (λz=>c (by rw[z])) (λz=>c2 (by rw[z])) H3 m⟩
theorem Gz:Fi ["self","person","way","table","row"] ["self","person","way"] (Ff (IW 52 5)):=⟨rfl,rfl,rfl,by decide +kernel,rfl,by decide +kernel,by decide +kernel⟩
theorem IP(M:Md K mg x cB)
  (GBook_check_person:Mn P w K mg base (GM P w) 1 cB "check_person" ["self","person"] (Jp cB x))
  (GBook_table_by:Mn P w K mg base (GM P w) 8 cB "table_by" ["self","way"] (HN K cB x)):Mn P w K mg base (GM P w) 9 cB "shares" ["self","person","way"] (Iu K cB x):=by
 have nd:=(Gz).nd
 refine M.m_shares.okE Gz (λvs H Q E h=>?_) (λ_ _ _ _ _ _ us Y=>K7 (λ_ _ _=>rfl) us Y) (λf aF A aA s H vs Q E hr h=>?_)
 ·obtain⟨s0,d,a,e,R,p,aa,rfl,hb,ab,ai,qP,qU,q⟩:=h
  rfl
 obtain⟨s0,d,a,e,R,p,aa,rfl,hb,ab,ai,qP,qU,q⟩:=h
 refine⟨_,(rF (su (zB (pl:=_) (pv 0) M.cl GBook_check_person hr (by decide) (Kf (λ_ _ _ z=>z)) (lh (pv 1) rG)))
   (rF (rL (i:=3) nd rfl (Or.inl rfl) (zB (pl:=_) (pv 0) M.cl GBook_table_by hr (by decide) (Kf (λ_ _ _ z=>z)) (lh (pv 2) rG)))
   (rF (rL (i:=4) nd rfl (Or.inr rfl) (rR rY (pv 3) (Az (K:=K) rfl (uT (pv 0) rfl) (pv 1)) (λ_ _=>rfl)))
   (rJ (rP (sS rfl (N:=["thing","self","row"]) (caps:=[none,some 0,some 4]) (CompOk.of (by kernel_rfl)) (sj rfl) (vP (rR Fe (uT (pv 0) rfl) (pv 1) (λ_ _=>rfl))) (λ_ _ _ _=>(rS (i:=0) (show(["thing","self","row"]:List Str).Nodup by decide +kernel) rfl (Or.inl rfl) (Or.inr rfl))) (λ_ _ _ _=>(uH (rM (Bd (K:=K) rfl hr) (rR (xi (K:=K) rfl) (pv 2) (pv 0) (λ_ _=>rfl)) (vD (K:=K) rfl M.c_NOTHING) (Fj _)))) (λ_ _ _ _=>(sw (lh (rR (xi (K:=K) rfl) (wt (K:=K) rfl (pv 1) rfl) (pv 0) (λ_ _=>rfl)) (lh (rR (xi (K:=K) rfl) (pv 2) (pv 0) (λ_ _=>rfl)) rG)))))))))),?_⟩
 obtain⟨F,pp,pt,op,ot,h1,h2,h3,h4,h5,h6⟩:=hb.ex
 have G:(2:Nat)<=sizeLine:=by decide
 refine⟨_,rfl,s0,F,_,rfl,h1,rfl,_,rfl,s0,d,a,e,R,p,rfl,hb,(λc=>qP c H (Same.refl _)),λhp=>?_⟩
 refine⟨_,rfl,s0,F,_,rfl,h1,rfl,_,rfl,s0,d,a,e,R,aa,rfl,hb,ab,qU hp,λhall=>?_⟩
 obtain⟨W,hT,hW,qN,q⟩:=q hp hall
 refine⟨W,hT,hW,qN,λZ T tb us H1 ac n aB r hZ=>?_⟩
 have I:=ac.tb hW
 have hi:a.idxOf p<a.length:=fK.mpr hp
 have aE:=I.reg.len
 have aH:=hW.len
 have aG:=I.t0
 obtain⟨uv,az,ra,gs,rfl,ak,U⟩:=Paired.get hZ (bT (show a.idxOf p<Z.length by omega))
 obtain⟨b,ae,v,ar,L⟩:=Paired.get hT (bT (show a.idxOf p<W.length by omega))
 have ep:b=p:=by
  have:=gV hi
  rw[bT hi]at ae
  rw[<-Option.some.inj ae]
  exact this
 subst ep
 have m:=hW.pm _ (cm (show a.idxOf b<W.length by omega))
 have ag:=I.reg.cols _ (cm (show a.idxOf b<Z.length by omega))
 have q2:=λl xs H'=>q Z T l xs H' ac
 rw[show W[a.idxOf b]=W.getD (a.idxOf b) []from(HM.getD_lt (show a.idxOf b<W.length by omega)).symm]at L m
 rw[show Z[a.idxOf b]=Z.getD (a.idxOf b) []from(HM.getD_lt (show a.idxOf b<Z.length by omega)).symm]at U ag
 generalize W.getD (a.idxOf b) []=k at L m q2
 generalize Z.getD (a.idxOf b) []=z at U ag q2
 have O:=n _ _ h1
 refine⟨_,rfl,_,rfl,s0,cB,F,_,_,rfl,O,M.cl,M.na_people,rfl,pp,op,_,rfl,n _ _ h2,h3,_,rfl,a,b,rfl,SqT.frz (n _ _ h2),hp,tb,_,_,_,rfl,rfl,SqL.of r,sM az,?_⟩
 obtain⟨wa,rfl,av⟩:=L
 have J:=n.tup av
 have an:=n _ _ h6
 have ay:=n _ _ h4
 have aD:=m.len
 refine⟨_,rfl,s0,cB,F,_,_,rfl,O,M.cl,M.na_wishes_told,rfl,_,rfl,d,R,b,_,rfl,rfl,an,ar,wa,rfl,⟨_,J⟩,?_⟩
 refine uX (xs:=k.map V.int) (λi u D=>Same H1 D/\cT (IsShr K D T) u (HK e (k.take i) z)) ⟨Same.refl _,.nil⟩ (λi u D _ o=>o.1.tup J) (λi y u D X o=>?_) (λu D o l Y=>?_)
 ·obtain⟨g,j⟩:=o
  rw[bZ]at X
  cases B:k[i]? with
  | none=>rw[B]at X;cases X
  | some t=>
   rw[B]at X
   have ax:V.int t=y:=Option.some.inj X
   subst ax
   have r:=m.mem.mp (cz B)
   have aq:t.toNat<z.length:=by omega
   have au:(fr T z)[t.toNat]?=some (FQ.red (EM.at0 z t) T):=by
    unfold fr EM.at0
    rw[bZ,bR,bT aq]
    rfl
   obtain⟨fv,af,hF⟩:=Paired.get U au
   have ap:=Paired.len j
   have ah:u.length<sizeLine:=by
    rw[ap]
    unfold HK
    rw[bP]
    have h1:=dC (λt=>decide (EM.at0 z t≠0)) (k.take i)
    rw[cf]at h1
    exact Fg (by omega)
   have al:HK e (k.take (i+1)) z=HK e (k.take i) z++if EM.at0 z t≠0 then[(e.getD t.toNat fu,EM.at0 z t)]else[]:=by
    unfold HK
    rw[cv,B,gp,cb]
    by_cases c:EM.at0 z t=0
    ·simp[c]
    ·simp[c]
   have S:=g.tup ak
   refine⟨_,rfl,_,rfl,ra,gs,t,fv,rfl,rfl,S,tJ r.1 af,λc0 ao=>?_⟩
   refine⟨dF (FQ.red (EM.at0 z t) T),dF (0,1),(hF.mono g).rep,IsF.rep ⟨c0,rfl,ao _⟩,sO _,sO _,_,rfl,?_⟩
   rw[vk,al]
   refine ID (λc=>?_) (λc=>?_)
   ·have hn:EM.at0 z t≠0:=λe0=>c ((sI (by omega)).mpr e0)
    have am:t.toNat<e.length:=by omega
    have aw:(e.map V.str)[t.toNat]?=some (.str (e.getD t.toNat fu)):=by rw[bZ,bR,bT am];rfl
    obtain⟨fg,rfl,aC⟩:=id hF
    refine⟨_,rfl,s0,cB,F,_,_,rfl,g _ _ O,M.cl,M.na_things,rfl,_,rfl,pt,_,t,_,rfl,rfl,SqT.frz (g _ _ ay),tJ r.1 aw,_,rfl,_,rfl,ra,gs,t,_,rfl,rfl,S,tJ r.1 af,G,λtp aj=>?_⟩
    have C:=mJ aj (.tup [.str (e.getD t.toNat fu),.ref fg])
    refine⟨ah,g.trans C,?_⟩
    rw[if_pos hn]
    exact Paired.app (Paired.mapP j λ_ _ h=>h.mono C) (.cons ⟨tp,fg,rfl,SqT.of rE,hF.mono (g.trans C)⟩ .nil)
   ·have hn:EM.at0 z t=0:=(sI (by omega)).mp c
    refine⟨g,?_⟩
    rw[if_neg (λe0=>e0 hn),eo]
    exact j
 ·obtain⟨g,j⟩:=o
  rw[bP,cI]at j
  have C:=mJ Y (.lst u)
  exact q2 l u _ (n.trans (g.trans C)) ((n.trans g).free Y) rE (Paired.mapP j λ_ _ h=>h.mono C)
theorem Hr:Fi ["self","way","number","lots","words"] ["self","way","number"] (Ff (IW 52 6)):=⟨rfl,rfl,rfl,by decide +kernel,rfl,by decide +kernel,by decide +kernel⟩
theorem JF(M:Md K mg x cB)
  (Glots_of:Dn P w K mg base Fs 8 "lots_of" ["table"] (Jx K))
  (GBook_table_by:Mn P w K mg base (GM P w) 8 cB "table_by" ["self","way"] (HN K cB x))
  (Gpicked:Dn P w K mg base (GM P w) 4 "picked" ["lots","number"] (Kd K x)):Mn P w K mg base (GM P w) 9 cB "deal" ["self","way","number"] (J8 K cB x):=by
 have nd:=(Hr).nd
 refine M.m_deal.okE Hr (λvs H Q E h=>?_) (λ_ _ _ _ _ _ us hl=>K7 (λ_ _ _=>rfl) us hl) (λf ax A av s H vs Q E r h=>?_)
 ·obtain⟨s0,d,m,p,a,R,S,X,rfl,hb,aa,af,hm,Y,ab,qU,q⟩:=h
  rfl
 obtain⟨s0,d,m,p,a,R,S,X,rfl,hb,aa,af,hm,Y,ab,qU,q⟩:=h
 refine⟨_,(rF (rL (i:=3) nd rfl (Or.inl rfl) (sf Glots_of r (by decide) rfl Fm (lh (zB (pl:=_) (pv 0) M.cl GBook_table_by r (by decide) (Kf (λ_ _ _ z=>z)) (lh (pv 1) rG)) rG)))
   (rF (tq (i:=4) nd rfl rfl rfl rfl (N:=["thing","self"]) (caps:=[none,some 0]) (CompOk.of (by kernel_rfl)) (sj rfl) (vP (sf Gpicked r (by decide) rfl (Kf (λ_ _ _ z=>z)) (lh (pv 3) (lh (pv 2) rG)))) (λ_ _ _ _=>(rS (i:=0) (show(["thing","self"]:List Str).Nodup by decide +kernel) rfl (Or.inl rfl) (Or.inr rfl))) (λ_ _ _ _=>sQ) (λ_ _ _ _=>(rR (xi (K:=K) rfl) (wt (K:=K) rfl (pv 1) rfl) (pv 0) (λ_ _=>rfl))))
   (rJ (rP (Al rfl rfl M.b_list rfl M.b_zip (lh (uT (pv 0) rfl) (lh (pv 4) rG))))))),?_⟩
 obtain⟨dx,pp,pt,op,ot,h1,h2,h3,h4,h5,h6⟩:=hb.ex
 refine⟨_,rfl,s0,dx,_,rfl,h1,rfl,_,rfl,s0,d,p,a,R,S,rfl,hb,aa,qU,λhall=>?_⟩
 obtain⟨W,hT,hW,qN,qR,q⟩:=q hall
 refine⟨W,hT,hW,qN,λZ T tb us H1 g S1 aw J hZ=>?_⟩
 have u:=g.tb hW
 refine⟨tb,us,Z,T,p.length,rfl,SqL.of J,hZ,u,λk pL ls H2 c S2 ay hL al=>?_⟩
 have B:=S1.trans S2
 have ak:=DR u (g.le hW) c
 refine⟨_,rfl,_,rfl,pL,m,ls,_,T,p.length,X,rfl,SqL.of hL,al,ak,hm.mono B,Y,ab,(λr=>qR g.way r H2 B),λaj i v H3 b S3 an=>?_⟩
 obtain⟨va,rfl,o⟩:=an
 have q2:=λl xs H'=>q aj Z T k i l xs H' g c b
 have U:i<k:=by
  have:=b.lt
  unfold HM.lotsL at this
  rwa[bP,eJ]at this
 have ed:(HM.lotsL Z T k).getD i (0,[])=HM.lotAt Z T i:=by
  unfold HM.lotsL
  rw[bR,bZ,dy U]
  rfl
 have I:=(Eb u c U).1
 rw[ed]at q2 o
 generalize(HM.lotAt Z T i).2=dl at o I q2
 have am:=I.len
 have D:=B.trans S3
 refine⟨va,rfl,⟨_,o⟩,?_⟩
 refine yb (xs:=dl.map V.int) (λj O L=>L=H3/\O=(Fz a (dl.take j)).map V.str) ⟨rfl,rfl⟩ (λj O L _ F=>by rw[F.1];exact o) (λj y O L G F=>?_) (λO L F pw ah=>?_)
 ·obtain⟨rfl,rfl⟩:=F
  rw[bZ]at G
  cases e:dl[j]? with
  | none=>rw[e]at G;cases G
  | some t=>
   rw[e]at G
   have ar:V.int t=y:=Option.some.inj G
   subst ar
   have J:=I.mem.mp (cz e)
   have ai:t.toNat<a.length:=by omega
   have ap:(a.map V.str)[t.toNat]?=some (.str (a.getD t.toNat fu)):=by rw[bZ,bR,bT ai];rfl
   refine⟨_,rfl,s0,cB,dx,_,_,rfl,D _ _ h1,M.cl,M.na_things,rfl,_,rfl,pt,_,t,_,rfl,rfl,SqT.frz (D _ _ h4),tJ J.1 ap,Fg (by unfold Fz;rw[bP,bP,cf];omega),rfl,?_⟩
   unfold Fz
   rw[cv,e,cb,cb]
   rfl
 obtain⟨rfl,rfl⟩:=F
 rw[bP,cI]
 have ae:(Fz a dl).length=p.length:=by unfold Fz;rw[bP,am]
 have S4:=mJ ah (.lst ((Fz a dl).map V.str))
 have n:=D.trans S4
 refine⟨_,rfl,s0,cB,dx,_,_,rfl,n _ _ h1,M.cl,M.na_people,rfl,_,rfl,true,false,pp,pw,p.map V.str,(Fz a dl).map V.str,rfl,SqT.frz (n _ _ h2),SqL.of rE,by rw[bP,bP,ae],by rw[bP];omega,λl aq H5 S5 ao hl ac ag=>?_⟩
 refine q2 l _ H5 (n.trans S5) (n.free ao) hl ?_
 rw[bP]at ac
 refine u4 (by rw[bP,List.length_zip,ae,ac];simp) λj v x C hx=>?_
 rw[bZ]at C
 cases ht:aq[j]? with
 | none=>rw[ht]at C;cases C
 | some t=>
  rw[ht]at C
  have au:V.ref t=v:=Option.some.inj C
  subst au
  obtain⟨x1,x2⟩:=x
  obtain⟨e1,e2⟩:=jS.mp hx
  exact⟨t,rfl,SqT.of (ag j t (.str x1) (.str x2) ht (by rw[bZ,e1];rfl) (by rw[bZ,e2];rfl))⟩
theorem Go:Fi ["_law_script","_law_k"] ["_law_script","_law_k"] (Ff (Fk 54)):=⟨rfl,rfl,rfl,by decide +kernel,rfl,by decide +kernel,by decide +kernel⟩
theorem IE(M:Md K mg x cB):Dn P w K mg base Fs 1 "_law_cell_at" ["_law_script","_law_k"] (Km K):=by
 have n:=(Go).nd;refine M.f__law_cell_at.ok Go (λvs H Q E h=>?_) (λ_ _ _ _ _ _ l d=>HX (λ_ _=>rfl) l d) (λf m A j s H vs Q E o h=>?_)
 ·obtain⟨a,b,k,rfl,g,h0,q⟩:=h;rfl
 obtain⟨a,b,k,rfl,g,h0,q⟩:=h;refine⟨_,(rF (si (rM z6 (pv 1) (rK rV rfl M.b_len cU (lh (pv 0) rG)) (Fj _)) (rJ (rP (rR rY (pv 0) (pv 1) (λ_ _=>rfl)))) rN)
   (rJ (rP rH))),?_⟩
 have d:(b.map V.int).length=b.length:=bP _;refine⟨_,rfl,_,rfl,a,_,rfl,.inl g,_,_,rfl,rfl,_,rfl,?_⟩;refine FD (λc=>?_) (λc=>?_)
 ·rw[d]at c;refine⟨_,rfl,_,rfl,a,_,k,_,rfl,rfl,g,tJ h0 (tV (by omega)),?_⟩;have e:LM.cellAt b k=b.getD k.toNat 0:=by unfold LM.cellAt;rw[if_pos c]
  rw[<-e];exact q
 ·rw[d]at c;have e:LM.cellAt b k=0:=by unfold LM.cellAt;rw[if_neg c]
  rw[e]at q;exact q
theorem GW:Fi ["_law_cell","_law_many","_law_found","_law_number","_law_k"] ["_law_cell","_law_many"] (Ff (Fk 55)):=⟨rfl,rfl,rfl,by decide +kernel,rfl,by decide +kernel,by decide +kernel⟩
theorem Jr(M:Md K mg x cB):Dn P w K mg base Fs 1 "_law_mixed" ["_law_cell","_law_many"] (KJ):=by
 have d:=(GW).nd;refine M.f__law_mixed.ok GW (λvs H Q E h=>?_) (λ_ _ _ _ _ _ D a=>HX (λ_ _=>rfl) D a) (λf I A u s H vs Q E J h=>?_)
 ·obtain⟨c,m,rfl,y,q⟩:=h;rfl
 obtain⟨c,m,rfl,y,q⟩:=h;refine⟨_,(rF (rL (i:=2) d rfl (Or.inl rfl) (sA rG))
   (rF (rL (i:=3) d rfl (Or.inl rfl) (rO sW (pv 0) rH))
   (rF (si (rM sY (rO sh (pv 0) rH) rH (Fj _)) (rF (tN db rfl (sD rfl M.b_range (lh (pv 1) rG)) (rS (i:=4) d rfl (Or.inl rfl)) (rF (su (tL cu cK cL sq (pv 2) (lh (rO sh (pv 3) rH) rG)))
   (rJ (rL (i:=3) d rfl (Or.inl rfl) (rO sW (pv 3) rH)))))
   (rJ (rP (pv 2)))) rN)
   (rF (rL (i:=3) d rfl (Or.inl rfl) (rO sh (rO sJ (rO sK (rO sh (pv 3) rH) rH) rH) rH))
   (rF (tN db rfl (sD rfl M.b_range (lh (pv 1) rG)) (rS (i:=4) d rfl (Or.inl rfl)) (rF (rL (i:=3) d rfl (Or.inl rfl) (rO sh (rO sJ (rO sJ (rO sJ (rO sK (pv 3) (pv 3)) (rO sK rH (pv 3))) (pv 4)) rH) rH))
   (rJ (su (tL cu cK cL sq (pv 2) (lh (pv 3) rG))))))
   (rJ (rP (pv 2)))))))),?_⟩
 have l:(0:Nat)<=sizeLine:=by decide
 refine⟨l,λp hp=>?_⟩;refine⟨_,rfl,c,2,rfl,rfl,c9 (by decide) (by decide),?_⟩;refine⟨_,rfl,c,2,rfl,rfl,by show(0:Int)<2;decide,rfl,_,rfl,?_⟩;refine FD (λo=>?_) (λo=>?_)
 ·have t:c%2=1:=Kn o;refine⟨_,rfl,(m:Int),rfl,by omega,by omega,?_⟩;refine sN (n:=m) (λi g b=>Same H b/\b p=some (.lst ((LM.oddGo (c/2) i).1.map V.int))/\∃r,g=[some (.int c),some (.int m),some (.ref p),some (.int (LM.oddGo (c/2) i).2),r])
   ⟨mJ hp _,rE,_,rfl⟩ (λi g b G k=>?_) (λg b k=>?_)
  ·obtain⟨j,a,r,rfl⟩:=k;have e:=LM.oddGo_len (c/2) i;refine⟨_,rfl,.inl ⟨rfl,_,SqL.of a⟩,_,rfl,_,5040,rfl,rfl,by show(0:Int)<5040;decide,p,_,_,rfl,rfl,a,Fg (by rw[bP,e];omega),?_⟩;refine⟨_,rfl,_,5040,rfl,rfl,c9 (by decide) (by decide),?_⟩;refine⟨j.over hp _,?_,_,rfl⟩;rw[rE,LM.oddGo,cb];rfl
  ·obtain⟨j,a,r,rfl⟩:=k;refine⟨_,rfl,q p b j hp ?_⟩;rw[a,LM.mixed,if_pos t]
 ·have t:¬c%2=1:=λz=>o (by show V.int (c%2)=V.int 1;rw[z]);refine⟨_,rfl,_,_,rfl,rfl,by show(0:Int)<2147483647;decide,_,_,rfl,rfl,LK (by decide),_,_,rfl,rfl,_,_,rfl,rfl,by show(0:Int)<2147483647;decide,?_⟩;refine⟨_,rfl,(m:Int),rfl,by omega,by omega,?_⟩;have C:=cY (c/2%2147483647*16807+11) (show(2147483647:Int)≠0 by decide);have v:=cQ (c/2%2147483647*16807+11) (show(0:Int)<2147483647 by decide);refine sN (n:=m) (λi g b=>Same H b/\b p=some (.lst ((LM.evenGo ((c/2%2147483647*16807+11)%2147483647) i).1.map V.int))/\∃r,g=[some (.int c),some (.int m),some (.ref p),some (.int (LM.evenGo ((c/2%2147483647*16807+11)%2147483647) i).2),r])
   ⟨mJ hp _,rE,_,rfl⟩ (λi g b G k=>?_) (λg b k=>?_)
  ·obtain⟨j,a,r,rfl⟩:=k;have e:=LM.evenGo_len ((c/2%2147483647*16807+11)%2147483647) i;have B:=LM.evenGo_num _ C v i;refine⟨_,rfl,_,rfl,_,_,rfl,rfl,Lz (by omega),_,rfl,_,_,rfl,rfl,Lz (by decide),_,_,rfl,rfl,_,rfl,_,_,rfl,rfl,_,_,rfl,rfl,_,_,rfl,rfl,by show(0:Int)<2147483647;decide,?_⟩;refine⟨_,rfl,.inl ⟨rfl,_,SqL.of a⟩,_,rfl,p,_,_,rfl,rfl,a,Fg (by rw[bP,e];omega),?_⟩;refine⟨j.over hp _,?_,some (.int (0+(i:Int))),?_⟩
   ·rw[rE,LM.evenGo,cb,LM.evenX,d2];rfl
   ·rw[LM.evenGo,LM.evenX,d2];rfl
  ·obtain⟨j,a,r,rfl⟩:=k;refine⟨_,rfl,q p b j hp ?_⟩;rw[a,LM.mixed,if_neg t]
theorem He:Fi ["_law_number","_law_count","_law_found","_law_k"] ["_law_number","_law_count"] (Ff (Fk 56)):=⟨rfl,rfl,rfl,by decide +kernel,rfl,by decide +kernel,by decide +kernel⟩
theorem JH(M:Md K mg x cB):Dn P w K mg base Fs 1 "_law_perm" ["_law_number","_law_count"] (Lh):=by
 have g:=(He).nd;refine M.f__law_perm.ok He (λvs H Q E h=>?_) (λ_ _ _ _ _ _ u b=>HX (λ_ _=>rfl) u b) (λf v A m s H vs Q E z h=>?_)
 ·obtain⟨a,n,rfl,t,q⟩:=h;rfl
 obtain⟨a,n,rfl,t,q⟩:=h;refine⟨_,(rF (rL (i:=2) g rfl (Or.inl rfl) (sA rG))
   (rF (tN db rfl (sD rfl M.b_range (lh (pv 1) rG)) (rS (i:=3) g rfl (Or.inl rfl)) (rF (su (tL cu kt ku yi (pv 2) (lh (rO sh (pv 0) (rO sJ (pv 3) rH)) (lh (pv 3) rG))))
   (rJ (rL (i:=0) g rfl (Or.inl rfl) (rO sW (pv 0) (rO sJ (pv 3) rH))))))
   (rJ (rP (pv 2))))),?_⟩
 have e:(0:Nat)<=sizeLine:=by decide
 refine⟨e,λp hp=>?_⟩;refine⟨_,rfl,(n:Int),rfl,by omega,by omega,?_⟩;refine sN (n:=n) (λi j c=>Same H c/\c p=some (.lst ((LM.permGo a i).1.map V.int))/\∃r,j=[some (.int (LM.permGo a i).2),some (.int n),some (.ref p),r])
  ⟨mJ hp _,rE,_,rfl⟩ (λi j c B l=>?_) (λj c l=>?_)
 ·obtain⟨k,b,r,rfl⟩:=l;have d:(LM.permGo a i).1.length=i:=LM.perm_len a i;have o:=cY (LM.permGo a i).2 (show(0+(i:Int)+1)≠0 by omega);have y:=cQ (LM.permGo a i).2 (show 0<(0+(i:Int)+1)by omega);refine⟨_,rfl,.inl ⟨rfl,_,SqL.of b⟩,_,rfl,_,rfl,_,_,rfl,rfl,_,_,rfl,rfl,by show 0<(0+(i:Int)+1);omega,_,rfl,p,_,_,_,rfl,rfl,b,o,by rw[bP,d];omega,Fg (by rw[bP,d];omega),?_⟩;refine⟨_,rfl,_,rfl,_,_,rfl,rfl,_,_,rfl,rfl,c9 (by omega) (by omega),?_⟩;refine⟨k.over hp _,?_,some (.int (0+(i:Int))),?_⟩
  ·rw[rE,LM.permGo,LM.ins,d2,cb,dh,kf,kg]
  ·rw[LM.permGo,d2];rfl
 ·obtain⟨k,b,r,rfl⟩:=l;exact⟨_,rfl,q p c k hp b⟩
theorem Hm:Fi ["_law_cell","_law_size","_law_found","_law_rest","_law_k"] ["_law_cell","_law_size"] (Ff (Fk 59)):=⟨rfl,rfl,rfl,by decide +kernel,rfl,by decide +kernel,by decide +kernel⟩
theorem JE(M:Md K mg x cB):Dn P w K mg base Fs 1 "_law_base" ["_law_cell","_law_size"] (Lj):=by
 have g:=(Hm).nd;refine M.f__law_base.ok Hm (λvs H Q E h=>?_) (λ_ _ _ _ _ _ R b=>HX (λ_ _=>rfl) R b) (λf T A I s H vs Q E U h=>?_)
 ·obtain⟨c,n,rfl,N,q⟩:=h;rfl
 obtain⟨c,n,rfl,N,q⟩:=h;refine⟨_,(rF (rL (i:=2) g rfl (Or.inl rfl) rX)
   (rF (rL (i:=3) g rfl (Or.inl rfl) (rO sW (pv 0) rH))
   (rF (si (rM sY (rO sh (pv 0) rH) rH (Fj _)) (rJ (rL (i:=3) g rfl (Or.inl rfl) (rO sh (rO sJ (rO sK (rO sh (pv 3) rH) rH) rH) rH))) rN)
   (rF (tN db rfl (sD rfl M.b_range (lh (pv 1) rG)) (rS (i:=4) g rfl (Or.inl rfl)) (rF (si (rM sY (rO sh (pv 0) rH) rH (Fj _)) (rJ (rL (i:=3) g rfl (Or.inl rfl) (rO sh (rO sJ (rO sJ (rO sJ (rO sK (pv 3) (pv 3)) (rO sK rH (pv 3))) (pv 4)) rH) rH))) rN)
   (rF (rL (i:=2) g rfl (Or.inl rfl) (rO sP (pv 2) (rR xK rX (rO sh (pv 3) rH) (λ_ _=>rfl))))
   (rJ (si (rM sY (rO sh (pv 0) rH) rH (Fj _)) (rJ (rL (i:=3) g rfl (Or.inl rfl) (rO sW (pv 3) rH))) rN)))))
   (rJ (rP (pv 2))))))),?_⟩
 have O:=cY (c/2%2147483647*16807+11) (show(2147483647:Int)≠0 by decide);have J:=cQ (c/2%2147483647*16807+11) (show(0:Int)<2147483647 by decide);refine⟨_,rfl,c,2,rfl,rfl,c9 (by decide) (by decide),?_⟩;have nil:Ltr "":=λc v=>nomatch (show c∈([]:List Nat)from v);have p:Lr.length<=sizeLine:=by show 26<=sizeLine;decide
 have pick:∀r:Int,∃k:Nat,k<26/\HU Lr.cps.toList (r%26)=some (97+k):=λr=>by
  have G:=cY r (show(26:Int)≠0 by decide);have C:=cQ r (show(0:Int)<26 by decide);exact⟨(r%26).toNat,by omega,Dk G C⟩
 have a:∀k:Nat,(⟨#[97+k]⟩:Str).length=1:=λ_=>rfl;refine⟨_,rfl,c,2,rfl,rfl,by show(0:Int)<2;decide,rfl,_,rfl,?_⟩;refine FD (λt=>?_) (λt=>?_)
 ·have v:c%2=0:=Kn t;refine⟨_,rfl,_,_,rfl,rfl,by show(0:Int)<2147483647;decide,_,_,rfl,rfl,LK (by decide),_,_,rfl,rfl,_,_,rfl,rfl,by show(0:Int)<2147483647;decide,?_⟩;refine⟨_,rfl,(n:Int),rfl,by omega,by omega,?_⟩;refine sN (n:=n) (λi l j=>j=H/\∃(z:Str) (r:Int) (k:Option V),l=[some (.int c),some (.int n),some (.str z),some (.int r),k]/\z.length=i/\Ltr z/\0<=r/\r<2147483647) ⟨rfl,"",_,_,rfl,rfl,nil,O,J⟩ (λi l j S o=>?_) (λl j o=>?_)
  ·obtain⟨rfl,z,r,k,rfl,d,b,W,X⟩:=o;refine⟨_,rfl,c,2,rfl,rfl,by show(0:Int)<2;decide,rfl,_,rfl,FC t ?_⟩;refine⟨_,rfl,_,rfl,_,_,rfl,rfl,Lz (by omega),_,rfl,_,_,rfl,rfl,Lz (by decide),_,_,rfl,rfl,_,rfl,_,_,rfl,rfl,_,_,rfl,rfl,_,_,rfl,rfl,by show(0:Int)<2147483647;decide,?_⟩;dsimp -proj only;have D:=cY (r*r+48271*r+(0+(i:Int))+1) (show(2147483647:Int)≠0 by decide);have F:=cQ (r*r+48271*r+(0+(i:Int))+1) (show(0:Int)<2147483647 by decide);generalize(r*r+48271*r+(0+(i:Int))+1)%2147483647=B at D F;obtain⟨m,y,u⟩:=pick B;refine⟨_,rfl,_,rfl,B,26,rfl,rfl,by show(0:Int)<26;decide,Lr,_,_,rfl,rfl,p,u,z,_,rfl,rfl,by rw[a,d];exact cx (Fg (by omega)),?_⟩;refine⟨_,rfl,c,2,rfl,rfl,by show(0:Int)<2;decide,rfl,_,rfl,Fo (λL=>by have:=Kn L;omega) ?_⟩;exact⟨rfl,_,B,_,rfl,by rw[sH,a,d],b.app (Ltr.one y),D,F⟩
  ·obtain⟨rfl,z,r,k,rfl,d,b,_⟩:=o;exact⟨_,rfl,q z d b⟩
 ·refine⟨_,rfl,(n:Int),rfl,by omega,by omega,?_⟩;have v:c%2=1:=by
   have G:=cY c (show(2:Int)≠0 by decide);have C:=cQ c (show(0:Int)<2 by decide);have:¬c%2=0:=λe=>t (by show V.int (c%2)=V.int 0;rw[e]);omega
  refine sN (n:=n) (λi l j=>j=H/\∃(z:Str) (r:Int) (k:Option V),l=[some (.int c),some (.int n),some (.str z),some (.int r),k]/\z.length=i/\Ltr z) ⟨rfl,"",_,_,rfl,rfl,nil⟩ (λi l j S o=>?_) (λl j o=>?_)
  ·obtain⟨rfl,z,r,k,rfl,d,b⟩:=o;refine⟨_,rfl,c,2,rfl,rfl,by show(0:Int)<2;decide,rfl,_,rfl,Fo t ?_⟩;obtain⟨m,y,u⟩:=pick r;refine⟨_,rfl,_,rfl,r,26,rfl,rfl,by show(0:Int)<26;decide,Lr,_,_,rfl,rfl,p,u,z,_,rfl,rfl,by rw[a,d];exact cx (Fg (by omega)),?_⟩;refine⟨_,rfl,c,2,rfl,rfl,by show(0:Int)<2;decide,rfl,_,rfl,FC (by show V.int (c%2)=V.int 1;rw[v]) ?_⟩;refine⟨_,rfl,r,26,rfl,rfl,c9 (by decide) (by decide),?_⟩;exact⟨rfl,_,_,_,rfl,by rw[sH,a,d],b.app (Ltr.one y)⟩
  ·obtain⟨rfl,z,r,k,rfl,d,b⟩:=o;exact⟨_,rfl,q z d b⟩
theorem Hk:Fi ["_law_base_here","_law_place","_law_size","_law_k","_law_letters","_law_other"] ["_law_base_here","_law_place","_law_size","_law_k"] (Ff (Fk 60)):=⟨rfl,rfl,rfl,by decide +kernel,rfl,by decide +kernel,by decide +kernel⟩
theorem J5(M:Md K mg x cB):Dn P w K mg base Fs 1 "_law_word" ["_law_base_here","_law_place","_law_size","_law_k"] (JW):=by
 have l:=(Hk).nd;refine M.f__law_word.ok Hk (λvs H Q E h=>?_) (λ_ _ _ _ _ _ z g=>Oj (λ_ _ _ _=>rfl) z g) (λf B A t s H vs Q E G h=>?_)
 ·obtain⟨b,p,d,k,rfl,n,g,hp,y,hk,q⟩:=h;rfl
 obtain⟨b,p,d,k,rfl,n,g,hp,y,hk,q⟩:=h;refine⟨_,(rF (rL (i:=4) l rfl (Or.inl rfl) rX)
   (rF (rL (i:=5) l rfl (Or.inl rfl) (rR xK (pv 4) (rO sh (rO sJ (tL gW PySem.F.slot_str_find PySem.F.type_str_find Ej (pv 4) (lh (rR xK (pv 0) (pv 1) (λ_ _=>rfl)) rG)) (rO sK rH (pv 3))) rH) (λ_ _=>rfl)))
   (rJ (rP (rO sP (rO sP (sR vt (pv 0) tM (sV (pv 1))) (pv 5)) (sR vt (pv 0) (sV (rO sJ (pv 1) rH)) (sV (pv 2)))))))),?_⟩
 have j:Lr.length<=sizeLine:=by show 26<=sizeLine;decide
 have a:b.length<=sizeLine:=cx (Fg (by omega));have C:b.cps.toList.length=12:=by rw[<-sZ];exact n
 have c:p<b.cps.toList.length:=by omega
 have D:=g _ (cm c);have m:HU b.cps.toList (p:Int)=some b.cps.toList[p]:=sM (bT c);have o:=CL (show b.cps.toList[p]-97<26 by omega);rw[show 97+(b.cps.toList[p]-97)=b.cps.toList[p]by omega]at o;have v:=cY (((b.cps.toList[p]-97:Nat):Int)+3*(k:Int)) (show(26:Int)≠0 by decide);have u:=cQ (((b.cps.toList[p]-97:Nat):Int)+3*(k:Int)) (show(0:Int)<26 by decide);refine⟨_,rfl,_,rfl,rfl,_,rfl,_,rfl,b,_,_,rfl,rfl,a,m,Lr,_,rfl,rfl,_,rfl,_,_,rfl,rfl,Lz (by decide),_,_,rfl,rfl,_,_,rfl,rfl,by show(0:Int)<26;decide,Lr,_,_,rfl,rfl,j,by rw[o];exact Dk v u,?_⟩;refine⟨_,rfl,_,rfl,_,rfl,b,rfl,a,?_⟩;rw[vC (show p<=b.cps.toList.length by omega)];refine⟨_,rfl,_,_,rfl,rfl,by rw[ue,cf];exact cx (Fg (by show _+1<=1000;omega)),?_⟩;refine⟨_,rfl,_,rfl,_,_,rfl,rfl,_,rfl,_,rfl,_,rfl,b,rfl,a,?_⟩;rw[show((p:Int)+1)=((p+1:Nat):Int)by push_cast;rfl,A1 (show p+1<=d by omega) (show d<=b.cps.toList.length by omega)];refine⟨_,_,rfl,rfl,by rw[sH,ue,ue,ue,cf,cf,dP];exact cx (Fg (by show _+1+_<=1000;omega)),?_⟩;have e:(((⟨(b.cps.toList.take p).toArray⟩:Str)++⟨#[97+((((b.cps.toList[p]-97:Nat):Int)+3*(k:Int))%26).toNat]⟩)++⟨((b.cps.toList.drop (p+1)).take (d-(p+1))).toArray⟩:Str)=⟨(F3 b.cps.toList p d k).toArray⟩:=by
  refine wx ?_;rw[sG,sG];unfold F3;rw[HM.getD_lt c,show((((b.cps.toList[p]-97:Nat):Int)+3*(k:Int))%26).toNat=(b.cps.toList[p]-97+3*k)%26 by omega];simp
 have r:=q;rw[<-e]at r;exact r
theorem GX:Fi ["_law_script","_law_at","_law_many","_law_cell","_law_size","_law_base_here","_law_words_here","_law_k","_law_word_here"] ["_law_script","_law_at","_law_many"] (Ff (Fk 61)):=⟨rfl,rfl,rfl,by decide +kernel,rfl,by decide +kernel,by decide +kernel⟩
theorem Jn(M:Md K mg x cB)
  (G_law_cell_at:Dn P w K mg base Fs 1 "_law_cell_at" ["_law_script","_law_k"] (Km K))
  (G_law_base:Dn P w K mg base Fs 1 "_law_base" ["_law_cell","_law_size"] (Lj))
  (G_law_word:Dn P w K mg base Fs 1 "_law_word" ["_law_base_here","_law_place","_law_size","_law_k"] (JW)):Dn P w K mg base Fs 2 "_law_words" ["_law_script","_law_at","_law_many"] (Jd K):=by
 have j:=(GX).nd
 refine M.f__law_words.ok GX (λvs H Q E h=>?_) (λ_ _ _ _ _ _ S v=>K7 (λ_ _ _=>rfl) S v) (λf T A R s H vs Q E z h=>?_)
 ·obtain⟨a,B,r,n,rfl,G,h1,h6,q⟩:=h
  rfl
 obtain⟨a,B,r,n,rfl,G,h1,h6,q⟩:=h
 refine⟨_,(rF (rL (i:=3) j rfl (Or.inl rfl) (sf G_law_cell_at z (by decide) rfl Fm (lh (pv 0) (lh (pv 1) rG))))
   (rF (rL (i:=4) j rfl (Or.inl rfl) (rO sJ rH (rO sh (pv 3) rH)))
   (rF (rL (i:=5) j rfl (Or.inl rfl) (sf G_law_base z (by decide) rfl Fm (lh (sf G_law_cell_at z (by decide) rfl Fm (lh (pv 0) (lh (rO sJ (pv 1) rH) rG))) (lh rH rG))))
   (rF (rL (i:=6) j rfl (Or.inl rfl) (sA rG))
   (rF (tN db rfl (sD rfl M.b_range (lh (pv 2) rG)) (rS (i:=7) j rfl (Or.inl rfl)) (rF (rL (i:=8) j rfl (Or.inl rfl) (sf G_law_word z (by decide) rfl Fm (lh (pv 5) (lh (rO sh (rO sW (pv 3) rH) (pv 4)) (lh (pv 4) (lh (pv 7) rG))))))
   (rF (si (rM sY (rO sh (rO sW (pv 3) rH) rH) rH (Fj _)) (rJ (rL (i:=8) j rfl (Or.inl rfl) (sR vt (pv 5) tM (sV (rO sJ (pv 7) rH))))) rN)
   (rJ (su (tL cu cK cL sq (pv 6) (lh (pv 8) rG)))))))
   (rJ (rP (pv 6)))))))),?_⟩
 refine⟨_,rfl,_,rfl,a,B,_,rfl,G,by omega,?_⟩
 generalize LM.cellAt B (r:Int)=c
 have X:=cY c (show(12:Int)≠0 by decide)
 have W:=cQ c (show(0:Int)<12 by decide)
 obtain⟨d,O⟩:∃d:Nat,1+c%12=(d:Int):=⟨(1+c%12).toNat,by omega⟩
 have Z:=cY (c/48) (show(d:Int)≠0 by omega)
 have Y:=cQ (c/48) (show(0:Int)<d by omega)
 obtain⟨p,hp⟩:∃p:Nat,c/48%(d:Int)=(p:Int):=⟨(c/48%(d:Int)).toNat,by omega⟩
 refine⟨_,rfl,c,12,rfl,rfl,by show(0:Int)<12;decide,_,_,rfl,rfl,?_⟩
 dsimp only
 rw[O]
 refine⟨_,rfl,_,rfl,_,_,rfl,rfl,a,B,_,rfl,G,by omega,_,12,rfl,by decide,λb J v=>?_⟩
 have u:(0:Nat)<=sizeLine:=by decide
 have N:b.length<=sizeLine:=cx (Fg (by omega))
 have U:b.cps.toList.length=12:=by rw[<-sZ];exact J
 refine⟨u,λl m=>?_⟩
 refine⟨_,rfl,(n:Int),rfl,by omega,by omega,?_⟩
 refine sN (n:=n) (λi D o=>Same H o/\o l=some (.lst (((cp i).map λk=>if c/12%4=1 then(⟨(b.cps.toList.take (k+1)).toArray⟩:Str)else⟨(F3 b.cps.toList p d k).toArray⟩).map V.str))/\∃k w,D=[some (.ref a),some (.int r),some (.int n),some (.int c),some (.int d),some (.str b),some (.ref l),k,w]) ⟨mJ m _,rE,_,_,rfl⟩ (λi D o hi L=>?_) (λD o L=>?_)
 ·obtain⟨y,g,k,w,rfl⟩:=L
  have t:(((cp i).map λk=>if c/12%4=1 then(⟨(b.cps.toList.take (k+1)).toArray⟩:Str)else⟨(F3 b.cps.toList p d k).toArray⟩).map V.str).length<sizeLine:=Fg (by rw[bP,bP,eJ];omega)
  refine⟨_,rfl,_,rfl,c,48,rfl,rfl,c9 (by decide) (by decide),_,rfl,_,_,rfl,rfl,by show(0:Int)<d;omega,_,rfl,_,rfl,b,p,d,i,by show[V.str b,V.int (c/48%(d:Int)),V.int d,V.int (0+(i:Int))]=_;rw[hp,d2],J,v,by omega,by omega,by omega,?_⟩
  refine⟨_,rfl,c,12,rfl,rfl,c9 (by decide) (by decide),_,_,rfl,rfl,by show(0:Int)<4;decide,rfl,_,rfl,?_⟩
  refine FD (λC=>?_) (λC=>?_)
  ·have I:c/12%4=1:=Kn C
   refine⟨_,rfl,_,rfl,_,_,rfl,rfl,_,rfl,b,rfl,N,?_⟩
   rw[show((0:Int)+(i:Int)+1)=((i+1:Nat):Int)by omega,vC (show i+1<=b.cps.toList.length by omega)]
   refine⟨_,rfl,.inl ⟨rfl,_,SqL.of g⟩,_,rfl,l,_,_,rfl,rfl,g,t,?_⟩
   refine⟨y.over m _,?_,_,_,rfl⟩
   rw[rE,fG,cb,cb,mZ,if_pos I]
   rfl
  ·have I:¬c/12%4=1:=λe=>C (by show V.int (c/12%4)=V.int 1;rw[e])
   refine⟨_,rfl,.inl ⟨rfl,_,SqL.of g⟩,_,rfl,l,_,_,rfl,rfl,g,t,?_⟩
   refine⟨y.over m _,?_,_,_,rfl⟩
   rw[rE,fG,cb,cb,mZ,if_neg I]
   rfl
 ·obtain⟨y,g,k,w,rfl⟩:=L
  exact⟨_,rfl,q l _ o y m g (Aq J v (by omega) (by omega) h1 h6) (by rw[bP,eJ])⟩
theorem Gs:Fi ["_law_one","_law_other","_law_rest"] ["_law_one","_law_other"] (Ff (Fk 57)):=⟨rfl,rfl,rfl,by decide +kernel,rfl,by decide +kernel,by decide +kernel⟩
theorem IH(M:Md K mg x cB):Dn P w K mg base Fs 1 "_law_divisor" ["_law_one","_law_other"] (IX):=by
 have g:=(Gs).nd;refine M.f__law_divisor.ok Gs (λvs H Q E h=>?_) (λ_ _ _ _ _ _ C u=>HX (λ_ _=>rfl) C u) (λf G A t s H vs Q E J h=>?_)
 ·obtain⟨i,j,rfl,o,q⟩:=h;rfl
 obtain⟨i,j,rfl,o,q⟩:=h;refine⟨_,(rF (uw db (rM xZ (pv 1) rH (Fj _)) (rF (rL (i:=2) g rfl (Or.inl rfl) (rO sh (pv 0) (pv 1)))
   (rF (rL (i:=0) g rfl (Or.inl rfl) (pv 1))
   (rJ (rL (i:=1) g rfl (Or.inl rfl) (pv 2))))))
   (rJ (rP (rK xh rfl M.b_abs Boot.«abs» (lh (pv 0) rG))))),?_⟩
 refine xu (λm n l=>l=H/\∃(a b:Int) (r:Option V),n=[some (.int a),some (.int b),r]/\0<=b/\Int.gcd a b=Int.gcd i j/\m=b.toNat)
  ⟨_,rfl,_,_,_,rfl,o,rfl,rfl⟩ (λm n l F=>?_) (λn l I N D h=>?_)
 ·obtain⟨rfl,a,b,r,rfl,L,p,rfl⟩:=F;refine⟨_,rfl,rfl,_,rfl,?_⟩;refine ID (λc=>?_) (λc=>?_)
  ·have d:b≠0:=λz=>c (by rw[z]);refine⟨_,rfl,_,rfl,a,b,rfl,rfl,by show(0:Int)<b;omega,_,rfl,_,rfl,?_⟩;refine⟨(a%b).toNat,?_,rfl,b,a%b,_,rfl,cY _ d,?_,rfl⟩
   ·have:=cQ a (show 0<b by omega);have:=cY a d;omega
   ·rw[FQ.gcd_turn,p]
  ·have d:b=0:=Kn c;subst d;refine⟨_,rfl,a,rfl,?_⟩;have e:(if a<0 then -a else a)=(Int.gcd i j:Int):=by rw[<-p];simp;split <;> omega
   rw[e];exact q
 ·obtain⟨v,e,B,k,y,q⟩:=h;exact⟨v,e,B,k,y,D _ _ q⟩
theorem GC:Fi ["_law_top","_law_bottom","_law_share"] ["_law_top","_law_bottom"] (Ff (Fk 58)):=⟨rfl,rfl,rfl,by decide +kernel,rfl,by decide +kernel,by decide +kernel⟩
theorem IQ(M:Md K mg x cB)
  (G_law_divisor:Dn P w K mg base Fs 1 "_law_divisor" ["_law_one","_law_other"] (IX)):Dn P w K mg base Fs 2 "_law_lowest" ["_law_top","_law_bottom"] (JN):=by
 have c:=(GC).nd
 refine M.f__law_lowest.ok GC (λvs H Q E h=>?_) (λ_ _ _ _ _ _ l j=>HX (λ_ _=>rfl) l j) (λf m A g s H vs Q E k h=>?_)
 ·obtain⟨t,b,rfl,e,d,q⟩:=h
  rfl
 obtain⟨t,b,rfl,e,d,q⟩:=h
 refine⟨_,(rF (si (rM z6 (pv 1) rH (Fj _)) Bp rN)
   (rF (si (rM sY (pv 1) rH (Fj _)) (rJ (rL (i:=1) c rfl (Or.inl rfl) rH)) rN)
   (rF (rL (i:=2) c rfl (Or.inl rfl) (sf G_law_divisor k (by decide) rfl Fm (lh (pv 0) (lh (pv 1) rG))))
   (rJ (rP (sw (lh (rO sW (pv 0) (pv 2)) (lh (rO sW (pv 1) (pv 2)) rG)))))))),?_⟩
 refine⟨_,rfl,_,_,rfl,rfl,_,rfl,Fo (by omega) ?_⟩
 refine⟨_,rfl,rfl,_,rfl,Fo (Ol (by omega)) ?_⟩
 refine⟨_,rfl,_,rfl,t,b,rfl,ef e,?_⟩
 have a:=(vo (t:=t) (b:=b) (by omega) d).2 (by omega)
 have n:0<Int.gcd t b:=eA _ (by omega)
 refine⟨_,rfl,_,rfl,t,_,rfl,rfl,⟨by omega,a.1.2⟩,_,rfl,_,rfl,b,_,rfl,rfl,⟨by omega,a.1.2⟩,by show 2<=sizeLine;decide,λp hp=>q p _ (mJ hp _) ?_⟩
 rw[rE]
 show some (HO.tup [V.int (t/_),V.int (b/_)])=_
 rw[<-ij t (by omega),<-ij b (by omega),a.2.1,a.2.2]
 rfl
theorem G7:Fi ["_law_found","_law_due_here","_law_k"] ["_law_found","_law_due_here"] (Ff (Fk 62)):=⟨rfl,rfl,rfl,by decide +kernel,rfl,by decide +kernel,by decide +kernel⟩
theorem F5{n:Nat}(M:Md K mg x cB)
  (G_law_same:Dn P w K mg base Fs n "_law_same" ["_law_found","_law_due_here"] (Li (Kr K) n)):Dn P w K mg base Fs (n+1) "_law_same" ["_law_found","_law_due_here"] (Kr K n):=by
 have R:=(G7).nd
 refine M.f__law_same.ok G7 (λvs H Q E h=>?_) (λ_ _ _ _ _ _ S O=>HX (λ_ _=>rfl) S O) (λf U A N s H vs Q E z h=>?_)
 ·obtain⟨v,u,d,rfl,L,l,c,q⟩:=h
  rfl
 obtain⟨v,u,d,rfl,L,l,c,q⟩:=h
 refine⟨_,(rF (si (PW.pt (xR (sB (rK sC rfl M.b_isinstance Boot.«isinstance» (lh (pv 1) (lh (tZ rfl M.b_tuple Boot.«tuple») rG)))) (wS (sB (rK sC rfl M.b_isinstance Boot.«isinstance» (lh (pv 1) (lh (tZ rfl M.b_list Boot.«list») rG))))))) (rF (si (PW.pt (xR (rM xZ (rK sC rfl M.b_isinstance Boot.«isinstance» (lh (pv 0) (lh (tZ rfl M.b_tuple Boot.«tuple») rG))) (rK sC rfl M.b_isinstance Boot.«isinstance» (lh (pv 1) (lh (tZ rfl M.b_tuple Boot.«tuple») rG))) (Fj _)) (wS (rM xZ (rK sC rfl M.b_isinstance Boot.«isinstance» (lh (pv 0) (lh (tZ rfl M.b_list Boot.«list») rG))) (rK sC rfl M.b_isinstance Boot.«isinstance» (lh (pv 1) (lh (tZ rfl M.b_list Boot.«list») rG))) (Fj _))))) (rJ (rP vc)) rN)
   (rF (si (rM xZ (rK rV rfl M.b_len cU (lh (pv 0) rG)) (rK rV rfl M.b_len cU (lh (pv 1) rG)) (Fj _)) (rJ (rP vc)) rN)
   (rF (tN db rfl (sD rfl M.b_range (lh (rK rV rfl M.b_len cU (lh (pv 1) rG)) rG)) (rS (i:=2) R rfl (Or.inl rfl)) (rJ (si (tS (sB (sf G_law_same z (bX _) rfl Fm (lh (rR Ds (pv 0) (pv 2) (λ_ _=>rfl)) (lh (rR Ds (pv 1) (pv 2) (λ_ _=>rfl)) rG))))) (rJ (rP vc)) rN)))
   (rJ (rP vc))))) rN)
   (rF (si (sB (rK sC rfl M.b_isinstance Boot.«isinstance» (lh (pv 1) (lh (tZ rfl M.b_bool Boot.«bool») rG)))) (rJ (rP (u6 (rK sC rfl M.b_isinstance Boot.«isinstance» (lh (pv 0) (lh (tZ rfl M.b_bool Boot.«bool») rG))) (vS (ua (vb z) (pv 0) (pv 1) (Fj _)))))) rN)
   (rF (si (sB (rK sC rfl M.b_isinstance Boot.«isinstance» (lh (pv 1) (lh (tZ rfl M.b_int Boot.«int») rG)))) (rJ (rP (u6 (rK sC rfl M.b_isinstance Boot.«isinstance» (lh (pv 0) (lh (tZ rfl M.b_int Boot.«int») rG))) (u6 (Dh (rK sC rfl M.b_isinstance Boot.«isinstance» (lh (pv 0) (lh (tZ rfl M.b_bool Boot.«bool») rG)))) (vS (ua (vb z) (pv 0) (pv 1) (Fj _))))))) rN)
   (rF (si (sB (rK sC rfl M.b_isinstance Boot.«isinstance» (lh (pv 1) (lh (tZ rfl M.b_str Boot.«str») rG)))) (rJ (rP (u6 (rK sC rfl M.b_isinstance Boot.«isinstance» (lh (pv 0) (lh (tZ rfl M.b_str Boot.«str») rG))) (vS (ua (vb z) (pv 0) (pv 1) (Fj _)))))) rN)
   (rJ (rP (u6 (ua Ay (pv 1) uC (Fj _)) (vS (ua Ay (pv 0) uC (Fj _)))))))))),?_⟩
 cases L with
 | non=>
  cases l
  refine⟨_,rfl,_,_,"NoneType",rfl,by decide,rfl,_,rfl,Fu ⟨_,rfl,_,_,"NoneType",rfl,by decide,rfl,_,rfl,Fu ?_⟩⟩
  refine⟨_,rfl,_,_,"NoneType",rfl,by decide,rfl,_,rfl,Fu ?_⟩
  refine⟨_,rfl,_,_,"NoneType",rfl,by decide,rfl,_,rfl,Fu ?_⟩
  refine⟨_,rfl,_,_,"NoneType",rfl,by decide,rfl,_,rfl,Fu ?_⟩
  exact⟨_,rfl,rfl,_,rfl,FG ⟨_,rfl,rfl,q⟩⟩
 | bl b=>
  cases l
  refine⟨_,rfl,_,_,"bool",rfl,by decide,rfl,_,rfl,Fu ⟨_,rfl,_,_,"bool",rfl,by decide,rfl,_,rfl,Fu ?_⟩⟩
  refine⟨_,rfl,_,_,"bool",rfl,by decide,rfl,_,rfl,FG ?_⟩
  refine⟨_,rfl,_,_,"bool",rfl,by decide,rfl,_,rfl,FG ?_⟩
  refine⟨_,rfl,_,rfl,_,_,.bl b,.bl b,rfl,rfl,?_⟩
  rw[show eh (.bool b) (.bool b)=true by simp[eh]]
  exact q
 | int i=>
  cases l
  refine⟨_,rfl,_,_,"int",rfl,by decide,rfl,_,rfl,Fu ⟨_,rfl,_,_,"int",rfl,by decide,rfl,_,rfl,Fu ?_⟩⟩
  refine⟨_,rfl,_,_,"int",rfl,by decide,rfl,_,rfl,Fu ?_⟩
  refine⟨_,rfl,_,_,"int",rfl,by decide,rfl,_,rfl,FG ?_⟩
  refine⟨_,rfl,_,_,"int",rfl,by decide,rfl,_,rfl,FG ⟨_,rfl,_,_,"int",rfl,by decide,rfl,_,rfl,_,rfl,FG ?_⟩⟩
  refine⟨_,rfl,_,rfl,_,_,.int i,.int i,rfl,rfl,?_⟩
  rw[show eh (.int i) (.int i)=true by simp[eh]]
  exact q
 | str x=>
  cases l
  have B:eg (.str x)=true:=by cases n <;> simpa [GQ]using c
  refine⟨_,rfl,_,_,"str",rfl,by decide,rfl,_,rfl,Fu ⟨_,rfl,_,_,"str",rfl,by decide,rfl,_,rfl,Fu ?_⟩⟩
  refine⟨_,rfl,_,_,"str",rfl,by decide,rfl,_,rfl,Fu ?_⟩
  refine⟨_,rfl,_,_,"str",rfl,by decide,rfl,_,rfl,Fu ?_⟩
  refine⟨_,rfl,_,_,"str",rfl,by decide,rfl,_,rfl,FG ?_⟩
  refine⟨_,rfl,_,_,"str",rfl,by decide,rfl,_,rfl,FG ?_⟩
  refine⟨_,rfl,_,rfl,_,_,.str x,.str x,B,B,?_⟩
  rw[show eh (.str x) (.str x)=true by simp[eh]]
  exact q
 | @lst a xs ds hv hvs hl1=>
  cases l with
  | @lst b ys _ hu hus hl2=>
  cases n with
  | zero=>cases c
  | succ n=>

  have t:=Reps.length hvs
  have p:=Reps.length hus
  refine⟨_,rfl,_,_,"list",rfl,by decide,.inl ⟨rfl,_,hu⟩,_,rfl,Fu ⟨_,rfl,_,_,"list",rfl,by decide,.inl ⟨rfl,_,hu⟩,_,rfl,FG ?_⟩⟩
  refine⟨_,rfl,_,_,"list",rfl,by decide,.inl ⟨rfl,_,hv⟩,_,rfl,_,_,"list",rfl,by decide,.inl ⟨rfl,_,hu⟩,rfl,_,rfl,Hl rfl ?_⟩
  refine⟨_,rfl,_,_,"list",rfl,by decide,.inl ⟨rfl,_,hv⟩,_,rfl,_,_,"list",rfl,by decide,.inl ⟨rfl,_,hu⟩,rfl,_,rfl,Hl rfl ?_⟩
  refine⟨_,rfl,_,_,rfl,.inl hv,_,rfl,_,_,rfl,.inl hu,rfl,_,rfl,Hl (by rw[t,p]) ?_⟩
  refine⟨_,rfl,_,_,rfl,.inl hu,_,rfl,by omega,by omega,?_⟩
  refine sN (λi k g=>g=H/\∃r,k=[some _,some _,r]) ⟨rfl,_,rfl⟩ (λi k g T m=>?_) (λk g m=>?_)
  ·obtain⟨rfl,r,rfl⟩:=m
   have e:i<ds.length:=by omega
   have o:ds[i]?=some ds[i]:=by simp[e]
   obtain⟨x,G,D⟩:=Reps.get hvs o
   obtain⟨y,I,C⟩:=Reps.get hus o
   have j:GQ n ds[i]=true:=de.mp c _ (cm e)
   have J:HU xs (0+(i:Int))=some x:=by rw[d2];exact sM G
   have F:HU ys (0+(i:Int))=some y:=by rw[d2];exact sM I
   exact⟨_,rfl,_,rfl,.inl ⟨_,xs,_,x,rfl,rfl,hv,J,_,rfl,_,rfl,.inl ⟨_,ys,_,y,rfl,rfl,hu,F,x,y,ds[i],rfl,D,C,j,_,rfl,Fu ⟨rfl,_,rfl⟩⟩⟩⟩
  ·obtain⟨rfl,r,rfl⟩:=m
   exact q
 | @tup a xs ds hv hvs hl1=>
  cases l with
  | @tup b ys _ hu hus hl2=>
  cases n with
  | zero=>cases c
  | succ n=>

  have t:=Reps.length hvs
  have p:=Reps.length hus
  refine⟨_,rfl,_,_,"tuple",rfl,by decide,.inr ⟨rfl,_,hu⟩,_,rfl,FG ?_⟩
  refine⟨_,rfl,_,_,"tuple",rfl,by decide,.inr ⟨rfl,_,hv⟩,_,rfl,_,_,"tuple",rfl,by decide,.inr ⟨rfl,_,hu⟩,rfl,_,rfl,Hl rfl ?_⟩
  refine⟨_,rfl,_,_,"tuple",rfl,by decide,.inr ⟨rfl,_,hv⟩,_,rfl,_,_,"tuple",rfl,by decide,.inr ⟨rfl,_,hu⟩,rfl,_,rfl,Hl rfl ?_⟩
  refine⟨_,rfl,_,_,rfl,.inr hv,_,rfl,_,_,rfl,.inr hu,rfl,_,rfl,Hl (by rw[t,p]) ?_⟩
  refine⟨_,rfl,_,_,rfl,.inr hu,_,rfl,by omega,by omega,?_⟩
  refine sN (λi k g=>g=H/\∃r,k=[some _,some _,r]) ⟨rfl,_,rfl⟩ (λi k g T m=>?_) (λk g m=>?_)
  ·obtain⟨rfl,r,rfl⟩:=m
   have e:i<ds.length:=by omega
   have o:ds[i]?=some ds[i]:=by simp[e]
   obtain⟨x,G,D⟩:=Reps.get hvs o
   obtain⟨y,I,C⟩:=Reps.get hus o
   have j:GQ n ds[i]=true:=de.mp c _ (cm e)
   have J:HU xs (0+(i:Int))=some x:=by rw[d2];exact sM G
   have F:HU ys (0+(i:Int))=some y:=by rw[d2];exact sM I
   exact⟨_,rfl,_,rfl,.inr (.inl ⟨_,xs,_,x,rfl,rfl,hv,J,_,rfl,_,rfl,.inr (.inl ⟨_,ys,_,y,rfl,rfl,hu,F,x,y,ds[i],rfl,D,C,j,_,rfl,Fu ⟨rfl,_,rfl⟩⟩)⟩)⟩
  ·obtain⟨rfl,r,rfl⟩:=m
   exact q
theorem GO:Fi ["_law_e","_law_found"] ["_law_e"] (Ff (Fk 63)):=⟨rfl,rfl,rfl,by decide +kernel,rfl,by decide +kernel,by decide +kernel⟩
theorem Jj(M:Md K mg x cB):Dn P w K mg base Fs 1 "_law_kinds" ["_law_e"] (Hx x):=by
 have n:=(GO).nd;refine M.f__law_kinds.ok GO (λvs H Q E h=>?_) (λ_ _ _ _ _ _ t m=>Ko (λ_=>rfl) t m) (λf u A l s H vs Q E v h=>?_)
 ·obtain⟨a,C,k,rfl,j,hk,q⟩:=h;rfl
 obtain⟨a,C,k,rfl,j,hk,q⟩:=h;refine⟨_,(rF (rL (i:=1) n rfl (Or.inl rfl) (sA rG))
   (rF (si (sB (rK tF rfl M.b_isinstance Boot.«isinstance» (lh (pv 0) (lh (u9 M.x_NoFraction) rG)))) (rJ (su (tL cu cK cL sq (pv 1) (lh rX rG)))) rN)
   (rF (si (sB (rK tF rfl M.b_isinstance Boot.«isinstance» (lh (pv 0) (lh (u9 M.x_NoWishes) rG)))) (rJ (su (tL cu cK cL sq (pv 1) (lh rX rG)))) rN)
   (rF (si (sB (rK tF rfl M.b_isinstance Boot.«isinstance» (lh (pv 0) (lh (u9 M.x_NoTable) rG)))) (rJ (su (tL cu cK cL sq (pv 1) (lh rX rG)))) rN)
   (rF (si (sB (rK tF rfl M.b_isinstance Boot.«isinstance» (lh (pv 0) (lh (u9 M.x_NoPick) rG)))) (rJ (su (tL cu cK cL sq (pv 1) (lh rX rG)))) rN)
   (rF (si (sB (rK tF rfl M.b_isinstance Boot.«isinstance» (lh (pv 0) (lh (u9 M.x_NoOrder) rG)))) (rJ (su (tL cu cK cL sq (pv 1) (lh rX rG)))) rN)
   (rF (si (sB (rK tF rfl M.b_isinstance Boot.«isinstance» (lh (pv 0) (lh (u9 M.x_NoRoll) rG)))) (rJ (su (tL cu cK cL sq (pv 1) (lh rX rG)))) rN)
   (rF (si (sB (rK tF rfl M.b_isinstance Boot.«isinstance» (lh (pv 0) (lh (u9 M.x_NoPerson) rG)))) (rJ (su (tL cu cK cL sq (pv 1) (lh rX rG)))) rN)
   (rF (si (sB (rK tF rfl M.b_isinstance Boot.«isinstance» (lh (pv 0) (lh (u9 M.x_Unready) rG)))) (rJ (su (tL cu cK cL sq (pv 1) (lh rX rG)))) rN)
   (rF (si (sB (rK tF rfl M.b_isinstance Boot.«isinstance» (lh (pv 0) (lh (u9 M.x_NoWay) rG)))) (rJ (su (tL cu cK cL sq (pv 1) (lh rX rG)))) rN)
   (rF (si (tS (sB (rK tF rfl M.b_isinstance Boot.«isinstance» (lh (pv 0) (lh (tZ rfl M.b_ValueError Boot.«ValueError») rG))))) (rJ (su (tL cu cK cL sq (pv 1) (lh rX rG)))) rN)
   (rJ (rP (pv 1)))))))))))))),?_⟩
 obtain⟨i,c,r,rfl⟩:∃i,KK K x C i/\i<9/\k=MV i:=by
  rcases hk with⟨rfl,rfl⟩|⟨rfl,rfl⟩|⟨rfl,rfl⟩|⟨rfl,rfl⟩|⟨rfl,rfl⟩|⟨rfl,rfl⟩
  ·exact⟨1,M.q_NoWishes,by decide,rfl⟩
  ·exact⟨3,M.q_NoPick,by decide,rfl⟩
  ·exact⟨5,M.q_NoRoll,by decide,rfl⟩
  ·exact⟨6,M.q_NoPerson,by decide,rfl⟩
  ·exact⟨7,M.q_Unready,by decide,rfl⟩
  ·exact⟨8,M.q_NoWay,by decide,rfl⟩
 refine⟨by show(0:Nat)<=sizeLine;decide,λp hp=>?_⟩;have d:a≠p:=sd j hp;have h1:upd H p (.lst []) a=some (Kg C a):=by rw[rQ d];exact j
 have h2:Same H (upd H p (.lst [])):=mJ hp _;have h3:upd H p (.lst []) p=some (.lst (kL i 0)):=rE;generalize upd H p (.lst [])=b at h1 h2 h3 ⊢

 refine⟨_,rfl,a,C,.ref (Ld x 0),decide (i=0),rfl,h1,c.is,.inl ⟨_,rfl,c.one 0 (by decide)⟩,_,rfl,?_⟩;show if decide (i=0)=true then _ else _
 apply Hu (KP H C a p i 1) b (λe=>⟨h1,h2,(xk e).symm▸h3⟩)
 case hA=>
  intro e g;exact⟨_,rfl,.inl ⟨rfl,_,SqL.of h3⟩,p,_,_,rfl,rfl,h3,uM i 0,g _ (KP.put h1 h2 d hp e)⟩
 clear h1 h2 h3 b;rintro b ⟨h1,h2,h3⟩

 refine⟨_,rfl,a,C,.ref (Ld x 1),decide (i=1),rfl,h1,c.is,.inl ⟨_,rfl,c.one 1 (by decide)⟩,_,rfl,?_⟩;show if decide (i=1)=true then _ else _
 apply Hu (KP H C a p i 2) b (λe=>⟨h1,h2,(xk e).symm▸h3⟩)
 case hA=>
  intro e g;exact⟨_,rfl,.inl ⟨rfl,_,SqL.of h3⟩,p,_,_,rfl,rfl,h3,uM i 1,g _ (KP.put h1 h2 d hp e)⟩
 clear h1 h2 h3 b;rintro b ⟨h1,h2,h3⟩

 refine⟨_,rfl,a,C,.ref (Ld x 2),decide (i=2),rfl,h1,c.is,.inl ⟨_,rfl,c.one 2 (by decide)⟩,_,rfl,?_⟩;show if decide (i=2)=true then _ else _
 apply Hu (KP H C a p i 3) b (λe=>⟨h1,h2,(xk e).symm▸h3⟩)
 case hA=>
  intro e g;exact⟨_,rfl,.inl ⟨rfl,_,SqL.of h3⟩,p,_,_,rfl,rfl,h3,uM i 2,g _ (KP.put h1 h2 d hp e)⟩
 clear h1 h2 h3 b;rintro b ⟨h1,h2,h3⟩

 refine⟨_,rfl,a,C,.ref (Ld x 3),decide (i=3),rfl,h1,c.is,.inl ⟨_,rfl,c.one 3 (by decide)⟩,_,rfl,?_⟩;show if decide (i=3)=true then _ else _
 apply Hu (KP H C a p i 4) b (λe=>⟨h1,h2,(xk e).symm▸h3⟩)
 case hA=>
  intro e g;exact⟨_,rfl,.inl ⟨rfl,_,SqL.of h3⟩,p,_,_,rfl,rfl,h3,uM i 3,g _ (KP.put h1 h2 d hp e)⟩
 clear h1 h2 h3 b;rintro b ⟨h1,h2,h3⟩

 refine⟨_,rfl,a,C,.ref (Ld x 4),decide (i=4),rfl,h1,c.is,.inl ⟨_,rfl,c.one 4 (by decide)⟩,_,rfl,?_⟩;show if decide (i=4)=true then _ else _
 apply Hu (KP H C a p i 5) b (λe=>⟨h1,h2,(xk e).symm▸h3⟩)
 case hA=>
  intro e g;exact⟨_,rfl,.inl ⟨rfl,_,SqL.of h3⟩,p,_,_,rfl,rfl,h3,uM i 4,g _ (KP.put h1 h2 d hp e)⟩
 clear h1 h2 h3 b;rintro b ⟨h1,h2,h3⟩

 refine⟨_,rfl,a,C,.ref (Ld x 5),decide (i=5),rfl,h1,c.is,.inl ⟨_,rfl,c.one 5 (by decide)⟩,_,rfl,?_⟩;show if decide (i=5)=true then _ else _
 apply Hu (KP H C a p i 6) b (λe=>⟨h1,h2,(xk e).symm▸h3⟩)
 case hA=>
  intro e g;exact⟨_,rfl,.inl ⟨rfl,_,SqL.of h3⟩,p,_,_,rfl,rfl,h3,uM i 5,g _ (KP.put h1 h2 d hp e)⟩
 clear h1 h2 h3 b;rintro b ⟨h1,h2,h3⟩

 refine⟨_,rfl,a,C,.ref (Ld x 6),decide (i=6),rfl,h1,c.is,.inl ⟨_,rfl,c.one 6 (by decide)⟩,_,rfl,?_⟩;show if decide (i=6)=true then _ else _
 apply Hu (KP H C a p i 7) b (λe=>⟨h1,h2,(xk e).symm▸h3⟩)
 case hA=>
  intro e g;exact⟨_,rfl,.inl ⟨rfl,_,SqL.of h3⟩,p,_,_,rfl,rfl,h3,uM i 6,g _ (KP.put h1 h2 d hp e)⟩
 clear h1 h2 h3 b;rintro b ⟨h1,h2,h3⟩

 refine⟨_,rfl,a,C,.ref (Ld x 7),decide (i=7),rfl,h1,c.is,.inl ⟨_,rfl,c.one 7 (by decide)⟩,_,rfl,?_⟩;show if decide (i=7)=true then _ else _
 apply Hu (KP H C a p i 8) b (λe=>⟨h1,h2,(xk e).symm▸h3⟩)
 case hA=>
  intro e g;exact⟨_,rfl,.inl ⟨rfl,_,SqL.of h3⟩,p,_,_,rfl,rfl,h3,uM i 7,g _ (KP.put h1 h2 d hp e)⟩
 clear h1 h2 h3 b;rintro b ⟨h1,h2,h3⟩

 refine⟨_,rfl,a,C,.ref (Ld x 8),decide (i=8),rfl,h1,c.is,.inl ⟨_,rfl,c.one 8 (by decide)⟩,_,rfl,?_⟩;show if decide (i=8)=true then _ else _
 apply Hu (KP H C a p i 9) b (λe=>⟨h1,h2,(xk e).symm▸h3⟩)
 case hA=>
  intro e g;exact⟨_,rfl,.inl ⟨rfl,_,SqL.of h3⟩,p,_,_,rfl,rfl,h3,uM i 8,g _ (KP.put h1 h2 d hp e)⟩
 clear h1 h2 h3 b;rintro b ⟨h1,h2,h3⟩

 refine⟨_,rfl,a,C,.ty "ValueError",true,rfl,h1,c.is,.inr ⟨_,rfl,c.val⟩,_,rfl,Fu ?_⟩;have o:kL i 9=[.str (MV i)]:=if_pos r;exact⟨_,rfl,q p b h2 hp (o▸h3)⟩
theorem Gj:Fi ["_law_roll","_law_cell","_law_at","_law_place","_law_signs","_law_sign","_law_bad","_law_other"] ["_law_roll","_law_cell"] (Ff (Fk 64)):=⟨rfl,rfl,rfl,by decide +kernel,rfl,by decide +kernel,by decide +kernel⟩
theorem Ik(M:Md K mg x cB):Dn P w K mg base Fs 1 "_law_bad_roll" ["_law_roll","_law_cell"] (IY):=by
 have X:=(Gj).nd;refine M.f__law_bad_roll.ok Gj (λvs H Q E h=>?_) (λ_ _ _ _ _ _ us hl=>HX (λ_ _=>rfl) us hl) (λf aC A aB s H vs Q E hr h=>?_)
 ·obtain⟨a,b,c,rfl,hA,B,q⟩:=h;rfl
 obtain⟨a,b,c,rfl,hA,B,q⟩:=h;refine⟨_,(rF (rL (i:=2) X rfl (Or.inl rfl) (rO sh (rO sW (pv 1) rH) (rK rV rfl M.b_len cU (lh (pv 0) rG))))
   (rF (si (rM sY (rO sh (pv 1) rH) rH (Fj _)) (rJ (rP (sA rG))) rN)
   (rF (si (rM sY (rO sh (pv 1) rH) rH (Fj _)) (rJ (rP (sA (yF (is:=["a","b","c","d","e","f","g"]) rfl)))) rN)
   (rF (si (rM sY (rO sh (pv 1) rH) rH (Fj _)) (rJ (rP (sR vg (pv 0) (sV rH) tM))) rN)
   (rF (si (rM sY (rO sh (pv 1) rH) rH (Fj _)) (rJ (rP (rO xV (pv 0) (sA (lh rX rG))))) rN)
   (rF (si (PW.pt (uA (rM sY (rO sh (pv 1) rH) rH (Fj _)) (uD (rM EN (rK rV rfl M.b_len cU (lh (pv 0) rG)) rH (Fj _))))) (rJ (rP (rO xV (rO xV (sR vg (pv 0) tM (sV (pv 2))) (sA (lh (rR rY (pv 0) (rO wJ (pv 2) rH) (λ_ _=>rfl)) rG))) (sR vg (pv 0) (sV (rO sJ (pv 2) rH)) tM)))) rN)
   (rF (rL (i:=3) X rfl (Or.inl rfl) (rO sh (rO sW (pv 1) rH) (rK uf rfl M.b_len cU (lh (rR rY (pv 0) (pv 2) (λ_ _=>rfl)) rG))))
   (rF (rL (i:=4) X rfl (Or.inl rfl) rX)
   (rF (rL (i:=5) X rfl (Or.inl rfl) (rR xK (pv 4) (rO sh (rO sW (pv 1) rH) (rK uf rfl M.b_len cU (lh (pv 4) rG))) (λ_ _=>rfl)))
   (rF (rL (i:=6) X rfl (Or.inl rfl) (rO sP (rO sP (sR vt (rR rY (pv 0) (pv 2) (λ_ _=>rfl)) tM (sV (pv 3))) (pv 5)) (sR vt (rR rY (pv 0) (pv 2) (λ_ _=>rfl)) (sV (rO sJ (pv 3) rH)) tM)))
   (rF (rL (i:=7) X rfl (Or.inl rfl) (rR rY (sA (lh (sR vt (rO zP (rR rY (pv 0) (pv 2) (λ_ _=>rfl)) rH) tM (sV rH)) (lh rX (lh (pv 6) rG)))) (rO sh (pv 1) rH) (λ_ _=>rfl)))
   (rJ (rP (rO xV (rO xV (sR vg (pv 0) tM (sV (pv 2))) (sA (lh (pv 7) rG))) (sR vg (pv 0) (sV (rO sJ (pv 2) rH)) tM))))))))))))))),?_⟩
 have aj:(0:Nat)<=sizeLine:=by decide
 have m:(1:Nat)<=sizeLine:=by decide
 have ai:(3:Nat)<=sizeLine:=by decide
 have h1:=B.lo;have h6:=B.hi;have O:(b.map V.str).length=b.length:=bP ..;obtain⟨k,hk,d⟩:=xp (x:=c/8) h1;refine⟨_,rfl,c,8,rfl,rfl,c9 (by decide) (by decide),_,rfl,a,_,rfl,.inl (SqL.of hA),_,_,rfl,rfl,yR h1,?_⟩;dsimp only;rw[O,hk];have p8:(0:Int)<8:=by decide
 refine⟨_,rfl,c,8,rfl,rfl,p8,rfl,_,rfl,?_⟩;refine FD (λ_=>⟨aj,λp hp=>q p [] _ (mJ hp _) rE DD⟩) (λ_=>?_);refine⟨_,rfl,c,8,rfl,rfl,p8,rfl,_,rfl,?_⟩;refine FD (λ_=>⟨by show 7<=sizeLine;decide,λp hp=>q p LC _ (mJ hp _) rE BN⟩) (λ_=>?_);refine⟨_,rfl,c,8,rfl,rfl,p8,rfl,_,rfl,?_⟩;refine FD (λ_=>?_) (λ_=>?_)
 ·refine⟨_,rfl,1,rfl,a,_,rfl,SqL.of hA,λp hp=>q p (b.drop 1) _ (mJ hp _) ?_ (CQ B)⟩;rw[rE];exact congrArg (λz=>some (HO.lst z)) (vV (k:=1) h1)
 refine⟨_,rfl,c,8,rfl,rfl,p8,rfl,_,rfl,?_⟩;refine FD (λ_=>?_) (λ_=>?_)
 ·refine⟨_,rfl,m,λp1 ac=>?_⟩;have Y:=mJ ac (.lst [V.str "aaaaaaaaaaaa"]);refine⟨a,p1,_,_,rfl,rfl,Y _ _ hA,rE,by rw[O];exact cx (Fg (by show _+1<=1000;omega)),λp hp=>?_⟩;refine q p (b++[b9 "aaaaaaaaaaaa"]) _ (Y.trans (mJ hp _)) ?_ (Cm B ⟨by decide,uE (by decide +kernel)⟩);rw[rE,cb];rfl
 have ah:(b.map V.str)[k]?=some (.str b[k]):=by rw[bZ,bT d];rfl
 have J:=B.wd _ (cm d);refine⟨_,rfl,c,8,rfl,rfl,p8,rfl,_,rfl,Nc ?_ (λ_ hB=>?_)⟩;rotate_left
 ·refine⟨_,rfl,a,_,rfl,.inl (SqL.of hA),_,_,rfl,rfl,_,rfl,FD (λc1=>?_) (λ_=>hB)⟩;rw[O]at c1;obtain⟨v,hv⟩:∃v,b[if k=0 then b.length-1 else k-1]?=some v:=⟨_,bT (by split <;> omega)⟩;have ar:=AD (v:=v) (k:=k) B d hv (by split <;> omega);have ay:HU (b.map V.str) ((k:Int)-1)=some (.str v):=zq (by rw[O];exact d) (by rw[O,bZ,hv];rfl);have N:=(Same.refl H) _ _ hA;refine⟨_,rfl,_,rfl,_,rfl,a,_,rfl,SqL.of N,λj ae=>?_⟩;have U:Same H (upd H j (.lst ((b.take k).map V.str))):=mJ ae _;have t:upd H j (.lst ((b.take k).map V.str)) j=some (.lst ((b.take k).map V.str)):=rE;rw[BU (cx d)];generalize upd H j (.lst ((b.take k).map V.str))=D at U t ⊢;have W:=U _ _ N;refine⟨_,rfl,_,rfl,_,_,rfl,rfl,a,_,_,_,rfl,rfl,SqL.of W,ay,?_⟩;refine⟨m,λy ab=>?_⟩;have F:Same D (upd D y (.lst [V.str v])):=mJ ab _;have l:upd D y (.lst [V.str v]) y=some (.lst [V.str v]):=rE;generalize upd D y (.lst [V.str v])=C at F l ⊢;refine⟨j,y,_,_,rfl,rfl,F _ _ t,l,cx (Fg (by rw[bP,cf];show _+1<=1000;omega)),λg af=>?_⟩;have T:Same C (upd C g (.lst ((b.take k).map V.str++[V.str v]))):=mJ af _;have n:upd C g (.lst ((b.take k).map V.str++[V.str v])) g=some (.lst ((b.take k).map V.str++[V.str v])):=rE;generalize upd C g (.lst ((b.take k).map V.str++[V.str v]))=G at T n ⊢;have aa:=(F.trans T) _ _ W;refine⟨_,rfl,_,rfl,_,_,rfl,rfl,_,rfl,a,_,rfl,SqL.of aa,λr L=>?_⟩;dsimp only at L ⊢;rw[show((k:Int)+1)=((k+1:Nat):Int)from rfl,vV (show k+1<=b.length from d)];have R:Same G (upd G r (.lst ((b.drop (k+1)).map V.str))):=mJ L _;have u:upd G r (.lst ((b.drop (k+1)).map V.str)) r=some (.lst ((b.drop (k+1)).map V.str)):=rE;generalize upd G r (.lst ((b.drop (k+1)).map V.str))=H5 at R u ⊢;refine⟨g,r,_,_,rfl,rfl,R _ _ n,u,cx (Fg (by rw[cr,bP,bP,cf,dP];show _+1+_<=1000;omega)),λp6 Z=>?_⟩;refine q p6 (b.take k++[v]++b.drop (k+1)) _ ((Same.refl H).trans (U.trans (F.trans (T.trans (R.trans (mJ Z _)))))) ?_ ar;rw[rE,cb,cb];rfl

 generalize b[k]=z at ah J;have ak:=J.lo;have au:=J.hi;have ag:z.length<=sizeLine:=cx (Fg (by omega));have ao:z.cps.toList.length=z.length:=(sZ z).symm;obtain⟨S,az,ap⟩:=xp (x:=c/64) ak;have hg:=sM ah;refine⟨_,rfl,c,64,rfl,rfl,c9 (by decide) (by decide),_,rfl,_,rfl,a,_,_,_,rfl,rfl,SqL.of hA,hg,z,rfl,ag,_,_,rfl,rfl,oF.mpr ak,?_⟩;dsimp only;rw[az];have am:FM.length<=sizeLine:=by rw[uP];decide
 have r0:=cY (c/768) (show((68:Nat):Int)≠0 by decide);have r1:=cQ (c/768) (show(0:Int)<((68:Nat):Int)by decide);have av:FM.cps.toList.length=68:=by rw[<-sZ,uP]
 obtain⟨sg,aq,aA⟩:∃sg,HU FM.cps.toList (c/768%((68:Nat):Int))=some sg/\sg∈FM.cps.toList:=by
  have al:(c/768%((68:Nat):Int)).toNat<FM.cps.toList.length:=by rw[av];omega
  exact⟨_,tJ r0 (bT al),cm al⟩
 rw[<-uP]at aq;refine⟨_,rfl,_,rfl,c,768,rfl,rfl,c9 (by decide) (by decide),_,rfl,FM,rfl,am,_,_,rfl,rfl,by show(0:Int)<(FM.length:Int);rw[uP];decide,FM,_,_,rfl,rfl,am,aq,?_⟩;have I:=Cs (p:=S) J aA;refine⟨_,rfl,_,rfl,a,_,_,_,rfl,rfl,SqL.of hA,hg,_,rfl,_,rfl,z,rfl,ag,?_⟩;rw[vC (show S<=z.cps.toList.length from ao.symm▸cx ap)];refine⟨_,rfl,_,_,rfl,rfl,by rw[ue,cf];exact cx (Fg (by show _+1<=1000;omega)),?_⟩;refine⟨_,rfl,_,rfl,a,_,_,_,rfl,rfl,SqL.of hA,hg,_,rfl,_,_,rfl,rfl,_,rfl,z,rfl,ag,?_⟩;rw[show((S:Int)+1)=((S+1:Nat):Int)from rfl,Af (show S+1<=z.cps.toList.length from ao.symm▸ap)];refine⟨_,_,rfl,rfl,by have:=I.1;rw[sH]at this;exact cx (Fg this),?_⟩;dsimp only;generalize(⟨(z.cps.toList.take S).toArray⟩++⟨#[sg]⟩++⟨(z.cps.toList.drop (S+1)).toArray⟩:Str)=bd at I ⊢;have an:=Bg J;have ax:(i7 z 13).length<=sizeLine:=by
  have hl:((i7 z 13).length:Int)=(z.length:Int)*13:=by rw[len_mul];rfl
  exact cx (Fg (by omega))
 refine⟨_,rfl,_,rfl,a,_,_,_,rfl,rfl,SqL.of hA,hg,z,13,rfl,rfl,mulOk_of 12 13 au (by decide) (by decide) (by decide) (by decide),13,rfl,_,rfl,ax,?_⟩;dsimp only;generalize gd (i7 z 13) none (some 13)=lw at an ⊢;refine⟨_,rfl,ai,λp1 ac=>?_⟩;have m0:=cY c (show(3:Int)≠0 by decide);have m1:=cQ c (show(0:Int)<3 by decide);obtain⟨o,ho,aw⟩:∃o,HU [V.str lw,V.str "",V.str bd] (c%3)=some (.str o)/\Gk b (b.take k++[o]++b.drop (k+1)):=by
  have:c%3=0\/c%3=1\/c%3=2:=by omega
  rcases this with e|e|e
  ·rw[e];exact⟨lw,rfl,xx B ⟨by omega,an.2⟩ λw=>by have:=w.hi;omega⟩
  ·rw[e];exact⟨b9 "",rfl,xx B ⟨by decide,uE (by decide +kernel)⟩ BP⟩
  ·rw[e];exact⟨bd,rfl,xx B ⟨I.1,I.2.1⟩ I.2.2⟩
 refine⟨_,rfl,c,3,rfl,rfl,by show(0:Int)<3;decide,p1,_,_,_,rfl,rfl,SqL.of rE,ho,?_⟩;have Y:Same H (upd H p1 (.lst [V.str lw,V.str "",V.str bd])):=mJ ac _;generalize upd H p1 (.lst [V.str lw,V.str "",V.str bd])=H1 at Y ⊢;have N:=Y _ _ hA;refine⟨_,rfl,_,rfl,_,rfl,a,_,rfl,SqL.of N,λj ae=>?_⟩;have U:Same H1 (upd H1 j (.lst ((b.take k).map V.str))):=mJ ae _;have t:upd H1 j (.lst ((b.take k).map V.str)) j=some (.lst ((b.take k).map V.str)):=rE;rw[BU (cx d)];generalize upd H1 j (.lst ((b.take k).map V.str))=D at U t ⊢;have W:=U _ _ N;refine⟨_,rfl,?_⟩;refine⟨m,λy ab=>?_⟩;have F:Same D (upd D y (.lst [V.str o])):=mJ ab _;have l:upd D y (.lst [V.str o]) y=some (.lst [V.str o]):=rE;generalize upd D y (.lst [V.str o])=C at F l ⊢;refine⟨j,y,_,_,rfl,rfl,F _ _ t,l,cx (Fg (by rw[bP,cf];show _+1<=1000;omega)),λg af=>?_⟩;have T:Same C (upd C g (.lst ((b.take k).map V.str++[V.str o]))):=mJ af _;have n:upd C g (.lst ((b.take k).map V.str++[V.str o])) g=some (.lst ((b.take k).map V.str++[V.str o])):=rE;generalize upd C g (.lst ((b.take k).map V.str++[V.str o]))=G at T n ⊢;have aa:=(F.trans T) _ _ W;refine⟨_,rfl,_,rfl,_,_,rfl,rfl,_,rfl,a,_,rfl,SqL.of aa,λr L=>?_⟩;dsimp only at L ⊢;rw[show((k:Int)+1)=((k+1:Nat):Int)from rfl,vV (show k+1<=b.length from d)];have R:Same G (upd G r (.lst ((b.drop (k+1)).map V.str))):=mJ L _;have u:upd G r (.lst ((b.drop (k+1)).map V.str)) r=some (.lst ((b.drop (k+1)).map V.str)):=rE;generalize upd G r (.lst ((b.drop (k+1)).map V.str))=H5 at R u ⊢;refine⟨g,r,_,_,rfl,rfl,R _ _ n,u,cx (Fg (by rw[cr,bP,bP,cf,dP];show _+1+_<=1000;omega)),λp6 Z=>?_⟩;refine q p6 (b.take k++[o]++b.drop (k+1)) _ (Y.trans (U.trans (F.trans (T.trans (R.trans (mJ Z _)))))) ?_ aw;rw[rE,cb,cb];rfl
theorem Gr:Fi ["_law_people","_law_things","_law_cell","_law_caught","_law_e"] ["_law_people","_law_things","_law_cell"] (Ff (Fk 65)):=⟨rfl,rfl,rfl,by decide +kernel,rfl,by decide +kernel,by decide +kernel⟩
theorem Iy(M:Md K mg x cB)
  (G_law_bad_roll:Dn P w K mg base Fs 1 "_law_bad_roll" ["_law_roll","_law_cell"] (IY))
  (GBook___init__:Bn P w K mg base (GM P w) 4 cB "Book" ["self","people","things"] (Kh K cB x))
  (G_law_kinds:Dn P w K mg base Fs 1 "_law_kinds" ["_law_e"] (Hx x)):Dn P w K mg base Fs 7 "_law_no_roll" ["_law_people","_law_things","_law_cell"] (J0):=by
 have o:=(Gr).nd
 refine M.f__law_no_roll.ok Gr (λvs H Q E h=>?_) (λ_ _ _ _ _ _ C I=>K7 (λ_ _ _=>rfl) C I) (λf aa A W s H vs Q E B h=>?_)
 ·obtain⟨a,b,L,N,c,rfl,hA,J,G,F,I,q⟩:=h
  rfl
 obtain⟨a,b,L,N,c,rfl,hA,J,G,F,I,q⟩:=h
 refine⟨_,(rF (si (rM sY (rO sh (pv 2) rH) rH (Fj _)) (rJ (rL (i:=0) o rfl (Or.inl rfl) (sf G_law_bad_roll B (by decide) rfl Fm (lh (pv 0) (lh (rO sW (pv 2) rH) rG))))) (rJ (rL (i:=1) o rfl (Or.inl rfl) (sf G_law_bad_roll B (by decide) rfl Fm (lh (pv 1) (lh (rO sW (pv 2) rH) rG))))))
   (rF (rL (i:=3) o rfl (Or.inl rfl) uC)
   (rF (Di (ni:=4) rfl rfl o rfl rfl M.x_WishError rfl (En (E7 GBook___init__ B (by decide) rfl (lh (pv 0) (lh (pv 1) rG)))) (λ_=>(rJ (rL (i:=3) o rfl (Or.inl rfl) (pv 4)))))
   (rJ (rP (ua (vb B) (sf G_law_kinds B (by decide) rfl Fm (lh (pv 3) rG)) (sA (lh rX rG)) (Fj _))))))),?_⟩
 have ab:=G.hi
 have ac:=F.hi
 refine⟨_,rfl,c,2,rfl,rfl,by show(0:Int)<2;decide,rfl,_,rfl,FD (λ_=>?_) (λ_=>?_)⟩
 ·refine⟨_,rfl,_,rfl,c,2,rfl,rfl,c9 (by decide) (by decide),a,L,_,rfl,hA,G,λp C j t hp g=>?_⟩
  refine⟨_,rfl,_,rfl,λs0 d v u r=>?_⟩
  have y:upd j d (.own s0) s0=none:=by rw[rQ (Ne.symm r)];exact v
  have l:Same j (upd (upd j d (.own s0)) s0 (.ins cB d [])):=(mJ u _).trans (mJ y _)
  have m:upd (upd j d (.own s0)) s0 (.ins cB d []) s0=some (.ins cB d []):=rE
  generalize upd (upd j d (.own s0)) s0 (.ins cB d [])=H2 at l m ⊢
  refine⟨s0,p,b,d,C,N,rfl,m,SqL.of (l _ _ hp),SqL.of (l _ _ (t _ _ J)),g.1,by omega,g.2.1,F.okw,?_⟩
  refine⟨λ_ Z O=>?_,λT U z3=>absurd (g.2.2 ⟨T,by omega⟩) (λz=>z)⟩
  refine⟨x.NoRoll,rfl,M.s_NoRoll,λe S=>?_⟩
  refine⟨_,rfl,?_⟩
  refine⟨_,rfl,e,x.NoRoll,"NoRoll",rfl,rE,.inr (.inr (.inl ⟨rfl,rfl⟩)),λpk X R V D=>?_⟩
  refine⟨by show 1<=sizeLine;decide,λY n=>?_⟩
  have k:GQ 1 (.list [.str "NoRoll"])=true:=by decide +kernel
  refine⟨_,_,.lst (SqL.of (mJ n _ _ _ D)) (.cons (.str _) .nil) (by simp),.lst (SqL.of rE) (.cons (.str _) .nil) (by simp),sx k (by decide),sx k (by decide),?_⟩
  rw[xw 1 _ k]
  exact q _ (t.trans (l.trans (O.trans ((mJ S _).trans (R.trans (mJ n _))))))

 ·refine⟨_,rfl,_,rfl,c,2,rfl,rfl,c9 (by decide) (by decide),b,N,_,rfl,J,F,λp C j t hp g=>?_⟩
  refine⟨_,rfl,_,rfl,λs0 d v u r=>?_⟩
  have y:upd j d (.own s0) s0=none:=by rw[rQ (Ne.symm r)];exact v
  have l:Same j (upd (upd j d (.own s0)) s0 (.ins cB d [])):=(mJ u _).trans (mJ y _)
  have m:upd (upd j d (.own s0)) s0 (.ins cB d []) s0=some (.ins cB d []):=rE
  generalize upd (upd j d (.own s0)) s0 (.ins cB d [])=H2 at l m ⊢
  refine⟨s0,a,p,d,L,C,rfl,m,SqL.of (l _ _ (t _ _ hA)),SqL.of (l _ _ hp),by omega,g.1,G.okw,g.2.1,?_⟩
  refine⟨λ_ Z O=>?_,λT U z3=>absurd (g.2.2 ⟨U,by omega⟩) (λz=>z)⟩
  refine⟨x.NoRoll,rfl,M.s_NoRoll,λe S=>?_⟩
  refine⟨_,rfl,?_⟩
  refine⟨_,rfl,e,x.NoRoll,"NoRoll",rfl,rE,.inr (.inr (.inl ⟨rfl,rfl⟩)),λpk X R V D=>?_⟩
  refine⟨by show 1<=sizeLine;decide,λY n=>?_⟩
  have k:GQ 1 (.list [.str "NoRoll"])=true:=by decide +kernel
  refine⟨_,_,.lst (SqL.of (mJ n _ _ _ D)) (.cons (.str _) .nil) (by simp),.lst (SqL.of rE) (.cons (.str _) .nil) (by simp),sx k (by decide),sx k (by decide),?_⟩
  rw[xw 1 _ k]
  exact q _ (t.trans (l.trans (O.trans ((mJ S _).trans (R.trans (mJ n _))))))
theorem GF:Fi ["_law_people","_law_xs","_law_person_here","_law_other"] ["_law_people","_law_xs"] (Ff (Fk 66)):=⟨rfl,rfl,rfl,by decide +kernel,rfl,by decide +kernel,by decide +kernel⟩
theorem IS(M:Md K mg x cB):Dn P w K mg base Fs 1 "_law_person" ["_law_people","_law_xs"] (IJ K):=by
 have N:=(GF).nd;refine M.f__law_person.ok GF (λvs H Q E h=>?_) (λ_ _ _ _ _ _ us hl=>HX (λ_ _=>rfl) us hl) (λf af A ab s H vs Q E hr h=>?_)
 ·obtain⟨a,m,l,ns,rfl,hA,n,D,S,q⟩:=h;rfl
 obtain⟨a,m,l,ns,rfl,hA,n,D,S,q⟩:=h;refine⟨_,(rF (rL (i:=2) N rfl (Or.inl rfl) (rR rY (pv 0) (rO sh (rR rY (pv 1) rH (λ_ _=>rfl)) (rK rV rfl M.b_len cU (lh (pv 0) rG))) (λ_ _=>rfl)))
   (rF (si (rM EN (rO sh (rR rY (pv 1) rH (λ_ _=>rfl)) rH) rH (Fj _)) (rJ (rP (pv 2))) rN)
   (rF (rL (i:=3) N rfl (Or.inl rfl) (rR rY (sA (lh (rO sP (pv 2) rX) (lh (sR vt (pv 2) tM (sV (Bo yv rH))) (lh rX (lh (rO sP (sR vt (pv 2) tM (sV (Bo yv rH))) rX) rG))))) (rO sh (rO sW (rR rY (pv 1) rH (λ_ _=>rfl)) rH) rH) (λ_ _=>rfl)))
   (rF (uw db (rM yd (pv 3) (pv 0) (by with_unfolding_all rfl)) (rJ (rL (i:=3) N rfl (Or.inl rfl) (rO sP (pv 3) rX))))
   (rJ (rP (pv 3))))))),?_⟩
 have h1:=n.lo;have h6:=n.hi;have Y:(l.map V.str).length=l.length:=bP ..;have at0:=yo (ns:=ns) (i:=0) (S.symm▸by decide);have aa:=yo (ns:=ns) (i:=1) (S.symm▸by decide);obtain⟨k,hk,G⟩:=xp (x:=ns.getD 0 0) n.lo;have t:(l.map V.str)[k]?=some (.str l[k]):=by rw[bZ,bT G];rfl
 have g:=n.wd _ (cm G);generalize l[k]=z at t g;have U:=g.lo;have ac:=g.hi;have J:z.length<=sizeLine:=cx (Fg (by omega));refine⟨_,rfl,_,rfl,m,_,_,_,rfl,rfl,D,at0,_,rfl,a,_,rfl,.inl hA,_,_,rfl,rfl,yR n.lo,a,_,_,_,rfl,rfl,hA,(by rw[Y,hk];exact sM t),?_⟩;refine⟨_,rfl,m,_,_,_,rfl,rfl,D,aa,_,_,rfl,rfl,by show(0:Int)<7;decide,_,_,rfl,rfl,_,rfl,?_⟩;refine FD (λ_=>⟨_,rfl,q z H (Same.refl _) (by omega) g.asc⟩) (λ_=>?_);have aq:FL "q":=uE (by decide +kernel);have aQ:FL "Q":=uE (by decide +kernel);have az:FL "z":=uE (by decide +kernel);have Z:(b9 "q").length=1:=by decide +kernel
 have lQ:(b9 "Q").length=1:=by decide +kernel
 have O:(b9 "z").length=1:=by decide +kernel
 obtain⟨d,T,ae,I⟩:∃d:Str,gd z none (some (-1))=d/\d.length<=12/\FL d:=⟨_,xE U,by rw[ue,cf];omega,λc hc=>g.asc c (dO (by simpa using hc))⟩;refine⟨_,rfl,_,_,rfl,rfl,by rw[Z];exact cx (Fg (by omega)),?_⟩;refine⟨_,rfl,1,rfl,_,rfl,z,rfl,J,?_⟩;refine⟨_,rfl,1,rfl,_,rfl,z,rfl,J,?_⟩;dsimp only;rw[T];refine⟨_,_,rfl,rfl,by rw[lQ];exact cx (Fg (by omega)),by show 4<=sizeLine;decide,λr W=>?_⟩;have C:Same H (upd H r (.lst [V.str (z++"q"),V.str d,V.str "",V.str (d++"Q")])):=mJ W _;have y:upd H r (.lst [V.str (z++"q"),V.str d,V.str "",V.str (d++"Q")]) r=some (.lst [V.str (z++"q"),V.str d,V.str "",V.str (d++"Q")]):=rE;have m0:=cY (ns.getD 0 0/7) (show(4:Int)≠0 by decide);have m1:=cQ (ns.getD 0 0/7) (show(0:Int)<4 by decide);obtain⟨o,ho,L,p⟩:∃o:Str,HU [V.str (z++"q"),V.str d,V.str "",V.str (d++"Q")] (ns.getD 0 0/7%4)=some (.str o)/\o.length<=13/\FL o:=by
  have:ns.getD 0 0/7%4=0\/ns.getD 0 0/7%4=1\/ns.getD 0 0/7%4=2\/ns.getD 0 0/7%4=3:=by omega
  rcases this with e|e|e|e
  ·rw[e];exact⟨_,rfl,by rw[sH,Z];omega,yG g.asc aq⟩
  ·rw[e];exact⟨_,rfl,by omega,I⟩
  ·rw[e];exact⟨_,rfl,by decide,uE (by decide +kernel)⟩
  ·rw[e];exact⟨_,rfl,by rw[sH,lQ];omega,yG I aQ⟩
 generalize upd H r (.lst [V.str (z++"q"),V.str d,V.str "",V.str (d++"Q")])=H1 at C y ⊢;have X:=C.seq hA;refine⟨_,rfl,m,_,_,_,rfl,rfl,C.seq D,at0,_,_,rfl,rfl,c9 (by decide) (by decide),_,_,rfl,rfl,by show(0:Int)<4;decide,r,_,_,_,rfl,rfl,SqL.of y,ho,?_⟩;refine xu (λj R B=>B=H1/\∃o:Str,R=[some (.ref a),some (.ref m),some (.str z),some (.str o)]/\o.length<=13/\FL o/\j=13-o.length) ⟨_,rfl,o,rfl,L,p,rfl⟩ (λj R B hP=>?_) (λR B Q1 Q2 hQ h=>?_)
 ·obtain⟨rfl,o,rfl,L,p,rfl⟩:=hP;refine⟨_,rfl,_,rfl,a,_,rfl,.inl X,rfl,ul _,_,rfl,?_⟩;show if Jw (.str o) (l.map V.str)=true then _ else _
  rw[ui];refine FD (λF=>?_) (λF=>?_)
  ·have ag:=(n.wd o F).hi;refine⟨_,rfl,o,_,rfl,rfl,by rw[O];exact cx (Fg (by omega)),?_⟩;refine⟨13-(o++"z").length,by rw[sH,O];omega,rfl,o++"z",rfl,by rw[sH,O];omega,yG p az,rfl⟩
  ·exact⟨_,rfl,q o B C (by omega) p⟩
 ·obtain⟨v,e,u,e2,b,ys,e3,z1,z2,z3,k,ek,q⟩:=h;exact⟨v,e,u,e2,b,ys,e3,z1,z2,z3,k,ek,hQ _ _ q⟩
theorem Hf:Fi ["_law_things","_law_xs","_law_words_here","_law_at"] ["_law_things","_law_xs"] (Ff (Fk 67)):=⟨rfl,rfl,rfl,by decide +kernel,rfl,by decide +kernel,by decide +kernel⟩
theorem JA(M:Md K mg x cB)
  (G_law_perm:Dn P w K mg base Fs 1 "_law_perm" ["_law_number","_law_count"] (Lh)):Dn P w K mg base Fs 2 "_law_text" ["_law_things","_law_xs"] (JB K):=by
 have nd:=(Hf).nd
 refine M.f__law_text.ok Hf (λvs H Q E h=>?_) (λ_ _ _ _ _ _ us hl=>HX (λ_ _=>rfl) us hl) (λf ar A ao s H vs Q E hr h=>?_)
 ·obtain⟨a,m,B,ns,rfl,hA,rt,I,h8,q⟩:=h
  rfl
 obtain⟨a,m,B,ns,rfl,hA,rt,I,h8,q⟩:=h
 refine⟨_,(rF (tq (i:=2) nd rfl rfl rfl rfl (N:=["_law_k","_law_things"]) (caps:=[none,some 0]) (CompOk.of (by kernel_rfl)) (sj rfl) (tE (sf G_law_perm hr (by decide) rfl Fm (lh (rR rY (pv 1) rH (λ_ _=>rfl)) (lh (rK rV rfl M.b_len cU (lh (pv 0) rG)) rG)))) (λ_ _ _ _=>(rS (i:=0) (show(["_law_k","_law_things"]:List Str).Nodup by decide +kernel) rfl (Or.inl rfl) (Or.inr rfl))) (λ_ _ _ _=>sQ) (λ_ _ _ _=>(rR (t9 (K:=K) rfl) (pv 1) (pv 0) (λ_ _=>rfl))))
   (rF (rL (i:=3) nd rfl (Or.inl rfl) (rO sh (rO sW (rR rY (pv 1) rH (λ_ _=>rfl)) rH) (rK rV rfl M.b_len cU (lh (pv 2) rG))))
   (rF (si (rM sY (rO sh (rR rY (pv 1) rH (λ_ _=>rfl)) rH) rH (Fj _)) (rJ (vp (rR rY (pv 2) (rO wJ (pv 3) rH) (λ_ _=>rfl)) (we (pv 2) (pv 3) vG))) rN)
   (rF (si (rM sY (rO sh (rR rY (pv 1) rH (λ_ _=>rfl)) rH) rH (Fj _)) (rJ (su (tL cu PySem.F.slot_list_pop PySem.F.type_list_pop Cg (pv 2) (lh (pv 3) rG)))) rN)
   (rF (si (rM sY (rO sh (rR rY (pv 1) rH (λ_ _=>rfl)) rH) rH (Fj _)) (rJ (vp (rO sP (rR rY (pv 2) (pv 3) (λ_ _=>rfl)) rX) (we (pv 2) (pv 3) vG))) rN)
   (rF (si (rM sY (rO sh (rR rY (pv 1) rH (λ_ _=>rfl)) rH) rH (Fj _)) (rJ (su (tL cu kt ku yi (pv 2) (lh (pv 3) (lh rX rG))))) rN)
   (rF (si (rM sY (rO sh (rR rY (pv 1) rH (λ_ _=>rfl)) rH) rH (Fj _)) (rJ (vp (rO sP (rR rY (pv 2) (pv 3) (λ_ _=>rfl)) rX) (we (pv 2) (pv 3) vG))) rN)
   (rF (si (rM sY (rO sh (rR rY (pv 1) rH (λ_ _=>rfl)) rH) rH (Fj _)) (rJ (su (tL cu cK cL sq (pv 2) (lh (rR rY (pv 2) (pv 3) (λ_ _=>rfl)) rG)))) rN)
   (rJ (rP (tL gW PySem.F.slot_str_join PySem.F.type_str_join DQ rX (lh (pv 2) rG)))))))))))),?_⟩
 have ag:(1:Nat)<=sizeLine:=by decide
 have h1:=rt.lo
 have h6:=rt.hi
 have aj:(B.map V.str).length=B.length:=bP ..
 have ai:=yo (ns:=ns) (i:=2) (h8.symm▸by decide)
 have b:=yo (ns:=ns) (i:=3) (h8.symm▸by decide)
 refine⟨_,rfl,m,_,_,_,rfl,rfl,I,ai,_,rfl,a,_,rfl,.inl hA,ns.getD 2 0,B.length,by rw[aj];rfl,by omega,λp0 H1 S1 aq X=>?_⟩
 generalize ns.getD 2 0=num at X
 obtain⟨D,ab,ae⟩:=C9 (num:=num) rt
 have ak:=S1.seq hA
 refine⟨p0,rfl,⟨_,SqL.of X⟩,?_⟩
 refine tm (xs:=(LM.perm num B.length).map V.int) (λj ys S=>S=H1/\ys=(Fz B ((LM.perm num B.length).take j)).map V.str) ⟨rfl,rfl⟩ (λj ys S _ Y=>by rw[Y.1];exact SqL.of X) (λj y ys S hy Y=>?_) (λys S Y l hl=>?_)
 ·obtain⟨rfl,rfl⟩:=Y
  rw[bZ]at hy
  cases T:(LM.perm num B.length)[j]? with
  | none=>rw[T]at hy;cases hy
  | some t=>
   rw[T]at hy
   have an:V.int t=y:=Option.some.inj hy
   subst an
   have af:=AW t (cz T)
   have hj:=(b8.mp T).1
   rw[LM.perm_len]at hj
   have am:(B.map V.str)[t.toNat]?=some (.str (B.getD t.toNat fu)):=by rw[bZ,bR,bT af.2];rfl
   refine⟨_,rfl,_,rfl,a,_,t,_,rfl,rfl,ak,tJ af.1 am,Fg (by unfold Fz;rw[bP,bP,cf];omega),rfl,?_⟩
   unfold Fz
   rw[cv,T,cb,cb]
   rfl
 obtain⟨rfl,rfl⟩:=Y
 rw[bP,cI]
 have S2:Same S (upd S l (.lst ((Fz B (LM.perm num B.length)).map V.str))):=mJ hl _
 have r:upd S l (.lst ((Fz B (LM.perm num B.length)).map V.str)) l=some (.lst ((Fz B (LM.perm num B.length)).map V.str)):=rE
 have L:H l=none:=S1.free hl
 generalize upd S l (.lst ((Fz B (LM.perm num B.length)).map V.str))=C at S2 r ⊢
 generalize Fz B (LM.perm num B.length)=d at D ab ae r
 have O:=S1.trans S2
 have G:(d.map V.str).length=d.length:=bP ..
 have ac:1<=d.length:=by rw[ae];exact h1
 obtain⟨k,hk,J⟩:=xp (x:=ns.getD 3 0/16) ac
 have c:(0:Int)<16:=by decide
 refine⟨_,rfl,m,_,_,_,rfl,rfl,O.seq I,b,_,_,rfl,rfl,c9 (by decide) (by decide),_,rfl,l,_,rfl,.inl (SqL.of r),_,_,rfl,rfl,yR ac,?_⟩
 dsimp only
 rw[G,hk]
 have R:(d.map V.str)[k]?=some (.str d[k]):=by rw[bZ,bT J];rfl
 have ah:=D.wd _ (cm J)
 have ap:=(rt.wd _ (ab _ (cm J))).hi
 have Z:=D.cs _ (cm J)
 have aa:Lb (d.map V.str).length (k:Int)=some k:=by
  rw[G]
  exact Eo J
 have n:=O.seq I
 have lq:(b9 "q").length=1:=by decide +kernel
 have lc:(b9 ",").length=1:=by decide +kernel
 have U:ns.getD 3 0%16=1\/ns.getD 3 0%16=3\/ns.getD 3 0%16=5\/ns.getD 3 0%16=7\/ns.getD 3 0%16=9\/ns.getD 3 0%16=11\/(ns.getD 3 0%16≠1/\ns.getD 3 0%16≠3/\ns.getD 3 0%16≠5/\ns.getD 3 0%16≠7/\ns.getD 3 0%16≠9/\ns.getD 3 0%16≠11):=LI _
 rcases U with e|e|e|e|e|e|e
 ·refine⟨_,rfl,m,_,_,_,rfl,rfl,n,b,_,_,rfl,rfl,c,rfl,_,rfl,FC (by show V.int (ns.getD 3 0%16)=V.int 1;rw[e]) ?_⟩
  obtain⟨v,hv⟩:∃v,d[if k=0 then d.length-1 else k-1]?=some v:=⟨_,bT (by split <;> omega)⟩
  have al:HU (d.map V.str) ((k:Int)-1)=some (.str v):=zq (by rw[G];exact J) (by rw[G,bZ,hv];rfl)
  refine⟨_,rfl,_,rfl,_,_,rfl,rfl,l,_,_,_,rfl,rfl,SqL.of r,al,_,rfl,_,rfl,l,_,_,_,rfl,rfl,r,aa,?_⟩
  have u:Same H (upd C l (.lst ((d.map V.str).set k (.str v)))):=O.over L _
  have p:upd C l (.lst ((d.map V.str).set k (.str v))) l=some (.lst ((d.set k v).map V.str)):=by rw[rE,lg]
  generalize upd C l (.lst ((d.map V.str).set k (.str v)))=W at u p ⊢
  have g:TxtOk (d.set k v):=D.set (D.wd v (cz hv)) (D.cs v (cz hv))
  have o:=u.seq I
  refine⟨_,rfl,m,_,_,_,rfl,rfl,o,b,_,_,rfl,rfl,c,rfl,_,rfl,Fo (G5 e (by decide)) ?_⟩
  refine⟨_,rfl,m,_,_,_,rfl,rfl,o,b,_,_,rfl,rfl,c,rfl,_,rfl,Fo (G5 e (by decide)) ?_⟩
  refine⟨_,rfl,m,_,_,_,rfl,rfl,o,b,_,_,rfl,rfl,c,rfl,_,rfl,Fo (G5 e (by decide)) ?_⟩
  refine⟨_,rfl,m,_,_,_,rfl,rfl,o,b,_,_,rfl,rfl,c,rfl,_,rfl,Fo (G5 e (by decide)) ?_⟩
  refine⟨_,rfl,m,_,_,_,rfl,rfl,o,b,_,_,rfl,rfl,c,rfl,_,rfl,Fo (G5 e (by decide)) ?_⟩
  exact⟨rfl,_,rfl,_,l,_,rfl,rfl,SqL.of p,by decide,g.sumk,q _ _ u g.out.1 g.out.2.1 g.out.2.2⟩
 ·refine⟨_,rfl,m,_,_,_,rfl,rfl,n,b,_,_,rfl,rfl,c,rfl,_,rfl,Fo (G5 e (by decide)) ?_⟩
  refine⟨_,rfl,m,_,_,_,rfl,rfl,n,b,_,_,rfl,rfl,c,rfl,_,rfl,FC (by show V.int (ns.getD 3 0%16)=V.int 3;rw[e]) ?_⟩
  refine⟨_,rfl,.inl ⟨rfl,_,SqL.of r⟩,_,rfl,l,_,_,k,_,rfl,rfl,r,by omega,by omega,(by rw[G,lT (by omega) (by omega)];exact congrArg some (by omega)),R,?_⟩
  have u:Same H (upd C l (.lst ((d.map V.str).eraseIdx k))):=O.over L _
  have p:upd C l (.lst ((d.map V.str).eraseIdx k)) l=some (.lst ((d.eraseIdx k).map V.str)):=by rw[rE,vj]
  generalize upd C l (.lst ((d.map V.str).eraseIdx k))=W at u p ⊢
  have g:TxtOk (d.eraseIdx k):=D.erase
  have o:=u.seq I
  refine⟨_,rfl,m,_,_,_,rfl,rfl,o,b,_,_,rfl,rfl,c,rfl,_,rfl,Fo (G5 e (by decide)) ?_⟩
  refine⟨_,rfl,m,_,_,_,rfl,rfl,o,b,_,_,rfl,rfl,c,rfl,_,rfl,Fo (G5 e (by decide)) ?_⟩
  refine⟨_,rfl,m,_,_,_,rfl,rfl,o,b,_,_,rfl,rfl,c,rfl,_,rfl,Fo (G5 e (by decide)) ?_⟩
  refine⟨_,rfl,m,_,_,_,rfl,rfl,o,b,_,_,rfl,rfl,c,rfl,_,rfl,Fo (G5 e (by decide)) ?_⟩
  exact⟨rfl,_,rfl,_,l,_,rfl,rfl,SqL.of p,by decide,g.sumk,q _ _ u g.out.1 g.out.2.1 g.out.2.2⟩
 ·refine⟨_,rfl,m,_,_,_,rfl,rfl,n,b,_,_,rfl,rfl,c,rfl,_,rfl,Fo (G5 e (by decide)) ?_⟩
  refine⟨_,rfl,m,_,_,_,rfl,rfl,n,b,_,_,rfl,rfl,c,rfl,_,rfl,Fo (G5 e (by decide)) ?_⟩
  refine⟨_,rfl,m,_,_,_,rfl,rfl,n,b,_,_,rfl,rfl,c,rfl,_,rfl,FC (by show V.int (ns.getD 3 0%16)=V.int 5;rw[e]) ?_⟩
  refine⟨_,rfl,_,rfl,l,_,_,_,rfl,rfl,SqL.of r,sM R,_,_,rfl,rfl,by rw[lq];exact cx (Fg (by omega)),_,rfl,_,rfl,l,_,_,_,rfl,rfl,r,aa,?_⟩
  have u:Same H (upd C l (.lst ((d.map V.str).set k (.str (d[k]++"q"))))):=O.over L _
  have p:upd C l (.lst ((d.map V.str).set k (.str (d[k]++"q")))) l=some (.lst ((d.set k (d[k]++"q")).map V.str)):=by rw[rE,lg]
  generalize upd C l (.lst ((d.map V.str).set k (.str (d[k]++"q"))))=W at u p ⊢
  have g:TxtOk (d.set k (d[k]++"q")):=D.set (by rw[sH,lq];omega) (Dq Z (A9 (by decide +kernel)))
  have o:=u.seq I
  refine⟨_,rfl,m,_,_,_,rfl,rfl,o,b,_,_,rfl,rfl,c,rfl,_,rfl,Fo (G5 e (by decide)) ?_⟩
  refine⟨_,rfl,m,_,_,_,rfl,rfl,o,b,_,_,rfl,rfl,c,rfl,_,rfl,Fo (G5 e (by decide)) ?_⟩
  refine⟨_,rfl,m,_,_,_,rfl,rfl,o,b,_,_,rfl,rfl,c,rfl,_,rfl,Fo (G5 e (by decide)) ?_⟩
  exact⟨rfl,_,rfl,_,l,_,rfl,rfl,SqL.of p,by decide,g.sumk,q _ _ u g.out.1 g.out.2.1 g.out.2.2⟩
 ·refine⟨_,rfl,m,_,_,_,rfl,rfl,n,b,_,_,rfl,rfl,c,rfl,_,rfl,Fo (G5 e (by decide)) ?_⟩
  refine⟨_,rfl,m,_,_,_,rfl,rfl,n,b,_,_,rfl,rfl,c,rfl,_,rfl,Fo (G5 e (by decide)) ?_⟩
  refine⟨_,rfl,m,_,_,_,rfl,rfl,n,b,_,_,rfl,rfl,c,rfl,_,rfl,Fo (G5 e (by decide)) ?_⟩
  refine⟨_,rfl,m,_,_,_,rfl,rfl,n,b,_,_,rfl,rfl,c,rfl,_,rfl,FC (by show V.int (ns.getD 3 0%16)=V.int 7;rw[e]) ?_⟩
  refine⟨_,rfl,.inl ⟨rfl,_,SqL.of r⟩,_,rfl,l,_,_,_,rfl,rfl,r,by omega,by rw[G];omega,Fg (by rw[G];omega),?_⟩
  dsimp only
  rw[show(k:Int).toNat=k by omega]
  have u:Same H (upd C l (.lst ((d.map V.str).take k++V.str ""::(d.map V.str).drop k))):=O.over L _
  have p:upd C l (.lst ((d.map V.str).take k++V.str ""::(d.map V.str).drop k)) l=some (.lst ((d.take k++b9 ""::d.drop k).map V.str)):=by rw[rE,cb,dh,kf,kg]
  generalize upd C l (.lst ((d.map V.str).take k++V.str ""::(d.map V.str).drop k))=W at u p ⊢
  have g:TxtOk (d.take k++b9 ""::d.drop k):=D.more (by omega) (by decide) (A9 (by decide +kernel))
  have o:=u.seq I
  refine⟨_,rfl,m,_,_,_,rfl,rfl,o,b,_,_,rfl,rfl,c,rfl,_,rfl,Fo (G5 e (by decide)) ?_⟩
  refine⟨_,rfl,m,_,_,_,rfl,rfl,o,b,_,_,rfl,rfl,c,rfl,_,rfl,Fo (G5 e (by decide)) ?_⟩
  exact⟨rfl,_,rfl,_,l,_,rfl,rfl,SqL.of p,by decide,g.sumk,q _ _ u g.out.1 g.out.2.1 g.out.2.2⟩
 ·refine⟨_,rfl,m,_,_,_,rfl,rfl,n,b,_,_,rfl,rfl,c,rfl,_,rfl,Fo (G5 e (by decide)) ?_⟩
  refine⟨_,rfl,m,_,_,_,rfl,rfl,n,b,_,_,rfl,rfl,c,rfl,_,rfl,Fo (G5 e (by decide)) ?_⟩
  refine⟨_,rfl,m,_,_,_,rfl,rfl,n,b,_,_,rfl,rfl,c,rfl,_,rfl,Fo (G5 e (by decide)) ?_⟩
  refine⟨_,rfl,m,_,_,_,rfl,rfl,n,b,_,_,rfl,rfl,c,rfl,_,rfl,Fo (G5 e (by decide)) ?_⟩
  refine⟨_,rfl,m,_,_,_,rfl,rfl,n,b,_,_,rfl,rfl,c,rfl,_,rfl,FC (by show V.int (ns.getD 3 0%16)=V.int 9;rw[e]) ?_⟩
  refine⟨_,rfl,_,rfl,l,_,_,_,rfl,rfl,SqL.of r,sM R,_,_,rfl,rfl,by rw[lc];exact cx (Fg (by omega)),_,rfl,_,rfl,l,_,_,_,rfl,rfl,r,aa,?_⟩
  have u:Same H (upd C l (.lst ((d.map V.str).set k (.str (d[k]++","))))):=O.over L _
  have p:upd C l (.lst ((d.map V.str).set k (.str (d[k]++",")))) l=some (.lst ((d.set k (d[k]++",")).map V.str)):=by rw[rE,lg]
  generalize upd C l (.lst ((d.map V.str).set k (.str (d[k]++","))))=W at u p ⊢
  have g:TxtOk (d.set k (d[k]++",")):=D.set (by rw[sH,lc];omega) (Dq Z (A9 (by decide +kernel)))
  have o:=u.seq I
  refine⟨_,rfl,m,_,_,_,rfl,rfl,o,b,_,_,rfl,rfl,c,rfl,_,rfl,Fo (G5 e (by decide)) ?_⟩
  exact⟨rfl,_,rfl,_,l,_,rfl,rfl,SqL.of p,by decide,g.sumk,q _ _ u g.out.1 g.out.2.1 g.out.2.2⟩
 ·refine⟨_,rfl,m,_,_,_,rfl,rfl,n,b,_,_,rfl,rfl,c,rfl,_,rfl,Fo (G5 e (by decide)) ?_⟩
  refine⟨_,rfl,m,_,_,_,rfl,rfl,n,b,_,_,rfl,rfl,c,rfl,_,rfl,Fo (G5 e (by decide)) ?_⟩
  refine⟨_,rfl,m,_,_,_,rfl,rfl,n,b,_,_,rfl,rfl,c,rfl,_,rfl,Fo (G5 e (by decide)) ?_⟩
  refine⟨_,rfl,m,_,_,_,rfl,rfl,n,b,_,_,rfl,rfl,c,rfl,_,rfl,Fo (G5 e (by decide)) ?_⟩
  refine⟨_,rfl,m,_,_,_,rfl,rfl,n,b,_,_,rfl,rfl,c,rfl,_,rfl,Fo (G5 e (by decide)) ?_⟩
  refine⟨_,rfl,m,_,_,_,rfl,rfl,n,b,_,_,rfl,rfl,c,rfl,_,rfl,FC (by show V.int (ns.getD 3 0%16)=V.int 11;rw[e]) ?_⟩
  refine⟨_,rfl,.inl ⟨rfl,_,SqL.of r⟩,_,rfl,_,rfl,l,_,_,_,rfl,rfl,SqL.of r,sM R,l,_,_,rfl,rfl,r,Fg (by rw[G];omega),?_⟩
  have u:Same H (upd C l (.lst (d.map V.str++[V.str d[k]]))):=O.over L _
  have p:upd C l (.lst (d.map V.str++[V.str d[k]])) l=some (.lst ((d++[d[k]]).map V.str)):=by rw[rE,cb];rfl
  generalize upd C l (.lst (d.map V.str++[V.str d[k]]))=W at u p ⊢
  have g:TxtOk (d++[d[k]]):=(by have z:=D.more (k:=d.length) (by omega) ah Z;rw[cI,List.drop_length]at z;exact z)
  have o:=u.seq I
  exact⟨rfl,_,rfl,_,l,_,rfl,rfl,SqL.of p,by decide,g.sumk,q _ _ u g.out.1 g.out.2.1 g.out.2.2⟩
 ·refine⟨_,rfl,m,_,_,_,rfl,rfl,n,b,_,_,rfl,rfl,c,rfl,_,rfl,Fo (λz=>e.1 (Kn z)) ?_⟩
  refine⟨_,rfl,m,_,_,_,rfl,rfl,n,b,_,_,rfl,rfl,c,rfl,_,rfl,Fo (λz=>e.2.1 (Kn z)) ?_⟩
  refine⟨_,rfl,m,_,_,_,rfl,rfl,n,b,_,_,rfl,rfl,c,rfl,_,rfl,Fo (λz=>e.2.2.1 (Kn z)) ?_⟩
  refine⟨_,rfl,m,_,_,_,rfl,rfl,n,b,_,_,rfl,rfl,c,rfl,_,rfl,Fo (λz=>e.2.2.2.1 (Kn z)) ?_⟩
  refine⟨_,rfl,m,_,_,_,rfl,rfl,n,b,_,_,rfl,rfl,c,rfl,_,rfl,Fo (λz=>e.2.2.2.2.1 (Kn z)) ?_⟩
  refine⟨_,rfl,m,_,_,_,rfl,rfl,n,b,_,_,rfl,rfl,c,rfl,_,rfl,Fo (λz=>e.2.2.2.2.2 (Kn z)) ?_⟩
  exact⟨rfl,_,rfl,_,l,_,rfl,rfl,SqL.of r,by decide,D.sumk,q _ _ O D.out.1 D.out.2.1 D.out.2.2⟩
theorem Hs:Fi ["_law_people","_law_things","_law_xs","_law_way","_law_top","_law_number"] ["_law_people","_law_things","_law_xs"] (Ff (Fk 68)):=⟨rfl,rfl,rfl,by decide +kernel,rfl,by decide +kernel,by decide +kernel⟩
theorem Jz(M:Md K mg x cB)
  (G_law_person:Dn P w K mg base Fs 1 "_law_person" ["_law_people","_law_xs"] (IJ K))
  (G_law_text:Dn P w K mg base Fs 2 "_law_text" ["_law_things","_law_xs"] (JB K))
  (G_law_lowest:Dn P w K mg base Fs 2 "_law_lowest" ["_law_top","_law_bottom"] (JN)):Dn P w K mg base Fs 3 "_law_deed" ["_law_people","_law_things","_law_xs"] (JT K):=by
 have nd:=(Hs).nd
 refine M.f__law_deed.ok Hs (λvs H Q E h=>?_) (λ_ _ _ _ _ _ us hl=>K7 (λ_ _ _=>rfl) us hl) (λf aD A aC s H vs Q E W h=>?_)
 ·obtain⟨a,b,m,ps,ts,ns,rfl,hA,rp,hB,rt,B,X,q⟩:=h
  rfl
 obtain⟨a,b,m,ps,ts,ns,rfl,hA,rp,hB,rt,B,X,q⟩:=h
 refine⟨_,(K6.h (AV (Bb (i:=3) (is:=["eaten","turns","eaten","turns","eaten","Turns","","eaten "]) nd rfl (Or.inl rfl) rY rfl (rO sh (rR rY (pv 2) rH (λ_ _=>rfl)) rH) (λ_ _=>rfl))
   (vH (si (rM z6 (rO sh (rR rY (pv 2) rH (λ_ _=>rfl)) rH) rH (Fj _)) (rJ (rP (sw (lh rX (lh (sf G_law_person W (by decide) rfl Fm (lh (pv 0) (lh (pv 2) rG))) (lh (sf G_law_text W (by decide) rfl Fm (lh (pv 1) (lh (pv 2) rG))) rG)))))) rN)
   (vH (si (rM sY (rO sh (rR rY (pv 2) rH (λ_ _=>rfl)) rH) rH (Fj _)) (rJ (rP (sw (lh rX (lh (sf G_law_person W (by decide) rfl Fm (lh (pv 0) (lh (pv 2) rG))) (lh (pv 3) rG)))))) rN)
   (vH (rL (i:=4) nd rfl (Or.inl rfl) (rO sh (rR rY (pv 2) rH (λ_ _=>rfl)) rH))
   (vH (rL (i:=5) nd rfl (Or.inl rfl) (rR rY (sA (lh (sw (lh (pv 4) (lh rH rG))) (lh (sw (lh (pv 4) (lh rH rG))) (lh (sw (lh rH (lh rH rG))) (lh (sw (lh rH (lh rH rG))) (lh (sw (lh (rO sJ rH (pv 4)) (lh rH rG))) (lh (sw (lh (rO wJ (Bo yv rH) (pv 4)) (lh rH rG))) rG))))))) (rO sh (rR rY (pv 2) rH (λ_ _=>rfl)) rH) (λ_ _=>rfl)))
   (Ev (rJ (rP (sw (lh rX (lh (pv 3) (lh (sf G_law_lowest W (by decide) rfl Fm (lh (rR rZ (pv 5) rH (λ_ _=>rfl)) (lh (rR rZ (pv 5) rH (λ_ _=>rfl)) rG))) rG))))))))))))),?_⟩
 have c:(2:Nat)<=sizeLine:=by decide
 have l:(3:Nat)<=sizeLine:=by decide
 have az:=yo (ns:=ns) (i:=4) (by omega)
 have af:=yo (ns:=ns) (i:=5) (by omega)
 have ap:=yo (ns:=ns) (i:=6) (by omega)
 have ay:=yo (ns:=ns) (i:=7) (by omega)
 have w0:=cY (ns.getD 4 0) (show(8:Int)≠0 by decide)
 have w1:=cQ (ns.getD 4 0) (show(0:Int)<8 by decide)
 obtain⟨ab,ah⟩:=Ep w0 w1
 refine⟨by show 8<=sizeLine;decide,λI ai=>?_⟩
 have k:Same H (upd H I (.lst (HP.map V.str))):=mJ ai _
 have J:upd H I (.lst (HP.map V.str)) I=some (.lst (HP.map V.str)):=rE
 change MH _ _ _ _ (upd H I (.lst (HP.map V.str))) _
 generalize upd H I (.lst (HP.map V.str))=H0 at k J ⊢
 refine⟨_,rfl,m,_,_,_,rfl,rfl,k.seq B,az,_,_,rfl,rfl,by show(0:Int)<8;decide,I,_,_,_,rfl,rfl,SqL.of J,ah,?_⟩
 refine⟨_,rfl,m,_,_,_,rfl,rfl,k.seq B,af,_,_,rfl,rfl,by show(0:Int)<4;decide,_,_,rfl,rfl,_,rfl,?_⟩
 refine FD (λ_=>?_) (λ_=>?_)
 ·refine⟨_,rfl,_,rfl,a,m,ps,ns,rfl,k.seq hA,rp,k.seq B,X,λp G S1 ax aw=>?_⟩
  have O:=k.trans S1
  refine⟨_,rfl,_,rfl,b,m,ts,ns,rfl,O.seq hB,rt,O.seq B,X,λt L S2 an aA aB=>?_⟩
  refine⟨l,λR z=>q _ (.wish p t) _ (O.trans (S2.trans (mJ z _))) ⟨R,rfl,SqT.of rE,an,aA,aB⟩⟩
 refine⟨_,rfl,m,_,_,_,rfl,rfl,k.seq B,af,_,_,rfl,rfl,by show(0:Int)<4;decide,rfl,_,rfl,?_⟩
 refine FD (λ_=>?_) (λ_=>?_)
 ·refine⟨_,rfl,_,rfl,a,m,ps,ns,rfl,k.seq hA,rp,k.seq B,X,λp G S1 ax aw=>?_⟩
  refine⟨_,rfl,l,λR z=>q _ (.shares p ab) _ (k.trans (S1.trans (mJ z _))) ⟨R,rfl,SqT.of rE⟩⟩
 refine⟨_,rfl,m,_,_,_,rfl,rfl,k.seq B,ap,_,_,rfl,rfl,by show(0:Int)<1009;decide,?_⟩
 have t0:=cY (ns.getD 6 0) (show(1009:Int)≠0 by decide)
 have t1:=cQ (ns.getD 6 0) (show(0:Int)<1009 by decide)
 dsimp only
 generalize ns.getD 6 0%1009=j at t0 t1
 refine⟨_,rfl,c,λn am=>?_⟩
 have T1:Same H0 (upd H0 n (.tup [.int j,.int 1009])):=mJ am _
 have e1:upd H0 n (.tup [.int j,.int 1009]) n=some (.tup [.int j,.int 1009]):=rE
 generalize upd H0 n (.tup [.int j,.int 1009])=G at T1 e1 ⊢
 refine⟨_,rfl,c,λr aq=>?_⟩
 have T2:Same G (upd G r (.tup [.int j,.int 1009])):=mJ aq _
 have e2:upd G r (.tup [.int j,.int 1009]) r=some (.tup [.int j,.int 1009]):=rE
 generalize upd G r (.tup [.int j,.int 1009])=L at T2 e2 ⊢
 refine⟨c,λy ak=>?_⟩
 have U:Same L (upd L y (.tup [.int 0,.int 1])):=mJ ak _
 have e3:upd L y (.tup [.int 0,.int 1]) y=some (.tup [.int 0,.int 1]):=rE
 generalize upd L y (.tup [.int 0,.int 1])=T at U e3 ⊢
 refine⟨c,λo ar=>?_⟩
 have S:Same T (upd T o (.tup [.int 1,.int 1])):=mJ ar _
 have e4:upd T o (.tup [.int 1,.int 1]) o=some (.tup [.int 1,.int 1]):=rE
 generalize upd T o (.tup [.int 1,.int 1])=Y at S e4 ⊢
 refine⟨_,rfl,_,_,rfl,rfl,c,λu ao=>?_⟩
 have F:Same Y (upd Y u (.tup [.int (1009+j),.int 1009])):=mJ ao _
 have e5:upd Y u (.tup [.int (1009+j),.int 1009]) u=some (.tup [.int (1009+j),.int 1009]):=rE
 generalize upd Y u (.tup [.int (1009+j),.int 1009])=H5 at F e5 ⊢
 refine⟨1,rfl,_,rfl,_,_,rfl,rfl,c,λv aa=>?_⟩
 dsimp only at aa ⊢
 have D:Same H5 (upd H5 v (.tup [.int (-1-j),.int 1009])):=mJ aa _
 have e6:upd H5 v (.tup [.int (-1-j),.int 1009]) v=some (.tup [.int (-1-j),.int 1009]):=rE
 generalize upd H5 v (.tup [.int (-1-j),.int 1009])=Z at D e6 ⊢
 refine⟨by show 6<=sizeLine;decide,λN al=>?_⟩
 have C:Same Z (upd Z N (.lst [.ref n,.ref r,.ref y,.ref o,.ref u,.ref v])):=mJ al _
 have e7:upd Z N (.lst [.ref n,.ref r,.ref y,.ref o,.ref u,.ref v]) N=some (.lst [.ref n,.ref r,.ref y,.ref o,.ref u,.ref v]):=rE
 generalize upd Z N (.lst [.ref n,.ref r,.ref y,.ref o,.ref u,.ref v])=H7 at C e7 ⊢
 have ae:=k.trans (T1.trans (T2.trans (U.trans (S.trans (F.trans (D.trans C))))))
 have m0:=cY (ns.getD 7 0) (show(6:Int)≠0 by decide)
 have m1:=cQ (ns.getD 7 0) (show(0:Int)<6 by decide)
 obtain⟨pn,t,d,au,ac,hd,aj,ag⟩:∃(pn:bV) (t d:Int),HU [V.ref n,.ref r,.ref y,.ref o,.ref u,.ref v] (ns.getD 7 0%6)=some (.ref pn)/\H7 pn=some (.tup [.int t,.int d])/\0<d/\t.natAbs<4000/\d.natAbs<4000:=by
  have:ns.getD 7 0%6=0\/ns.getD 7 0%6=1\/ns.getD 7 0%6=2\/ns.getD 7 0%6=3\/ns.getD 7 0%6=4\/ns.getD 7 0%6=5:=by omega
  rcases this with e|e|e|e|e|e
  ·rw[e];exact⟨n,_,_,rfl,C _ _ (D _ _ (F _ _ (S _ _ (U _ _ (T2 _ _ e1))))),by decide,by omega,by decide⟩
  ·rw[e];exact⟨r,_,_,rfl,C _ _ (D _ _ (F _ _ (S _ _ (U _ _ e2)))),by decide,by omega,by decide⟩
  ·rw[e];exact⟨y,_,_,rfl,C _ _ (D _ _ (F _ _ (S _ _ e3))),by decide,by decide,by decide⟩
  ·rw[e];exact⟨o,_,_,rfl,C _ _ (D _ _ (F _ _ e4)),by decide,by decide,by decide⟩
  ·rw[e];exact⟨u,_,_,rfl,C _ _ (D _ _ e5),by decide,by omega,by decide⟩
  ·rw[e];exact⟨v,_,_,rfl,C _ _ e6,by decide,by omega,by decide⟩
 have av:d.natAbs<2^9000:=ci ag (cG (show 4000<=2^12 by decide) (dM (by decide) (by decide)))
 refine⟨_,rfl,m,_,_,_,rfl,rfl,ae.seq B,ay,_,_,rfl,rfl,by show(0:Int)<6;decide,N,_,_,_,rfl,rfl,SqL.of e7,au,?_⟩
 refine⟨_,rfl,_,rfl,pn,_,0,_,rfl,rfl,SqT.of ac,rfl,_,rfl,pn,_,1,_,rfl,rfl,SqT.of ac,rfl,t,d,rfl,hd,av,λg H8 S8 hg=>?_⟩
 have hn:=M1 hd aj ag
 refine⟨l,λR z=>q _ (.deal ab (FQ.red t d)) _ (ae.trans (S8.trans (mJ z _))) ⟨R,g,rfl,SqT.of rE,?_,hn.1,hn.2⟩⟩
 exact SqT.of (mJ z _ _ _ hg)
theorem HY:Fi ["_law_people","_law_things","_law_lacks","_law_deed_here","_law_way"] ["_law_people","_law_things","_law_lacks","_law_deed_here"] (Ff (Fk 69)):=⟨rfl,rfl,rfl,by decide +kernel,rfl,by decide +kernel,by decide +kernel⟩
theorem Kx(M:Md K mg x cB):Dn P w K mg base Fs 1 "_law_due" ["_law_people","_law_things","_law_lacks","_law_deed_here"] (K1 K):=by
 have nd:=(HY).nd;refine M.f__law_due.ok HY (λvs H Q E h=>?_) (λ_ _ _ _ _ _ Z hl=>Oj (λ_ _ _ _=>rfl) Z hl) (λf aD A az s H vs Q E hr h=>?_)
 ·obtain⟨a,b,l,v,y,G,u,D,rfl,hA,hB,aa,aj,hL,ag,an,hD,q⟩:=h;rfl
 obtain⟨a,b,l,v,y,G,u,D,rfl,hA,hB,aa,aj,hL,ag,an,hD,q⟩:=h;refine⟨_,(rF (si (PW.pt (uA (rM xZ (rR rZ (pv 3) rH (λ_ _=>rfl)) rX (Fj _)) (uD (rM tI (rR rZ (pv 3) rH (λ_ _=>rfl)) (pv 0) (by with_unfolding_all rfl))))) (rJ (rP (sA (lh rX rG)))) rN)
   (rF (si (rM sY (rR rZ (pv 3) rH (λ_ _=>rfl)) rX (Fj _)) (rJ (rP (rR rY (sA (lh (sA (lh rX rG)) (lh (sA rG) rG))) (sv A7 rfl M.b_int Boot.«int» (lh (ua (vb hr) (rK (tW) rfl M.b_sorted Boot.«sorted» (lh (tL gW kQ lj zz (rR rZ (pv 3) rH (λ_ _=>rfl)) (lh rX rG)) rG)) (rK (tW) rfl M.b_sorted Boot.«sorted» (lh (pv 1) rG)) (Fj _)) rG)) (λ_ _=>rfl)))) rN)
   (rF (si (rM (vW hr) (pv 2) (sA rG) (Fj _)) (rJ (rP (sA (lh rX rG)))) rN)
   (rF (rL (i:=4) nd rfl (Or.inl rfl) (rR rZ (pv 3) rH (λ_ _=>rfl)))
   (rF (si (rM sY (rR rZ (pv 3) rH (λ_ _=>rfl)) rX (Fj _)) (rJ (rL (i:=4) nd rfl (Or.inl rfl) (rR rZ (pv 3) rH (λ_ _=>rfl)))) rN)
   (rF (si (rM tI (pv 4) (sw (lh rX (lh rX rG))) (by with_unfolding_all rfl)) (rJ (rP (sA (lh rX rG)))) rN)
   (rF (si (PW.pt (uA (rM sY (rR rZ (pv 3) rH (λ_ _=>rfl)) rX (Fj _)) (uD (tS (zf AL z6 rH (rR rZ (rR rZ (pv 3) rH (λ_ _=>rfl)) rH (λ_ _=>rfl)) (rR rZ (rR rZ (pv 3) rH (λ_ _=>rfl)) rH (λ_ _=>rfl))))))) (rJ (rP (sA (lh rX rG)))) rN)
   (rJ (rP (sA rG)))))))))),?_⟩
 have C:(0:Nat)<=sizeLine:=by decide
 have c:(1:Nat)<=sizeLine:=by decide
 have N:(2:Nat)<=sizeLine:=by decide
 have ax:¬V.str "wish"=V.str "deal":=λz=>by injection z with z;revert z;decide
 have ab:¬V.str "shares"=V.str "deal":=λz=>by injection z with z;revert z;decide
 have aw:¬V.str "shares"=V.str "wish":=λz=>by injection z with z;revert z;decide
 have av:¬V.str "deal"=V.str "wish":=λz=>by injection z with z;revert z;decide
 have ae:∀(I:Hp) (p:bV),Same H I->I p=some (.lst [])->Rep K I (.ref l) (.list (u.map d4))/\Rep K I (.ref p) (.list (([]:List Str).map d4))/\eg (.list (u.map d4))=true/\eg (.list (([]:List Str).map d4))=true:=λI p S hp=>
  ⟨.lst (S.seq hL) (Reps.strs u) (by rw[bP];omega),.lst (SqL.of hp) (Reps.strs []) (by simp),sx (tG ag) (by decide),sx (tG (λw B=>nomatch B)) (by decide)⟩
 cases D with
 | wish p t=>
  obtain⟨d,rfl,n,aC,al,am⟩:=hD;refine⟨_,rfl,d,_,_,_,rfl,rfl,n,rfl,rfl,_,rfl,JJ ax ?_⟩;refine⟨_,rfl,d,_,_,_,rfl,rfl,n,rfl,_,rfl,a,_,rfl,.inl hA,rfl,ul _,_,rfl,?_⟩;show if(!Jw (.str p) (y.map V.str))=true then _ else _
  rw[ui];by_cases hp:p∈y;rotate_left
  ·rw[decide_eq_false hp];have e:Fy y G u (.wish p t)=[b9 "NoPerson"]:=if_neg hp;rw[e]at q;exact FG ⟨c,λp hp=>q p _ (mJ hp _) hp rE⟩
  rw[decide_eq_true hp];refine Fu ?_;refine⟨_,rfl,d,_,_,_,rfl,rfl,n,rfl,rfl,_,rfl,FC rfl ?_⟩;refine⟨c,λm R=>⟨C,λJ O=>⟨N,λY ac=>?_⟩⟩⟩;have o:Same H (upd H m (.lst [V.str "NoWishes"])):=mJ R _;have T:upd H m (.lst [V.str "NoWishes"]) m=some (.lst [V.str "NoWishes"]):=rE;generalize upd H m (.lst [V.str "NoWishes"])=I at o T O ac ⊢;have j:Same I (upd I J (.lst [])):=mJ O _;have e2:upd I J (.lst []) J=some (.lst []):=rE;generalize upd I J (.lst [])=H2 at j e2 ac ⊢;have T3:Same H2 (upd H2 Y (.lst [V.ref m,V.ref J])):=mJ ac _;have e3:upd H2 Y (.lst [V.ref m,V.ref J]) Y=some (.lst [V.ref m,V.ref J]):=rE;generalize upd H2 Y (.lst [V.ref m,V.ref J])=H3 at T3 e3 ⊢;have ai:=o.trans (j.trans T3);have ay:∀w∈L2.wordsOf t,FL w:=yf al;refine⟨_,rfl,d,_,_,_,rfl,rfl,ai.tup n,rfl,rfl,t," ",rfl,rfl,by decide,cx (Fg (by omega)),λpw ao=>?_⟩;have S1:Same H3 (upd H3 pw (.lst ((L2.wordsOf t).map V.str))):=mJ ao _;have ak:upd H3 pw (.lst ((L2.wordsOf t).map V.str)) pw=some (.lst ((L2.wordsOf t).map V.str)):=rE;refine⟨pw,L2.wordsOf t,rfl,.inl (SqL.of ak),am,λl1 ws ar X aq=>?_⟩;have S2:Same (upd H3 pw (.lst ((L2.wordsOf t).map V.str))) _:=mJ ar (.lst (ws.map V.str));have ah:=ai.trans (S1.trans S2);refine⟨_,rfl,b,G,rfl,.inl (ah.seq hB),aa,λl2 Z au W ap=>?_⟩;have S3:=mJ au (.lst (Z.map V.str));refine⟨.list (ws.map d4),.list (Z.map d4),.lst (SqL.of (S3 _ _ rE)) (Reps.strs ws) (by rw[bP,X.length_eq];omega),.lst (SqL.of rE) (Reps.strs Z) (by rw[bP,W.length_eq];omega),sx (tG λw B=>ay w (X.mem_iff.mp B)) (by decide),sx (tG λw B=>aj w (W.mem_iff.mp B)) (by decide),?_⟩;rw[sE];have af:=ah.trans S3;have Sr:=S1.trans (S2.trans S3);by_cases U:(L2.wordsOf t).Perm G
  ·rw[decide_eq_true (vv aq ap (X.trans (U.trans W.symm)))];have e:Fy y G u (.wish p t)=[]:=(if_pos hp).trans (if_pos U);rw[e]at q;exact .inr ⟨_,rfl,Y,_,1,_,rfl,rfl,SqL.of (Sr _ _ e3),rfl,q J _ af (o.free O) (Sr _ _ (T3 _ _ e2))⟩
  ·rw[decide_eq_false (λ(z:ws=Z)=>U (X.symm.trans (by rw[z];exact W)))];have e:Fy y G u (.wish p t)=[b9 "NoWishes"]:=(if_pos hp).trans (if_neg U);rw[e]at q;exact .inr ⟨_,rfl,Y,_,0,_,rfl,rfl,SqL.of (Sr _ _ e3),rfl,q m _ af R (Sr _ _ (T3 _ _ (j _ _ T)))⟩
 | shares p k=>
  obtain⟨d,rfl,n⟩:=hD;refine⟨_,rfl,d,_,_,_,rfl,rfl,n,rfl,rfl,_,rfl,JJ ab ?_⟩;refine⟨_,rfl,d,_,_,_,rfl,rfl,n,rfl,_,rfl,a,_,rfl,.inl hA,rfl,ul _,_,rfl,?_⟩;show if(!Jw (.str p) (y.map V.str))=true then _ else _
  rw[ui];by_cases hp:p∈y;rotate_left
  ·rw[decide_eq_false hp];have e:Fy y G u (.shares p k)=[b9 "NoPerson"]:=if_neg hp;rw[e]at q;exact FG ⟨c,λp hp=>q p _ (mJ hp _) hp rE⟩
  rw[decide_eq_true hp];refine Fu ?_;refine⟨_,rfl,d,_,_,_,rfl,rfl,n,rfl,rfl,_,rfl,Fo aw ?_⟩;refine⟨_,rfl,C,λm R=>?_⟩;have o:Same H (upd H m (.lst [])):=mJ R _;have T:upd H m (.lst []) m=some (.lst []):=rE;generalize upd H m (.lst [])=I at o T ⊢;obtain⟨r1,r2,s1,s2⟩:=ae I m o T;refine⟨_,_,r1,r2,s1,s2,_,rfl,?_⟩;rw[sE];by_cases r:u=[];rotate_left
  ·have e:Fy y G u (.shares p k)=[b9 "Unready"]:=(if_pos hp).trans (if_neg r);rw[e]at q;rw[decide_eq_false r];exact FG ⟨c,λp hp=>q p _ (o.trans (mJ hp _)) (o.free hp) rE⟩
  rw[decide_eq_true r];refine Fu ?_;refine⟨_,rfl,d,_,_,_,rfl,rfl,o.tup n,rfl,?_⟩;refine⟨_,rfl,d,_,_,_,rfl,rfl,o.tup n,rfl,rfl,_,rfl,Fo ab ?_⟩;refine⟨_,rfl,N,λJ O=>?_⟩;have j:=o.trans (mJ O (.tup [V.str "eaten",V.str "turns"]));refine⟨J,_,rfl,.inr (SqT.of rE),rfl,rfl,_,rfl,?_⟩;show if(!Jw (.str k) ([b9 "eaten",b9 "turns"].map V.str))=true then _ else _
  rw[ui];by_cases B:k∈[b9 "eaten",b9 "turns"];rotate_left
  ·have e:Fy y G u (.shares p k)=[b9 "NoWay"]:=(if_pos hp).trans ((if_pos r).trans (if_neg B));rw[e]at q;rw[decide_eq_false B];exact FG ⟨c,λp hp=>q p _ (j.trans (mJ hp _)) (j.free hp) rE⟩
  rw[decide_eq_true B];refine Fu ?_;have e:Fy y G u (.shares p k)=[]:=(if_pos hp).trans ((if_pos r).trans (if_pos B));rw[e]at q;refine⟨_,rfl,d,_,_,_,rfl,rfl,j.tup n,rfl,rfl,_,rfl,Fo ab ?_⟩;exact⟨C,λp hp=>q p _ (j.trans (mJ hp _)) (j.free hp) rE⟩
 | deal k L=>
  obtain⟨d,g,rfl,n,hg,aB,aA⟩:=hD;refine⟨_,rfl,d,_,_,_,rfl,rfl,n,rfl,rfl,_,rfl,Hl rfl ?_⟩;refine⟨_,rfl,d,_,_,_,rfl,rfl,n,rfl,rfl,_,rfl,Fo av ?_⟩;refine⟨_,rfl,C,λm R=>?_⟩;have o:Same H (upd H m (.lst [])):=mJ R _;have T:upd H m (.lst []) m=some (.lst []):=rE;generalize upd H m (.lst [])=I at o T ⊢;obtain⟨r1,r2,s1,s2⟩:=ae I m o T;refine⟨_,_,r1,r2,s1,s2,_,rfl,?_⟩;rw[sE];by_cases r:u=[];rotate_left
  ·have e:Fy y G u (.deal k L)=[b9 "Unready"]:=if_neg r;rw[e]at q;rw[decide_eq_false r];exact FG ⟨c,λp hp=>q p _ (o.trans (mJ hp _)) (o.free hp) rE⟩
  rw[decide_eq_true r];refine Fu ?_;refine⟨_,rfl,d,_,_,_,rfl,rfl,o.tup n,rfl,?_⟩;refine⟨_,rfl,d,_,_,_,rfl,rfl,o.tup n,rfl,rfl,_,rfl,FC rfl ?_⟩;refine⟨_,rfl,d,_,_,_,rfl,rfl,o.tup n,rfl,?_⟩;refine⟨_,rfl,N,λJ O=>?_⟩;have j:=o.trans (mJ O (.tup [V.str "eaten",V.str "turns"]));refine⟨J,_,rfl,.inr (SqT.of rE),rfl,rfl,_,rfl,?_⟩;show if(!Jw (.str k) ([b9 "eaten",b9 "turns"].map V.str))=true then _ else _
  rw[ui];by_cases B:k∈[b9 "eaten",b9 "turns"];rotate_left
  ·have e:Fy y G u (.deal k L)=[b9 "NoWay"]:=(if_pos r).trans (if_neg B);rw[e]at q;rw[decide_eq_false B];exact FG ⟨c,λp hp=>q p _ (j.trans (mJ hp _)) (j.free hp) rE⟩
  rw[decide_eq_true B];refine Fu ?_;refine⟨_,rfl,d,_,_,_,rfl,rfl,j.tup n,rfl,rfl,_,rfl,FC rfl ?_⟩;refine⟨_,rfl,d,_,_,_,rfl,rfl,j.tup n,rfl,g,_,0,_,rfl,rfl,j.tup hg,rfl,_,_,rfl,rfl,_,rfl,?_⟩;refine FD (λc1=>?_) (λc1=>?_);rotate_left
  ·have e:Fy y G u (.deal k L)=[b9 "NoPick"]:=(if_pos r).trans ((if_pos B).trans (if_neg (λz=>c1 z.1)));rw[e]at q;exact⟨_,rfl,FG ⟨c,λp hp=>q p _ (j.trans (mJ hp _)) (j.free hp) rE⟩⟩
  refine⟨_,rfl,d,_,_,_,rfl,rfl,j.tup n,rfl,g,_,1,_,rfl,rfl,j.tup hg,rfl,_,_,rfl,rfl,_,rfl,?_⟩;by_cases c2:L.1<L.2
  ·have e:Fy y G u (.deal k L)=[]:=(if_pos r).trans ((if_pos B).trans (if_pos ⟨c1,c2⟩));rw[e]at q;dsimp only;rw[decide_eq_true c2];exact Fu ⟨C,λp hp=>q p _ (j.trans (mJ hp _)) (j.free hp) rE⟩
  ·have e:Fy y G u (.deal k L)=[b9 "NoPick"]:=(if_pos r).trans ((if_pos B).trans (if_neg (λz=>c2 z.2)));rw[e]at q;dsimp only;rw[decide_eq_false c2];exact FG ⟨c,λp hp=>q p _ (j.trans (mJ hp _)) (j.free hp) rE⟩
theorem Ht:Fi ["_law_book","_law_deed_here","_law_caught","_law_told_here","_law_e"] ["_law_book","_law_deed_here"] (Ff (Fk 70)):=⟨rfl,rfl,rfl,by decide +kernel,rfl,by decide +kernel,by decide +kernel⟩
theorem JL(M:Md K mg x cB)
  (GBook_wish:Mn P w K mg base (GM P w) 2 cB "wish" ["self","person","text"] (Lg K cB x))
  (GBook_shares:Mn P w K mg base (GM P w) 9 cB "shares" ["self","person","way"] (Iu K cB x))
  (GBook_deal:Mn P w K mg base (GM P w) 9 cB "deal" ["self","way","number"] (J8 K cB x))
  (G_law_kinds:Dn P w K mg base Fs 1 "_law_kinds" ["_law_e"] (Hx x)):Dn P w K mg base Fs 11 "_law_told" ["_law_book","_law_deed_here"] (JR K cB):=by
 have nd:=(Ht).nd
 refine M.f__law_told.ok Ht (λvs H Q E h=>?_) (λ_ _ _ _ _ _ us hl=>HX (λ_ _=>rfl) us hl) (λf aC A ay s H vs Q E hr h=>?_)
 ·obtain⟨s0,d,v,u,J,R,D,rfl,L,rp,rt,ab,ax,ae,hD,q⟩:=h
  rfl
 obtain⟨s0,d,v,u,J,R,D,rfl,L,rp,rt,ab,ax,ae,hD,q⟩:=h
 refine⟨_,(rF (rL (i:=2) nd rfl (Or.inl rfl) uC)
   (rF (rL (i:=3) nd rfl (Or.inl rfl) uC)
   (rF (Di (ni:=4) rfl rfl nd rfl rfl M.x_WishError rfl (EV (rM sY (rR rZ (pv 1) rH (λ_ _=>rfl)) rX (Fj _)) (A8 (i:=3) nd rfl (Or.inl rfl) (Bz (pl:=_) (pv 0) M.cl GBook_wish hr (by decide) (lh (rR rZ (pv 1) rH (λ_ _=>rfl)) (lh (rR rZ (pv 1) rH (λ_ _=>rfl)) rG)))) (EV (rM sY (rR rZ (pv 1) rH (λ_ _=>rfl)) rX (Fj _)) (A8 (i:=3) nd rfl (Or.inl rfl) (Bz (pl:=_) (pv 0) M.cl GBook_shares hr (by decide) (lh (rR rZ (pv 1) rH (λ_ _=>rfl)) (lh (rR rZ (pv 1) rH (λ_ _=>rfl)) rG)))) (A8 (i:=3) nd rfl (Or.inl rfl) (Bz (pl:=_) (pv 0) M.cl GBook_deal hr (by decide) (lh (rR rZ (pv 1) rH (λ_ _=>rfl)) (lh (rR rZ (pv 1) rH (λ_ _=>rfl)) rG)))))) (λ_=>(rJ (rL (i:=2) nd rfl (Or.inl rfl) (pv 4)))))
   (rF (si (rM Ay (pv 2) uC (Fj _)) (rJ (rP (sw (lh (pv 3) (lh (sA rG) rG))))) rN)
   (rJ (rP (sw (lh uC (lh (sf G_law_kinds hr (by decide) rfl Fm (lh (pv 2) rG)) rG))))))))),?_⟩
 obtain⟨dx,pp,p3,op,ot,h1,h2,h3,h4,h5,h6⟩:=L.ex
 have U:(0:Nat)<=sizeLine:=by decide
 have m:(2:Nat)<=sizeLine:=by decide
 have aA:=rp.hi
 have aB:=rt.hi
 have av:¬V.str "shares"=V.str "wish":=λz=>by injection z with z;revert z;decide
 have aq:¬V.str "deal"=V.str "wish":=λz=>by injection z with z;revert z;decide
 have ap:¬V.str "deal"=V.str "shares":=λz=>by injection z with z;revert z;decide
 cases D with
 | wish p t=>
  obtain⟨O,rfl,N,ao,ah,ai⟩:=hD
  refine⟨_,rfl,O,_,_,_,rfl,rfl,N,rfl,rfl,_,rfl,FC rfl ?_⟩
  refine⟨_,rfl,s0,dx,_,rfl,h1,rfl,_,rfl,O,_,_,_,rfl,rfl,N,rfl,_,rfl,O,_,_,_,rfl,rfl,N,rfl,?_⟩
  refine⟨s0,d,u,J,R,p,t,rfl,L,by omega,(λw hw=>(rt.wd w hw).asc),ao,ah,ai,by omega,λY X n=>?_,λhp Y X n=>?_,λhp an r X U1 aD hr af=>?_⟩
  ·have a:Fy u J (Fn u R) (.wish p t)=[b9 "NoPerson"]:=if_neg Y
   refine⟨x.NoPerson,rfl,M.s_NoPerson,λe y=>?_⟩
   refine⟨_,rfl,?_⟩
   refine⟨_,rfl,rfl,_,rfl,Fu ?_⟩
   refine⟨_,rfl,e,x.NoPerson,"NoPerson",rfl,rE,.inr (.inr (.inr (.inl ⟨rfl,rfl⟩))),λj H4 I c C=>⟨m,λF b=>?_⟩⟩
   have B:=n.trans ((mJ y _).trans (I.trans (mJ b (.tup [.non,.ref j]))))
   exact q F j .non R _ (SameBut1.of B) rE ((n.trans (mJ y _)).free c) (by rw[a];exact mJ b _ _ _ C) (L.mono B) (.inl ⟨by rw[a];exact eX _ _,rfl⟩)

  ·have a:Fy u J (Fn u R) (.wish p t)=[b9 "NoWishes"]:=(if_pos hp).trans (if_neg Y)
   refine⟨x.NoWishes,rfl,M.s_NoWishes,λe y=>?_⟩
   refine⟨_,rfl,?_⟩
   refine⟨_,rfl,rfl,_,rfl,Fu ?_⟩
   refine⟨_,rfl,e,x.NoWishes,"NoWishes",rfl,rE,.inl ⟨rfl,rfl⟩,λj H4 I c C=>⟨m,λF b=>?_⟩⟩
   have B:=n.trans ((mJ y _).trans (I.trans (mJ b (.tup [.non,.ref j]))))
   exact q F j .non R _ (SameBut1.of B) rE ((n.trans (mJ y _)).free c) (by rw[a];exact mJ b _ _ _ C) (L.mono B) (.inl ⟨by rw[a];exact eX _ _,rfl⟩)

  ·have a:Fy u J (Fn u R) (.wish p t)=[]:=(if_pos hp).trans (if_pos an)
   refine⟨_,rfl,rfl,_,rfl,FG ?_⟩
   refine⟨_,rfl,U,λj c=>⟨m,λF b=>?_⟩⟩
   have S:=(mJ c (.lst [])).trans (mJ b (.tup [.non,.ref j]))
   have ak:j≠d:=λz=>by
    obtain⟨_,_,_,_,_,_,_,_,_,_,ar⟩:=af.ex
    rw[z,ar]at c
    cases c
   have ag:H j=none:=by
    cases e:H j with
    | none=>rfl
    | some o=>rw[U1 j o ak e]at c;cases c
   exact q F j .non _ _ (U1.trans (SameBut1.of S)) rE ag (by rw[a];exact mJ b _ _ _ rE) (af.mono S) (.inr ⟨a,rfl,r,rfl,S _ _ hr⟩)
 | shares p G=>
  obtain⟨O,rfl,N⟩:=hD
  refine⟨_,rfl,O,_,_,_,rfl,rfl,N,rfl,rfl,_,rfl,Fo av ?_⟩
  refine⟨_,rfl,O,_,_,_,rfl,rfl,N,rfl,rfl,_,rfl,FC rfl ?_⟩
  refine⟨_,rfl,s0,dx,_,rfl,h1,rfl,_,rfl,O,_,_,_,rfl,rfl,N,rfl,_,rfl,O,_,_,_,rfl,rfl,N,rfl,?_⟩
  refine⟨s0,d,u,J,R,p,G,rfl,L,by omega,ab,λY X n=>?_,λhp Y X n=>?_,λhp hall=>?_⟩
  ·have a:Fy u J (Fn u R) (.shares p G)=[b9 "NoPerson"]:=if_neg Y
   refine⟨x.NoPerson,rfl,M.s_NoPerson,λe y=>?_⟩
   refine⟨_,rfl,?_⟩
   refine⟨_,rfl,rfl,_,rfl,Fu ?_⟩
   refine⟨_,rfl,e,x.NoPerson,"NoPerson",rfl,rE,.inr (.inr (.inr (.inl ⟨rfl,rfl⟩))),λj H4 I c C=>⟨m,λF b=>?_⟩⟩
   have B:=n.trans ((mJ y _).trans (I.trans (mJ b (.tup [.non,.ref j]))))
   exact q F j .non R _ (SameBut1.of B) rE ((n.trans (mJ y _)).free c) (by rw[a];exact mJ b _ _ _ C) (L.mono B) (.inl ⟨by rw[a];exact eX _ _,rfl⟩)

  ·have a:Fy u J (Fn u R) (.shares p G)=[b9 "Unready"]:=(if_pos hp).trans (if_neg (yz Y))
   refine⟨x.Unready,rfl,M.s_Unready,λe y=>?_⟩
   refine⟨_,rfl,?_⟩
   refine⟨_,rfl,rfl,_,rfl,Fu ?_⟩
   refine⟨_,rfl,e,x.Unready,"Unready",rfl,rE,.inr (.inr (.inr (.inr (.inl ⟨rfl,rfl⟩)))),λj H4 I c C=>⟨m,λF b=>?_⟩⟩
   have B:=n.trans ((mJ y _).trans (I.trans (mJ b (.tup [.non,.ref j]))))
   exact q F j .non R _ (SameBut1.of B) rE ((n.trans (mJ y _)).free c) (by rw[a];exact mJ b _ _ _ C) (L.mono B) (.inl ⟨by rw[a];exact eX _ _,rfl⟩)

  ·obtain⟨W,hT,hW⟩:=A3 rp ae hall
   refine⟨W,hT,hW,λn1 n2 X n=>?_,λZ T l xs X ac n au hl hx=>?_⟩
   ·have a:Fy u J (Fn u R) (.shares p G)=[b9 "NoWay"]:=(if_pos hp).trans ((if_pos (tQ.mpr hall)).trans (if_neg (Dw n1 n2)))
    refine⟨x.NoWay,rfl,M.s_NoWay,λe y=>?_⟩
    refine⟨_,rfl,?_⟩
    refine⟨_,rfl,rfl,_,rfl,Fu ?_⟩
    refine⟨_,rfl,e,x.NoWay,"NoWay",rfl,rE,.inr (.inr (.inr (.inr (.inr ⟨rfl,rfl⟩)))),λj H4 I c C=>⟨m,λF b=>?_⟩⟩
    have B:=n.trans ((mJ y _).trans (I.trans (mJ b (.tup [.non,.ref j]))))
    exact q F j .non R _ (SameBut1.of B) rE ((n.trans (mJ y _)).free c) (by rw[a];exact mJ b _ _ _ C) (L.mono B) (.inl ⟨by rw[a];exact eX _ _,rfl⟩)

   ·have a:Fy u J (Fn u R) (.shares p G)=[]:=(if_pos hp).trans ((if_pos (tQ.mpr hall)).trans (if_pos (yI ac.way)))
    refine⟨_,rfl,rfl,_,rfl,FG ?_⟩
    refine⟨_,rfl,U,λj c=>⟨m,λF b=>?_⟩⟩
    have S:=(mJ c (.lst [])).trans (mJ b (.tup [.ref l,.ref j]))
    exact q F j (.ref l) R _ (SameBut1.of (n.trans S)) rE (n.free c) (by rw[a];exact mJ b _ _ _ rE) (L.mono (n.trans S)) (.inr ⟨a,rfl,l,xs,rfl,S _ _ hl⟩)
 | deal G aa=>
  obtain⟨O,g,rfl,N,hg,am,aj⟩:=hD
  refine⟨_,rfl,O,_,_,_,rfl,rfl,N,rfl,rfl,_,rfl,Fo aq ?_⟩
  refine⟨_,rfl,O,_,_,_,rfl,rfl,N,rfl,rfl,_,rfl,Fo ap ?_⟩
  refine⟨_,rfl,s0,dx,_,rfl,h1,rfl,_,rfl,O,_,_,_,rfl,rfl,N,rfl,_,rfl,O,_,_,_,rfl,rfl,N,rfl,?_⟩
  refine⟨s0,d,g,u,J,R,G,aa,rfl,L,by omega,ab,⟨g,rfl,hg⟩,am,aj,λY X n=>?_,λhall=>?_⟩
  ·have a:Fy u J (Fn u R) (.deal G aa)=[b9 "Unready"]:=if_neg (yz Y)
   refine⟨x.Unready,rfl,M.s_Unready,λe y=>?_⟩
   refine⟨_,rfl,?_⟩
   refine⟨_,rfl,rfl,_,rfl,Fu ?_⟩
   refine⟨_,rfl,e,x.Unready,"Unready",rfl,rE,.inr (.inr (.inr (.inr (.inl ⟨rfl,rfl⟩)))),λj H4 I c C=>⟨m,λF b=>?_⟩⟩
   have B:=n.trans ((mJ y _).trans (I.trans (mJ b (.tup [.non,.ref j]))))
   exact q F j .non R _ (SameBut1.of B) rE ((n.trans (mJ y _)).free c) (by rw[a];exact mJ b _ _ _ C) (L.mono B) (.inl ⟨by rw[a];exact eX _ _,rfl⟩)

  ·obtain⟨W,hT,hW⟩:=A3 rp ae hall
   refine⟨W,hT,hW,λn1 n2 X n=>?_,λhy hR X n=>?_,λal Z T k i l xs X ac az aw n au hl hx=>?_⟩
   ·have a:Fy u J (Fn u R) (.deal G aa)=[b9 "NoWay"]:=(if_pos (tQ.mpr hall)).trans (if_neg (Dw n1 n2))
    refine⟨x.NoWay,rfl,M.s_NoWay,λe y=>?_⟩
    refine⟨_,rfl,?_⟩
    refine⟨_,rfl,rfl,_,rfl,Fu ?_⟩
    refine⟨_,rfl,e,x.NoWay,"NoWay",rfl,rE,.inr (.inr (.inr (.inr (.inr ⟨rfl,rfl⟩)))),λj H4 I c C=>⟨m,λF b=>?_⟩⟩
    have B:=n.trans ((mJ y _).trans (I.trans (mJ b (.tup [.non,.ref j]))))
    exact q F j .non R _ (SameBut1.of B) rE ((n.trans (mJ y _)).free c) (by rw[a];exact mJ b _ _ _ C) (L.mono B) (.inl ⟨by rw[a];exact eX _ _,rfl⟩)

   ·have a:Fy u J (Fn u R) (.deal G aa)=[b9 "NoPick"]:=(if_pos (tQ.mpr hall)).trans ((if_pos (yI hy)).trans (if_neg λz=>wh.mpr z hR))
    refine⟨x.NoPick,rfl,M.s_NoPick,λe y=>?_⟩
    refine⟨_,rfl,?_⟩
    refine⟨_,rfl,rfl,_,rfl,Fu ?_⟩
    refine⟨_,rfl,e,x.NoPick,"NoPick",rfl,rE,.inr (.inl ⟨rfl,rfl⟩),λj H4 I c C=>⟨m,λF b=>?_⟩⟩
    have B:=n.trans ((mJ y _).trans (I.trans (mJ b (.tup [.non,.ref j]))))
    exact q F j .non R _ (SameBut1.of B) rE ((n.trans (mJ y _)).free c) (by rw[a];exact mJ b _ _ _ C) (L.mono B) (.inl ⟨by rw[a];exact eX _ _,rfl⟩)

   ·have a:Fy u J (Fn u R) (.deal G aa)=[]:=(if_pos (tQ.mpr hall)).trans ((if_pos (yI ac.way)).trans (if_pos (wh.mp al)))
    refine⟨_,rfl,rfl,_,rfl,FG ?_⟩
    refine⟨_,rfl,U,λj c=>⟨m,λF b=>?_⟩⟩
    have S:=(mJ c (.lst [])).trans (mJ b (.tup [.ref l,.ref j]))
    exact q F j (.ref l) R _ (SameBut1.of (n.trans S)) rE (n.free c) (by rw[a];exact mJ b _ _ _ rE) (L.mono (n.trans S)) (.inr ⟨a,rfl,l,xs,rfl,S _ _ hl⟩)
theorem F1:Fi ["_law_book","_law_lacks","_law_k","_law_found"] ["_law_book","_law_lacks"] (Ff (Fk 71)):=⟨rfl,rfl,rfl,by decide +kernel,rfl,by decide +kernel,by decide +kernel⟩
theorem G9(M:Md K mg x cB)
  (GBook_lacking:Mn P w K mg base Fs 1 cB "lacking" ["self"] (HH cB))
  (G_law_same:Dn P w K mg base Fs 4 "_law_same" ["_law_found","_law_due_here"] (Kr K 3)):Dn P w K mg base Fs 5 "_law_lacks_well" ["_law_book","_law_lacks"] (HZ K cB):=by
 have r:=(F1).nd
 refine M.f__law_lacks_well.ok F1 (λvs H Q E h=>?_) (λ_ _ _ _ _ _ U N=>HX (λ_ _=>rfl) U N) (λf W A J s H vs Q E v h=>?_)
 ·obtain⟨s0,d,l,a,y,R,rfl,D,m,g,G,q⟩:=h
  rfl
 obtain⟨s0,d,l,a,y,R,rfl,D,m,g,G,q⟩:=h
 refine⟨_,(rF (tN db rfl (sD rfl M.b_range (lh rH rG)) (rS (i:=2) r rfl (Or.inl rfl)) (rF (rL (i:=3) r rfl (Or.inl rfl) (Bh (pl:=_) (pv 0) M.cl GBook_lacking v (by decide) Fm))
   (rF (si (tS (sB (sf G_law_same v (by decide) rfl Fm (lh (pv 3) (lh (pv 1) rG))))) (rJ (rP vc)) rN)
   (rJ (su (Et cu PySem.F.slot_list_clear PySem.F.type_list_clear CB (pv 3)))))))
   (rJ (rP vc))),?_⟩
 have X:=wO a R
 have B:∀w∈Fn a R,FL w:=λw T=>g w (w5.mp T).1
 refine⟨2,rfl,by decide,by decide,?_⟩
 refine sN (n:=2) (λi o e=>Same H e/\∃k f,o=[some (.ref s0),some (.ref l),k,f]) ⟨Same.refl _,_,_,rfl⟩ (λi o e I p=>?_) (λo e p=>?_)
 ·obtain⟨c,k,f,rfl⟩:=p
  have j:=D.mono c
  obtain⟨S,pp,Z,Y,ot,h1,h2,h3,h4,h5,h6⟩:=j.ex
  refine⟨_,rfl,s0,S,_,rfl,h1,rfl,s0,d,a,y,R,rfl,j,m,λz O t C u=>?_⟩
  have b:O z=some (.lst ((Fn a R).map V.str)):=u
  refine⟨_,rfl,_,rfl,_,_,.list ((Fn a R).map d4),rfl,.lst (SqL.of b) (Reps.strs _) (by rw[bP];omega),.lst ((c.trans t).seq G) (Reps.strs _) (by rw[bP];omega),?_,_,rfl,Fu ?_⟩
  ·show((Fn a R).map d4).all (GQ 2)=true
   rw[de]
   intro d L
   obtain⟨i,I,rfl⟩:=cP.mp L
   exact Dr (B i I) 2
  refine⟨_,rfl,.inl ⟨rfl,_,SqL.of b⟩,z,_,rfl,rfl,b,?_⟩
  exact⟨c.trans (t.over C _),_,_,rfl⟩
 ·obtain⟨c,k,f,rfl⟩:=p
  exact q e c
theorem Ll:Fi ["_law_script","_law_count","_law_people","_law_things","_law_k","_law_book","_law_lacks","_law_cell","_law_deed_here","_law_told_here","_law_refused"] ["_law_script"] (Ff (Fk 72)):=⟨rfl,rfl,rfl,by decide +kernel,rfl,by decide +kernel,by decide +kernel⟩
theorem MW{fl:bV}{fdl:FuncData}(Fl:Fun K "law" "law" (Fk 72) fl fdl)(M:Md K mg x cB)
  (G_law_cell_at:Dn P w K mg base Fs 1 "_law_cell_at" ["_law_script","_law_k"] (Km K))
  (G_law_words:Dn P w K mg base Fs 2 "_law_words" ["_law_script","_law_at","_law_many"] (Jd K))
  (G_law_no_roll:Dn P w K mg base Fs 7 "_law_no_roll" ["_law_people","_law_things","_law_cell"] (J0))
  (GBook___init__:Bn P w K mg base (GM P w) 4 cB "Book" ["self","people","things"] (Kh K cB x))
  (G_law_mixed:Dn P w K mg base Fs 1 "_law_mixed" ["_law_cell","_law_many"] (KJ))
  (G_law_deed:Dn P w K mg base Fs 3 "_law_deed" ["_law_people","_law_things","_law_xs"] (JT K))
  (G_law_told:Dn P w K mg base Fs 11 "_law_told" ["_law_book","_law_deed_here"] (JR K cB))
  (G_law_due:Dn P w K mg base Fs 1 "_law_due" ["_law_people","_law_things","_law_lacks","_law_deed_here"] (K1 K))
  (G_law_lacks_well:Dn P w K mg base Fs 5 "_law_lacks_well" ["_law_book","_law_lacks"] (HZ K cB)):FnOk P w K mg base Fs 13 fl fdl ["_law_script"] (KI K):=by
 have nd:=(Ll).nd
 refine Fl.ok Ll (λvs H Q E h=>?_) (λbn A be s H vs Q E W h=>?_)
 ·obtain⟨a,O,rfl,hS,a6,q⟩:=h
  rfl
 obtain⟨a,O,rfl,hS,a6,q⟩:=h
 refine⟨_,(rF (rL (i:=1) nd rfl (Or.inl rfl) (rO sJ rH (rO sh (sf G_law_cell_at W (by decide) rfl Fm (lh (pv 0) (lh rH rG))) rH)))
   (rF (rL (i:=2) nd rfl (Or.inl rfl) (sf G_law_words W (by decide) rfl Fm (lh (pv 0) (lh rH (lh (pv 1) rG)))))
   (rF (rL (i:=3) nd rfl (Or.inl rfl) (sf G_law_words W (by decide) rfl Fm (lh (pv 0) (lh rH (lh (pv 1) rG)))))
   (rF (si (rM sY (rO sh (sf G_law_cell_at W (by decide) rfl Fm (lh (pv 0) (lh rH rG))) rH) rH (Fj _)) (rJ (rL (i:=3) nd rfl (Or.inl rfl) (EQ (ts:=tC .non) (pv 2) (Bo yv rH)))) rN)
   (rF (tN db rfl (sD rfl M.b_range (lh rH rG)) (rS (i:=4) nd rfl (Or.inl rfl)) (rJ (si (tS (sB (sf G_law_no_roll W (by decide) rfl Fm (lh (sv sT rfl M.b_list Boot.«list» (lh (pv 2) rG)) (lh (sv sT rfl M.b_list Boot.«list» (lh (pv 3) rG)) (lh (sf G_law_cell_at W (by decide) rfl Fm (lh (pv 0) (lh (rO sJ rH (pv 4)) rG))) rG)))))) (rJ (rP vc)) rN)))
   (rF (rL (i:=5) nd rfl (Or.inl rfl) (Fd GBook___init__ W (by decide) rfl JQ (lh (sv sT rfl M.b_list Boot.«list» (lh (pv 2) rG)) (lh (sv sT rfl M.b_list Boot.«list» (lh (pv 3) rG)) rG))))
   (rF (rL (i:=6) nd rfl (Or.inl rfl) (sv sT rfl M.b_list Boot.«list» (lh (pv 2) rG)))
   (rF (tN db rfl (tE (sR vg (pv 0) (sV rH) (sV rH))) (rS (i:=7) nd rfl (Or.inl rfl)) (rF (rL (i:=8) nd rfl (Or.inl rfl) (sf G_law_deed W (by decide) rfl Fm (lh (pv 2) (lh (pv 3) (lh (sf G_law_mixed W (by decide) rfl Fm (lh (pv 7) (lh rH rG))) rG)))))
   (rF (vp (sf G_law_told W (by decide) rfl Fm (lh (pv 5) (lh (pv 8) rG))) (yp rfl (sF (rS (i:=9) nd rfl (Or.inl rfl)) (sF (rS (i:=10) nd rfl (Or.inl rfl)) uo))))
   (rF (si (rM (vW W) (pv 10) (sf G_law_due W (by decide) rfl Fm (lh (pv 2) (lh (pv 3) (lh (pv 6) (lh (pv 8) rG))))) (Fj _)) (rJ (rP vc)) rN)
   (rF (si (PW.pt (uA (rM (vb W) (pv 10) (sA rG) (Fj _)) (uA (rM sY (rR rZ (pv 8) rH (λ_ _=>rfl)) rX (Fj _)) (uD (rM BO (pv 9) uC (Fj _)))))) (rJ (rP vc)) rN)
   (rF (si (PW.pt (uA (rM (vb W) (pv 10) (sA rG) (Fj _)) (uA (rM xZ (rR rZ (pv 8) rH (λ_ _=>rfl)) rX (Fj _)) (uD (tS (sB (rK sC rfl M.b_isinstance Boot.«isinstance» (lh (pv 9) (lh (tZ rfl M.b_list Boot.«list») rG))))))))) (rJ (rP vc)) rN)
   (rF (si (PW.pt (uA (rM (vb W) (pv 10) (sA rG) (Fj _)) (uA (rM sY (rR rZ (pv 8) rH (λ_ _=>rfl)) rX (Fj _)) (uD (rM yd (rR rZ (pv 8) rH (λ_ _=>rfl)) (pv 6) (by with_unfolding_all rfl)))))) (rJ (su (tL cu kq PySem.F.type_list_remove z7 (pv 6) (lh (rR rZ (pv 8) rH (λ_ _=>rfl)) rG)))) rN)
   (rJ (si (tS (sB (sf G_law_lacks_well W (by decide) rfl Fm (lh (pv 5) (lh (pv 6) rG))))) (rJ (rP vc)) rN)))))))))
   (rJ (rP vc)))))))))),?_⟩
 have j:(0:Nat)<=sizeLine:=by decide
 have aH:¬V.str "shares"=V.str "wish":=λz=>by injection z with z;revert z;decide
 have aG:¬V.str "deal"=V.str "wish":=λz=>by injection z with z;revert z;decide
 obtain⟨n,hn,aL,aP⟩:∃n:Nat,1+LM.cellAt O 0%6=(n:Int)/\1<=n/\n<=6:=by
  have h0:=cY (LM.cellAt O 0) (show(6:Int)≠0 by decide)
  have h1:=cQ (LM.cellAt O 0) (show(0:Int)<6 by decide)
  exact⟨(1+LM.cellAt O 0%6).toNat,by omega,by omega,by omega⟩
 refine⟨_,rfl,a,O,0,rfl,hS,eH 0,_,_,rfl,rfl,by show(0:Int)<6;decide,_,_,rfl,rfl,?_⟩
 dsimp only
 rw[hn]
 refine⟨_,rfl,_,rfl,a,O,1,n,rfl,hS,aL,aP,λpl ps H1 J a4 aZ rp aU=>?_⟩
 refine⟨_,rfl,_,rfl,a,O,3,n,rfl,J.seq hS,aL,aP,λt0 us H2 B _ aY ru aK=>?_⟩
 have aQ:=J.trans B
 have az:=aQ.seq hS
 have ai:=B _ _ aZ
 refine⟨_,rfl,a,O,5,rfl,az,by decide,_,_,rfl,rfl,by show(0:Int)<4;decide,rfl,_,rfl,?_⟩
 show if decide (V.int (LM.cellAt O 5%4)=V.int 1)=true then _ else _
 apply Nv (λtl H3=>∃ts:List Str,SqL K H3 a (O.map V.int)/\H3 pl=some (.lst (ps.map V.str))/\H3 tl=some (.lst (ts.map V.str))/\Roll ts/\ts.length=n) t0 H2 ⟨us,az,ai,aY,ru,aK⟩
 case hA=>
  intro hG
  refine⟨_,rfl,pl,_,rfl,SqL.of ai,λp hp=>?_⟩
  have T1:=mJ hp (.lst (ps.map V.str).reverse)
  exact hG p _ ⟨ps.reverse,T1.seq az,T1 _ _ ai,by rw[rE,List.map_reverse],rp.rev,by rw[iF];exact aU⟩
 intro tl H3 hP
 clear az ai aY ru aK aZ a4 aQ B J hS
 obtain⟨ts,aJ,ay,aw,rt,a9⟩:=hP
 have aC:ts.length=ps.length:=a9.trans aU.symm
 have ae:ps.length<=60:=cG rp.hi (by decide)
 have bc:ts.length<=60:=cG rt.hi (by decide)
 refine⟨2,rfl,by decide,by decide,?_⟩
 refine sN (n:=2) (λi σ H'=>Same H3 H'/\∃k,σ=[some (.ref a),some (.int n),some (.ref pl),some (.ref tl),k,none,none,none,none,none,none]) ⟨Same.refl _,_,rfl⟩ (λi σ H' hi hP=>?_) (λσ H' hP=>?_)
 ·obtain⟨y,k,rfl⟩:=hP
  refine⟨_,rfl,pl,_,rfl,.inl (SqL.of (y _ _ ay)),λl1 aA=>?_⟩
  have T1:=mJ aA (.lst (ps.map V.str))
  refine⟨_,rfl,tl,_,rfl,.inl (SqL.of ((y.trans T1) _ _ aw)),λl2 aB=>?_⟩
  have T2:=mJ aB (.lst (ts.map V.str))
  have aN:=y.trans (T1.trans T2)
  refine⟨_,rfl,_,rfl,_,_,rfl,rfl,a,O,_,rfl,aN.seq aJ,by omega,?_⟩
  exact⟨l1,l2,ps,ts,_,rfl,T2 _ _ rE,rE,rp,rt,aC.symm,λC S5=>⟨_,rfl,Fu ⟨aN.trans S5,_,rfl⟩⟩⟩
 obtain⟨y,k,rfl⟩:=hP
 have aO:=y.seq aJ
 have au:=y _ _ ay
 have ax:=y _ _ aw
 clear aJ ay aw y
 refine⟨_,rfl,pl,_,rfl,.inl (SqL.of au),λl1 aA=>?_⟩
 have T1:=mJ aA (.lst (ps.map V.str))
 refine⟨_,rfl,tl,_,rfl,.inl (SqL.of (T1 _ _ ax)),λl2 aB=>?_⟩
 have T2:=mJ aB (.lst (ts.map V.str))
 have ar:=T2 _ _ (rE (H:=H') (a:=l1) (o:= .lst (ps.map V.str)))
 have ap:upd (upd H' l1 (.lst (ps.map V.str))) l2 (.lst (ts.map V.str)) l2=some (.lst (ts.map V.str)):=rE
 have S5:=T1.trans T2
 generalize upd (upd H' l1 (.lst (ps.map V.str))) l2 (.lst (ts.map V.str))=C at S5 ar ap ⊢
 refine λs0 dx aI a0 am=>?_
 have a2:upd C dx (.own s0) s0=none:=by rw[rQ (Ne.symm am)];exact aI
 have T3:=(mJ a0 (.own s0)).trans (mJ a2 (.ins cB dx []))
 refine⟨s0,l1,l2,dx,ps,ts,rfl,rE,SqL.of (T3 _ _ ar),SqL.of (T3 _ _ ap),ae,bc,rp.ok,rt.ok,(λz=>absurd ⟨rp,rt,aC.symm⟩ z),λ_ _ _ d H6 U6 ba hb=>⟨rfl,?_⟩⟩
 have S6:Same H' H6:=S5.trans λb o e=>U6 b o (sd e aI) (T3 b o e)
 have aX:=S6.seq aO
 have aj:=S6 _ _ au
 have av:=S6 _ _ ax
 clear aO au ax S6 S5 ar ap T1 T2 T3 U6 ba aI a2 a0 aA aB
 refine⟨_,rfl,pl,_,rfl,.inl (SqL.of aj),λl hl=>?_⟩
 have T4:=mJ hl (.lst (ps.map V.str))
 have ah:upd H6 l (.lst (ps.map V.str)) l=some (.lst (ps.map V.str)):=rE
 have n1:pl≠l:=sd aj hl
 have n2:tl≠l:=sd av hl
 generalize upd H6 l (.lst (ps.map V.str))=H7 at T4 ah ⊢
 refine⟨_,rfl,8,rfl,63,rfl,a,_,rfl,T4.seq aX,λc hc=>?_⟩
 have T5:=mJ hc (.lst (Gx (O.map V.int) (some 8) (some 63)))
 have n3:c≠l:=Ne.symm (sd ah hc)
 have aM:=wo (O.map V.int) (some 8) (some 63)
 rw[bP]at aM
 refine⟨c,rfl,⟨_,SqL.of rE⟩,?_⟩
 have T6:=T4.trans T5
 have at0:At51 K cB (upd H7 c (.lst (Gx (O.map V.int) (some 8) (some 63)))) pl tl c l s0 d ps ts (Gx (O.map V.int) (some 8) (some 63)) (Fn ps []) []:=
  ⟨T6 _ _ aj,T6 _ _ av,rE,(Ab ps).symm▸T5 _ _ ah,hb.mono T6,(λp v e=>nomatch e)⟩
 generalize upd H7 c (.lst (Gx (O.map V.int) (some 8) (some 63)))=H8 at at0 ⊢
 clear T6 T5 T4 ah hb hc hl aX aj av
 have aS:∀i v,(Gx (O.map V.int) (some 8) (some 63))[i]?=some v->∃c:Int,v=V.int c:=λi v h=>D0 h
 generalize Gx (O.map V.int) (some 8) (some 63)=xs at at0 aM aS ⊢
 refine vJ (xs:=xs) (λi σ H4=>∃R c7 c8 c9 aR,σ=[some (.ref a),some (.int n),some (.ref pl),some (.ref tl),k,some (.ref s0),some (.ref l),c7,c8,c9,aR]/\R.length<=i/\At51 K cB H4 pl tl c l s0 d ps ts xs (Fn ps R) R)
  ⟨[],_,_,_,_,rfl,bX 0,at0⟩ (λi σ H4 _ ⟨_,_,_,_,_,_,_,hP⟩=>SqL.of hP.ce) (λi v σ H1 hv hP=>?_) (λσ H4 hP=>q _)
 obtain⟨R,c7,c8,c9,aR,rfl,ao,aW⟩:=hP
 have bo:i<xs.length:=(b8.mp hv).1
 obtain⟨cl,rfl⟩:=aS i v hv
 refine⟨_,rfl,_,rfl,_,rfl,cl,8,rfl,by decide,λpm H2 B _ hm=>?_⟩
 have al:=aW.mono B
 refine⟨pl,tl,pm,ps,ts,LM.mixed cl 8,rfl,SqL.of al.pe,rp,SqL.of al.th,rt,SqL.of hm,LM.mixed_len _ _,λdv D H3 y aD=>?_⟩
 have aa:=al.mono y
 have bi:=rp.hi
 have ah:=wO ps R
 refine⟨_,rfl,_,rfl,s0,d,dv,ps,ts,R,D,rfl,aa.bk,rp,rt,aC,by omega,aa.ok,aD,λpt q0 tv Y H4 U4 aV _ a3 aT ab=>?_⟩
 have af:=aa.told U4 aT (ab.ok aa.ok aa.dk U4 rt aC)
 have aE:=aD.but aa.dk U4
 have an:=ab.len
 have N:=Dy (ps:=ps) (ts:=ts) (L:=Fn ps R) D
 have aq:=DX (ps:=ps) (ts:=ts) (L:=Fn ps R) D
 have T:(Fy ps ts (Fn ps R) D).length<=60:=cG aq (by decide)
 clear aW al aa aD aT hm B y U4
 refine⟨pt,[tv,.ref q0],rfl,SqT.of aV,rfl,_,_,rfl,_,_,rfl,rfl,?_⟩
 refine⟨_,rfl,_,rfl,_,rfl,_,rfl,_,rfl,pl,tl,l,dv,ps,ts,Fn ps R,D,rfl,SqL.of af.pe,SqL.of af.th,ec rt.hi (by decide),(λw hw=>(rt.ok w hw).2),SqL.of af.la,(λw hw=>(rp.ok w (w5.mp hw).1).2),cG ah ae,aE,λq1 C S5 _ a8=>?_⟩
 have ak:=af.mono S5
 have aF:=aE.mono S5
 have hq:=S5 _ _ a3
 refine⟨_,_,.lst (SqL.of hq) (Reps.strs _) (by rw[bP];exact cG aq (by decide)),.lst (SqL.of a8) (Reps.strs _) (by rw[bP];exact cG aq (by decide)),sx (tG N) (by decide),sx (tG N) (by decide),_,rfl,?_⟩
 rw[sE,decide_eq_true rfl]
 refine Fu ?_
 have S0:=Same.refl C
 have a1:=S5
 clear a3 af aE S5 aV
 rcases ab with⟨am,rfl⟩|⟨S,ab⟩
 ·refine⟨_,rfl,j,λe1 U=>?_⟩
  obtain⟨u,m,G,I⟩:=Gp (K:=K) (S0 _ _ hq) N T U
  have J:Same C (upd C e1 (.lst [])):=S0.trans (mJ U (.lst []))
  generalize upd C e1 (.lst [])=G1 at u m J ⊢
  refine⟨_,_,u,m,G,I,_,rfl,?_⟩
  rw[sE]

  refine Fo am ?_

  refine⟨_,rfl,j,λe2 Z=>?_⟩
  obtain⟨u,m,G,I⟩:=Gp (K:=K) (J _ _ hq) N T Z
  have B:Same C (upd G1 e2 (.lst [])):=J.trans (mJ Z (.lst []))
  generalize upd G1 e2 (.lst [])=G2 at u m B ⊢
  refine⟨_,_,u,m,G,I,_,rfl,?_⟩
  rw[sE]

  refine Fo am ?_

  refine⟨_,rfl,j,λe3 X=>?_⟩
  obtain⟨u,m,G,I⟩:=Gp (K:=K) (B _ _ hq) N T X
  have y:Same C (upd G2 e3 (.lst [])):=B.trans (mJ X (.lst []))
  generalize upd G2 e3 (.lst [])=G3 at u m y ⊢
  refine⟨_,_,u,m,G,I,_,rfl,?_⟩
  rw[sE]

  refine Fo am ?_
  have f:=ak.mono y
  have lk:Fn ps Y=Fn ps Y:=rfl

  refine⟨_,rfl,_,rfl,s0,d,l,ps,ts,Y,rfl,f.bk,ae,(λw hw=>(rp.ok w hw).2),lk▸SqL.of f.la,λH9 S9=>⟨_,rfl,Fu ?_⟩⟩
  exact⟨Y,_,_,_,_,rfl,cG an (gE ao),lk▸f.mono S9⟩

 cases D with
 | wish p t=>
  obtain⟨dd,rfl,hd,bm,bf,bg⟩:=aF
  obtain⟨rfl,r,bb,W⟩:=ab
  have lk:Fn ps Y=(Fn ps R).erase p:=by rw[bb];exact Am rp.nd

  refine⟨_,rfl,j,λe1 U=>?_⟩
  obtain⟨u,m,G,I⟩:=Gp (K:=K) (S0 _ _ hq) N T U
  have J:Same C (upd C e1 (.lst [])):=S0.trans (mJ U (.lst []))
  generalize upd C e1 (.lst [])=G1 at u m J ⊢
  refine⟨_,_,u,m,G,I,_,rfl,?_⟩
  rw[sE]

  refine FC S ?_
  refine⟨_,rfl,dd,_,_,_,rfl,rfl,J.tup hd,rfl,rfl,_,rfl,FC rfl ?_⟩
  refine⟨_,rfl,rfl,_,rfl,Fu ?_⟩

  refine⟨_,rfl,j,λe2 Z=>?_⟩
  obtain⟨u,m,G,I⟩:=Gp (K:=K) (J _ _ hq) N T Z
  have B:Same C (upd G1 e2 (.lst [])):=J.trans (mJ Z (.lst []))
  generalize upd G1 e2 (.lst [])=G2 at u m B ⊢
  refine⟨_,_,u,m,G,I,_,rfl,?_⟩
  rw[sE]

  refine FC S ?_
  refine⟨_,rfl,dd,_,_,_,rfl,rfl,B.tup hd,rfl,rfl,_,rfl,Hl rfl ?_⟩

  refine⟨_,rfl,j,λe3 X=>?_⟩
  obtain⟨u,m,G,I⟩:=Gp (K:=K) (B _ _ hq) N T X
  have y:Same C (upd G2 e3 (.lst [])):=B.trans (mJ X (.lst []))
  generalize upd G2 e3 (.lst [])=G3 at u m y ⊢
  refine⟨_,_,u,m,G,I,_,rfl,?_⟩
  rw[sE]

  refine FC S ?_
  refine⟨_,rfl,dd,_,_,_,rfl,rfl,y.tup hd,rfl,rfl,_,rfl,FC rfl ?_⟩
  have ag:=ak.mono y
  refine⟨_,rfl,dd,_,_,_,rfl,rfl,y.tup hd,rfl,_,rfl,l,_,rfl,.inl (SqL.of ag.la),rfl,ul _,_,rfl,?_⟩
  show if Jw (.str p) ((Fn ps R).map V.str)=true then _ else _
  rw[ui]
  refine FD (λhp=>?_) (λhp=>?_)
  ·refine⟨_,rfl,.inl ⟨rfl,_,SqL.of ag.la⟩,_,rfl,dd,_,_,_,rfl,rfl,y.tup hd,rfl,l,Fn ps R,p,rfl,rfl,ag.la,hp,?_⟩
   have f:=ag.rem (L':=(Fn ps R).erase p) n1 n2 n3
   generalize upd G3 l (.lst (((Fn ps R).erase p).map V.str))=G4 at f ⊢
   refine⟨_,rfl,_,rfl,s0,d,l,ps,ts,Y,rfl,f.bk,ae,(λw hw=>(rp.ok w hw).2),lk▸SqL.of f.la,λH9 S9=>⟨_,rfl,Fu ?_⟩⟩
   exact⟨Y,_,_,_,_,rfl,cG an (gE ao),lk▸f.mono S9⟩

  ·have f:=ag
   rw[<-List.erase_of_not_mem hp]at f
   refine⟨_,rfl,_,rfl,s0,d,l,ps,ts,Y,rfl,f.bk,ae,(λw hw=>(rp.ok w hw).2),lk▸SqL.of f.la,λH9 S9=>⟨_,rfl,Fu ?_⟩⟩
   exact⟨Y,_,_,_,_,rfl,cG an (gE ao),lk▸f.mono S9⟩

 | shares p a5=>
  obtain⟨dd,rfl,hd⟩:=aF
  obtain⟨rfl,l9,a7,rfl,ac⟩:=ab
  have ac:=a1 _ _ ac

  refine⟨_,rfl,j,λe1 U=>?_⟩
  obtain⟨u,m,G,I⟩:=Gp (K:=K) (S0 _ _ hq) N T U
  have J:Same C (upd C e1 (.lst [])):=S0.trans (mJ U (.lst []))
  generalize upd C e1 (.lst [])=G1 at u m J ⊢
  refine⟨_,_,u,m,G,I,_,rfl,?_⟩
  rw[sE]

  refine FC S ?_
  refine⟨_,rfl,dd,_,_,_,rfl,rfl,J.tup hd,rfl,rfl,_,rfl,Fo aH ?_⟩

  refine⟨_,rfl,j,λe2 Z=>?_⟩
  obtain⟨u,m,G,I⟩:=Gp (K:=K) (J _ _ hq) N T Z
  have B:Same C (upd G1 e2 (.lst [])):=J.trans (mJ Z (.lst []))
  generalize upd G1 e2 (.lst [])=G2 at u m B ⊢
  refine⟨_,_,u,m,G,I,_,rfl,?_⟩
  rw[sE]

  refine FC S ?_
  refine⟨_,rfl,dd,_,_,_,rfl,rfl,B.tup hd,rfl,rfl,_,rfl,JJ aH ?_⟩
  refine⟨_,rfl,_,"list","list",rfl,by decide,.inl ⟨rfl,_,SqL.of (B _ _ ac)⟩,_,rfl,Fu ?_⟩

  refine⟨_,rfl,j,λe3 X=>?_⟩
  obtain⟨u,m,G,I⟩:=Gp (K:=K) (B _ _ hq) N T X
  have y:Same C (upd G2 e3 (.lst [])):=B.trans (mJ X (.lst []))
  generalize upd G2 e3 (.lst [])=G3 at u m y ⊢
  refine⟨_,_,u,m,G,I,_,rfl,?_⟩
  rw[sE]

  refine FC S ?_
  refine⟨_,rfl,dd,_,_,_,rfl,rfl,y.tup hd,rfl,rfl,_,rfl,Fo aH ?_⟩
  have f:=ak.mono y
  have lk:Fn ps Y=Fn ps Y:=rfl

  refine⟨_,rfl,_,rfl,s0,d,l,ps,ts,Y,rfl,f.bk,ae,(λw hw=>(rp.ok w hw).2),lk▸SqL.of f.la,λH9 S9=>⟨_,rfl,Fu ?_⟩⟩
  exact⟨Y,_,_,_,_,rfl,cG an (gE ao),lk▸f.mono S9⟩

 | deal a5 bj=>
  obtain⟨dd,g,rfl,hd,hg,bl,bh⟩:=aF
  obtain⟨rfl,l9,a7,rfl,ac⟩:=ab
  have ac:=a1 _ _ ac

  refine⟨_,rfl,j,λe1 U=>?_⟩
  obtain⟨u,m,G,I⟩:=Gp (K:=K) (S0 _ _ hq) N T U
  have J:Same C (upd C e1 (.lst [])):=S0.trans (mJ U (.lst []))
  generalize upd C e1 (.lst [])=G1 at u m J ⊢
  refine⟨_,_,u,m,G,I,_,rfl,?_⟩
  rw[sE]

  refine FC S ?_
  refine⟨_,rfl,dd,_,_,_,rfl,rfl,J.tup hd,rfl,rfl,_,rfl,Fo aG ?_⟩

  refine⟨_,rfl,j,λe2 Z=>?_⟩
  obtain⟨u,m,G,I⟩:=Gp (K:=K) (J _ _ hq) N T Z
  have B:Same C (upd G1 e2 (.lst [])):=J.trans (mJ Z (.lst []))
  generalize upd G1 e2 (.lst [])=G2 at u m B ⊢
  refine⟨_,_,u,m,G,I,_,rfl,?_⟩
  rw[sE]

  refine FC S ?_
  refine⟨_,rfl,dd,_,_,_,rfl,rfl,B.tup hd,rfl,rfl,_,rfl,JJ aG ?_⟩
  refine⟨_,rfl,_,"list","list",rfl,by decide,.inl ⟨rfl,_,SqL.of (B _ _ ac)⟩,_,rfl,Fu ?_⟩

  refine⟨_,rfl,j,λe3 X=>?_⟩
  obtain⟨u,m,G,I⟩:=Gp (K:=K) (B _ _ hq) N T X
  have y:Same C (upd G2 e3 (.lst [])):=B.trans (mJ X (.lst []))
  generalize upd G2 e3 (.lst [])=G3 at u m y ⊢
  refine⟨_,_,u,m,G,I,_,rfl,?_⟩
  rw[sE]

  refine FC S ?_
  refine⟨_,rfl,dd,_,_,_,rfl,rfl,y.tup hd,rfl,rfl,_,rfl,Fo aG ?_⟩
  have f:=ak.mono y
  have lk:Fn ps Y=Fn ps Y:=rfl

  refine⟨_,rfl,_,rfl,s0,d,l,ps,ts,Y,rfl,f.bk,ae,(λw hw=>(rp.ok w hw).2),lk▸SqL.of f.la,λH9 S9=>⟨_,rfl,Fu ?_⟩⟩
  exact⟨Y,_,_,_,_,rfl,cG an (gE ao),lk▸f.mono S9⟩
end
open PySem.W
abbrev Me:String:="wishlots.lots"
abbrev Kp:String:="wishlots.turns"
abbrev Kv:String:="wishlots.eating"
abbrev Jv:String:="wishlots.fractions"
abbrev Iv:String:="wishlots.book"
abbrev Gf:String:="law_wishlots_k51_texts_and_refusals"
def vs(x:String)(n:Nat):bQ:= .str (.ofString x) n
def i(n:Nat):bQ:= .int n 0
def en(P:Params)(x:String)(n:Nat)(v:bQ):DictEntry:={hash:=PyData.keyHash P (.ofString x),key:=vs x n,val:=v}
def di(l:List DictEntry)(n:Nat):Obj:={cls:= .type "dict",data:= .dict l.toArray n}
def tu(l:List bQ):Obj:={cls:= .type "tuple",data:= .seq l.toArray}
def nf(l:List bQ):Obj:={cls:= .none,data:= .fields l.toArray}
def ft(k:Nat)(x:String):Obj:={cls:= .none,data:= .func {name:= .ofString x,qualname:= .ofString x,params:=Fw (Fk k),body:= .stmts (Fp (Fk k)),scope:=Ff (Fk k),globals:=0,closure:=[],defaults:= .none,kwdefaults:= .none}}
def fo(k:Nat)(x m:String)(t c:Nat):Obj:={cls:= .type "function",data:= .func {name:= .ofString x,qualname:= .ofString x,params:=Fw (Fk k),body:= .stmts (Fp (Fk k)),scope:=Ff (Fk k),globals:=3,closure:=[],defaults:= .none,kwdefaults:= .none,pyModule:=vs m t,code:= .ref c}}
def co(x:String)(a b c:Nat)(r:List bQ)(z:Nat):Obj:={cls:= .type "code",data:= .fields (vs x a::vs x b::vs "/claim/cut.py" c::(r++[vs "/claim/cut.py" z])).toArray}
def fc(k j:Nat)(x q:String):Obj:={cls:= .none,data:= .func {name:= .ofString x,qualname:= .ofString q,params:=Fw (IW k j),body:= .stmts (Fp (IW k j)),scope:=Ff (IW k j),globals:=0,closure:=[],defaults:= .none,kwdefaults:= .none}}
def fm(k j:Nat)(x q m:String)(t c:Nat):Obj:={cls:= .type "function",data:= .func {name:= .ofString x,qualname:= .ofString q,params:=Fw (IW k j),body:= .stmts (Fp (IW k j)),scope:=Ff (IW k j),globals:=3,closure:=[],defaults:= .none,kwdefaults:= .none,pyModule:=vs m t,code:= .ref c}}
def cq(x q:String)(a b c:Nat)(r:List bQ)(z:Nat):Obj:={cls:= .type "code",data:= .fields (vs x a::vs q b::vs "/claim/cut.py" c::(r++[vs "/claim/cut.py" z])).toArray}
def NA(P:Params):List DictEntry:=[en P "__name__" 165 (vs Gf 684),en P "__doc__" 166 (.none),en P "__package__" 167 (.none),en P "__loader__" 168 (.builtin "__main__.__loader__#opaque"),en P "__spec__" 169 (.none),en P "__annotations__" 170 (.ref 6),en P "__builtins__" 171 (.ref 4),en P "__file__" 173 (vs "/claim/cut.py" 172),en P "__cached__" 174 (.none),en P "WishError" 206 (.ref 24),en P "NoFraction" 222 (.ref 37),en P "NoWishes" 238 (.ref 49),en P "NoTable" 254 (.ref 61),en P "NoPick" 270 (.ref 73),en P "NoOrder" 286 (.ref 85),en P "NoRoll" 302 (.ref 97),en P "NoPerson" 318 (.ref 109),en P "Unready" 334 (.ref 121),en P "NoWay" 350 (.ref 133),en P "NOTHING" 355 (.ref 136),en P "WHOLE" 358 (.ref 137),en P "is_whole" 365 (.ref 144),en P "common_divisor" 376 (.ref 151),en P "fraction" 385 (.ref 158),en P "plus" 393 (.ref 165),en P "minus" 401 (.ref 172),en P "times" 409 (.ref 179),en P "before" 417 (.ref 186),en P "total" 426 (.ref 193),en P "least" 435 (.ref 200),en P "best_left" 443 (.ref 205),en P "time_to_stop" 449 (.ref 210),en P "left_behind" 455 (.ref 215),en P "courses_of" 461 (.ref 220),en P "eaten_of" 467 (.ref 225),en P "eaten_by" 473 (.ref 230),en P "eaten" 479 (.ref 235),en P "deal_within" 493 (.ref 242),en P "row_without" 503 (.ref 249),en P "lots_of" 509 (.ref 254),en P "picked" 519 (.ref 261),en P "MOST_PEOPLE" 523 (.int 6 522),en P "is_listing" 530 (.ref 268),en P "has_people" 537 (.ref 275),en P "best_free" 545 (.ref 280),en P "with_one" 553 (.ref 287),en P "turns_from" 559 (.ref 292),en P "orders_of" 568 (.ref 299),en P "counts_of" 585 (.ref 306),en P "shares_by_turns" 591 (.ref 311),en P "by_turns" 597 (.ref 316),en P "MOST_SIGNS" 601 (.int 12 600),en P "is_word" 607 (.ref 321),en P "is_roll" 613 (.ref 326),en P "Book" 683 (.ref 375),en P "_law_cell_at" 693 (.ref 386),en P "_law_mixed" 704 (.ref 393),en P "_law_perm" 714 (.ref 400),en P "_law_divisor" 723 (.ref 407),en P "_law_lowest" 732 (.ref 414),en P "_law_base" 743 (.ref 421),en P "_law_word" 755 (.ref 428),en P "_law_words" 770 (.ref 435),en P "_law_same" 779 (.ref 442),en P "_law_kinds" 787 (.ref 449),en P "_law_bad_roll" 801 (.ref 456),en P "_law_no_roll" 812 (.ref 463),en P "_law_person" 822 (.ref 470),en P "_law_text" 828 (.ref 475),en P "_law_deed" 840 (.ref 482),en P "_law_due" 851 (.ref 489),en P "_law_told" 862 (.ref 496),en P "_law_lacks_well" 872 (.ref 503),en P "law" 889 (.ref 510)]
def OA:List bQ:=[i 2,i 0,.ref 20,i 4,i 0,.ref 33,i 6,i 0,.ref 45,i 8,i 0,.ref 57,i 10,i 0,.ref 69,i 12,i 0,.ref 81,i 14,i 0,.ref 93,i 16,i 0,.ref 105,i 18,i 0,.ref 117,i 20,i 0,.ref 129,i 25,i 0,.ref 143,i 27,i 0,.ref 150,i 35,i 0,.ref 157,i 42,i 0,.ref 164,i 44,i 0,.ref 171,i 46,i 0,.ref 178,i 48,i 0,.ref 185,i 50,i 0,.ref 192,i 55,i 0,.ref 199,i 62,i 0,.ref 204,i 64,i 0,.ref 209,i 66,i 0,.ref 214,i 68,i 0,.ref 219,i 78,i 0,.ref 224,i 80,i 0,.ref 229,i 82,i 0,.ref 234,i 86,i 0,.ref 241,i 96,i 0,.ref 248,i 100,i 0,.ref 253,i 111,i 0,.ref 260,i 122,i 0,.ref 267,i 124,i 0,.ref 274,i 127,i 0,.ref 279,i 129,i 0,.ref 286,i 131,i 0,.ref 291,i 134,i 0,.ref 298,i 139,i 0,.ref 305,i 152,i 0,.ref 310,i 155,i 0,.ref 315,i 160,i 0,.ref 320,i 164,i 0,.ref 325,i 166,i 0,.ref 332,i 210,i 0,.ref 385,i 214,i 0,.ref 392,i 227,i 0,.ref 399,i 233,i 0,.ref 406,i 239,i 0,.ref 413,i 246,i 0,.ref 420,i 258,i 0,.ref 427,i 262,i 0,.ref 434,i 273,i 0,.ref 441,i 290,i 0,.ref 448,i 313,i 0,.ref 455,i 331,i 0,.ref 462,i 342,i 0,.ref 469,i 350,i 0,.ref 474,i 366,i 0,.ref 481,i 375,i 0,.ref 488,i 390,i 0,.ref 495,i 405,i 0,.ref 502,i 412,i 0,.ref 509]
noncomputable def obs(P:Params):List Obj:=(iS P).objs.toList++[tu [],
 nf [],
 co "<module>" 182 183 184 [i 1,i 0,i 0,i 0,i 0,.ref 11,.bool false,i 181,.ref 12,.none,.none,.none,.none,i 185,i 1] 186,
 {cls:= .type "frame",slots:= #[some (.ref 13),some (.ref 3),some (.ref 3),none,some (vs "__main__" 164),none,some (.ref 0)]},
 tu [.type "ValueError"],
 {cls:= .type "builtin_function_or_method",data:= .fields #[.builtin "type.__prepare__",.type "type"]},
 di [en P "__module__" 196 (vs "wishlots.errors" 187),en P "__qualname__" 198 (vs "WishError" 197),en P "__firstlineno__" 200 (.int 2 199),en P "__static_attributes__" 201 (.ref 22)] 4,
 tu [],
 nf [],
 co "WishError" 191 192 193 [i 2,i 0,i 0,i 0,i 0,.ref 18,.bool false,i 181,.ref 19,.none,.none,.none,.none,i 194,i 2] 195,
 {cls:= .type "frame",slots:= #[some (.ref 20),some (.ref 3),some (.ref 17),none,some (vs "wishlots.errors" 187),none,some (.ref 0)]},
 tu [],
 di [en P "__module__" 196 (vs "wishlots.errors" 187),en P "__firstlineno__" 200 (.int 2 199),en P "__static_attributes__" 201 (.ref 22),en P "__weakref__" 203 (.ref 25),en P "__doc__" 204 (.none)] 3,
 {cls:= .type "type",data:= .cls {name:="WishError",bases:=[.type "ValueError"],mro:=[.ref 24,.type "ValueError",.type "Exception",.type "BaseException",.type "object"],ns:=23,qualname:="WishError",subclasses:=[.ref 37,.ref 49,.ref 61,.ref 73,.ref 85,.ref 97,.ref 109,.ref 121,.ref 133]},slots:= #[some (.ref 15),none,some (vs "WishError" 189),some (vs "WishError" 197),some (.builtin "ValueError.__new__"),some (.bool true)]},
 {cls:= .type "getset_descriptor",data:= .fields #[vs "__weakref__" 202,.ref 24,.builtin "ExceptionGroup.__weakref__",.none]},
 {cls:= .type "super",data:= .fields #[.ref 24,.ref 24,.ref 24]},
 {cls:= .type "builtin_function_or_method",data:= .fields #[.builtin "object.__init_subclass__",.ref 24]},
 tu [.ref 24],
 {cls:= .type "builtin_function_or_method",data:= .fields #[.builtin "type.__prepare__",.type "type"]},
 di [en P "__module__" 214 (vs "wishlots.errors" 187),en P "__qualname__" 216 (vs "NoFraction" 215),en P "__firstlineno__" 218 (.int 4 217),en P "__static_attributes__" 219 (.ref 35)] 4,
 tu [],
 nf [],
 co "NoFraction" 209 210 211 [i 4,i 0,i 0,i 0,i 0,.ref 31,.bool false,i 181,.ref 32,.none,.none,.none,.none,i 212,i 4] 213,
 {cls:= .type "frame",slots:= #[some (.ref 33),some (.ref 3),some (.ref 30),none,some (vs "wishlots.errors" 187),none,some (.ref 0)]},
 tu [],
 di [en P "__module__" 214 (vs "wishlots.errors" 187),en P "__firstlineno__" 218 (.int 4 217),en P "__static_attributes__" 219 (.ref 35),en P "__doc__" 220 (.none)] 2,
 {cls:= .type "type",data:= .cls {name:="NoFraction",bases:=[.ref 24],mro:=[.ref 37,.ref 24,.type "ValueError",.type "Exception",.type "BaseException",.type "object"],ns:=36,qualname:="NoFraction"},slots:= #[some (.ref 28),none,some (vs "NoFraction" 207),some (vs "NoFraction" 215),some (.builtin "ValueError.__new__"),some (.bool true)]},
 {cls:= .type "super",data:= .fields #[.ref 37,.ref 37,.ref 37]},
 {cls:= .type "builtin_function_or_method",data:= .fields #[.builtin "object.__init_subclass__",.ref 37]},
 tu [.ref 24],
 {cls:= .type "builtin_function_or_method",data:= .fields #[.builtin "type.__prepare__",.type "type"]},
 di [en P "__module__" 230 (vs "wishlots.errors" 187),en P "__qualname__" 232 (vs "NoWishes" 231),en P "__firstlineno__" 234 (.int 6 233),en P "__static_attributes__" 235 (.ref 47)] 4,
 tu [],
 nf [],
 co "NoWishes" 225 226 227 [i 6,i 0,i 0,i 0,i 0,.ref 43,.bool false,i 181,.ref 44,.none,.none,.none,.none,i 228,i 6] 229,
 {cls:= .type "frame",slots:= #[some (.ref 45),some (.ref 3),some (.ref 42),none,some (vs "wishlots.errors" 187),none,some (.ref 0)]},
 tu [],
 di [en P "__module__" 230 (vs "wishlots.errors" 187),en P "__firstlineno__" 234 (.int 6 233),en P "__static_attributes__" 235 (.ref 47),en P "__doc__" 236 (.none)] 2,
 {cls:= .type "type",data:= .cls {name:="NoWishes",bases:=[.ref 24],mro:=[.ref 49,.ref 24,.type "ValueError",.type "Exception",.type "BaseException",.type "object"],ns:=48,qualname:="NoWishes"},slots:= #[some (.ref 40),none,some (vs "NoWishes" 223),some (vs "NoWishes" 231),some (.builtin "ValueError.__new__"),some (.bool true)]},
 {cls:= .type "super",data:= .fields #[.ref 49,.ref 49,.ref 49]},
 {cls:= .type "builtin_function_or_method",data:= .fields #[.builtin "object.__init_subclass__",.ref 49]},
 tu [.ref 24],
 {cls:= .type "builtin_function_or_method",data:= .fields #[.builtin "type.__prepare__",.type "type"]},
 di [en P "__module__" 246 (vs "wishlots.errors" 187),en P "__qualname__" 248 (vs "NoTable" 247),en P "__firstlineno__" 250 (.int 8 249),en P "__static_attributes__" 251 (.ref 59)] 4,
 tu [],
 nf [],
 co "NoTable" 241 242 243 [i 8,i 0,i 0,i 0,i 0,.ref 55,.bool false,i 181,.ref 56,.none,.none,.none,.none,i 244,i 8] 245,
 {cls:= .type "frame",slots:= #[some (.ref 57),some (.ref 3),some (.ref 54),none,some (vs "wishlots.errors" 187),none,some (.ref 0)]},
 tu [],
 di [en P "__module__" 246 (vs "wishlots.errors" 187),en P "__firstlineno__" 250 (.int 8 249),en P "__static_attributes__" 251 (.ref 59),en P "__doc__" 252 (.none)] 2,
 {cls:= .type "type",data:= .cls {name:="NoTable",bases:=[.ref 24],mro:=[.ref 61,.ref 24,.type "ValueError",.type "Exception",.type "BaseException",.type "object"],ns:=60,qualname:="NoTable"},slots:= #[some (.ref 52),none,some (vs "NoTable" 239),some (vs "NoTable" 247),some (.builtin "ValueError.__new__"),some (.bool true)]},
 {cls:= .type "super",data:= .fields #[.ref 61,.ref 61,.ref 61]},
 {cls:= .type "builtin_function_or_method",data:= .fields #[.builtin "object.__init_subclass__",.ref 61]},
 tu [.ref 24],
 {cls:= .type "builtin_function_or_method",data:= .fields #[.builtin "type.__prepare__",.type "type"]},
 di [en P "__module__" 262 (vs "wishlots.errors" 187),en P "__qualname__" 264 (vs "NoPick" 263),en P "__firstlineno__" 266 (.int 10 265),en P "__static_attributes__" 267 (.ref 71)] 4,
 tu [],
 nf [],
 co "NoPick" 257 258 259 [i 10,i 0,i 0,i 0,i 0,.ref 67,.bool false,i 181,.ref 68,.none,.none,.none,.none,i 260,i 10] 261,
 {cls:= .type "frame",slots:= #[some (.ref 69),some (.ref 3),some (.ref 66),none,some (vs "wishlots.errors" 187),none,some (.ref 0)]},
 tu [],
 di [en P "__module__" 262 (vs "wishlots.errors" 187),en P "__firstlineno__" 266 (.int 10 265),en P "__static_attributes__" 267 (.ref 71),en P "__doc__" 268 (.none)] 2,
 {cls:= .type "type",data:= .cls {name:="NoPick",bases:=[.ref 24],mro:=[.ref 73,.ref 24,.type "ValueError",.type "Exception",.type "BaseException",.type "object"],ns:=72,qualname:="NoPick"},slots:= #[some (.ref 64),none,some (vs "NoPick" 255),some (vs "NoPick" 263),some (.builtin "ValueError.__new__"),some (.bool true)]},
 {cls:= .type "super",data:= .fields #[.ref 73,.ref 73,.ref 73]},
 {cls:= .type "builtin_function_or_method",data:= .fields #[.builtin "object.__init_subclass__",.ref 73]},
 tu [.ref 24],
 {cls:= .type "builtin_function_or_method",data:= .fields #[.builtin "type.__prepare__",.type "type"]},
 di [en P "__module__" 278 (vs "wishlots.errors" 187),en P "__qualname__" 280 (vs "NoOrder" 279),en P "__firstlineno__" 282 (.int 12 281),en P "__static_attributes__" 283 (.ref 83)] 4,
 tu [],
 nf [],
 co "NoOrder" 273 274 275 [i 12,i 0,i 0,i 0,i 0,.ref 79,.bool false,i 181,.ref 80,.none,.none,.none,.none,i 276,i 12] 277,
 {cls:= .type "frame",slots:= #[some (.ref 81),some (.ref 3),some (.ref 78),none,some (vs "wishlots.errors" 187),none,some (.ref 0)]},
 tu [],
 di [en P "__module__" 278 (vs "wishlots.errors" 187),en P "__firstlineno__" 282 (.int 12 281),en P "__static_attributes__" 283 (.ref 83),en P "__doc__" 284 (.none)] 2,
 {cls:= .type "type",data:= .cls {name:="NoOrder",bases:=[.ref 24],mro:=[.ref 85,.ref 24,.type "ValueError",.type "Exception",.type "BaseException",.type "object"],ns:=84,qualname:="NoOrder"},slots:= #[some (.ref 76),none,some (vs "NoOrder" 271),some (vs "NoOrder" 279),some (.builtin "ValueError.__new__"),some (.bool true)]},
 {cls:= .type "super",data:= .fields #[.ref 85,.ref 85,.ref 85]},
 {cls:= .type "builtin_function_or_method",data:= .fields #[.builtin "object.__init_subclass__",.ref 85]},
 tu [.ref 24],
 {cls:= .type "builtin_function_or_method",data:= .fields #[.builtin "type.__prepare__",.type "type"]},
 di [en P "__module__" 294 (vs "wishlots.errors" 187),en P "__qualname__" 296 (vs "NoRoll" 295),en P "__firstlineno__" 298 (.int 14 297),en P "__static_attributes__" 299 (.ref 95)] 4,
 tu [],
 nf [],
 co "NoRoll" 289 290 291 [i 14,i 0,i 0,i 0,i 0,.ref 91,.bool false,i 181,.ref 92,.none,.none,.none,.none,i 292,i 14] 293,
 {cls:= .type "frame",slots:= #[some (.ref 93),some (.ref 3),some (.ref 90),none,some (vs "wishlots.errors" 187),none,some (.ref 0)]},
 tu [],
 di [en P "__module__" 294 (vs "wishlots.errors" 187),en P "__firstlineno__" 298 (.int 14 297),en P "__static_attributes__" 299 (.ref 95),en P "__doc__" 300 (.none)] 2,
 {cls:= .type "type",data:= .cls {name:="NoRoll",bases:=[.ref 24],mro:=[.ref 97,.ref 24,.type "ValueError",.type "Exception",.type "BaseException",.type "object"],ns:=96,qualname:="NoRoll"},slots:= #[some (.ref 88),none,some (vs "NoRoll" 287),some (vs "NoRoll" 295),some (.builtin "ValueError.__new__"),some (.bool true)]},
 {cls:= .type "super",data:= .fields #[.ref 97,.ref 97,.ref 97]},
 {cls:= .type "builtin_function_or_method",data:= .fields #[.builtin "object.__init_subclass__",.ref 97]},
 tu [.ref 24],
 {cls:= .type "builtin_function_or_method",data:= .fields #[.builtin "type.__prepare__",.type "type"]},
 di [en P "__module__" 310 (vs "wishlots.errors" 187),en P "__qualname__" 312 (vs "NoPerson" 311),en P "__firstlineno__" 314 (.int 16 313),en P "__static_attributes__" 315 (.ref 107)] 4,
 tu [],
 nf [],
 co "NoPerson" 305 306 307 [i 16,i 0,i 0,i 0,i 0,.ref 103,.bool false,i 181,.ref 104,.none,.none,.none,.none,i 308,i 16] 309,
 {cls:= .type "frame",slots:= #[some (.ref 105),some (.ref 3),some (.ref 102),none,some (vs "wishlots.errors" 187),none,some (.ref 0)]},
 tu [],
 di [en P "__module__" 310 (vs "wishlots.errors" 187),en P "__firstlineno__" 314 (.int 16 313),en P "__static_attributes__" 315 (.ref 107),en P "__doc__" 316 (.none)] 2,
 {cls:= .type "type",data:= .cls {name:="NoPerson",bases:=[.ref 24],mro:=[.ref 109,.ref 24,.type "ValueError",.type "Exception",.type "BaseException",.type "object"],ns:=108,qualname:="NoPerson"},slots:= #[some (.ref 100),none,some (vs "NoPerson" 303),some (vs "NoPerson" 311),some (.builtin "ValueError.__new__"),some (.bool true)]},
 {cls:= .type "super",data:= .fields #[.ref 109,.ref 109,.ref 109]},
 {cls:= .type "builtin_function_or_method",data:= .fields #[.builtin "object.__init_subclass__",.ref 109]},
 tu [.ref 24],
 {cls:= .type "builtin_function_or_method",data:= .fields #[.builtin "type.__prepare__",.type "type"]},
 di [en P "__module__" 326 (vs "wishlots.errors" 187),en P "__qualname__" 328 (vs "Unready" 327),en P "__firstlineno__" 330 (.int 18 329),en P "__static_attributes__" 331 (.ref 119)] 4,
 tu [],
 nf [],
 co "Unready" 321 322 323 [i 18,i 0,i 0,i 0,i 0,.ref 115,.bool false,i 181,.ref 116,.none,.none,.none,.none,i 324,i 18] 325,
 {cls:= .type "frame",slots:= #[some (.ref 117),some (.ref 3),some (.ref 114),none,some (vs "wishlots.errors" 187),none,some (.ref 0)]},
 tu [],
 di [en P "__module__" 326 (vs "wishlots.errors" 187),en P "__firstlineno__" 330 (.int 18 329),en P "__static_attributes__" 331 (.ref 119),en P "__doc__" 332 (.none)] 2,
 {cls:= .type "type",data:= .cls {name:="Unready",bases:=[.ref 24],mro:=[.ref 121,.ref 24,.type "ValueError",.type "Exception",.type "BaseException",.type "object"],ns:=120,qualname:="Unready"},slots:= #[some (.ref 112),none,some (vs "Unready" 319),some (vs "Unready" 327),some (.builtin "ValueError.__new__"),some (.bool true)]},
 {cls:= .type "super",data:= .fields #[.ref 121,.ref 121,.ref 121]},
 {cls:= .type "builtin_function_or_method",data:= .fields #[.builtin "object.__init_subclass__",.ref 121]},
 tu [.ref 24],
 {cls:= .type "builtin_function_or_method",data:= .fields #[.builtin "type.__prepare__",.type "type"]},
 di [en P "__module__" 342 (vs "wishlots.errors" 187),en P "__qualname__" 344 (vs "NoWay" 343),en P "__firstlineno__" 346 (.int 20 345),en P "__static_attributes__" 347 (.ref 131)] 4,
 tu [],
 nf [],
 co "NoWay" 337 338 339 [i 20,i 0,i 0,i 0,i 0,.ref 127,.bool false,i 181,.ref 128,.none,.none,.none,.none,i 340,i 20] 341,
 {cls:= .type "frame",slots:= #[some (.ref 129),some (.ref 3),some (.ref 126),none,some (vs "wishlots.errors" 187),none,some (.ref 0)]},
 tu [],
 di [en P "__module__" 342 (vs "wishlots.errors" 187),en P "__firstlineno__" 346 (.int 20 345),en P "__static_attributes__" 347 (.ref 131),en P "__doc__" 348 (.none)] 2,
 {cls:= .type "type",data:= .cls {name:="NoWay",bases:=[.ref 24],mro:=[.ref 133,.ref 24,.type "ValueError",.type "Exception",.type "BaseException",.type "object"],ns:=132,qualname:="NoWay"},slots:= #[some (.ref 124),none,some (vs "NoWay" 335),some (vs "NoWay" 343),some (.builtin "ValueError.__new__"),some (.bool true)]},
 {cls:= .type "super",data:= .fields #[.ref 133,.ref 133,.ref 133]},
 {cls:= .type "builtin_function_or_method",data:= .fields #[.builtin "object.__init_subclass__",.ref 133]},
 tu [.int 0 353,.int 1 354],
 tu [.int 1 356,.int 1 357],
 tu [],
 nf [],
 tu [vs "value" 362],
 tu [],
 ft 14 "is_whole",
 co "is_whole" 359 360 361 [i 25,i 1,i 0,i 0,i 3,.ref 138,.bool true,i 181,.ref 139,.none,.ref 140,.ref 141,.ref 142,i 363,i 25] 364,
 fo 14 "is_whole" Jv 351 143,
 tu [],
 nf [],
 tu [vs "one" 369,vs "two" 370,vs "greater" 371,vs "smaller" 372,vs "rest" 373],
 tu [],
 ft 15 "common_divisor",
 co "common_divisor" 366 367 368 [i 27,i 2,i 0,i 0,i 3,.ref 145,.bool true,i 181,.ref 146,.none,.ref 147,.ref 148,.ref 149,i 374,i 27] 375,
 fo 15 "common_divisor" Jv 351 150,
 tu [],
 nf [],
 tu [vs "top" 380,vs "bottom" 381,vs "divisor" 382],
 tu [],
 ft 16 "fraction",
 co "fraction" 377 378 379 [i 35,i 2,i 0,i 0,i 3,.ref 152,.bool true,i 181,.ref 153,.none,.ref 154,.ref 155,.ref 156,i 383,i 35] 384,
 fo 16 "fraction" Jv 351 157,
 tu [],
 nf [],
 tu [vs "one" 389,vs "two" 390],
 tu [],
 ft 17 "plus",
 co "plus" 386 387 388 [i 42,i 2,i 0,i 0,i 3,.ref 159,.bool true,i 181,.ref 160,.none,.ref 161,.ref 162,.ref 163,i 391,i 42] 392,
 fo 17 "plus" Jv 351 164,
 tu [],
 nf [],
 tu [vs "one" 397,vs "two" 398],
 tu [],
 ft 18 "minus",
 co "minus" 394 395 396 [i 44,i 2,i 0,i 0,i 3,.ref 166,.bool true,i 181,.ref 167,.none,.ref 168,.ref 169,.ref 170,i 399,i 44] 400,
 fo 18 "minus" Jv 351 171,
 tu [],
 nf [],
 tu [vs "one" 405,vs "two" 406],
 tu [],
 ft 19 "times",
 co "times" 402 403 404 [i 46,i 2,i 0,i 0,i 3,.ref 173,.bool true,i 181,.ref 174,.none,.ref 175,.ref 176,.ref 177,i 407,i 46] 408,
 fo 19 "times" Jv 351 178,
 tu [],
 nf [],
 tu [vs "one" 413,vs "two" 414],
 tu [],
 ft 20 "before",
 co "before" 410 411 412 [i 48,i 2,i 0,i 0,i 3,.ref 180,.bool true,i 181,.ref 181,.none,.ref 182,.ref 183,.ref 184,i 415,i 48] 416,
 fo 20 "before" Jv 351 185,
 tu [],
 nf [],
 tu [vs "parts" 421,vs "so_far" 422,vs "part" 423],
 tu [],
 ft 21 "total",
 co "total" 418 419 420 [i 50,i 1,i 0,i 0,i 3,.ref 187,.bool true,i 181,.ref 188,.none,.ref 189,.ref 190,.ref 191,i 424,i 50] 425,
 fo 21 "total" Jv 351 192,
 tu [],
 nf [],
 tu [vs "parts" 430,vs "smallest" 431,vs "part" 432],
 tu [],
 ft 22 "least",
 co "least" 427 428 429 [i 55,i 1,i 0,i 0,i 3,.ref 194,.bool true,i 181,.ref 195,.none,.ref 196,.ref 197,.ref 198,i 433,i 55] 434,
 fo 22 "least" Jv 351 199,
 tu [],
 nf [],
 ft 24 "best_left",
 co "best_left" 438 439 440 [i 62,i 2,i 0,i 0,i 3,.ref 201,.bool true,i 181,.ref 202,.none,.none,.none,.ref 203,i 441,i 62] 442,
 fo 24 "best_left" Kv 436 204,
 tu [],
 nf [],
 ft 25 "time_to_stop",
 co "time_to_stop" 444 445 446 [i 64,i 2,i 0,i 0,i 3,.ref 206,.bool true,i 181,.ref 207,.none,.none,.none,.ref 208,i 447,i 64] 448,
 fo 25 "time_to_stop" Kv 436 209,
 tu [],
 nf [],
 ft 26 "left_behind",
 co "left_behind" 450 451 452 [i 66,i 3,i 0,i 0,i 3,.ref 211,.bool true,i 181,.ref 212,.none,.none,.none,.ref 213,i 453,i 66] 454,
 fo 26 "left_behind" Kv 436 214,
 tu [],
 nf [],
 ft 27 "courses_of",
 co "courses_of" 456 457 458 [i 68,i 1,i 0,i 0,i 3,.ref 216,.bool true,i 181,.ref 217,.none,.none,.none,.ref 218,i 459,i 68] 460,
 fo 27 "courses_of" Kv 436 219,
 tu [],
 nf [],
 ft 28 "eaten_of",
 co "eaten_of" 462 463 464 [i 78,i 3,i 0,i 0,i 3,.ref 221,.bool true,i 181,.ref 222,.none,.none,.none,.ref 223,i 465,i 78] 466,
 fo 28 "eaten_of" Kv 436 224,
 tu [],
 nf [],
 ft 29 "eaten_by",
 co "eaten_by" 468 469 470 [i 80,i 3,i 0,i 0,i 3,.ref 226,.bool true,i 181,.ref 227,.none,.none,.none,.ref 228,i 471,i 80] 472,
 fo 29 "eaten_by" Kv 436 229,
 tu [],
 nf [],
 ft 30 "eaten",
 co "eaten" 474 475 476 [i 82,i 1,i 0,i 0,i 3,.ref 231,.bool true,i 181,.ref 232,.none,.none,.none,.ref 233,i 477,i 82] 478,
 fo 30 "eaten" Kv 436 234,
 tu [],
 nf [],
 tu [vs "left" 485,vs "begun" 486,vs "person" 487,vs "thing" 488,vs "part" 489,vs "deal" 490],
 tu [],
 ft 32 "deal_within",
 co "deal_within" 482 483 484 [i 86,i 2,i 0,i 0,i 3,.ref 236,.bool true,i 181,.ref 237,.none,.ref 238,.ref 239,.ref 240,i 491,i 86] 492,
 fo 32 "deal_within" Me 480 241,
 tu [],
 nf [],
 tu [vs "row" 497,vs "thing" 498,vs "weight" 499,vs "rest" 500],
 tu [],
 ft 33 "row_without",
 co "row_without" 494 495 496 [i 96,i 3,i 0,i 0,i 3,.ref 243,.bool true,i 181,.ref 244,.none,.ref 245,.ref 246,.ref 247,i 501,i 96] 502,
 fo 33 "row_without" Me 480 248,
 tu [],
 nf [],
 ft 34 "lots_of",
 co "lots_of" 504 505 506 [i 100,i 1,i 0,i 0,i 3,.ref 250,.bool true,i 181,.ref 251,.none,.none,.none,.ref 252,i 507,i 100] 508,
 fo 34 "lots_of" Me 480 253,
 tu [],
 nf [],
 tu [vs "lots" 513,vs "number" 514,vs "place" 515,vs "so_far" 516],
 tu [],
 ft 35 "picked",
 co "picked" 510 511 512 [i 111,i 2,i 0,i 0,i 3,.ref 255,.bool true,i 181,.ref 256,.none,.ref 257,.ref 258,.ref 259,i 517,i 111] 518,
 fo 35 "picked" Me 480 260,
 tu [],
 nf [],
 tu [vs "value" 527],
 tu [],
 ft 38 "is_listing",
 co "is_listing" 524 525 526 [i 122,i 1,i 0,i 0,i 3,.ref 262,.bool true,i 181,.ref 263,.none,.ref 264,.ref 265,.ref 266,i 528,i 122] 529,
 fo 38 "is_listing" "wishlots.tables" 520 267,
 tu [],
 nf [],
 tu [vs "rows" 534],
 tu [],
 ft 39 "has_people",
 co "has_people" 531 532 533 [i 124,i 1,i 0,i 0,i 3,.ref 269,.bool true,i 181,.ref 270,.none,.ref 271,.ref 272,.ref 273,i 535,i 124] 536,
 fo 39 "has_people" "wishlots.tables" 520 274,
 tu [],
 nf [],
 ft 41 "best_free",
 co "best_free" 540 541 542 [i 127,i 2,i 0,i 0,i 3,.ref 276,.bool true,i 181,.ref 277,.none,.none,.none,.ref 278,i 543,i 127] 544,
 fo 41 "best_free" Kp 538 279,
 tu [],
 nf [],
 tu [vs "numbers" 549,vs "number" 550],
 tu [],
 ft 42 "with_one",
 co "with_one" 546 547 548 [i 129,i 2,i 0,i 0,i 3,.ref 281,.bool true,i 181,.ref 282,.none,.ref 283,.ref 284,.ref 285,i 551,i 129] 552,
 fo 42 "with_one" Kp 538 286,
 tu [],
 nf [],
 ft 43 "turns_from",
 co "turns_from" 554 555 556 [i 131,i 3,i 0,i 0,i 3,.ref 288,.bool true,i 181,.ref 289,.none,.none,.none,.ref 290,i 557,i 131] 558,
 fo 43 "turns_from" Kp 538 291,
 tu [],
 nf [],
 tu [vs "count" 563,vs "orders" 564,vs "number" 565],
 tu [],
 ft 44 "orders_of",
 co "orders_of" 560 561 562 [i 134,i 1,i 0,i 0,i 3,.ref 293,.bool true,i 181,.ref 294,.none,.ref 295,.ref 296,.ref 297,i 566,i 134] 567,
 fo 44 "orders_of" Kp 538 298,
 tu [],
 nf [],
 tu [vs "wishes" 572,vs "counts" 573,vs "beginnings" 574,vs "turn" 575,vs "endings" 576,vs "longer" 577,vs "beginning" 578,vs "number" 579,vs "person" 580,vs "thing" 581,vs "state" 582],
 tu [],
 ft 45 "counts_of",
 co "counts_of" 569 570 571 [i 139,i 1,i 0,i 0,i 3,.ref 300,.bool true,i 181,.ref 301,.none,.ref 302,.ref 303,.ref 304,i 583,i 139] 584,
 fo 45 "counts_of" Kp 538 305,
 tu [],
 nf [],
 ft 46 "shares_by_turns",
 co "shares_by_turns" 586 587 588 [i 152,i 3,i 0,i 0,i 3,.ref 307,.bool true,i 181,.ref 308,.none,.none,.none,.ref 309,i 589,i 152] 590,
 fo 46 "shares_by_turns" Kp 538 310,
 tu [],
 nf [],
 ft 47 "by_turns",
 co "by_turns" 592 593 594 [i 155,i 1,i 0,i 0,i 3,.ref 312,.bool true,i 181,.ref 313,.none,.none,.none,.ref 314,i 595,i 155] 596,
 fo 47 "by_turns" Kp 538 315,
 tu [],
 nf [],
 ft 50 "is_word",
 co "is_word" 602 603 604 [i 160,i 1,i 0,i 0,i 3,.ref 317,.bool true,i 181,.ref 318,.none,.none,.none,.ref 319,i 605,i 160] 606,
 fo 50 "is_word" Iv 598 320,
 tu [],
 nf [],
 ft 51 "is_roll",
 co "is_roll" 608 609 610 [i 164,i 1,i 0,i 0,i 3,.ref 322,.bool true,i 181,.ref 323,.none,.none,.none,.ref 324,i 611,i 164] 612,
 fo 51 "is_roll" Iv 598 325,
 tu [],
 {cls:= .type "builtin_function_or_method",data:= .fields #[.builtin "type.__prepare__",.type "type"]},
 di [en P "__module__" 621 (vs Iv 598),en P "__qualname__" 623 (vs "Book" 622),en P "__firstlineno__" 625 (.int 166 624),en P "__init__" 634 (.ref 340),en P "check_person" 642 (.ref 347),en P "wish" 648 (.ref 352),en P "lacking" 654 (.ref 357),en P "table_by" 660 (.ref 362),en P "shares" 666 (.ref 367),en P "deal" 672 (.ref 372),en P "__static_attributes__" 676 (.ref 373)] 11,
 tu [],
 nf [i 168,i 4,.ref 339,i 175,i 4,.ref 346,i 179,i 4,.ref 351,i 186,i 4,.ref 356,i 189,i 4,.ref 361,i 199,i 4,.ref 366,i 205,i 4,.ref 371],
 co "Book" 616 617 618 [i 166,i 0,i 0,i 0,i 0,.ref 330,.bool false,i 181,.ref 331,.none,.none,.none,.none,i 619,i 166] 620,
 {cls:= .type "frame",slots:= #[some (.ref 332),some (.ref 3),some (.ref 329),none,some (vs Iv 598),none,some (.ref 0)]},
 tu [],
 nf [],
 tu [vs "self" 629,vs "people" 630,vs "things" 631],
 tu [],
 fc 52 0 "__init__" "Book.__init__",
 cq "__init__" "Book.__init__" 626 627 628 [i 168,i 3,i 0,i 0,i 3,.ref 334,.bool true,i 181,.ref 335,.none,.ref 336,.ref 337,.ref 338,i 632,i 168] 633,
 fm 52 0 "__init__" "Book.__init__" Iv 598 339,
 tu [],
 nf [],
 tu [vs "self" 638,vs "person" 639],
 tu [],
 fc 52 1 "check_person" "Book.check_person",
 cq "check_person" "Book.check_person" 635 636 637 [i 175,i 2,i 0,i 0,i 3,.ref 341,.bool true,i 181,.ref 342,.none,.ref 343,.ref 344,.ref 345,i 640,i 175] 641,
 fm 52 1 "check_person" "Book.check_person" Iv 598 346,
 tu [],
 nf [],
 fc 52 2 "wish" "Book.wish",
 cq "wish" "Book.wish" 643 644 645 [i 179,i 3,i 0,i 0,i 3,.ref 348,.bool true,i 181,.ref 349,.none,.none,.none,.ref 350,i 646,i 179] 647,
 fm 52 2 "wish" "Book.wish" Iv 598 351,
 tu [],
 nf [],
 fc 52 3 "lacking" "Book.lacking",
 cq "lacking" "Book.lacking" 649 650 651 [i 186,i 1,i 0,i 0,i 3,.ref 353,.bool true,i 181,.ref 354,.none,.none,.none,.ref 355,i 652,i 186] 653,
 fm 52 3 "lacking" "Book.lacking" Iv 598 356,
 tu [],
 nf [],
 fc 52 4 "table_by" "Book.table_by",
 cq "table_by" "Book.table_by" 655 656 657 [i 189,i 2,i 0,i 0,i 3,.ref 358,.bool true,i 181,.ref 359,.none,.none,.none,.ref 360,i 658,i 189] 659,
 fm 52 4 "table_by" "Book.table_by" Iv 598 361,
 tu [],
 nf [],
 fc 52 5 "shares" "Book.shares",
 cq "shares" "Book.shares" 661 662 663 [i 199,i 3,i 0,i 0,i 3,.ref 363,.bool true,i 181,.ref 364,.none,.none,.none,.ref 365,i 664,i 199] 665,
 fm 52 5 "shares" "Book.shares" Iv 598 366,
 tu [],
 nf [],
 fc 52 6 "deal" "Book.deal",
 cq "deal" "Book.deal" 667 668 669 [i 205,i 3,i 0,i 0,i 3,.ref 368,.bool true,i 181,.ref 369,.none,.none,.none,.ref 370,i 670,i 205] 671,
 fm 52 6 "deal" "Book.deal" Iv 598 371,
 tu [vs "people" 673,vs "things" 674,vs "wishes_told" 675],
 di [en P "__module__" 621 (vs Iv 598),en P "__firstlineno__" 625 (.int 166 624),en P "__init__" 634 (.ref 340),en P "check_person" 642 (.ref 347),en P "wish" 648 (.ref 352),en P "lacking" 654 (.ref 357),en P "table_by" 660 (.ref 362),en P "shares" 666 (.ref 367),en P "deal" 672 (.ref 372),en P "__static_attributes__" 676 (.ref 373),en P "__dict__" 678 (.ref 376),en P "__weakref__" 680 (.ref 377),en P "__doc__" 681 (.none)] 4,
 {cls:= .type "type",data:= .cls {name:="Book",bases:=[.type "object"],mro:=[.ref 375,.type "object"],ns:=374,qualname:="Book"},slots:= #[none,none,some (vs "Book" 614),some (vs "Book" 622),some (.builtin "object.__new__"),some (.bool true)]},
 {cls:= .type "getset_descriptor",data:= .fields #[vs "__dict__" 677,.ref 375,.builtin "function.__dict__",.builtin "function.__dict__#set"]},
 {cls:= .type "getset_descriptor",data:= .fields #[vs "__weakref__" 679,.ref 375,.builtin "ExceptionGroup.__weakref__",.none]},
 {cls:= .type "super",data:= .fields #[.ref 375,.ref 375,.ref 375]},
 {cls:= .type "builtin_function_or_method",data:= .fields #[.builtin "object.__init_subclass__",.ref 375]},
 tu [],
 nf [],
 tu [vs "_law_script" 689,vs "_law_k" 690],
 tu [],
 ft 54 "_law_cell_at",
 co "_law_cell_at" 686 687 688 [i 210,i 2,i 0,i 0,i 3,.ref 380,.bool true,i 181,.ref 381,.none,.ref 382,.ref 383,.ref 384,i 691,i 210] 692,
 fo 54 "_law_cell_at" Gf 684 385,
 tu [],
 nf [],
 tu [vs "_law_cell" 697,vs "_law_many" 698,vs "_law_found" 699,vs "_law_number" 700,vs "_law_k" 701],
 tu [],
 ft 55 "_law_mixed",
 co "_law_mixed" 694 695 696 [i 214,i 2,i 0,i 0,i 3,.ref 387,.bool true,i 181,.ref 388,.none,.ref 389,.ref 390,.ref 391,i 702,i 214] 703,
 fo 55 "_law_mixed" Gf 684 392,
 tu [],
 nf [],
 tu [vs "_law_number" 708,vs "_law_count" 709,vs "_law_found" 710,vs "_law_k" 711],
 tu [],
 ft 56 "_law_perm",
 co "_law_perm" 705 706 707 [i 227,i 2,i 0,i 0,i 3,.ref 394,.bool true,i 181,.ref 395,.none,.ref 396,.ref 397,.ref 398,i 712,i 227] 713,
 fo 56 "_law_perm" Gf 684 399,
 tu [],
 nf [],
 tu [vs "_law_one" 718,vs "_law_other" 719,vs "_law_rest" 720],
 tu [],
 ft 57 "_law_divisor",
 co "_law_divisor" 715 716 717 [i 233,i 2,i 0,i 0,i 3,.ref 401,.bool true,i 181,.ref 402,.none,.ref 403,.ref 404,.ref 405,i 721,i 233] 722,
 fo 57 "_law_divisor" Gf 684 406,
 tu [],
 nf [],
 tu [vs "_law_top" 727,vs "_law_bottom" 728,vs "_law_share" 729],
 tu [],
 ft 58 "_law_lowest",
 co "_law_lowest" 724 725 726 [i 239,i 2,i 0,i 0,i 3,.ref 408,.bool true,i 181,.ref 409,.none,.ref 410,.ref 411,.ref 412,i 730,i 239] 731,
 fo 58 "_law_lowest" Gf 684 413,
 tu [],
 nf [],
 tu [vs "_law_cell" 736,vs "_law_size" 737,vs "_law_found" 738,vs "_law_rest" 739,vs "_law_k" 740],
 tu [],
 ft 59 "_law_base",
 co "_law_base" 733 734 735 [i 246,i 2,i 0,i 0,i 3,.ref 415,.bool true,i 181,.ref 416,.none,.ref 417,.ref 418,.ref 419,i 741,i 246] 742,
 fo 59 "_law_base" Gf 684 420,
 tu [],
 nf [],
 tu [vs "_law_base_here" 747,vs "_law_place" 748,vs "_law_size" 749,vs "_law_k" 750,vs "_law_letters" 751,vs "_law_other" 752],
 tu [],
 ft 60 "_law_word",
 co "_law_word" 744 745 746 [i 258,i 4,i 0,i 0,i 3,.ref 422,.bool true,i 181,.ref 423,.none,.ref 424,.ref 425,.ref 426,i 753,i 258] 754,
 fo 60 "_law_word" Gf 684 427,
 tu [],
 nf [],
 tu [vs "_law_script" 759,vs "_law_at" 760,vs "_law_many" 761,vs "_law_cell" 762,vs "_law_size" 763,vs "_law_base_here" 764,vs "_law_words_here" 765,vs "_law_k" 766,vs "_law_word_here" 767],
 tu [],
 ft 61 "_law_words",
 co "_law_words" 756 757 758 [i 262,i 3,i 0,i 0,i 3,.ref 429,.bool true,i 181,.ref 430,.none,.ref 431,.ref 432,.ref 433,i 768,i 262] 769,
 fo 61 "_law_words" Gf 684 434,
 tu [],
 nf [],
 tu [vs "_law_found" 774,vs "_law_due_here" 775,vs "_law_k" 776],
 tu [],
 ft 62 "_law_same",
 co "_law_same" 771 772 773 [i 273,i 2,i 0,i 0,i 3,.ref 436,.bool true,i 181,.ref 437,.none,.ref 438,.ref 439,.ref 440,i 777,i 273] 778,
 fo 62 "_law_same" Gf 684 441,
 tu [],
 nf [],
 tu [vs "_law_e" 783,vs "_law_found" 784],
 tu [],
 ft 63 "_law_kinds",
 co "_law_kinds" 780 781 782 [i 290,i 1,i 0,i 0,i 3,.ref 443,.bool true,i 181,.ref 444,.none,.ref 445,.ref 446,.ref 447,i 785,i 290] 786,
 fo 63 "_law_kinds" Gf 684 448,
 tu [],
 nf [],
 tu [vs "_law_roll" 791,vs "_law_cell" 792,vs "_law_at" 793,vs "_law_place" 794,vs "_law_signs" 795,vs "_law_sign" 796,vs "_law_bad" 797,vs "_law_other" 798],
 tu [],
 ft 64 "_law_bad_roll",
 co "_law_bad_roll" 788 789 790 [i 313,i 2,i 0,i 0,i 3,.ref 450,.bool true,i 181,.ref 451,.none,.ref 452,.ref 453,.ref 454,i 799,i 313] 800,
 fo 64 "_law_bad_roll" Gf 684 455,
 tu [],
 nf [],
 tu [vs "_law_people" 805,vs "_law_things" 806,vs "_law_cell" 807,vs "_law_caught" 808,vs "_law_e" 809],
 tu [],
 ft 65 "_law_no_roll",
 co "_law_no_roll" 802 803 804 [i 331,i 3,i 0,i 0,i 3,.ref 457,.bool true,i 181,.ref 458,.none,.ref 459,.ref 460,.ref 461,i 810,i 331] 811,
 fo 65 "_law_no_roll" Gf 684 462,
 tu [],
 nf [],
 tu [vs "_law_people" 816,vs "_law_xs" 817,vs "_law_person_here" 818,vs "_law_other" 819],
 tu [],
 ft 66 "_law_person",
 co "_law_person" 813 814 815 [i 342,i 2,i 0,i 0,i 3,.ref 464,.bool true,i 181,.ref 465,.none,.ref 466,.ref 467,.ref 468,i 820,i 342] 821,
 fo 66 "_law_person" Gf 684 469,
 tu [],
 nf [],
 ft 67 "_law_text",
 co "_law_text" 823 824 825 [i 350,i 2,i 0,i 0,i 3,.ref 471,.bool true,i 181,.ref 472,.none,.none,.none,.ref 473,i 826,i 350] 827,
 fo 67 "_law_text" Gf 684 474,
 tu [],
 nf [],
 tu [vs "_law_people" 832,vs "_law_things" 833,vs "_law_xs" 834,vs "_law_way" 835,vs "_law_top" 836,vs "_law_number" 837],
 tu [],
 ft 68 "_law_deed",
 co "_law_deed" 829 830 831 [i 366,i 3,i 0,i 0,i 3,.ref 476,.bool true,i 181,.ref 477,.none,.ref 478,.ref 479,.ref 480,i 838,i 366] 839,
 fo 68 "_law_deed" Gf 684 481,
 tu [],
 nf [],
 tu [vs "_law_people" 844,vs "_law_things" 845,vs "_law_lacks" 846,vs "_law_deed_here" 847,vs "_law_way" 848],
 tu [],
 ft 69 "_law_due",
 co "_law_due" 841 842 843 [i 375,i 4,i 0,i 0,i 3,.ref 483,.bool true,i 181,.ref 484,.none,.ref 485,.ref 486,.ref 487,i 849,i 375] 850,
 fo 69 "_law_due" Gf 684 488,
 tu [],
 nf [],
 tu [vs "_law_book" 855,vs "_law_deed_here" 856,vs "_law_caught" 857,vs "_law_told_here" 858,vs "_law_e" 859],
 tu [],
 ft 70 "_law_told",
 co "_law_told" 852 853 854 [i 390,i 2,i 0,i 0,i 3,.ref 490,.bool true,i 181,.ref 491,.none,.ref 492,.ref 493,.ref 494,i 860,i 390] 861,
 fo 70 "_law_told" Gf 684 495,
 tu [],
 nf [],
 tu [vs "_law_book" 866,vs "_law_lacks" 867,vs "_law_k" 868,vs "_law_found" 869],
 tu [],
 ft 71 "_law_lacks_well",
 co "_law_lacks_well" 863 864 865 [i 405,i 2,i 0,i 0,i 3,.ref 497,.bool true,i 181,.ref 498,.none,.ref 499,.ref 500,.ref 501,i 870,i 405] 871,
 fo 71 "_law_lacks_well" Gf 684 502,
 tu [],
 nf [],
 tu [vs "_law_script" 876,vs "_law_count" 877,vs "_law_people" 878,vs "_law_things" 879,vs "_law_k" 880,vs "_law_book" 881,vs "_law_lacks" 882,vs "_law_cell" 883,vs "_law_deed_here" 884,vs "_law_told_here" 885,vs "_law_refused" 886],
 tu [],
 ft 72 "law",
 co "law" 873 874 875 [i 412,i 1,i 0,i 0,i 3,.ref 504,.bool true,i 181,.ref 505,.none,.ref 506,.ref 507,.ref 508,i 887,i 412] 888,
 fo 72 "law" Gf 684 509]
noncomputable def hp(m f e:Nat)(x:bQ)(P:Params):Heap:={objs:=((((obs P).take m).set 3 (di (en P "__name__" 165 x::(NA P).tail.take e) (e+1))).set 12 (nf (OA.take f))).toArray}
noncomputable def all(P:Params):List Obj:=(obs P).set 3 (di (NA P) 74)
def NT:List bV:=[3,23,24,25,36,37,48,49,60,61,72,73,84,85,96,97,108,109,120,121,132,133,136,137,143,144,150,151,157,158,164,165,171,172,178,179,185,186,192,193,199,200,204,205,209,210,214,215,219,220,224,225,229,230,234,235,241,242,248,249,253,254,260,261,267,268,274,275,279,280,286,287,291,292,298,299,305,306,310,311,315,316,320,321,325,326,339,340,346,347,351,352,356,357,361,362,366,367,371,372,374,375,376,377,385,386,392,393,399,400,406,407,413,414,420,421,427,428,434,435,441,442,448,449,455,456,462,463,469,470,474,475,481,482,488,489,495,496,502,503,509,510]
noncomputable def K0(P:Params):bN:=NT.map λa=>(a,(all P).getD a default)
theorem E8:∀P,NT=(K0 P).map (·.1):=λ_=>rfl
noncomputable abbrev hk:Hook:=kHook K0 NT E8
def vw:cg:={bW with main:={bW.main with body:=[Fk 1,Fk 2,Fk 3,Fk 4,Fk 5,Fk 6,Fk 7,Fk 8,Fk 9,Fk 10,Fk 12,Fk 13,Fk 14,Fk 15,Fk 16,Fk 17,Fk 18,Fk 19,Fk 20,Fk 21,Fk 22,Fk 24,Fk 25,Fk 26,Fk 27,Fk 28,Fk 29,Fk 30,Fk 32,Fk 33,Fk 34,Fk 35,Fk 37,Fk 38,Fk 39,Fk 41,Fk 42,Fk 43,Fk 44,Fk 45,Fk 46,Fk 47,Fk 49,Fk 50,Fk 51,Fk 52,Fk 54,Fk 55,Fk 56,Fk 57,Fk 58,Fk 59,Fk 60,Fk 61,Fk 62,Fk 63,Fk 64,Fk 65,Fk 66,Fk 67,Fk 68,Fk 69,Fk 70,Fk 71,Fk 72]}}
def Ow:List Stmt:=[Fk 0,Fk 1,Fk 2,Fk 3,Fk 4,Fk 5,Fk 6,Fk 7,Fk 8,Fk 9,Fk 10]
def Oq:List Stmt:=[Fk 11,Fk 12,Fk 13,Fk 14,Fk 15,Fk 16,Fk 17,Fk 18,Fk 19,Fk 20,Fk 21,Fk 22,Fk 23,Fk 24,Fk 25,Fk 26]
def Ot:List Stmt:=[Fk 27,Fk 28,Fk 29,Fk 30,Fk 31,Fk 32,Fk 33,Fk 34,Fk 35,Fk 36,Fk 37,Fk 38,Fk 39,Fk 40,Fk 41,Fk 42]
def Ov:List Stmt:=[Fk 43,Fk 44,Fk 45,Fk 46,Fk 47,Fk 48,Fk 49,Fk 50,Fk 51]
def Om:List Stmt:=[Fk 52]
def On:List Stmt:=[Fk 53,Fk 54,Fk 55,Fk 56,Fk 57,Fk 58,Fk 59,Fk 60,Fk 61,Fk 62,Fk 63,Fk 64,Fk 65]
def Op:List Stmt:=[Fk 66,Fk 67,Fk 68,Fk 69,Fk 70,Fk 71,Fk 72]
def bd:List Stmt:=Ow++(Oq++(Ot++(Ov++(Om++(On++(Op++([])))))))
def ev:Env:={scope:=bW.main.scope,locals:=mainNs,globals:=mainNs,cells:=[],code:= .ref 13,frame:=some 14}
def cE:Code:= .body bd ev
abbrev tf:List Frame:=[topFrame ⟨0,0,0,0⟩]
noncomputable def hA(P:Params):Heap:={objs:=((obs P).take 15).toArray}
theorem pre(w:cC)(os:OsState):topGo treeTable bW w 11 (some (.ref 6)) 12 ⟨iS w.params,Array.mk [],dE,qd,os⟩ (topStub bW)=some (⟨hA w.params,Array.mk [],dE,187,os⟩,⟨denote treeTable cE,cE,⟨0,0,0,0⟩,tf⟩):=by kernel_rfl
theorem Oy(w:cC)(os:OsState):segRun treeTable bW w 11 (some (.ref 6)) 1 1 ⟨hA w.params,Array.mk [],dE,187,os⟩ (blockOf bd ev cE ⟨0,0,0,0⟩ tf)=some (.next,⟨hA w.params,Array.mk [],dE,187,os⟩,cE,⟨0,0,0,0⟩):=by kernel_rfl
noncomputable def h0:Params->Heap:=hp 136 30 18 (vs "wishlots.errors" 187)
theorem g0(w:cC)(os:OsState):segRun treeTable bW w 11 (some (.ref 6)) 1 2113 ⟨hA w.params,Array.mk [],dE,187,os⟩ (piecesOf Ow ev cE ⟨0,0,0,0⟩ tf)=some (.next,⟨h0 w.params,Array.mk [],dE,351,os⟩,cE,⟨20,0,21,8⟩):=by kernel_rfl
noncomputable def h1:Params->Heap:=hp 216 66 32 (vs Kv 436)
theorem g1(w:cC)(os:OsState):segRun treeTable bW w 11 (some (.ref 6)) 1 396 ⟨h0 w.params,Array.mk [],dE,351,os⟩ (piecesOf Oq ev cE ⟨20,0,21,8⟩ tf)=some (.next,⟨h1 w.params,Array.mk [],dE,456,os⟩,cE,⟨66,0,67,100⟩):=by kernel_rfl
noncomputable def h2:Params->Heap:=hp 288 102 45 (vs Kp 538)
theorem g2(w:cC)(os:OsState):segRun treeTable bW w 11 (some (.ref 6)) 1 379 ⟨h1 w.params,Array.mk [],dE,456,os⟩ (piecesOf Ot ev cE ⟨66,0,67,100⟩ tf)=some (.next,⟨h2 w.params,Array.mk [],dE,554,os⟩,cE,⟨129,0,130,45⟩):=by kernel_rfl
noncomputable def h3:Params->Heap:=hp 327 123 53 (vs Iv 598)
theorem g3(w:cC)(os:OsState):segRun treeTable bW w 11 (some (.ref 6)) 1 219 ⟨h2 w.params,Array.mk [],dE,554,os⟩ (piecesOf Ov ev cE ⟨129,0,130,45⟩ tf)=some (.next,⟨h3 w.params,Array.mk [],dE,614,os⟩,cE,⟨164,0,165,107⟩):=by kernel_rfl
noncomputable def h4:Params->Heap:=hp 380 126 54 (vs Iv 598)
theorem g4(w:cC)(os:OsState):segRun treeTable bW w 11 (some (.ref 6)) 1 398 ⟨h3 w.params,Array.mk [],dE,614,os⟩ (piecesOf Om ev cE ⟨164,0,165,107⟩ tf)=some (.next,⟨h4 w.params,Array.mk [],dE,684,os⟩,cE,⟨166,0,208,44⟩):=by kernel_rfl
noncomputable def h5:Params->Heap:=hp 464 162 66 (vs Gf 684)
theorem g5(w:cC)(os:OsState):segRun treeTable bW w 11 (some (.ref 6)) 1 401 ⟨h4 w.params,Array.mk [],dE,684,os⟩ (piecesOf On ev cE ⟨166,0,208,44⟩ tf)=some (.next,⟨h5 w.params,Array.mk [],dE,813,os⟩,cE,⟨331,0,341,48⟩):=by kernel_rfl
noncomputable def h6:Params->Heap:=hp 511 183 73 (vs Gf 684)
theorem g6(w:cC)(os:OsState):segRun treeTable bW w 11 (some (.ref 6)) 1 230 ⟨h5 w.params,Array.mk [],dE,813,os⟩ (piecesOf Op ev cE ⟨331,0,341,48⟩ tf)=some (.next,⟨h6 w.params,Array.mk [],dE,890,os⟩,cE,⟨412,0,436,15⟩):=by kernel_rfl
theorem fin(w:cC)(os:OsState):topRun treeTable bW w 11 (some (.ref 6)) 2 ⟨h6 w.params,Array.mk [],dE,890,os⟩ (restOf [] ev cE ⟨412,0,436,15⟩ tf)=some ⟨h6 w.params,Array.mk [],dE,890,os⟩:=by kernel_rfl
theorem run(w:cC)(os:OsState):topRun treeTable bW w 11 (some (.ref 6)) (12+(1+(2113+(396+(379+(219+(398+(401+(230+(2)))))))))) ⟨iS w.params,Array.mk [],dE,qd,os⟩ (topStub bW)=some ⟨h6 w.params,Array.mk [],dE,890,os⟩:=go_top (pre w os) (piece_block (Oy w os) (jz (g0 w os) (jz (g1 w os) (jz (g2 w os) (jz (g3 w os) (jz (g4 w os) (jz (g5 w os) (jz (g6 w os) (fin w os)))))))))
theorem OF:∀w:cC,(fencedOpening treeTable bW w 8982).map (λs=>(s.heap,s.gens,s.drawn,s.toks))=some (iS w.params,Array.mk [],dE,qd):=boot_open (by kernel_rfl) rfl λs=>by kernel_rfl
theorem size:∀w:cC,((iS w.params).isNs eF&&(Array.mk []:Array GenState).size==0,(iS w.params).objs.size,(iS w.params).nsMap eF "__annotations__")=(true,11,some (.ref 6)):=λw=>by kernel_rfl
abbrev xt:bS->Bool:=λs=>xlAt vw [] s&&recOk (RowW.records (OpenRow.toRowW eK.row)) s
theorem Nb:∀w:cC,(λos=>((staticsOk (importedModules bW.main.body) (iS w.params) (h6 w.params)&&namesBound bW (h6 w.params)&&gensDone ⟨h6 w.params,Array.mk [],dE,890,os⟩&&laidKept (iS w.params) (h6 w.params)),openSeen vw [] (importedModules bW.main.body) xt true ⟨h6 w.params,Array.mk [],dE,890,os⟩,hk.obs ⟨h6 w.params,Array.mk [],dE,890,os⟩))=λ_=>(true,openGood vw [],hk.val w):=λw=>by kernel_rfl
theorem OD:LeftO bW vw [] xt hk.obs hk.val 8982:=LeftO.of_pieces OF size run rfl Nb
theorem FZ{K:Frag}{h:Heap}{mg:Str->Option bQ}{n:Str}{st:Stmt}(f c:bV)(pm:bQ)(X:K.In h)(G:h.Ns eF mg)
  (e:(nsIn K eF n,K.lookup f,codeIn K (.ref c) n,keepIn K (.ref f))=(some (some (.ref f)),some ⟨.type "function",none,.func (fnOf n n (Fw st) (Fp st) (Ff st) .none .none .none pm none (.ref c) .none),#[]⟩,true,true)):Def K mg n st:=by
 have a:=Prod.mk.inj e
 have d:=Prod.mk.inj a.2
 have b:=Prod.mk.inj d.2
 exact⟨_,_,zg (st:=st) d.1 b.1 b.2,jw X G a.1⟩
theorem MT{K:Frag}{C:bV}{m q:Str}{st:Stmt}(f c:bV)(pm:bQ)
  (e:((findIn K (.ref C) m,isFn K (.ref f)),K.lookup f,codeIn K (.ref c) q,keepIn K (.ref f))=((some (some (.ref f)),true),some ⟨.type "function",none,.func (fnOf m q (Fw st) (Fp st) (Ff st) .none .none .none pm none (.ref c) .none),#[]⟩,true,true)):MDef K C m q st:=by
 have b:=Prod.mk.inj e
 have d:=Prod.mk.inj b.1
 have g:=Prod.mk.inj b.2
 have a:=Prod.mk.inj g.2
 exact⟨_,_,zg (st:=st) g.1 a.1 a.2,d.1,d.2,a.2⟩
theorem OC{K:Frag}{h:Heap}{mg:Str->Option bQ}{C:bV}{x q:Str}{st:Stmt}(f c:bV)(pm:bQ)(X:K.In h)(G:h.Ns eF mg)
  (e0:(makesIn K C,findIn K (.ref C) "__init__",isFn K (.ref f),keepIn K (.ref C),nsIn K eF x)=(true,some (some (.ref f)),true,true,some (some (.ref C))))
  (e:(K.lookup f,codeIn K (.ref c) q,keepIn K (.ref f))=(some ⟨.type "function",none,.func (fnOf "__init__" q (Fw st) (Fp st) (Ff st) .none .none .none pm none (.ref c) .none),#[]⟩,true,true)):BDef K mg C x q st:=by
 have a:=Prod.mk.inj e0
 have b:=Prod.mk.inj a.2
 have g:=Prod.mk.inj b.2
 have d:=Prod.mk.inj g.2
 have k:=Prod.mk.inj e
 have j:=Prod.mk.inj k.2
 exact⟨_,_,zg (st:=st) k.1 j.1 j.2,⟨a.1,b.1,g.1,d.1⟩,jw X G d.2⟩
theorem all_mk{l:OpenLaw}{w:cC}{K:Frag}{h:Heap}{mg:Str->Option bQ}{fa:bV}{x:Xs}{cB:bV}(f c:bV)(pm:bQ)(X:K.In h)(G:h.Ns eF mg)(hfa:mg "law"=some (.ref fa))(M:Md K mg x cB)
  (e:(nsIn K eF "law",K.lookup f,codeIn K (.ref c) "law",keepIn K (.ref f))=(some (some (.ref f)),some ⟨.type "function",none,.func (fnOf "law" "law" (Fw (Fk 72)) (Fp (Fk 72)) (Ff (Fk 72)) .none .none .none pm none (.ref c) .none),#[]⟩,true,true)):
  ∃fd:FuncData,(∀(s:bS) (v:bQ),BindsTo s fd ⟨[v],[]⟩ [("_law_script",v)])/\∀base:Heap,K.In base->base.Ns eF mg->FnOk l.prog w K mg base Fs 13 fa fd ["_law_script"] (KI K):=by
 have e1:=Prod.mk.inj e
 have e2:=Prod.mk.inj e1.2
 have e3:=Prod.mk.inj e2.2
 have e4:=hfa.symm.trans (jw X G e1.1)
 cases e4
 refine⟨fnOf "law" "law" (Fw (Fk 72)) (Fp (Fk 72)) (Ff (Fk 72)) .none .none .none pm none (.ref c) .none,λs v=> .of_eq rfl,λbase _ _=>?_⟩
 have an:=KD (P:=l.prog) (w:=w) (base:=base) M
 have r:=Hz (P:=l.prog) (w:=w) (base:=base) M
 have b:=Ku (P:=l.prog) (w:=w) (base:=base) M an r
 have S:=MI (P:=l.prog) (w:=w) (base:=base) M b
 have ao:=LO (P:=l.prog) (w:=w) (base:=base) M b
 have am:=LV (P:=l.prog) (w:=w) (base:=base) M b
 have R:=Lp (P:=l.prog) (w:=w) (base:=base) M
 have ak:=LR (P:=l.prog) (w:=w) (base:=base) M S
 have ah:=LP (P:=l.prog) (w:=w) (base:=base) M R
 have aa:=JZ (P:=l.prog) (w:=w) (base:=base) M
 have z:=Iq (P:=l.prog) (w:=w) (base:=base) M am ah
 have F:=IN (P:=l.prog) (w:=w) (base:=base) M ao am
 have Q:=Jk (P:=l.prog) (w:=w) (base:=base) M (ak.imp λ_ _ _ _=>E4) aa z F
 have ap:=KC (P:=l.prog) (w:=w) (base:=base) M (ak.imp λ_ _ _ _=>E4)
 have al:=Kw (P:=l.prog) (w:=w) (base:=base) M ap
 have ax:=LS (P:=l.prog) (w:=w) (base:=base) M Q al
 have W0:=M.f_deal_within.nothing (P:=l.prog) (w:=w) (base:=base) (ps:=["left","begun"]) (λ_ _ _ _ _ _ us hl=>match us,hl with|[_,_],_=>rfl)
 have W1:=FA (m:=0) M W0
 have W2:=FA (m:=1) M W1
 have W3:=FA (m:=2) M W2
 have W4:=FA (m:=3) M W3
 have W5:=FA (m:=4) M W4
 have W6:=FA (m:=5) M W5
 have B:=FA (m:=6) M W6
 have C:=IT (P:=l.prog) (w:=w) (base:=base) M ao
 have au:=K8 (P:=l.prog) (w:=w) (base:=base) M B ah C S
 have aw:=Ly (P:=l.prog) (w:=w) (base:=base) M R S
 have O:=Jg (P:=l.prog) (w:=w) (base:=base) M
 have L:=Jt (P:=l.prog) (w:=w) (base:=base) M O
 have ag:=J2 (P:=l.prog) (w:=w) (base:=base) M
 have aq:=KA (P:=l.prog) (w:=w) (base:=base) M
 have J:=Ji (P:=l.prog) (w:=w) (base:=base) M ag
 have t:=J1 (P:=l.prog) (w:=w) (base:=base) M
 have Y:=JC (P:=l.prog) (w:=w) (base:=base) M t J aq
 have q:=G8 (P:=l.prog) (w:=w) (base:=base) M t b
 have aj:=Kk (P:=l.prog) (w:=w) (base:=base) M Y q
 have av:=La (P:=l.prog) (w:=w) (base:=base) M
 have ar:=K5 (P:=l.prog) (w:=w) (base:=base) M L av
 have d:=Il (P:=l.prog) (w:=w) (base:=base) M ar
 have a:=GL (P:=l.prog) (w:=w) (base:=base) M
 have U:=JS (P:=l.prog) (w:=w) (base:=base) M a
 have j:=Ix (P:=l.prog) (w:=w) (base:=base) M
 have g:=Ij (P:=l.prog) (w:=w) (base:=base) M j ax aj
 have E:=IP (P:=l.prog) (w:=w) (base:=base) M a g
 have ac:=JF (P:=l.prog) (w:=w) (base:=base) M au g aw
 have k:=IE (P:=l.prog) (w:=w) (base:=base) M
 have N:=Jr (P:=l.prog) (w:=w) (base:=base) M
 have ab:=JH (P:=l.prog) (w:=w) (base:=base) M
 have W:=JE (P:=l.prog) (w:=w) (base:=base) M
 have Z:=J5 (P:=l.prog) (w:=w) (base:=base) M
 have I:=Jn (P:=l.prog) (w:=w) (base:=base) M k W Z
 have A:=IH (P:=l.prog) (w:=w) (base:=base) M
 have H:=IQ (P:=l.prog) (w:=w) (base:=base) M A
 have Y0:=M.f__law_same.nothing (P:=l.prog) (w:=w) (base:=base) (ps:=["_law_found","_law_due_here"]) (λ_ _ _ _ _ _ us hl=>match us,hl with|[_,_],_=>rfl)
 have Y1:=F5 (n:=0) M Y0
 have Y2:=F5 (n:=1) M Y1
 have Y3:=F5 (n:=2) M Y2
 have af:=F5 (n:=3) M Y3
 have o:=Jj (P:=l.prog) (w:=w) (base:=base) M
 have u:=Ik (P:=l.prog) (w:=w) (base:=base) M
 have y:=Iy (P:=l.prog) (w:=w) (base:=base) M u d o
 have D:=IS (P:=l.prog) (w:=w) (base:=base) M
 have V:=JA (P:=l.prog) (w:=w) (base:=base) M ab
 have ae:=Jz (P:=l.prog) (w:=w) (base:=base) M D V H
 have ai:=Kx (P:=l.prog) (w:=w) (base:=base) M
 have T:=JL (P:=l.prog) (w:=w) (base:=base) M U E ac o
 have p:=G9 (P:=l.prog) (w:=w) (base:=base) M j af
 exact MW (zg (st:=Fk 72) e2.1 e3.1 e3.2) M k I y d N ae T ai p
theorem walk{l:OpenLaw}{q:cg}{loose:List Str}{XP:(Str->Option bQ)->Heap->Prop}{YP:cC->Heap->Prop}{d:DefRec}{K:Params->Frag}(hn:l.most=some 63)(hdf:d.params.defaults=[])
  (hY:∀(w:cC) (h:Heap),YP w h->(K w.params).In h)
  (F:∀(w:cC) (mg:Str->Option bQ) (fa:bV) (h:Heap),(K w.params).In h->h.Ns eF mg->mg d.name=some (.ref fa)->
   ∃fd:FuncData,(∀(s:bS) (u:bQ),BindsTo s fd ⟨[u],[]⟩ [("_law_script",u)])/\∀base:Heap,(K w.params).In base->base.Ns eF mg->FnOk l.prog w (K w.params) mg base Fs 13 fa fd ["_law_script"] (KI (K w.params))):
  WalkO q loose XP YP l.row.toRowW d [] (λf vs=>oO f vs):=
 L2.walk_of (n:=63) (k:=13) (x:="_law_script") (CX:=λ_=>Fs) (sp:=λw=>KI (K w.params)) hn (by decide) hdf ⟨rfl,by decide,by decide⟩ hY F (λ_ _ a e b _ c=>⟨a,e,rfl,c,b,λ_=>rfl⟩) λ_ _ _ _ _ z=>z
end Nk51
open PySem PySem.W PyProof.Rows L2 Nk51
set_option maxRecDepth 100000 in
set_option maxHeartbeats 0 in
theorem PySem.Challenge.cw_wishlots_k51_texts_and_refusals_holds : PySem.Challenge.rw_wishlots_k51_texts_and_refusals.Holds := by
 refine holds_law CA λc=>?_;refine holds_open (q:=vw) (loose:=[]) (Xt:=xt) (XP:=XL vw []) (Yf:=Hook.obs hk) (Ya:=Hook.val hk)
  (YP:=Hook.says hk) (N:=8982) ?hl (Hook.of _) (Hook.keeps _) (λs e=>xl_of s (l8.mp e).1)
  XL.keeps (by rfl) (by rfl) (by rfl) (λs e=>recFacts_of (l8.mp e).2) (by rfl) (by first|assumption|decide +kernel) (by decide +kernel) ⟨rfl,rfl,rfl,rfl,rfl,by decide +kernel⟩ ?hw ?hc
 case hl=>exact OD
 case hw=>w_witness2
 refine Nk51.walk (l:=eK) rfl rfl (λw h Y=>kIn_of Y) ?F
 case F=>
  intro w d f h a G b;refine Nk51.all_mk (x:=⟨24,37,49,61,73,85,97,109,121,133⟩) (cB:=375) 510 509 (vs Gf 684) a G b ?_ (by kernel_rfl);exact⟨FZ 144 143 (vs Jv 351) a G (by kernel_rfl),
   FZ 151 150 (vs Jv 351) a G (by kernel_rfl),
   FZ 158 157 (vs Jv 351) a G (by kernel_rfl),
   FZ 165 164 (vs Jv 351) a G (by kernel_rfl),
   FZ 172 171 (vs Jv 351) a G (by kernel_rfl),
   FZ 179 178 (vs Jv 351) a G (by kernel_rfl),
   FZ 186 185 (vs Jv 351) a G (by kernel_rfl),
   FZ 193 192 (vs Jv 351) a G (by kernel_rfl),
   FZ 200 199 (vs Jv 351) a G (by kernel_rfl),
   FZ 205 204 (vs Kv 436) a G (by kernel_rfl),
   FZ 210 209 (vs Kv 436) a G (by kernel_rfl),
   FZ 215 214 (vs Kv 436) a G (by kernel_rfl),
   FZ 220 219 (vs Kv 436) a G (by kernel_rfl),
   FZ 225 224 (vs Kv 436) a G (by kernel_rfl),
   FZ 230 229 (vs Kv 436) a G (by kernel_rfl),
   FZ 235 234 (vs Kv 436) a G (by kernel_rfl),
   FZ 242 241 (vs Me 480) a G (by kernel_rfl),
   FZ 249 248 (vs Me 480) a G (by kernel_rfl),
   FZ 254 253 (vs Me 480) a G (by kernel_rfl),
   FZ 261 260 (vs Me 480) a G (by kernel_rfl),
   FZ 268 267 (vs "wishlots.tables" 520) a G (by kernel_rfl),
   FZ 275 274 (vs "wishlots.tables" 520) a G (by kernel_rfl),
   FZ 280 279 (vs Kp 538) a G (by kernel_rfl),
   FZ 287 286 (vs Kp 538) a G (by kernel_rfl),
   FZ 292 291 (vs Kp 538) a G (by kernel_rfl),
   FZ 299 298 (vs Kp 538) a G (by kernel_rfl),
   FZ 306 305 (vs Kp 538) a G (by kernel_rfl),
   FZ 311 310 (vs Kp 538) a G (by kernel_rfl),
   FZ 316 315 (vs Kp 538) a G (by kernel_rfl),
   FZ 321 320 (vs Iv 598) a G (by kernel_rfl),
   FZ 326 325 (vs Iv 598) a G (by kernel_rfl),
   OC 340 339 (vs Iv 598) a G (by kernel_rfl) (by kernel_rfl),
   ⟨by kernel_rfl,by kernel_rfl,by kernel_rfl,by kernel_rfl⟩,
   (show findIn _ _ _=some none by kernel_rfl),
   (show findIn _ _ _=some none by kernel_rfl),
   (show findIn _ _ _=some none by kernel_rfl),
   MT 347 346 (vs Iv 598) (by kernel_rfl),
   MT 352 351 (vs Iv 598) (by kernel_rfl),
   MT 357 356 (vs Iv 598) (by kernel_rfl),
   MT 362 361 (vs Iv 598) (by kernel_rfl),
   MT 367 366 (vs Iv 598) (by kernel_rfl),
   MT 372 371 (vs Iv 598) (by kernel_rfl),
   FZ 386 385 (vs Gf 684) a G (by kernel_rfl),
   FZ 393 392 (vs Gf 684) a G (by kernel_rfl),
   FZ 400 399 (vs Gf 684) a G (by kernel_rfl),
   FZ 421 420 (vs Gf 684) a G (by kernel_rfl),
   FZ 428 427 (vs Gf 684) a G (by kernel_rfl),
   FZ 435 434 (vs Gf 684) a G (by kernel_rfl),
   FZ 407 406 (vs Gf 684) a G (by kernel_rfl),
   FZ 414 413 (vs Gf 684) a G (by kernel_rfl),
   FZ 442 441 (vs Gf 684) a G (by kernel_rfl),
   FZ 449 448 (vs Gf 684) a G (by kernel_rfl),
   FZ 456 455 (vs Gf 684) a G (by kernel_rfl),
   FZ 463 462 (vs Gf 684) a G (by kernel_rfl),
   FZ 470 469 (vs Gf 684) a G (by kernel_rfl),
   FZ 475 474 (vs Gf 684) a G (by kernel_rfl),
   FZ 482 481 (vs Gf 684) a G (by kernel_rfl),
   FZ 489 488 (vs Gf 684) a G (by kernel_rfl),
   FZ 496 495 (vs Gf 684) a G (by kernel_rfl),
   FZ 503 502 (vs Gf 684) a G (by kernel_rfl),
   eI a G (by kernel_rfl),
   eI a G (by kernel_rfl),
   eI a G (by kernel_rfl),
   eI a G (by kernel_rfl),
   eI a G (by kernel_rfl),
   eI a G (by kernel_rfl),
   eI a G (by kernel_rfl),
   eI a G (by kernel_rfl),
   eI a G (by kernel_rfl),
   eI a G (by kernel_rfl),
   eI a G (by kernel_rfl),
   eI a G (by kernel_rfl),
   eI a G (by kernel_rfl),
   eI a G (by kernel_rfl),
   eI a G (by kernel_rfl),
   eI a G (by kernel_rfl),
   eI a G (by kernel_rfl),
   eI a G (by kernel_rfl),
   eI a G (by kernel_rfl),
   ⟨136,jw a G (by kernel_rfl),λ_=> .inr ⟨_,_,_,rfl,rfl,rfl,by show 2<=sizeLine;decide,(.cons ⟨_,rfl⟩ (.cons ⟨_,rfl⟩ .nil))⟩⟩,
   ⟨137,jw a G (by kernel_rfl),λ_=> .inr ⟨_,_,_,rfl,rfl,rfl,by show 2<=sizeLine;decide,(.cons ⟨_,rfl⟩ (.cons ⟨_,rfl⟩ .nil))⟩⟩,
   ⟨522,jw a G (by kernel_rfl)⟩,
   ⟨600,jw a G (by kernel_rfl)⟩,
   ⟨jw a G (by kernel_rfl),by kernel_rfl⟩,
   ⟨jw a G (by kernel_rfl),by kernel_rfl⟩,
   ⟨jw a G (by kernel_rfl),by kernel_rfl⟩,
   ⟨jw a G (by kernel_rfl),by kernel_rfl⟩,
   ⟨jw a G (by kernel_rfl),by kernel_rfl⟩,
   ⟨jw a G (by kernel_rfl),by kernel_rfl⟩,
   ⟨jw a G (by kernel_rfl),by kernel_rfl⟩,
   ⟨jw a G (by kernel_rfl),by kernel_rfl⟩,
   ⟨jw a G (by kernel_rfl),by kernel_rfl⟩,
   ⟨jw a G (by kernel_rfl),by kernel_rfl⟩,
   by kernel_rfl,
   z8 ⟨by kernel_rfl,by kernel_rfl,by kernel_rfl,by kernel_rfl,by kernel_rfl,by kernel_rfl,by kernel_rfl,by kernel_rfl⟩ (by kernel_rfl) (by kernel_rfl) (by kernel_rfl),
   by kernel_rfl,
   z8 ⟨by kernel_rfl,by kernel_rfl,by kernel_rfl,by kernel_rfl,by kernel_rfl,by kernel_rfl,by kernel_rfl,by kernel_rfl⟩ (by kernel_rfl) (by kernel_rfl) (by kernel_rfl),
   by kernel_rfl,
   z8 ⟨by kernel_rfl,by kernel_rfl,by kernel_rfl,by kernel_rfl,by kernel_rfl,by kernel_rfl,by kernel_rfl,by kernel_rfl⟩ (by kernel_rfl) (by kernel_rfl) (by kernel_rfl),
   by kernel_rfl,
   z8 ⟨by kernel_rfl,by kernel_rfl,by kernel_rfl,by kernel_rfl,by kernel_rfl,by kernel_rfl,by kernel_rfl,by kernel_rfl⟩ (by kernel_rfl) (by kernel_rfl) (by kernel_rfl),
   by kernel_rfl,
   z8 ⟨by kernel_rfl,by kernel_rfl,by kernel_rfl,by kernel_rfl,by kernel_rfl,by kernel_rfl,by kernel_rfl,by kernel_rfl⟩ (by kernel_rfl) (by kernel_rfl) (by kernel_rfl),
   by kernel_rfl,
   z8 ⟨by kernel_rfl,by kernel_rfl,by kernel_rfl,by kernel_rfl,by kernel_rfl,by kernel_rfl,by kernel_rfl,by kernel_rfl⟩ (by kernel_rfl) (by kernel_rfl) (by kernel_rfl)⟩
#print axioms PySem.Challenge.cw_wishlots_k51_texts_and_refusals_holds
