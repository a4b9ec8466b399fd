import PyProof.Rows.All
import Wide.All
import OpenK.AllK
import Wide.FinOn
import Lean
import PyProof.EqAt
import PyProof.EqKinds
import PyProof.TupleCall
import PySem.Challenge.RW_wishlots_k52_whole_book
open PySem renaming wpAny_bind->cr,wpAny_pure->cv,Value->cA,Shared->cD,Addr->cG,wpAny_ite_false->cP,Program->cT,World->dc,starEach->dh,Paired->dr,Around->dw,boot_len->dD,wpAny_holding->dG,wpAny_call_entry->dR,wpAny_setState_of->dU,wpAny_callSpecial?_slot->ef,wpAny_field->eB,wpAny_isInstance->eF,wpAny_truthy_bool->eI,wpAny_setField_rec->eR,mem_of_lookup->eU,codeAny_builtin->eX,wpAny_newObj_type->e7,mainGlobals->fB,wpAny_Call_Name_kw->fG,wpAny_askSetting->fJ,wpAny_of_eq->fM,wpAny_seqItems->fP,wpAny_specialOf->gd,wpAny_mono->gh,wpAny_typeNameOfWhole_itemiter->gi,wpAny_setField->gq,wpAny_passesOwn->gO,call_meets->gX,wpAny_typeOf->ii,wpAny_execs_nil->im,NameKind->io,wpAny_attempt->ix,wpAny_pyIter_list->iB,wpAny_call->iI,PyData->iN,wpAny_rule->iQ,wpAny_fieldsOf->iR,wpAny_ite_true->iS,wpAny_newTuple->iT,codeAny_mono->iW,wpAny_newList->i9,wpAny_pyIter_slot->jv,wpAny_isOneOf_itemiter->jy,isSubtype_tuple_tuple->jD,plainId_quiet->jJ,wpAny_runValue->kd,entryFor_alias->kh,isSubtype_stop->ki,wpAny_tupleItemsOf->kj,wpAny_letGo->kD,wpAny_dictEntries->kE,wpAny_comprehension_free->kJ,wpAny_handled->kP,wpAny_execs_cons->kU,noFill_tuple_add->kW,wpAny_Call_method0_late->kY,sizeOk_excFields->lb,wpAny_pyIter_zip->lc,wpAny_forIn_list->ld,Within->lp,pushCells_keeps->lG,codeAny_of_tree->lK,wpAny_dictEpoch->lL,wpAny_isTrue_Compare1->lM,weight_type_call_type->lR,builtinLookup_eq_fast->lS,sizeLine_eq->lY,codeAny_call_builtin->l9,wpAny_throw->md,wpAny_updateSeq_pair->me,evalArgs_none->ml,wpAny_standAt->mv,seq_tuple_add->mw,wpAny_onRaise->mE,wpAny_pyIter_tuple->mK,typeIs_str->mL,wpAny_pyHash_tuple->mW,wpAny_eqBool_tuple->mX,wpAny_assign_Name->m6,concat_meets->ng,seqIndex_neg->nh,slot_list_getitem->ni,list_append->nk,wpAny_loadPart_at->nv,wpAny_pyIter_enum->nE,wpAny_storeSet_of->nG,wpAny_Call_method->nM,wpAny_pyHash_str->nO,wpAny_eqBool_int->nP,wpAny_eqBool_str->nQ,check_set_init_1->n7,wpAny_Dict_empty->oa,seqIndex_of->ol,wpAny_alloc->om,call_tuple_list->ou,typeLookup_type->oz,wpAny_Name->oJ,wpAny_Expr_any->oK,call->oM,isSubtype_type->oX,evalPart_none->pK,call_list_seq->pM,signature?_of->pT,strKind->pW,sub_set_self->qi,call_meetsIn->qm
open PySem.W renaming Frag->cu,boot_drawn->eh,mg_none_of->fE,emptyDict->fL,fnOf->f7,findIn->gm,instObj->gu,hideAll_get->gy,kia_one->ip,kia_tup->iq,methodCall_KW->iy,keepIn->iH,callWith_K->je,boot_heap->jo,plainGet->jG,plainGet_of->j2,piece_app->j6,lookIn->j7,methodObj->ku,hasDictIn->kz,mg_of->kG,excIn->kL,cellsFrom_some->lr,hideAll->lE,takerIn->lF,codeIn->lZ,kitOne->l4,mroIn->mz,of_hideAll->mI,kitx_tuple->mP,isFn->m7,plainOver->m9,kitx_none->nq,kitx_bool->nr,kitx_list->nt,handedIn->nR,kitx_int->nU,kitx_str->nV,makesIn->oq,kitAny->oR,boot_toks->p9
open List renaming length_map->cx,getElem?_eq_getElem->cz,getD_eq_getElem?_getD->cC,getElem?_map->cH,mem_singleton->cK,getElem?_eq_some_iff->cL,mem_cons_self->cM,mem_cons_of_mem->cO,map_append->cS,length_take->cV,getElem_mem->cW,size_toArray->cX,take_add_one->cY,mem_cons->cZ,mem_of_getElem?->da,range->db,take_length->dj,length_append->dq,mem_map->dv,mem_append->dJ,map_cons->dN,length_cons->dQ,lookup_cons->dW,mem_range->dY,all_eq_true->dZ,mem_append_right->d5,length_filter_le->d6,mem_filter->d8,getElem?_range->d9,forIn_cons->eg,take_of_length_le->eJ,mem_iff_getElem->eK,take_zero->eO,sum_cons->eQ,length_replicate->eS,length_singleton->eT,getElem?_append_right->eY,length_range->e9,pairwise_cons->fq,nodup_cons->fu,replicate->fw,map_congr_left->fD,append_nil->fT,perm_ext_iff_of_nodup->ga,filterMap_cons->gb,range_succ->gc,getElem?_eq_none->gg,filter_append->gj,forIn_nil->gp,mem_of_mem_take->gr,nodup_append->gt,mem_filterMap->gF,cons_lt_cons_iff->gL,getElem?_append_left->gM,lookup->gP,length_dropLast->gQ,filter_congr->gT,getElem?_take_of_lt->gV,any_cons->gW,idxOf_lt_length_iff->gZ,not_mem_nil->g9,nodup_nil->hU,eq_nil_of_length_eq_zero->ia,take_append_of_le_length->ib,map_map->ij,mem_iff_getElem?->iz,length_drop->iX,any_eq_true->iZ,getElem?_zip_eq_some->i3,length_set->jd,getElem_idxOf->jg,length->jh,length_eq_zero_iff->jj,pairwise_map->js,getElem?_set->jw,getElem?_toArray->jC,all_cons->jI,mem_append_left->jK,getElem?_set_ne->jL,dropLast_subset->jN,replicate_succ'->jQ,of_mem_zip->jR,length_nil->jT,dropLast_concat_getLast->jV,countP_eq_length_filter->jY,find?_cons->jZ,mem_or_eq_of_mem_set->kt,range'->kC,length_erase_of_mem->kR,mem_reverse->k6,ext_getElem->k8,range'_succ->la,getElem?_set_self->lq,pairwise_lt_range->lx,not_of_lt_findIdx->lC,take_append_drop->lO,findSome?_append->lQ,getElem?_zipWith->lU,mem_erase_of_ne->mf,mem_of_mem_drop->mi,Pairwise->my,count_eq_zero->mQ,mem_replicate->mR,map_singleton->m4,reverse_cons->nj,foldl_append->nI,getElem?_inj->nL,perm_middle->nW,filter_cons->nY,cons_append->n8,nodup_range->n9,mem_flatMap->oh,cons_ne_nil->oj,nil_append->oy,mem_range'->oB,sum_append->oC,length_zip->oG,filterMap->oU,findIdx?->pP,map_take->pQ,map_drop->pR,Perm->p7,map_nil->qb,zipWith->qd,map_set->qp,all_map->qr,filter->qD
open PySem.Heap renaming get?_push_of_some->cF,get?_push_size->cN,lt_size->cQ,get?_update_self->eH,get?_update_other->fi,SameBut->fI,size_push->gn,get?_update_ne->i5,push->k9,FlyingW->lu,SetOf->lD,size_update->nX,ExtBut->qE
open Nat renaming le_refl->cI,lt_of_lt_of_le->cU,ne_of_lt->df,le_trans->dg,lt_irrefl->dt,zero_le->du,lt_succ_of_lt->dz,le_of_lt->dB,lt_succ_self->dH,le_succ->ec,pow_le_pow_right->eA,lt_of_le_of_lt->eP,lt_succ_iff_lt_or_eq->fN,not_lt_zero->gx,le_add_right->gE,lt_of_succ_lt->gU,ne_of_gt->ic,sub_self->ik,le_succ_of_le->iC,lt_trichotomy->iD,le_of_not_lt->kZ,le_mul_of_pos_right->k7,lt_trans->lA,add_assoc->mC,eq_zero_or_pos->mO,lt_of_le_of_ne->mY,le_of_eq->na,zero_add->nJ,log2_lt->on,pow_succ->qe,mul_one->qC
open PySem.Challenge renaming pw_wishlots_k52_whole_book->cJ,rw_wishlots_k52_whole_book->f6
open PySem.Value renaming ref->cR,type->dL,int->dX,bool->eo,str->iu,bytes->qx,float->qy
open Bool renaming false_ne_true->de,and_eq_true->dn,false_eq_true->fV,eq_iff_iff->gv,not_true->gY,false_and->jp,or_eq_true_iff->j3,or_false->kI,and_eq_true_iff->mj,not_eq_true'->nl,not_false->o0,and_false->o3,false_or->pS,true_and->pX
open PySem.PassesOwn renaming never->dA,leaving->rf
open Int renaming emod_lt_of_pos->dC,mul_ne_zero->dE,emod_nonneg->dO,zero_add->d3,mul_le_mul_of_nonneg_right->eZ,le_of_lt->fj,gcd_pos_of_ne_zero_right->fz,le_refl->fC,mul_right_comm->fU,mul_lt_mul_of_pos_right->fZ,toNat_natCast->f9,mul_comm->gl,add_zero->gB,mul_zero->gC,sign_eq_neg_one_of_neg->gG,eq_of_mul_eq_mul_right->gH,lt_of_mul_lt_mul_right->gI,add_mul->gR,mul_pos->gS,ofNat->hO,mul_one->h9,sign_eq_one_of_pos->ie,fdiv_eq_ediv_of_nonneg->iL,mul_nonneg->iP,natAbs_natCast->jf,mul_add->jk,zero_mul->jt,mul_le_mul->ju,sub_mul->jM,one_mul->jP,natAbs_mul->j9,ediv_eq_of_eq_mul_left->kb,lt_or_gt_of_ne->kc,natAbs_dvd_natAbs->lN,mul_fdiv_cancel->mo,add_assoc->mB,sub_eq_add_neg->mV,natCast_nonneg->m3,gcd_comm->nu,le_trans->nF,mul_eq_zero->ow,not_lt->oO,mul_assoc->pO,sub_zero->qh,ofNat_le->ql,add_comm->qo,natAbs->rb
open PySem.F renaming plainAttrs_list->dI,slot_dict_itemiterator_next->fb,called_set->fk,slot_list_append->fR,type_list_append->fS,plainAttrs_str->gD,slot_tuple_iterator_next->gJ,plain_extend_loop->i7,args_tuple_add_2->i8,slot_tuple_index->jc,entry_tuple_add->ji,slot_list_clear->jm,type_list_clear->jn,slot_tuple_add->jq,slot_tuple_hash->jx,args_dict_itemiterator_next_1->jB,slot_str_join->jE,type_str_join->jF,entry_dict_itemiterator_next->jH,slot_dict_itemiterator_iter->jO,args_tuple_iterator_next_1->jW,slot_tuple_eq->jX,entry_tuple_iterator_next->j4,args_tuple_index_2->kl,args_str_split_2->km,entry_tuple_index->kr,entry_str_split->kF,plainAttrs_dict->lg,slot_dict_items->lh,slot_str_split->lj,slot_list_count->lm,type_list_count->ln,slot_dict_items_iter->lB,entry_proto_collect->lP,slot_dict_get->lV,args_list_append_2->l3,sub_list_frozenset->ma,slot_set_len->mh,entry_list_append->mm,entry_extend_loop->mr,entry_list_iadd->ny,entry_type_call->nH,typeCall_set_1->nZ,entry_set_init->n5,plain_set_new->ox,slot_set_iter->oA,slot_zip_next->oD,sub_list_set->oW
open Classical renaming byContradiction->dM
open PySem.Obj renaming mapSeq->d2,putSet->mS,data_mapFields->mU,mapFields->pU
open PySem.Builtin.SmallTypes renaming nextOf->d4,nextOrEnd->fA,ownedTupleIsFree->fQ,ownedTupleHandOut->mq,stopIteration->nK,newRecord->oE,newClass->oI,iterAll->oY
open PyProof.Rows renaming callWith_type1->d7,callWith_builtin1->g7,listUpdate_at->iw,subscriptTail_builtinR->jr,size_push'->lw,entry_list_sort->lI,boot_zip->lT,slot_list_sort->l5,args_list_sort->l8,plain_sorted->nA,entry_sorted->nB,args_sorted1->nC,slot_str_getitem->nS,kind_sorted->oo,boot_enumerate->oH,list_sort_tree->oQ,mem_join->o4,sortedAll_old->pN,tupleItemsOf_->pV,isTrue_plain->qa,floordiv_int->qc,listItems_at->qf,sortedAll_at->qg,Call_->rc
open PySem.Str renaming empty->ea,length->fH,ofString->fK,join->iV
open Array renaming length_toList->el,getElem?_eq_getElem->ff,getElem?_toList->gf,getElem?_eq_none->gA,forIn_toList->il,getElem?_eq_some_iff->ko,append_assoc->mJ,toList->m5,ext'->oN
open PySem.NameKind renaming free->er,cell->f5
open PySem.Heap.SameBut renaming update->eV,refl->re
open PySem.Txt renaming join->fe,slice->j5,find->qH
open False renaming elim->fh
open PySem.Calls renaming spliced_cons->fF,callWith_builtin->gz,call_function_entry->gN,Name_function_global->iG,evalArgs_plain->iJ,spliced_nil->kA,loadGlobal_global->kT
open PySem.SetTable renaming fresh->fO,insertAt->iE,grown->kf,insertAt_perm->ly,below->oS
open PySem.Around renaming under_plainId->fW,under_plain->mT,under->nc
open PyProof.Rows.F renaming plain_set_update_loop->fX,entry_set_update_loop->hV
open PySem.Builtin.List renaming listExtendWith->fY,listLengthHint->iF,listFitsIndex->j8,listSameRef->kQ,listTouch->lz
open PySem.SeqAt renaming shaped->f8,EqAt->q4
open PySem.PyData renaming eqv->gw,str->gK,canLay0->iO,depth->iY,eqvAll->ja,canLayAll0->kB,depthAll->lJ
open PySem.IsL renaming update->g8
open PySem.Heap.IsTupleIter renaming typeIs->h8
open PySem.Code renaming quiet_builtin->ig
open PySem.Builtin.Dict_items renaming ownsTuple->ir,ownedTupleFields->jb,pairFromOwner->jz,ownedTupleIsFree->mF,newIterator->og,dictOf->pq
open PySem.StrLaws renaming glued_eq_join->iA,join_length_le->jA,join_split->mZ
open PySem.Data renaming seq->iK,fields->lX
open List.Perm renaming refl->iM,eq_of_pairwise->kM,append_left->qu,length_eq->qT,nodup_iff->qV,mem_iff->rd
open Std.Legacy.Range renaming forIn_eq_forIn_range'->iU,size->lW
open PySem.Builtin.Tuple renaming tupleHashOf->i4,tupleItemsOf->oZ
open PySem.Builtin.Str renaming strKind->i6,occurrences->jl,partsBetween->kS
open ForInStep renaming yield->jS
open PySem.Builtin.Frozenset renaming updateFrom->jU,isAnySet->kg,sizeOf->kO,newClass->oV,slot0->p8
open PySem.Manifest renaming sig_set_iterator->kq
open Option renaming isSome_iff_exists->kH,getD_none->kX,bind_some->nT,map_some->oF
open PyProof renaming noPylong_of_log2->kK
open PySem.Shared renaming TypeIs->kN
open PySem.AutoSeq1 renaming list_insert_list_int_val_1->lH
open PySem.Builtin.Int renaming intBits->mn
open PySem.Paired renaming length->mt
open PySem.SeqAt.EqAt renaming int_str->mG,str_int->mH,none_bool->qz,bool_none->qA,bool_bool->qB,none_int->qI,none_str->qJ,bool_int->qK,bool_str->qL,int_none->qM,int_bool->qO,str_none->qQ,str_bool->qS,int_int->q5,str_str->q8,same->rj
open List.Pairwise renaming imp->nD,imp_of_mem->pY
open Nat.Coprime renaming dvd_of_dvd_mul_left->nN
open Std.Legacy renaming Range->oi
open PySem.Walks renaming list->oP,toS->ri
open PySem.EqNone renaming eq_none_none->o5,eq_none_bool->o6,eq_bool_none->o7,ne_none_none->pb,ne_none_bool->pc,ne_bool_none->ph,eq_none_int->pu,eq_none_str->pz,eq_int_none->pA,eq_str_none->pC,ne_none_int->pE,ne_none_str->pF,ne_int_none->pG,ne_str_none->pI
open PySem.EqMixed renaming eq_bool_str->o8,eq_str_bool->o9,ne_bool_str->pi,ne_str_bool->pj,eq_int_str->pB,eq_str_int->pD,ne_int_str->pH,ne_str_int->pJ
open PySem.W.OpenLaw renaming wellSaid->pr
open PySem.Builtin.Range renaming rangeSize->pZ
open PyProof.Rows.IsTup renaming new->p6
open PySem.setAddHashedIn renaming eq_def->qt
open PySem.Builtin.Dict renaming showsAll->qw,noArgs->qX
open PySem.Fin renaming done->qF
open PySem.Flow renaming ret->qG
open PySem.W.Looks renaming here->qY
open PySem.Heap.IsSliceOf renaming new->qZ
open PySem.W.WShape renaming has->q9
open PySem.DictEntry renaming refKey->rg
open PySem.W.WData renaming int->rh
open PySem.Heap.DictOf renaming new->rk
open PySem.pickOrder renaming go->rm
set_option Elab.async false
set_option maxRecDepth 100000 in
set_option maxHeartbeats 0 in
theorem BJ:pr f6=true:=by kernel_rfl
set_option Elab.async false
set_option linter.all false
set_option maxRecDepth 100000
namespace RG
end RG
namespace L2
open PySem PySem.Spec PyProof.Rows
abbrev F7:=Sum Int Str
def Kj:F7->cA->Bool
 | .inl k,v=>Value.isInt k v
 | .inr x,v=>Value.isStrOf x v
def Mu(w:dc):F7->Int
 | .inl k=>hashInt k
 | .inr x=>hashStr w x
theorem sv:∀{k:F7} {v:cA},Kj k v=true->(∃i t,k=Sum.inl i/\v=dX i t)\/(∃x t,k=Sum.inr x/\v=iu x t)
 | .inl i,v,h=>by
  obtain⟨t,e⟩:=Value.isInt_shape (k:=i) (v:=v) h
  exact .inl ⟨i,t,rfl,e⟩
 | .inr x,v,h=>by
  obtain⟨t,e⟩:=Value.isStrOf_shape (x:=x) (v:=v) h
  exact .inr ⟨x,t,rfl,e⟩
theorem DG(a b:Int):decide ((Sum.inl a:F7)=Sum.inl b)=(a==b):=by
 by_cases e:a=b
 ·subst e;simp
 ·have h:¬(Sum.inl a:F7)=Sum.inl b:=λq=>e (Sum.inl.inj q)
  rw[decide_eq_false h];exact(beq_eq_false_iff_ne.mpr e).symm
theorem DO(a b:Str):decide ((Sum.inr a:F7)=Sum.inr b)=decide (a=b):=by
 by_cases e:a=b
 ·subst e;simp
 ·have h:¬(Sum.inr a:F7)=Sum.inr b:=λq=>e (Sum.inr.inj q)
  rw[decide_eq_false h,decide_eq_false e]
theorem DS(a:Int)(b:Str):decide ((Sum.inl a:F7)=Sum.inr b)=false:=decide_eq_false (λq=>nomatch q)
theorem DI(a:Str)(b:Int):decide ((Sum.inr a:F7)=Sum.inl b)=false:=decide_eq_false (λq=>nomatch q)
def Gz(prog:cT)(w:dc):PySem.KeyKind prog w F7 where
 is:=Kj
 hash:=Mu w
 inj:=λv a b ha hb=>by
  rcases sv ha with⟨i,t,rfl,rfl⟩|⟨x,t,rfl,rfl⟩
  ·rcases sv hb with⟨j,u,rfl,e⟩|⟨y,u,rfl,e⟩
   ·injection e with e1 _;rw[e1]
   ·exact nomatch e
  ·rcases sv hb with⟨j,u,rfl,e⟩|⟨y,u,rfl,e⟩
   ·exact nomatch e
   ·injection e with e1 _;rw[e1]
 byValue:=λk v h=>by
  rcases sv h with⟨i,t,rfl,rfl⟩|⟨x,t,rfl,rfl⟩ <;> rfl
 pyHash:=λhv h=>by
  rcases sv hv with⟨i,t,rfl,rfl⟩|⟨x,t,rfl,rfl⟩
  ·exact wpAny_pyHash_int h
  ·exact nO h
 eqBool:=λhu hv h=>by
  rcases sv hu with⟨i,t,rfl,rfl⟩|⟨x,t,rfl,rfl⟩
  ·rcases sv hv with⟨j,u,rfl,rfl⟩|⟨y,u,rfl,rfl⟩
   ·rw[DG]at h;exact nP h
   ·rw[DS]at h;exact mG i t y u _ _ _ _ h
  ·rcases sv hv with⟨j,u,rfl,rfl⟩|⟨y,u,rfl,rfl⟩
   ·rw[DI]at h;exact mH x t j u _ _ _ _ h
   ·rw[DO]at h;exact nQ h
 «strs»:=λk x t v h=>by
  rcases sv h with⟨i,u,rfl,e⟩|⟨y,u,rfl,e⟩
  ·exact nomatch e
  ·injection e with e1 _
   subst e1
   cases v <;> rfl
inductive V where
 | non|bl (b:Bool)|int (i:Int)|str (x:Str)|byt (b:Array UInt8)|flt (b:UInt64)|ref (a:cG)|ty (n:String)
 deriving DecidableEq
def RelV:V->cA->Prop
 | .non,u=>u=cA.none
 | .bl b,u=>u=eo b
 | .int i,u=>∃t,u=dX i t
 | .str x,u=>∃t,u=iu x t
 | .byt b,u=>∃t,u=qx b t
 | .flt b,u=>∃t,u=qy b t
 | .ref a,u=>u=cR a
 | .ty n,u=>u=dL n
abbrev Vals:List V->List cA->Prop:=dr RelV
theorem Vals.length{xs:List V}{us:List cA}(r:Vals xs us):xs.length=us.length:=mt r
theorem Vals.get:∀{xs:List V} {us:List cA} {i:Nat} {x:V},Vals xs us->xs[i]?=some x->∃u,us[i]?=some u/\RelV x u
 | _,_,_,_,.nil,e=>by simp at e
 | _,_,0,_,.cons r _,e=>by simp at e;subst e;exact⟨_,rfl,r⟩
 | _,_,i+1,x,.cons _ t,e=>by
  obtain⟨u,h1,h2⟩:=Vals.get (i:=i) (x:=x) t (by simpa using e)
  exact⟨u,by simpa using h1,h2⟩
theorem Vals.set{x:V}{u:cA}(r:RelV x u):∀{xs:List V} {us:List cA} (i:Nat),Vals xs us->Vals (xs.set i x) (us.set i u)
 | _,_,_,.nil=> .nil
 | _,_,0,.cons _ t=> .cons r t
 | _,_,i+1,.cons q t=> .cons q (Vals.set r i t)
theorem Vals.append:∀{xs ys:List V} {us ws:List cA},Vals xs us->Vals ys ws->Vals (xs++ys) (us++ws)
 | _,_,_,_,.nil,s=>s
 | _,_,_,_,.cons r t,s=> .cons r (Vals.append t s)
theorem Vals.take:∀{xs:List V} {us:List cA} (n:Nat),Vals xs us->Vals (xs.take n) (us.take n)
 | _,_,0,_=> .nil
 | _,_,_+1,.nil=> .nil
 | _,_,n+1,.cons r t=> .cons r (Vals.take n t)
theorem Vals.drop:∀{xs:List V} {us:List cA} (n:Nat),Vals xs us->Vals (xs.drop n) (us.drop n)
 | _,_,0,r=>r
 | _,_,_+1,.nil=> .nil
 | _,_,n+1,.cons _ t=>Vals.drop n t
def RelO:Option V->Option cA->Prop
 | some v,some u=>RelV v u
 | none,none=>True
 | _,_=>False
def KV{κ:Type}:List (κ×V)->List (κ×cA)->Prop:=dr λ(p:κ×V) (q:κ×cA)=>p.1=q.1/\RelV p.2 q.2
def kV:F7->V
 | .inl i=> .int i
 | .inr x=> .str x
inductive HO where
 | lst (xs:List V)
 | tup (xs:List V)
 | dK (kvs:List (F7×V))|dT (kvs:List (List F7×V))
 | set (S:Int->Bool) (n:Nat)
 | ins (C dx:cG) (fs:List (Str×V))
 | own (x:cG)
 | xd (fs:List (Str×V))
 | met (f x:cG)
 | rng (lo hi:Int)
 | frz (o:Obj) (u:HO)
 | tbl (ps:Array cA)
 | ext (φ:Heap->Prop)
abbrev Hp:=cG->Option HO
def upd(H:Hp)(a:cG)(o:HO):Hp:=λb=>if b=a then some o else H b
theorem rz{H:Hp}{a:cG}{o:HO}:upd H a o a=some o:=by unfold upd;rw[if_pos rfl]
theorem rG{H:Hp}{a b:cG}{o:HO}(h:b≠a):upd H a o b=H b:=by unfold upd;rw[if_neg h]
theorem sI{H:Hp}{a b:cG}{o u:HO}(h:H a=some o)(h':H b=some u)(d:o≠u):a≠b:=by
 intro e;subst e;rw[h]at h';exact d (Option.some.inj h')
theorem rE{H:Hp}{a b:cG}{o:HO}(h:H a=some o)(h':H b=none):a≠b:=by
 intro e;subst e;rw[h]at h';cases h'
section
variable(P:cT)(w:dc)
def ObjOk(H:Hp)(h:Heap)(a:cG):HO->Prop
 | .lst xs=>xs.length<=sizeLine/\∃(its:List cA) (n:Nat),Vals xs its/\h.get? a=some {cls:= .type "list",data:= .seq its.toArray n}
 | .tup xs=>xs.length<=sizeLine/\∃its:List cA,Vals xs its/\IsTup h a its.toArray
 | .dK kvs=>kvs.length<=sizeLine/\(a==sysModules)=false/\∃vs,KV kvs vs/\h.DictOf (Gz P w) a vs
 | .dT kvs=>kvs.length<=sizeLine/\(a==sysModules)=false/\∃xs:List (List F7×cG×cA),
   dr (λ(p:List F7×V) (q:List F7×cG×cA)=>p.1=q.1/\H q.2.1=some (.tup (p.1.map kV))/\RelV p.2 q.2.2) kvs xs/\
   ∃o es ep,h.get? a=some o/\o.ExactDict/\o.data = .dict es ep/\es.toList=xs.map (entryOfKey (tupleKind (Gz P w)))/\(xs.map (·.1)).Nodup
 | .set S n=>h.SetOf (intKind P w) a S n
 | .ins C dx fs=>H dx=some (.own a)/\fs.length<=1000/\dx≠a/\h.get? a=some (gu C dx)/\
   ∃mA,h.Ns1 dx mA/\(∀f,RelO (fs.lookup f) (mA f))/\lp mA (fs.map (·.1))
 | .own _=>∃o,h.get? a=some o
 | .xd fs=>∃mA,h.Ns1 a mA/\∀f,RelO (fs.lookup f) (mA f)
 | .rng lo hi=>∃t u v,h.get? a=some {cls:= .type "range",data:= .fields #[.int lo t,.int hi u,.int 1 v]}
 | .frz o u=>h.get? a=some o/\ObjOk H h a u
 | .tbl ps=>h.get? a=some {cls:= .none,data:= .fields ps}
 | .met f x=>h.get? a=some (ku (.ref f) (.ref x))
 | .ext φ=>φ h/\(∃o,h.get? a=some o)/\∀h1 h2:Heap,φ h1->(∀o,h1.get? a=some o->h2.get? a=some o)->φ h2
def HOk(H:Hp)(h:Heap):Prop:=∀a o,H a=some o->ObjOk P w H h a o
end
section
variable{P:cT}{w:dc}{H H':Hp}{h h':Heap}{a:cG}{o:HO}
theorem ObjOk.lt(x:ObjOk P w H h a o):a<h.objs.size:=by
 cases o with
 | lst d=>obtain⟨_,_,_,_,e⟩:=x;exact cQ e
 | tup d=>obtain⟨_,_,_,p⟩:=x;exact p.lt
 | dK b=>obtain⟨_,_,_,_,o,_,_,e,_⟩:=x;exact cQ e
 | dT b=>obtain⟨_,_,_,_,o,_,_,e,_⟩:=x;exact cQ e
 | set S n=>obtain⟨o,_,_,_,e,_⟩:=x;exact cQ e
 | ins C m c=>obtain⟨_,_,_,e,_⟩:=x;exact cQ e
 | own y=>obtain⟨_,e⟩:=x;exact cQ e
 | xd c=>obtain⟨_,⟨_,_,_,e,_⟩,_⟩:=x;exact cQ e
 | rng k g=>obtain⟨_,_,_,e⟩:=x;exact cQ e
 | frz l u=>obtain⟨e,_⟩:=x;exact cQ e
 | tbl q=>exact cQ (show h.get? a=some _ from x)
 | met f y=>exact cQ (show h.get? a=some _ from x)
 | ext j=>obtain⟨_,⟨_,e⟩,_⟩:=x;exact cQ e
theorem Paired.mapP{α β:Type}{F G:α->β->Prop}:∀{l₁:List α} {l₂:List β},dr F l₁ l₂->(∀a b,F a b->G a b)->dr G l₁ l₂
 | _,_,.nil,_=> .nil
 | _,_,.cons r t,f=> .cons (f _ _ r) (Paired.mapP t f)
theorem ObjOk.stay(x:ObjOk P w H h a o)(k:∀b u,(b=a\/H b=some (.own a))->h.get? b=some u->h'.get? b=some u)
  (ho:∀b,H b=some (.own a)->H' b=some (.own a))(ht:∀b xs,H b=some (.tup xs)->H' b=some (.tup xs)):ObjOk P w H' h' a o:=by
 induction o with
 | lst xs=>obtain⟨z,m,n,r,e⟩:=x;exact⟨z,m,n,r,k _ _ (.inl rfl) e⟩
 | tup xs=>obtain⟨z,m,r,g,e,c⟩:=x;exact⟨z,m,r,g,k _ _ (.inl rfl) e,c⟩
 | dK B=>obtain⟨z,y,vs,r,g,j,l,e,c⟩:=x;exact⟨z,y,vs,r,g,j,l,k _ _ (.inl rfl) e,c⟩
 | dT B=>
  obtain⟨z,y,xs,r,g,j,l,e,c⟩:=x
  exact⟨z,y,xs,Paired.mapP r λp q z=>⟨z.1,ht _ _ z.2.1,z.2.2⟩,g,j,l,k _ _ (.inl rfl) e,c⟩
 | set S n=>obtain⟨g,j,l,t,e,c⟩:=x;exact⟨g,j,l,t,k _ _ (.inl rfl) e,c⟩
 | ins C M E=>
  obtain⟨d,z,I,e,A,⟨s,j,l,F,c⟩,r⟩:=x
  exact⟨ho _ d,z,I,k _ _ (.inl rfl) e,A,⟨s,j,l,k _ _ (.inr d) F,c⟩,r⟩
 | own y=>obtain⟨g,e⟩:=x;exact⟨g,k _ _ (.inl rfl) e⟩
 | xd E=>obtain⟨A,⟨s,j,l,e,c⟩,r⟩:=x;exact⟨A,⟨s,j,l,k _ _ (.inl rfl) e,c⟩,r⟩
 | rng K J=>obtain⟨t,u,v,e⟩:=x;exact⟨t,u,v,k _ _ (.inl rfl) e⟩
 | frz g u G=>obtain⟨e,q⟩:=x;exact⟨k _ _ (.inl rfl) e,G q⟩
 | tbl D=>
  have e:h.get? a=some {cls:= .none,data:= .fields D}:=x
  show h'.get? a=some {cls:= .none,data:= .fields D}
  exact k a _ (.inl rfl) e
 | met f y=>
  have e:h.get? a=some (ku (.ref f) (.ref y)):=x
  show h'.get? a=some (ku (.ref f) (.ref y))
  exact k a _ (.inl rfl) e
 | ext L=>obtain⟨p,⟨o,e⟩,st⟩:=x;exact⟨st _ _ p λo q=>k _ _ (.inl rfl) q,⟨o,k _ _ (.inl rfl) e⟩,st⟩
theorem HOk.lt(x:HOk P w H h)(e:H a=some o):a<h.objs.size:=(x a o e).lt
theorem HOk.fresh(x:HOk P w H h)(e:h.objs.size<=a):H a=none:=by
 cases q:H a with
 | none=>rfl
 | some u=>exact absurd (cU (x.lt q) e) (dt _)
theorem HOk.kept(x:HOk P w H h)(k:∀b u,h.get? b=some u->h'.get? b=some u):HOk P w H h':=λa o e=>
 (x a o e).stay (λb u _ q=>k b u q) (λ_ q=>q) λ_ _ q=>q
theorem HOk.laid(x:HOk P w H h)(k:∀b u,h.get? b=some u->h'.get? b=some u)(hp:h.objs.size<=a)(new:ObjOk P w (upd H a o) h' a o):HOk P w (upd H a o) h':=λb u e=>by
 have d:=x.fresh hp;by_cases f:b=a
 ·subst f;rw[rz]at e;cases e;exact new
 ·rw[rG f]at e;exact(x b u e).stay (λc v _ q=>k c v q) (λc q=>by rw[rG (rE q d)];exact q) λc g q=>by rw[rG (rE q d)];exact q
end
def Rd(H:Hp)(a:cG)(u:HO):Prop:=H a=some u\/∃o,H a=some (.frz o u)
theorem Rd.ok{P:cT}{w:dc}{H:Hp}{h:Heap}{a:cG}{u:HO}(r:Rd H a u)(x:HOk P w H h):ObjOk P w H h a u:=by
 rcases r with r|⟨o,r⟩
 ·exact x a u r
 ·obtain⟨_,q⟩:=x a _ r;exact q
def LS:Option HO->Prop
 | some (.lst _)=>True
 | some (.dK _)=>True
 | some (.dT _)=>True
 | some (.set _ _)=>True
 | some (.ins _ _ _)=>True
 | some (.ext _)=>True
 | _=>False
section
variable{P:cT}{w:dc}{H:Hp}{h h':Heap}{x e:cG}{o':HO}
theorem HOk.write(ok:HOk P w H h)(mu:LS (H x))(he:e=x\/H e=some (.own x))(k:∀b u,b≠e->h.get? b=some u->h'.get? b=some u)(heo:∃u,h'.get? e=some u)
  (new:ObjOk P w (upd H x o') h' x o'):HOk P w (upd H x o') h':=λb u q=>by
 have d:∀c y,H c=some (.own y)->c≠x:=λc y r z=>by subst z;rw[r]at mu;exact mu
 have l:∀c j,H c=some (.tup j)->c≠x:=λc j r z=>by subst z;rw[r]at mu;exact mu
 by_cases g:b=x
 ·subst g;rw[rz]at q;cases q;exact new
 ·rw[rG g]at q
  by_cases a:b=e
  ·have m:H b=some (.own x):=by
    rcases he with z|z
    ·exact absurd (a.trans z) g
    ·rw[a];exact z
   rw[q]at m;cases m
   obtain⟨v,n⟩:=heo
   exact⟨v,by rw[a];exact n⟩
  ·refine(ok b u q).stay (λc v f r=>k c v ?_ r) (λc r=>by rw[rG (d c b r)];exact r) λc j r=>by rw[rG (l c j r)];exact r
   rcases f with rfl|f
   ·exact a
   ·rintro rfl
    rcases he with z|z
    ·exact d c b f z
    ·rw[f]at z;cases z;exact g rfl
end
structure Un(fs ex:List cG)(H H':Hp)(h h':Heap):Prop where
 keep:∀b o,h.get? b=some o->H b=none->b∉fs->b∉ex->h'.get? b=some o
 slot:∀b o,h.get? b=some o->H b=none->b∈fs->b∉ex->∃sl,h'.get? b=some {o with slots:=sl}
 free:∀b o,h.get? b=some o->H b=none->b∉ex->H' b=none
 there:∀b o,h.get? b=some o->b∉ex->∃o',h'.get? b=some o'
 tups:∀b xs,H b=some (.tup xs)->H' b=some (.tup xs)
 frzs:∀b o u,H b=some (.frz o u)->H' b=some (.frz o u)
 tbls:∀b ps,H b=some (.tbl ps)->∃more,H' b=some (.tbl (ps++more))
section
variable{fs fs' ex ex':List cG}{H H1 H2:Hp}{h h1 h2 h':Heap}{a x e:cG}{o:HO}
theorem Un.any(u:Un fs ex H H1 h h1){b:cG}{ob:Obj}(q:h.get? b=some ob)(n:H b=none)(hx:b∉ex):∃sl,h1.get? b=some {ob with slots:=sl}:=by
 by_cases a:b∈fs
 ·exact u.slot b ob q n a hx
 ·exact⟨ob.slots,u.keep b ob q n a hx⟩
theorem Un.kept(k:∀b u,h.get? b=some u->h'.get? b=some u):Un fs ex H H h h':=
 ⟨λb a q _ _ _=>k b a q,λb a q _ _ _=>⟨a.slots,k b a q⟩,λ_ _ _ n _=>n,λb a q _=>⟨a,k b a q⟩,λ_ _ q=>q,λ_ _ _ q=>q,λ_ c q=>⟨#[],by rw[q];simp⟩⟩
theorem Un.refl:Un fs ex H H h h:=Un.kept λ_ _ q=>q
theorem Un.laid(k:∀b u,h.get? b=some u->h'.get? b=some u)(hp:h.objs.size<=a)(hn:H a=none):Un fs ex H (upd H a o) h h' where
 keep:=λb u q _ _ _=>k b u q
 slot:=λb u q _ _ _=>⟨u.slots,k b u q⟩
 free:=λb u q n _=>by rw[rG (df (cU (cQ q) hp))];exact n
 there:=λb u q _=>⟨u,k b u q⟩
 tups:=λb c q=>by rw[rG (rE q hn)];exact q
 frzs:=λb u c q=>by rw[rG (rE q hn)];exact q
 tbls:=λb d q=>⟨#[],by rw[rG (rE q hn),q];simp⟩
theorem Un.write(mu:LS (H x))(he:e=x\/H e=some (.own x))(k:∀b u,b≠e->h.get? b=some u->h'.get? b=some u)(heo:∃u,h'.get? e=some u):Un fs ex H (upd H x o) h h':=by
 have d:∀b,H b=none->b≠x:=λb n z=>by subst z;rw[n]at mu;exact mu
 have f:∀b,H b=none->b≠e:=λb n z=>by
  subst z;rcases he with r|r
  ·exact d b n r
  ·rw[n]at r;cases r
 have c:∀b u,H b=some u->¬LS (some u)->b≠x:=λb u q g z=>by subst z;rw[q]at mu;exact g mu
 refine⟨λb u q n _ _=>k b u (f b n) q,λb u q n _ _=>⟨u.slots,k b u (f b n) q⟩,λb u q n _=>by rw[rG (d b n)];exact n,λb u q _=>?_,
  λb j q=>by rw[rG (c b _ q λz=>z)];exact q,λb u j q=>by rw[rG (c b _ q λz=>z)];exact q,λb l q=>⟨#[],by rw[rG (c b _ q λz=>z),q];simp⟩⟩
 by_cases a:b=e
 ·subst a;exact heo
 ·exact⟨u,k b u a q⟩
end
def trk(h:Heap)(H:Hp):List cG:=(db h.objs.size).filter λa=>(H a).isSome
def HJ(h:Heap)(H:Hp):Heap:=lE h (trk h H)
theorem Bf(h:Heap)(H:Hp):(HJ h H).objs.size=h.objs.size:=PySem.W.hideAll_size _ _
theorem B1{h:Heap}{H:Hp}{b:cG}{o:Obj}(e:h.get? b=some o)(n:H b=none):(HJ h H).get? b=some o:=
 gy _ e λa=>by
  have q:(H b).isSome=true:=(d8.mp a).2
  rw[n]at q;simp at q
theorem CG{h:Heap}{H:Hp}{b:cG}{o:Obj}(e:(HJ h H).get? b=some o):h.get? b=some o/\H b=none:=by
 have a:h.get? b=some o:=mI (trk h H) e;refine⟨a,?_⟩
 cases q:H b with
 | none=>rfl
 | some x=>
  have c:b∈trk h H:=d8.mpr ⟨dY.mpr (cQ a),by simp[q]⟩;have z:(HJ h H).get? b=none:=PySem.W.hideAll_none (trk h H) c;rw[z]at e;cases e
def J2(g h:Heap)(L:cG):List (cG×Obj):=(db h.objs.size).filterMap λa=>if a=L\/(g.get? a).isSome=true then none else(h.get? a).map λo=>(a,o)
def rest(g h:Heap)(L d:cG):List (cG×Obj):=(J2 g h L).filter λp=>decide (p.1≠d)
structure Mod(K:cu)(mg:Str->Option cA)(base:Heap):Prop where
 kin:K.In base
 glob:base.Ns fB mg
 blt:∃mb,base.Ns builtinsNs mb/\∀x:Str,x≠"__name__"->mb x=bootBuiltins x
 nolimit:base.NoLimit
structure Cx where
 prog:cT
 w:dc
 K:cu
 mg:Str->Option cA
 base:Heap
 A:dw
 N:List Str
 s₀:cD
 H₀:Hp
 env:Env
 outer:List Env
 stack:List Env
 ex:List cG
 fn:Str->Bool
 calm:Bool
 pn:List (cG×Obj)
 xe:cA->cD->Prop
def Fj(l:List Env):List cG:=l.filterMap (·.frame)
abbrev Cx.fs(X:Cx):List cG:=Fj X.outer
def LW(sc:Scope)(x:Str):Prop:=sc.names.lookup x=some .local\/sc.names.lookup x=some .cell\/sc.names.lookup x=some .free
def LT(sc:Scope)(x:Str):Prop:=sc.names.lookup x=some .local\/sc.names.lookup x=some .cell
def L7(env:Env)(h:Heap)(m:Str->Option cA)(x:Str)(u:cA):Prop:=
 (env.kindOf x=some .local/\m x=some u)\/((env.kindOf x=some .cell\/env.kindOf x=some .free)/\∃c,env.cells.lookup x=some c/\h.IsCell c (some u))
structure Cx.Ok(X:Cx):Prop where
 mod:Mod X.K X.mg X.base
 kind:X.env.scope.kind = .function
 glob:X.env.globals=fB
 blt:X.env.builtins=builtinsNs
 above:X.s₀.heap.objs.size<=X.env.locals
 inj:∀x y c,X.env.cells.lookup x=some c->X.env.cells.lookup y=some c->x=y
 has:∀x,(X.env.kindOf x=some .cell\/X.env.kindOf x=some .free)->∃c,X.env.cells.lookup x=some c
 cab:∀x c,X.fn x=true->X.env.cells.lookup x=some c->X.s₀.heap.objs.size<=c
 hd:X.calm=true->X.A.handled=none
 frames:X.A.frames=some X.stack
 stk:X.stack=X.outer\/(X.stack=X.env::X.outer/\X.env.frame=some X.env.locals)
 exf:∀b∈X.ex,b≠X.env.locals/\∀x c,X.env.cells.lookup x=some c->c≠b
 bs:∀b o,X.base.get? b=some o->X.s₀.heap.get? b=some o/\X.H₀ b=none
 bsz:X.base.objs.size<=X.s₀.heap.objs.size
 noex:∀b o,X.base.get? b=some o->b∉X.ex
 exfs:∀b∈X.ex,b∉X.fs
 funs:X.s₀.heap.FunFrames X.base X.outer
 frf:∀b∈X.fs,X.H₀ b=none
structure Inv(X:Cx)(pins:List (cG×Obj))(σ:List (Option V))(H:Hp)(s:cD):Prop where
 ok:X.Ok
 os:s.os=X.s₀.os
 bare:AllBare s.gens
 base:Un X.fs X.ex X.H₀ H X.s₀.heap s.heap
 loc:∃m,s.heap.Ns X.env.locals m/\∀(i:Nat) (x:Str) (v:V),X.N[i]?=some x->σ[i]?=some (some v)->LW X.env.scope x->∃u,RelV v u/\L7 X.env s.heap m x u
 cell:∀x c,X.env.cells.lookup x=some c->∃v,s.heap.IsCell c v
 free:H X.env.locals=none
 freeC:∀x c,X.env.cells.lookup x=some c->H c=none
 pin:∀p∈X.pn++pins,s.heap.get? p.1=some p.2/\H p.1=none/\p.1≠X.env.locals/\p.1∉X.fs/\∀v,p.2.data≠ .cell v
 hok:HOk X.prog X.w H s.heap
 len:σ.length=X.N.length
section
variable{X:Cx}{pins:List (cG×Obj)}{σ:List (Option V)}{H H':Hp}{s:cD}{h':Heap}
theorem Cx.Ok.nofr(ok:X.Ok){b:cG}{o:Obj}(e:X.base.get? b=some o):b∉X.fs:=λa=>by
 have:=(ok.funs.mem a).1;rw[e]at this;cases this
theorem Inv.bs(I:Inv X pins σ H s):∀b o,X.base.get? b=some o->s.heap.get? b=some o/\H b=none:=λb o e=>
 ⟨I.base.keep b o (I.ok.bs b o e).1 (I.ok.bs b o e).2 (I.ok.nofr e) (I.ok.noex b o e),I.base.free b o (I.ok.bs b o e).1 (I.ok.bs b o e).2 (I.ok.noex b o e)⟩
theorem Inv.bk(I:Inv X pins σ H s):∀b o,X.base.get? b=some o->s.heap.get? b=some o:=λb o e=>(I.bs b o e).1
theorem Inv.mod(I:Inv X pins σ H s):Mod X.K X.mg X.base:=I.ok.mod
theorem Inv.kIn(I:Inv X pins σ H s):X.K.In s.heap:=I.ok.mod.kin.keeps I.bk
theorem Inv.fr(I:Inv X pins σ H s):∃m,Fr X.base X.env.locals s.heap m:=
 let⟨m,a,_⟩:=I.loc
 ⟨m,a,I.bk,dg I.ok.bsz I.ok.above⟩
theorem Inv.lt(I:Inv X pins σ H s):X.env.locals<s.heap.objs.size:=let⟨_,a,_⟩:=I.loc;a.lt
theorem Inv.sz(I:Inv X pins σ H s):X.s₀.heap.objs.size<=s.heap.objs.size:=dg I.ok.above (dB I.lt)
theorem Inv.nofs(I:Inv X pins σ H s){a:cG}(h:s.heap.objs.size<=a):a∉X.fs:=λb=>by
 obtain⟨_,o,c,_⟩:=I.ok.funs.mem b;exact absurd (cU (cQ c) (dg I.sz h)) (dt _)
theorem Inv.cne(I:Inv X pins σ H s):∀x c,X.env.cells.lookup x=some c->c≠X.env.locals:=λx c e z=>by
 obtain⟨v,o,a,d⟩:=I.cell x c e;obtain⟨m,⟨g,h,j,b,f,_⟩,_⟩:=I.loc;rw[z,b]at a;cases a;rw[f]at d;cases d
theorem Inv.funs(I:Inv X pins σ H s):s.heap.FunFrames X.base X.outer:=by
 have all:∀(l:List Env),(∀b∈Fj l,b∈X.fs)->X.s₀.heap.FunFrames X.base l->s.heap.FunFrames X.base l:=by
  intro l
  induction l with
  | nil=>intro _ _;trivial
  | cons p r h=>
   intro f n;obtain⟨hk,⟨L,o,d,k,g,m⟩,j⟩:=n;have a:L∈X.fs:=f L (by unfold Fj;rw[gb,d];exact cM);obtain⟨q,e⟩:=I.base.slot L o g (I.ok.frf L a) a λz=>I.ok.exfs L z a
   exact⟨hk,⟨L,_,d,k,e,m⟩,h (λb c=>f b (by unfold Fj;rw[gb,d];exact cO _ c)) j⟩
 exact all X.outer (λ_ c=>c) I.ok.funs
theorem Inv.stack(I:Inv X pins σ H s):s.heap.FunFrames X.base X.stack:=by
 rcases I.ok.stk with e|⟨e,a⟩
 ·rw[e];exact I.funs
 ·rw[e];obtain⟨m,b,_⟩:=I.loc;refine .cons (by rw[I.ok.kind];decide) a b ?_ I.funs;exact Heap.get?_none_of_le (dg I.ok.bsz I.ok.above)
theorem Inv.stkSub(I:Inv X pins σ H s):∀b∈Fj X.stack,b∈X.env.locals::X.fs:=λb a=>by
 rcases I.ok.stk with e|⟨e,c⟩
 ·rw[e]at a;exact cO _ a
 ·rw[e]at a;unfold Fj at a;rw[gb,c]at a;exact a
theorem Inv.stkFree(I:Inv X pins σ H s):∀b∈Fj X.stack,H b=none:=λb a=>by
 rcases cZ.mp (I.stkSub b a)with e|a
 ·rw[e];exact I.free
 ·obtain⟨_,o,c,_⟩:=I.ok.funs.mem a;exact I.base.free b o c (I.ok.frf b a) λz=>I.ok.exfs b z a
theorem Inv.step{g':Array GenState}{t':Nat}{d':Drawn}{ch:List cG}(I:Inv X pins σ H s)
  (hch:∀b∈ch,(b∈X.ex\/X.s₀.heap.objs.size<=b)/\b≠X.env.locals/\(∀x c,X.env.cells.lookup x=some c->c≠b)/\∀p∈X.pn++pins,p.1≠b)
  (keep:∀b o,b≠X.env.locals->b∉X.fs->b∉ch->s.heap.get? b=some o->H b=none->h'.get? b=some o)
  (slot:∀b o,b≠X.env.locals->b∈X.fs->b∉ch->s.heap.get? b=some o->H b=none->∃sl,h'.get? b=some {o with slots:=sl})(free:∀b o,b∉ch->s.heap.get? b=some o->H b=none->H' b=none)
  (there:∀b o,b∉ch->s.heap.get? b=some o->∃o',h'.get? b=some o')
  (tups:∀b xs,H b=some (.tup xs)->H' b=some (.tup xs))(frzs:∀b o u,H b=some (.frz o u)->H' b=some (.frz o u))(tbls:∀b ps,H b=some (.tbl ps)->∃more,H' b=some (.tbl (ps++more)))
  (ns:∀m,s.heap.Ns X.env.locals m->h'.Ns X.env.locals m)(hok:HOk X.prog X.w H' h')(hg:AllBare g'):
  Inv X pins σ H' {s with heap:=h',gens:=g',drawn:=d',toks:=t'}:=by
 have B:∀b o,X.s₀.heap.get? b=some o->b≠X.env.locals:=λb o e=>df (cU (cQ e) I.ok.above)
 have t:∀b o,X.s₀.heap.get? b=some o->b∉X.ex->b∉ch:=λb o e a h=>by
  rcases(hch b h).1 with z|z
  ·exact a z
  ·exact absurd (cU (cQ e) z) (dt _)
 have j:∀x c,X.env.cells.lookup x=some c->∀v,s.heap.IsCell c v->h'.IsCell c v:=λx c e v ⟨o,y,C⟩=>by
  have g:c∉ch:=λz=>(hch c z).2.2.1 x c e rfl
  by_cases F:c∈X.fs
  ·obtain⟨sl,q⟩:=slot c o (I.cne x c e) F g y (I.freeC x c e)
   exact⟨_,q,C⟩
  ·exact⟨o,keep c o (I.cne x c e) F g y (I.freeC x c e),C⟩
 refine⟨I.ok,I.os,hg,⟨λb o e n h a=>?_,λb o e n h a=>?_,λb o e n a=>?_,λb o e a=>?_,λb xs e=>tups b xs (I.base.tups b xs e),λb o xs e=>frzs b o xs (I.base.frzs b o xs e),λb ps e=>?_⟩,?_,λx c e=>?_,?_,λx c e=>?_,λp hp=>?_,hok,I.len⟩
 ·exact keep b o (B b o e) h (t b o e a) (I.base.keep b o e n h a) (I.base.free b o e n a)
 ·obtain⟨sl,f⟩:=I.base.slot b o e n h a
  obtain⟨D,A⟩:=slot b _ (B b o e) h (t b o e a) f (I.base.free b o e n a)
  exact⟨D,A⟩
 ·obtain⟨o',f⟩:=I.base.there b o e a
  exact free b o' (t b o e a) f (I.base.free b o e n a)
 ·obtain⟨o',f⟩:=I.base.there b o e a
  exact there b o' (t b o e a) f
 ·obtain⟨L,f⟩:=I.base.tbls b ps e
  obtain⟨M,A⟩:=tbls b _ f
  exact⟨L++M,by rw[A,mJ]⟩
 ·obtain⟨m,K,J⟩:=I.loc
  refine⟨m,ns m K,λi x v f A G=>?_⟩
  obtain⟨u,r,l⟩:=J i x v f A G
  refine⟨u,r,?_⟩
  rcases l with l|⟨k,c,e,z⟩
  ·exact .inl l
  ·exact .inr ⟨k,c,e,j x c e _ z⟩
 ·obtain⟨v,z⟩:=I.cell x c e
  exact⟨v,j x c e v z⟩
 ·obtain⟨m,⟨o,_,_,y,_⟩,_⟩:=I.loc
  exact free _ o (λz=>(hch _ z).2.1 rfl) y I.free
 ·obtain⟨v,o,y,C⟩:=I.cell x c e
  exact free c o (λz=>(hch c z).2.2.1 x c e rfl) y (I.freeC x c e)
 ·obtain⟨e,n,E,nf,d⟩:=I.pin p hp
  have g:p.1∉ch:=λz=>(hch p.1 z).2.2.2 p hp rfl
  exact⟨keep p.1 p.2 E nf g e n,free p.1 p.2 g e n,E,nf,d⟩
theorem Inv.un{t':Nat}(I:Inv X pins σ H s)(u:Un X.fs [] H H' s.heap h')(hok:HOk X.prog X.w H' h'):Inv X pins σ H' {s with heap:=h',toks:=t'}:=by
 obtain⟨m,⟨o,p,t,d,r⟩,_⟩:=id I.loc;obtain⟨l,h⟩:=u.any d I.free (by simp);exact I.step (g':=s.gens) (d':=s.drawn) (ch:=[]) (λ_ z=>nomatch z) (λb o _ c _ e n=>u.keep b o e n c (by simp)) (λb o _ c _ e n=>u.slot b o e n c (by simp)) (λb o _ e n=>u.free b o e n (by simp)) (λb o _ e=>u.there b o e (by simp)) u.tups u.frzs u.tbls (λv j=>by
  obtain⟨q,g,f,a,k⟩:=j;rw[d]at a;cases a;exact⟨_,g,f,h,k⟩) hok I.bare
theorem Inv.call{g':Array GenState}{t':Nat}{d':Drawn}{ch:List cG}(I:Inv X pins σ H s)(u:Un (Fj X.stack) ch H H' s.heap h')(hok:HOk X.prog X.w H' h')(hg:AllBare g')
  (hch:∀b∈ch,(b∈X.ex\/X.s₀.heap.objs.size<=b)/\b≠X.env.locals/\(∀x c,X.env.cells.lookup x=some c->c≠b)/\∀p∈X.pn++pins,p.1≠b):
  Inv X pins σ H' {s with heap:=h',gens:=g',drawn:=d',toks:=t'}:=by
 obtain⟨m,⟨o,v,A,g,r⟩,_⟩:=id I.loc
 obtain⟨t,f⟩:=u.any g I.free λz=>(hch _ z).2.1 rfl
 exact I.step (ch:=ch) hch (λb o f k a e n=>u.keep b o e n (λz=>(cZ.mp (I.stkSub b z)).elim f k) a) (λb o _ _ a e n=>u.any e n a) (λb o a e n=>u.free b o e n a) (λb o a e=>u.there b o e a) u.tups u.frzs u.tbls (λB l=>by
  obtain⟨y,j,h,d,q⟩:=l
  rw[g]at d;cases d
  exact⟨_,j,h,f,q⟩) hok hg
theorem Inv.turned{t':Nat}{it:cG}(I:Inv X pins σ H s)(k:∀b o,b≠it->s.heap.get? b=some o->h'.get? b=some o)(hn:H it=none)(hL:it≠X.env.locals)
  (h1:it∈X.ex\/X.s₀.heap.objs.size<=it)(h2:∀x c,X.env.cells.lookup x=some c->c≠it)(h3:∀p∈X.pn++pins,p.1≠it):Inv X pins σ H {s with heap:=h',toks:=t'}:=by
 have d:∀b u,H b=some u->b≠it:=λb u e z=>by rw[z,hn]at e;cases e
 refine I.step (g':=s.gens) (d':=s.drawn) (ch:=[it]) (λb h=>?_) (λb o _ _ a e _=>k b o (λz=>a (by simp[z])) e) (λb o _ _ a e _=>⟨o.slots,k b o (λz=>a (by simp[z])) e⟩) (λ_ _ _ _ n=>n)
  (λb o a e=>⟨o,k b o (λz=>a (by simp[z])) e⟩) (λ_ _ e=>e) (λ_ _ _ e=>e) (λb t e=>⟨#[],by rw[e];simp⟩) (λm l=>?_) (λb u e=>?_) I.bare
 ·have e:b=it:=by simpa using h
  subst e
  exact⟨h1,hL,h2,h3⟩
 ·obtain⟨o,g,j,f,r⟩:=l
  exact⟨o,g,j,k _ o (Ne.symm hL) f,r⟩
 ·refine(I.hok b u e).stay (λc v a q=>k c v ?_ q) (λ_ q=>q) λ_ _ q=>q
  rcases a with z|z
  ·rw[z];exact d b u e
  ·exact d c _ z
theorem Inv.tok(I:Inv X pins σ H s)(t:Nat):Inv X pins σ H {s with toks:=t}:=I.un (h':=s.heap) (t':=t) Un.refl I.hok
theorem Inv.kept{t':Nat}(I:Inv X pins σ H s)(k:∀b u,s.heap.get? b=some u->h'.get? b=some u):Inv X pins σ H {s with heap:=h',toks:=t'}:=I.un (Un.kept k) (I.hok.kept k)
theorem Inv.laid{a:cG}{o:HO}{t':Nat}(I:Inv X pins σ H s)(k:∀b u,s.heap.get? b=some u->h'.get? b=some u)(hp:s.heap.objs.size<=a)(new:ObjOk X.prog X.w (upd H a o) h' a o):
  Inv X pins σ (upd H a o) {s with heap:=h',toks:=t'}:=I.un (Un.laid k hp (I.hok.fresh hp)) (I.hok.laid k hp new)
theorem Inv.write{x e:cG}{o:HO}{t':Nat}(I:Inv X pins σ H s)(mu:LS (H x))(he:e=x\/H e=some (.own x))(k:∀b u,b≠e->s.heap.get? b=some u->h'.get? b=some u)(heo:∃u,h'.get? e=some u)
  (new:ObjOk X.prog X.w (upd H x o) h' x o):Inv X pins σ (upd H x o) {s with heap:=h',toks:=t'}:=I.un (Un.write mu he k heo) (I.hok.write mu he k heo new)
theorem Inv.weak{σ':List (Option V)}(I:Inv X pins σ H s)(hl:σ'.length=σ.length)(w:∀(i:Nat) v,σ'[i]?=some (some v)->σ[i]?=some (some v)):Inv X pins σ' H s:=
 ⟨I.ok,I.os,I.bare,I.base,let⟨m,e,a⟩:=I.loc;⟨m,e,λi x v b d c=>a i x v b (w i v d) c⟩,I.cell,I.free,I.freeC,I.pin,I.hok,hl.trans I.len⟩
theorem Inv.pins_of{pins':List (cG×Obj)}(I:Inv X pins σ H s)(h:∀p∈pins',s.heap.get? p.1=some p.2/\H p.1=none/\p.1≠X.env.locals/\p.1∉X.fs/\∀v,p.2.data≠ .cell v):Inv X pins' σ H s:=
 ⟨I.ok,I.os,I.bare,I.base,I.loc,I.cell,I.free,I.freeC,λp hp=>(dJ.mp hp).elim (λz=>I.pin p (jK _ z)) (h p),I.hok,I.len⟩
theorem yO{N:List Str}(hN:N.Nodup){i j:Nat}{x:Str}(a:N[i]?=some x)(b:N[j]?=some x):i=j:=by
 obtain⟨h1,c⟩:=cL.mp a;obtain⟨h2,d⟩:=cL.mp b;exact(List.getElem_inj hN).mp (c.trans d.symm)
theorem xF{M:Model}{A:dw}{E:cA->cD->Prop}{i:Nat}{x:Str}{v:V}{u:cA}{Q:Unit->cD->Prop}(I:Inv X pins σ H s)(hN:X.N.Nodup)(hi:X.N[i]?=some x)(hx:LT X.env.scope x)(r:RelV v u)
  (h:∀s',Inv X pins (σ.set i (some v)) H s'->(∃a,fI a s.heap s'.heap/\(a=X.env.locals\/X.env.cells.lookup x=some a))->Q () s')(hf:X.fn x=true\/X.env.scope.names.lookup x=some .local:=by first|exact .inl rfl|exact .inr rfl|assumption):wpAny M A (storeName X.env x u) Q E s:=by
 obtain⟨m,hn,hl⟩:=id I.loc
 have W:(X.env.scope.kind == .class||(X.env.scope.kind == .module&&X.env.locals != X.env.globals))=false:=by rw[I.ok.kind];rfl
 have K:i<σ.length:=by rw[I.len];exact(cL.mp hi).1
 have J:=I.cne
 have t:∀{a:cG} {G:Heap},(∃o,s.heap.get? a=some o/\H a=none)->fI a s.heap G->HOk X.prog X.w H G:=λ {a G} ha f b ob e=>by
  obtain⟨_,_,F⟩:=ha
  refine(I.hok b ob e).stay (λc O l q=>(f.2 c ?_).trans q) (λ_ q=>q) λ_ _ q=>q
  rintro rfl
  rcases l with rfl|l
  ·rw[F]at e;cases e
  ·rw[F]at l;cases l
 rcases hx with hk|hk
 ·refine wpAny_storeName_local hk hn (λG ab f=>?_) W
  obtain⟨oL,_,_,ac,_⟩:=id hn
  refine h _ ⟨I.ok,I.os,I.bare,⟨λb o e n D hx=>?_,λb o e n D hx=>?_,I.base.free,λb o e hx=>?_,I.base.tups,I.base.frzs,I.base.tbls⟩,⟨_,ab,λj y v' g B Y=>?_⟩,λy c e=>?_,I.free,I.freeC,λp hp=>?_,t ⟨oL,ac,I.free⟩ f,by simpa using I.len⟩ ⟨_,f,.inl rfl⟩
  ·exact(f.2 b (df (cU (cQ e) I.ok.above))).trans (I.base.keep b o e n D hx)
  ·obtain⟨Z,g⟩:=I.base.slot b o e n D hx
   exact⟨Z,(f.2 b (df (cU (cQ e) I.ok.above))).trans g⟩
  ·obtain⟨o',g⟩:=I.base.there b o e hx
   exact⟨o',(f.2 b (df (cU (cQ e) I.ok.above))).trans g⟩
  ·by_cases C:j=i
   ·subst C
    rw[hi]at g;cases g
    rw[lq K]at B
    cases B
    exact⟨u,r,.inl ⟨hk,by simp⟩⟩
   ·rw[jL (Ne.symm C)]at B
    obtain⟨u',r',q⟩:=hl j y v' g B Y
    refine⟨u',r',?_⟩
    rcases q with⟨k,e⟩|⟨k,c,e,z⟩
    ·refine .inl ⟨k,?_⟩
     have:y≠x:=λe=>C (yO hN g (e▸hi))
     simp[this,e]
    ·exact .inr ⟨k,c,e,z.sameBut f (J y c e)⟩
  ·obtain⟨O,z⟩:=I.cell y c e
   exact⟨O,z.sameBut f (J y c e)⟩
  ·obtain⟨e,n,R,nf,d⟩:=I.pin p hp
   exact⟨(f.2 p.1 R).trans e,n,R,nf,d⟩
 ·have L:X.fn x=true:=by
   rcases hf with z|z
   ·exact z
   ·rw[z]at hk;cases hk
  obtain⟨c,l⟩:=I.ok.has x (.inl hk)
  obtain⟨O,z⟩:=I.cell x c l
  refine wpAny_storeName_cell I.ok.kind hk l z (λG S f=>?_)
  obtain⟨oc,U,aa⟩:=id z
  refine h {s with heap:=G} ⟨I.ok,I.os,I.bare,⟨λb o e n D hx=>?_,λb o e n D hx=>?_,I.base.free,λb o e hx=>?_,I.base.tups,I.base.frzs,I.base.tbls⟩,⟨m,hn.sameBut f (Ne.symm (J x c l)),λj y v' g B Y=>?_⟩,λy P e=>?_,I.free,I.freeC,λp hp=>?_,t ⟨oc,U,I.freeC x c l⟩ f,by simpa using I.len⟩ ⟨c,f,.inr l⟩
  ·exact(f.2 b (df (cU (cQ e) (I.ok.cab x c L l)))).trans (I.base.keep b o e n D hx)
  ·obtain⟨Z,g⟩:=I.base.slot b o e n D hx
   exact⟨Z,(f.2 b (df (cU (cQ e) (I.ok.cab x c L l)))).trans g⟩
  ·obtain⟨o',g⟩:=I.base.there b o e hx
   exact⟨o',(f.2 b (df (cU (cQ e) (I.ok.cab x c L l)))).trans g⟩
  ·by_cases C:j=i
   ·subst C
    rw[hi]at g;cases g
    rw[lq K]at B
    cases B
    exact⟨u,r,.inr ⟨.inl hk,c,l,S⟩⟩
   ·rw[jL (Ne.symm C)]at B
    obtain⟨u',r',q⟩:=hl j y v' g B Y
    refine⟨u',r',?_⟩
    rcases q with q|⟨k,P,e,z'⟩
    ·exact .inl q
    ·refine .inr ⟨k,P,e,z'.sameBut f ?_⟩
     rintro rfl
     exact C (yO hN g (I.ok.inj _ _ _ e l▸hi))
  ·by_cases T:P=c
   ·subst T;exact⟨_,S⟩
   ·obtain⟨w2,z2⟩:=I.cell y P e
    exact⟨w2,z2.sameBut f T⟩
  ·obtain⟨e,n,R,nf,d⟩:=I.pin p hp
   refine⟨(f.2 p.1 ?_).trans e,n,R,nf,d⟩
   intro q
   rw[q,U]at e
   have q':oc=p.2:=Option.some.inj e
   exact d O (by rw[<-q'];exact aa)
theorem yE{M:Model}{A:dw}{E:cA->cD->Prop}{i:Nat}{x:Str}{v:V}{u:cA}{Q:Unit->cD->Prop}(I:Inv X pins σ H s)(hN:X.N.Nodup)(hi:X.N[i]?=some x)(hx:LT X.env.scope x)(r:RelV v u)
  (h:∀s',Inv X pins (σ.set i (some v)) H s'->Q () s')(hf:X.fn x=true\/X.env.scope.names.lookup x=some .local:=by first|exact .inl rfl|exact .inr rfl|assumption):wpAny M A (storeName X.env x u) Q E s:=
 xF I hN hi hx r (λs' a _=>h s' a) hf
theorem Inv.call'{s':cD}{ch:List cG}(I:Inv X pins σ H s)(ho:s'.os=s.os)(u:Un (Fj X.stack) ch H H' s.heap s'.heap)(hok:HOk X.prog X.w H' s'.heap)(hg:AllBare s'.gens)
  (hch:∀b∈ch,(b∈X.ex\/X.s₀.heap.objs.size<=b)/\b≠X.env.locals/\(∀x c,X.env.cells.lookup x=some c->c≠b)/\∀p∈X.pn++pins,p.1≠b):Inv X pins σ H' s':=by
 obtain⟨d,g',d',t',a⟩:=s'
 have e:a=s.os:=ho
 subst e
 exact I.call (g':=g') (t':=t') (d':=d') u hok hg hch
end
abbrev XK:=cA->Option cG->Hp->Prop
abbrev St:=List (Option V)
abbrev VK:=V->Hp->Prop
abbrev TE:=St->Hp->VK->Prop
abbrev TT:=St->Hp->(Bool->Hp->Prop)->Prop
abbrev TA:=St->Hp->(List V->Hp->Prop)->Prop
structure Gp where
 nx:St->Hp->Prop
 rt:VK
 bk:St->Hp->Prop:=λ_ _=>False
 ct:St->Hp->Prop:=λ_ _=>False
abbrev TS:=Gp->St->Hp->Prop
def EP(X:Cx)(pins:List (cG×Obj))(σ:St)(Q:VK)(u:cA)(s':cD):Prop:=∃v H',Inv X pins σ H' s'/\RelV v u/\Q v H'
def TP(X:Cx)(pins:List (cG×Obj))(σ:St)(Q:Bool->Hp->Prop)(b:Bool)(s':cD):Prop:=∃H',Inv X pins σ H' s'/\Q b H'
def AP(X:Cx)(pins:List (cG×Obj))(σ:St)(Q:List V->Hp->Prop)(us:List cA)(s':cD):Prop:=∃vs H',Inv X pins σ H' s'/\Vals vs us/\Q vs H'
def SP(X:Cx)(pins:List (cG×Obj))(D:Gp)(f:Flow)(s':cD):Prop:=
 match f with
 | .next=>∃σ' H',Inv X pins σ' H' s'/\D.nx σ' H'
 | .brk=>∃σ' H',Inv X pins σ' H' s'/\D.bk σ' H'
 | .cont=>∃σ' H',Inv X pins σ' H' s'/\D.ct σ' H'
 | .ret u=>∃v σ' H',Inv X pins σ' H' s'/\RelV v u/\D.rt v H'
def PE(X:Cx)(e:Expr)(t:TE):Prop:=
 ∀(pins:List (cG×Obj)) (s:cD) (σ:St) (H:Hp) (Q:VK),Inv X pins σ H s->t σ H Q->wpAny (model X.prog X.w) X.A (eval e X.env) (EP X pins σ Q) X.xe s
def PT(X:Cx)(e:Expr)(t:TT):Prop:=
 ∀(pins:List (cG×Obj)) (s:cD) (σ:St) (H:Hp) (Q:Bool->Hp->Prop),Inv X pins σ H s->t σ H Q->wpAny (model X.prog X.w) X.A (isTrue e X.env (eval e X.env)) (TP X pins σ Q) X.xe s
def PW(X:Cx)(e:Expr)(t:TT):Prop:=
 ∀(whole:Sem cA) (pins:List (cG×Obj)) (s:cD) (σ:St) (H:Hp) (Q:Bool->Hp->Prop),Inv X pins σ H s->t σ H Q->wpAny (model X.prog X.w) X.A (isTrue e X.env whole) (TP X pins σ Q) X.xe s
theorem PW.pt{X:Cx}{e:Expr}{t:TT}(h:PW X e t):PT X e t:=h _
def PA(X:Cx)(es:List Expr)(t:TA):Prop:=
 ∀(pos:Pos) (pins:List (cG×Obj)) (s:cD) (σ:St) (H:Hp) (Q:List V->Hp->Prop),Inv X pins σ H s->t σ H Q->wpAny (model X.prog X.w) X.A (spliced (backTo pos (dh es X.env))) (AP X pins σ Q) X.xe s
def PS(X:Cx)(st:Stmt)(t:TS):Prop:=
 ∀(pins:List (cG×Obj)) (s:cD) (σ:St) (H:Hp) (D:Gp),Inv X pins σ H s->t D σ H->wpAny (model X.prog X.w) X.A (exec st X.env) (SP X pins D) X.xe s
def PSs(X:Cx)(st:List Stmt)(t:TS):Prop:=
 ∀(pins:List (cG×Obj)) (s:cD) (σ:St) (H:Hp) (D:Gp),Inv X pins σ H s->t D σ H->wpAny (model X.prog X.w) X.A (execs st X.env) (SP X pins D) X.xe s
theorem Ei{α:Type}{t:Sem α}{Q Q':α->cD->Prop}{M:Model}{A:dw}{E:cA->cD->Prop}{s:cD}(h:wpAny M A t Q E s)(hQ:∀a s,Q a s->Q' a s):wpAny M A t Q' E s:=gh h hQ λ_ _ x=>x
section
variable{X:Cx}
theorem bin{a b:Expr}{ta tb:TE}(ha:PE X a ta)(hb:PE X b tb){pins:List (cG×Obj)}{s:cD}{σ:St}{H:Hp}{R:V->V->Hp->Prop}(I:Inv X pins σ H s)(h:ta σ H λx H1=>tb σ H1 λy H2=>R x y H2)
  {α:Type}{Q:α->cD->Prop}{f:cA->cA->Sem α}
  (hf:∀v u s2 x y H2,Inv X pins σ H2 s2->RelV x v->RelV y u->R x y H2->wpAny (model X.prog X.w) X.A (f v u) Q X.xe s2):
  wpAny (model X.prog X.w) X.A (eval a X.env) (λv s₁=>wpAny (model X.prog X.w) X.A (eval b X.env) (λu s₂=>wpAny (model X.prog X.w) X.A (f v u) Q X.xe s₂) X.xe s₁) X.xe s:=by
 refine Ei (ha pins s σ H _ I h) λv c ⟨x,H1,k,d,l⟩=>?_
 refine Ei (hb pins c σ H1 _ k l) λu s2 ⟨y,H2,e,g,j⟩=>?_
 exact hf v u s2 x y H2 e d g j
def Lm(i:Nat):TE:=λσ H Q=>∃v,σ[i]?=some (some v)/\Q v H
def tC(v:V):TE:=λ_ H Q=>Q v H
theorem DE{i:Nat}{x:Str}{pos:Pos}(hN:X.N[i]?=some x)(hv:LW X.env.scope x)(hd:(x==("__debug__":Str))=false:=by decide)(hcd:(x==("__classdict__":Str))=false:=by decide):PE X (.Name x pos) (Lm i):=by
 intro b s f H Q I h;obtain⟨v,e,h⟩:=h;obtain⟨m,j,k⟩:=I.loc;obtain⟨u,r,l⟩:=k i x v hN e hv;have fin:EP X b f Q u s:=⟨v,H,I,r,h⟩;rcases l with⟨hk,g⟩|⟨hk,c,d,a⟩
 ·exact oJ (wpAny_loadName_local I.ok.kind hk j g fin) hd
 ·rcases hk with hk|hk
  ·exact oJ (wpAny_loadName_cell I.ok.kind hk d a fin) hd
  ·exact oJ (wpAny_loadName_free I.ok.kind hk d a fin hcd) hd
theorem rD{i j pos}:PE X (.Constant (.int i) j pos) (tC (.int i)):=λ_ _ _ H _ I h=>wpAny_Constant_int ⟨.int i,H,I.tok _,⟨_,rfl⟩,h⟩
theorem uf{b j pos}:PE X (.Constant (.bool b) j pos) (tC (.bl b)):=λ_ _ _ H _ I h=>Constant_bool ⟨.bl b,H,I,rfl,h⟩
theorem vZ{j pos}:PE X (.Constant .none j pos) (tC .non):=λ_ _ _ H _ I h=>Constant_none ⟨.non,H,I,rfl,h⟩
theorem sB{x j pos}:PE X (.Constant (.str x) j pos) (tC (.str x)):=λ_ _ _ H _ I h=>Calls.Constant_str ⟨.str x,H,I.tok _,⟨_,rfl⟩,h⟩
def Gl(X:Cx)(x:Str):Prop:=X.env.kindOf x=some .globalImplicit
theorem vh{E:cA->cD->Prop}{pins:List (cG×Obj)}{s:cD}{σ:St}{H:Hp}{x:Str}{u:cA}{pos:Pos}{Q:cA->cD->Prop}(I:Inv X pins σ H s)(hg:Gl X x)(hm:X.mg x=some u)(h:Q u s)
  (hd:(x==("__debug__":Str))=false:=by decide):wpAny (model X.prog X.w) X.A (eval (.Name x pos) X.env) Q E s:=
 iG I.ok.kind hg (kT (by rw[I.ok.glob];exact I.mod.glob.keeps I.bk) hm h) hd
theorem tI{E:cA->cD->Prop}{pins:List (cG×Obj)}{s:cD}{σ:St}{H:Hp}{x:Str}{u:cA}{pos:Pos}{Q:cA->cD->Prop}(I:Inv X pins σ H s)(hg:Gl X x)(hm:X.mg x=none)(hv:bootBuiltins x=some u)(h:Q u s)
  (hn:x≠"__name__":=by decide)(hd:(x==("__debug__":Str))=false:=by decide):wpAny (model X.prog X.w) X.A (eval (.Name x pos) X.env) Q E s:=by
 obtain⟨a,h1,h2⟩:=I.mod.blt
 exact iG I.ok.kind hg (Calls.loadGlobal_builtin (by rw[I.ok.glob];exact I.mod.glob.keeps I.bk) hm (by rw[I.ok.blt];exact h1.keeps I.bk) ((h2 x hn).trans hv) h) hd
theorem CY{x:Str}{v:V}{u:cA}{pos:Pos}(hg:Gl X x)(hm:X.mg x=none)(hv:bootBuiltins x=some u)(r:RelV v u)(hn:x≠"__name__":=by decide)(hd:(x==("__debug__":Str))=false:=by decide):PE X (.Name x pos) (tC v):=
 λ_ _ _ H _ I h=>tI I hg hm hv ⟨v,H,I,r,h⟩ hn hd
variable{a b:Expr}{ta tb:TE}{pos:Pos}
def PC(X:Cx)(op:CmpOp)(a b:Expr)(t:TE):Prop:=
 ∀(pins:List (cG×Obj)) (s:cD) (σ:St) (H:Hp) (Q:VK),Inv X pins σ H s->t σ H Q->
  wpAny (model X.prog X.w) X.A (eval a X.env) (λv s₁=>wpAny (model X.prog X.w) X.A (eval b X.env) (λu s₂=>wpAny (model X.prog X.w) X.A (compareOp op v u) (EP X pins σ Q) X.xe s₂) X.xe s₁) X.xe s
def tB(t:TE):TT:=λσ H Q=>t σ H λx H1=>∃c,x = .bl c/\Q c H1
theorem pt_cmp{op:CmpOp}{t:TE}(h:PC X op a b t)(h1:behindInMarks op b=false:=by first|exact nobehind _ (by decide) (by decide)|rfl):PT X (.Compare a [op] [b] pos) (tB t):=by
 intro e s k H Q I j;refine lM (Ei (h e s k H _ I j) λv o h1=>Ei h1 λu n h2=>Ei h2 λc p ⟨x,f,m,l,g⟩=>?_) h1;obtain⟨d,rfl,q⟩:=g
 cases l;exact eI ⟨f,m,q⟩
theorem sM{e:Expr}{t:TE}(h:PE X e t)(he:∀whole,isTrue e X.env whole=(do let v<-whole;standAt e.pos;holding [v] (truthy v)):=by intro _;rfl):PT X e (tB t):=by
 intro a s f H Q I j;refine qa (Ei (h a s f H _ I j) λv l ⟨x,c,g,b,k⟩=>?_) (he _);obtain⟨d,rfl,q⟩:=k
 cases b;exact eI ⟨c,g,q⟩
variable{tA tB':TT}{rest:List Expr}
def Mh(t u:TT):TT:=λσ H Q=>t σ H λc H1=>if c=true then u σ H1 Q else Q false H1
def MJ(t u:TT):TT:=λσ H Q=>t σ H λc H1=>if c=true then Q true H1 else u σ H1 Q
def L4(t:TT):TT:=λσ H Q=>t σ H λc H1=>Q (!c) H1
theorem Ai(ha:PT X a tA):PW X (.BoolOp .And [a] pos) tA:=by
 intro g b s d H Q I h;refine isTrue_and (Ei (ha b s d H Q I h) λc f e=>?_)
 cases c with
 | true=>exact isTrue_and_nil e
 | false=>exact e
theorem wh(ha:PT X a tA):PW X (.BoolOp .Or [a] pos) tA:=by
 intro g b s d H Q I h;refine isTrue_or (Ei (ha b s d H Q I h) λc f e=>?_)
 cases c with
 | false=>exact isTrue_or_nil e
 | true=>exact e
theorem CB(ha:PT X a tA)(hb:PW X (.BoolOp .And (b::rest) pos) tB'):PW X (.BoolOp .And (a::b::rest) pos) (Mh tA tB'):=by
 intro l d s f H Q I h;refine isTrue_and (Ei (ha d s f H _ I h) λc k ⟨e,g,j⟩=>?_)
 cases c with
 | true=>exact hb l d k f e Q g j
 | false=>exact⟨e,g,j⟩
theorem xI(ha:PT X a tA)(hb:PW X (.BoolOp .Or (b::rest) pos) tB'):PW X (.BoolOp .Or (a::b::rest) pos) (MJ tA tB'):=by
 intro l d s f H Q I h;refine isTrue_or (Ei (ha d s f H _ I h) λc k ⟨e,g,j⟩=>?_)
 cases c with
 | true=>exact⟨e,g,j⟩
 | false=>exact hb l d k f e Q g j
theorem tD(ha:PT X a tA):PT X (.UnaryOp .Not a pos) (L4 tA):=by
 intro b s e H Q I h;exact isTrue_not (ha b s e H (λc d=>Q (!c) d) I h)
def LO(ta tb:TE):TE:=λσ H Q=>ta σ H λx H1=>∃c,x = .bl c/\if c=true then tb σ H1 Q else Q (.bl false) H1
def Ld(ta:TE):TE:=λσ H Q=>ta σ H λx H1=>∃c,x = .bl c/\Q (.bl (!c)) H1
theorem vJ{op}{t:TE}(h:PE X a t):PE X (.BoolOp op [a] pos) t:=λb s c H Q I d=>BoolOp_one (h b s c H Q I d)
theorem uF(ha:PE X a ta)(hb:PE X (.BoolOp .And (b::rest) pos) tb):PE X (.BoolOp .And (a::b::rest) pos) (LO ta tb):=by
 intro d s g H Q I h;refine BoolOp_and (Ei (ha d s g H _ I h) λv k ⟨x,f,j,l,e⟩=>?_);obtain⟨c,rfl,e⟩:=e
 cases l;refine eI ?_
 cases c with
 | true=>exact hb d k g f Q j e
 | false=>exact⟨.bl false,f,j,rfl,e⟩
theorem Cr(ha:PE X a ta):PE X (.UnaryOp .Not a pos) (Ld ta):=by
 intro d s g H Q I h;refine UnaryOp_ (Ei (ha d s g H _ I h) λv k ⟨x,f,j,e,b⟩=>?_);obtain⟨c,rfl,b⟩:=b
 cases e;exact not_of (eI ⟨.bl (!c),f,j,rfl,b⟩)
end
def SqL(K:cu)(H:Hp)(a:cG)(xs:List V):Prop:=
 Rd H a (.lst xs)\/
  ∃(o:Obj) (its:Array cA) (n:Nat),K.lookup a=some o/\o.cls = .type "list"/\o.dict=none/\o.data = .seq its n/\its.size<=sizeLine/\Vals xs its.toList
def SqT(K:cu)(H:Hp)(a:cG)(xs:List V):Prop:=
 Rd H a (.tup xs)\/
  ∃(o:Obj) (its:Array cA) (n:Nat),K.lookup a=some o/\o.cls = .type "tuple"/\o.data = .seq its n/\its.size<=sizeLine/\Vals xs its.toList
def LY:cA->Option V
 | .none=>some .non
 | .bool b=>some (.bl b)
 | .int i _=>some (.int i)
 | .str x _=>some (.str x)
 | .bytes b _=>some (.byt b)
 | .float b _=>some (.flt b)
 | .ref a=>some (.ref a)
 | .type n=>some (.ty n)
 | _=>none
theorem RelV.abs{x:V}{u:cA}(r:RelV x u):LY u=some x:=by
 cases x with
 | non=>cases r;rfl
 | bl _=>cases r;rfl
 | int _=>obtain⟨t,rfl⟩:=r;rfl
 | str _=>obtain⟨t,rfl⟩:=r;rfl
 | byt _=>obtain⟨t,rfl⟩:=r;rfl
 | flt _=>obtain⟨t,rfl⟩:=r;rfl
 | ref _=>cases r;rfl
 | ty _=>cases r;rfl
theorem RelV.inj{x y:V}{u:cA}(r:RelV x u)(q:RelV y u):x=y:=Option.some.inj (r.abs.symm.trans q.abs)
theorem Vals.inj:∀{xs ys:List V} {us:List cA},Vals xs us->Vals ys us->xs=ys
 | _,_,_,.nil,.nil=>rfl
 | _,_,_,.cons r t,.cons r' t'=>by rw[r.inj r',Vals.inj t t']
section
variable{X:Cx}{pins:List (cG×Obj)}{σ:St}{H:Hp}{s:cD}{a:cG}{xs ys:List V}
theorem SqL.of{K:cu}(h:H a=some (.lst xs)):SqL K H a xs:= .inl (.inl h)
theorem SqT.of{K:cu}(h:H a=some (.tup xs)):SqT K H a xs:= .inl (.inl h)
theorem Inv.list(I:Inv X pins σ H s)(h:SqL X.K H a xs):∃its:List cA,Vals xs its/\PlainL s.heap a its.toArray/\xs.length<=sizeLine:=by
 rcases h with h|⟨o,its,n,hk,b,d,c,f,r⟩
 ·obtain⟨z,its,n,r,e⟩:=h.ok I.hok;exact⟨its,r,⟨_,n,e,rfl,rfl,rfl⟩,z⟩
 ·refine⟨its.toList,r,⟨o,n,I.kIn a o hk,b,d,by simpa using c⟩,?_⟩;have e:=r.length;simp only[el]at e;omega
theorem Inv.tuple(I:Inv X pins σ H s)(h:SqT X.K H a xs):∃its:List cA,Vals xs its/\IsTup s.heap a its.toArray/\xs.length<=sizeLine:=by
 rcases h with h|⟨o,its,n,hk,b,c,d,r⟩
 ·obtain⟨z,its,r,p⟩:=h.ok I.hok;exact⟨its,r,p,z⟩
 ·refine⟨its.toList,r,⟨o,I.kIn a o hk,b,n,by simpa using c⟩,?_⟩;have e:=r.length;simp only[el]at e;omega
theorem Inv.list_inj(I:Inv X pins σ H s)(h:SqL X.K H a xs)(h':SqL X.K H a ys):xs=ys:=by
 obtain⟨c,r,⟨o,n,e,_,_,d⟩,_⟩:=I.list h;obtain⟨b,j,⟨k,l,f,_,_,g⟩,_⟩:=I.list h';rw[e]at f;cases f;rw[d]at g;injection g with d1 _
 have:c=b:=by simpa using congrArg m5 d1
 subst this;exact r.inj j
theorem Inv.tuple_inj(I:Inv X pins σ H s)(h:SqT X.K H a xs)(h':SqT X.K H a ys):xs=ys:=by
 obtain⟨c,r,⟨o,e,_,n,d⟩,_⟩:=I.tuple h;obtain⟨b,j,⟨k,f,_,l,g⟩,_⟩:=I.tuple h';rw[e]at f;cases f;rw[d]at g;injection g with d1 _
 have:c=b:=by simpa using congrArg m5 d1
 subst this;exact r.inj j
end
abbrev Cx.wish(X:Cx)(E:cA->cD->Prop):Cx:={X with xe:=E}
abbrev Cx.nox(X:Cx):Cx:=X.wish λ_ _=>False
theorem Cx.Ok.wish{X:Cx}(ok:X.Ok)(E:cA->cD->Prop):(X.wish E).Ok:=
 ⟨ok.mod,ok.kind,ok.glob,ok.blt,ok.above,ok.inj,ok.has,ok.cab,ok.hd,ok.frames,ok.stk,ok.exf,ok.bs,ok.bsz,ok.noex,ok.exfs,ok.funs,ok.frf⟩
theorem Cx.Ok.unwish{X:Cx}{E:cA->cD->Prop}(ok:(X.wish E).Ok):X.Ok:=
 ⟨ok.mod,ok.kind,ok.glob,ok.blt,ok.above,ok.inj,ok.has,ok.cab,ok.hd,ok.frames,ok.stk,ok.exf,ok.bs,ok.bsz,ok.noex,ok.exfs,ok.funs,ok.frf⟩
section
variable{X:Cx}{pins:List (cG×Obj)}{σ:St}{H:Hp}{s:cD}{E:cA->cD->Prop}
theorem Inv.wish(I:Inv X pins σ H s)(E:cA->cD->Prop):Inv (X.wish E) pins σ H s:=⟨I.ok.wish E,I.os,I.bare,I.base,I.loc,I.cell,I.free,I.freeC,I.pin,I.hok,I.len⟩
theorem Inv.unwish(I:Inv (X.wish E) pins σ H s):Inv X pins σ H s:=⟨I.ok.unwish,I.os,I.bare,I.base,I.loc,I.cell,I.free,I.freeC,I.pin,I.hok,I.len⟩
theorem SP.unwish{D:Gp}{f:Flow}{s':cD}(h:SP (X.wish E) pins D f s'):SP X pins D f s':=by
 cases f with
 | next=>obtain⟨a,b,I,q⟩:=h;exact⟨a,b,I.unwish,q⟩
 | brk=>obtain⟨a,b,I,q⟩:=h;exact⟨a,b,I.unwish,q⟩
 | cont=>obtain⟨a,b,I,q⟩:=h;exact⟨a,b,I.unwish,q⟩
 | ret u=>obtain⟨v,a,b,I,r,q⟩:=h;exact⟨v,a,b,I.unwish,r,q⟩
theorem PSs.nox{st:List Stmt}{t:TS}(h:PSs X.nox st t):PSs X st t:=λa s b H D I c=>
 gh (h a s b H D (I.wish _) c) (λ_ _ q=>q.unwish) λ_ _ z=>fh z
end
section
variable{X:Cx}{st:Stmt}{rest:List Stmt}{t u:TS}{e:Expr}{te:TE}{pos:Pos}
def KU:TS:=λD σ H=>D.nx σ H
def LC(t u:TS):TS:=λD σ H=>t {D with nx:=u D} σ H
theorem rS:PSs X [] KU:=λ_ _ a H _ I h=>im ⟨a,H,I,h⟩
theorem rn(h1:PS X st t)(h2:PSs X rest u):PSs X (st::rest) (LC t u):=by
 intro a s e H D I h;refine kU (Ei (h1 a s e H {D with nx:=u D} I h) λf c q=>?_)
 cases f with
 | next=>
  obtain⟨b,g,d,q⟩:=q;exact h2 a c b g D d q
 | ret v=>exact q
 | brk=>exact q
 | cont=>exact q
theorem rC(h1:PS X st t):PSs X [st] t:=by
 intro a s b H D I h;refine kU (Ei (h1 a s b H D I h) λf c q=>?_)
 cases f with
 | next=>exact im q
 | ret v=>exact q
 | brk=>exact q
 | cont=>exact q
theorem Inv.quiet{pins:List (cG×Obj)}{σ:St}{H:Hp}{s:cD}(I:Inv X pins σ H s):interactive X.env=false:=by simp[interactive,I.ok.kind]
def Ka(te:TE):TS:=λD σ H=>te σ H λ_ H1=>D.nx σ H1
theorem sR(he:PE X e te)(hs:swapsWith e none pos.line X.env=pure false:=by rfl):PS X (.Expr e pos) (Ka te):=by
 intro a s b H D I h;exact oK (Ei (he a s b H _ I h) λv g ⟨x,c,d,j,f⟩=>⟨b,c,d,f⟩) I.quiet hs
def Me(te:TE):TS:=λD σ H=>te σ H D.rt
theorem rL(he:PE X e te):PS X (.Return (some e) pos) (Me te):=by
 intro a s b H D I h;exact wpAny_Return_some (Ei (he a s b H _ I h) λv j ⟨x,d,f,c,g⟩=>⟨x,b,d,f,c,g⟩)
def Mb(c:TT)(t u:TS):TS:=λD σ H=>c σ H λb H1=>if b=true then t D σ H1 else u D σ H1
theorem su{c:Expr}{a b:List Stmt}{tc:TT}(hc:PT X c tc)(ha:PSs X a t)(hb:PSs X b u):PS X (.If c a b pos) (Mb tc t u):=by
 intro e s f H D I h;refine wpAny_If (Ei (hc e s f H _ I h) λd g ⟨j,k,l⟩=>?_)
 cases d with
 | true=>exact ha e g f j D k l
 | false=>exact hb e g f j D k l
def Ky:TS:=λ_ _ _=>False
theorem AK{sts:List Stmt}:PSs X sts Ky:=λ_ _ _ _ _ _ h=>h.elim
end
abbrev TG:=V->St->Hp->(St->Hp->Prop)->Prop
abbrev JK:=List V->St->Hp->(St->Hp->Prop)->Prop
def PG(X:Cx)(target:Expr)(t:TG):Prop:=
 ∀(pins:List (cG×Obj)) (s:cD) (σ:St) (H:Hp) (v:V) (u:cA) (Q:St->Hp->Prop),Inv X pins σ H s->RelV v u->t v σ H Q->
  wpAny (model X.prog X.w) X.A (assign target X.env u) (λ_ s'=>∃σ' H',Inv X pins σ' H' s'/\Q σ' H') X.xe s
def Ly(X:Cx)(ts:List Expr)(t:JK):Prop:=
 ∀(pins:List (cG×Obj)) (s:cD) (σ:St) (H:Hp) (vs:List V) (us:List cA) (Q:St->Hp->Prop),Inv X pins σ H s->Vals vs us->t vs σ H Q->
  wpAny (model X.prog X.w) X.A (assignInOrder ((assignEach ts X.env).map (·.2)) us) (λ_ s'=>∃σ' H',Inv X pins σ' H' s'/\Q σ' H') X.xe s
abbrev Kq:=V->V->V->Hp->(Hp->Prop)->Prop
def JT(X:Cx)(t:Kq):Prop:=
 ∀(pins:List (cG×Obj)) (s:cD) (σ:St) (H:Hp) (o i v:V) (ov iv u:cA) (Q:Hp->Prop),Inv X pins σ H s->RelV o ov->RelV i iv->RelV v u->t o i v H Q->
  wpAny (model X.prog X.w) X.A (setItem ov iv u) (λ_ s'=>∃H',Inv X pins σ H' s'/\Q H') X.xe s
section
variable{X:Cx}{pos:Pos}
def Io(i:Nat):TG:=λv σ H Q=>Q (σ.set i (some v)) H
theorem rJ{i:Nat}{x:Str}(hN:X.N.Nodup)(hi:X.N[i]?=some x)(hx:LT X.env.scope x)(hf:X.fn x=true\/X.env.scope.names.lookup x=some .local:=by first|exact .inl rfl|exact .inr rfl|assumption):PG X (.Name x pos) (Io i):=by
 intro b s c H v u Q I r h;exact m6 (yE I hN hi hx r (λd a=>⟨_,H,a,h⟩) hf)
def LA:JK:=λvs σ H Q=>vs=[]/\Q σ H
def Kh(t:TG)(u:JK):JK:=λvs σ H Q=>∃v r,vs=v::r/\t v σ H λσ' H'=>u r σ' H' Q
theorem ul:Ly X [] LA:=by
 intro b s a H vs c Q I r h;obtain⟨e,h⟩:=h;subst e
 cases r;exact assignInOrder_nil ⟨a,H,I,h⟩
theorem sw{e:Expr}{es:List Expr}{t:TG}{u:JK}(h1:PG X e t)(h2:Ly X es u)
  (hs:(assignEach (e::es) X.env).map (·.2)=assign e X.env::(assignEach es X.env).map (·.2):=by rfl):Ly X (e::es) (Kh t u):=by
 intro a s j H vs n Q I r h
 obtain⟨v,m,k,h⟩:=h
 subst k
 cases r with
 | cons r f=>
  rw[hs]
  refine assignInOrder_cons (Ei (h1 a s j H _ _ _ I r h) λ_ g ⟨b,c,l,d⟩=>?_)
  exact h2 a g b c _ _ Q l f d
def Kt(K:cu)(n:Nat)(t:JK):TG:=λv σ H Q=>∃a xs,v = .ref a/\SqT K H a xs/\xs.length=n/\t xs σ H Q
theorem yW{es:List Expr}{k:Nat}{t:JK}{n:Nat}(hc:X.calm=true)(h:Ly X es t)
  (hn:(assignEach es X.env).length=n:=by rfl)(hst:(assignEach es X.env).findIdx? (·.1)=none:=by rfl):PG X (.Tuple es k pos) (Kt X.K n t):=by
 intro c s g H v u Q I r d
 obtain⟨a,l,x,m,j,d⟩:=d
 subst x
 cases r
 obtain⟨z,f,q,A⟩:=I.tuple m
 refine assign_Tuple_tuple (I.ok.hd hc) q (by simp[hn,<-j,f.length]) hst λp w=>?_
 have y:Inv X c g H {s with heap:=p}:=I.kept (t':=s.toks) λb o e=>w b o (df (cQ e)) e
 exact h c _ g H l _ Q y (by simpa using f) d
def L6(to ti:TE)(t:Kq):TG:=λv σ H Q=>to σ H λo H1=>ti σ H1 λi H2=>t o i v H2 λH3=>Q σ H3
theorem wk{o i:Expr}{to ti:TE}{t:Kq}(ho:PE X o to)(hi:PE X i ti)(hs:JT X t)
  (ha:∀v,assign (.Subscript o i pos) X.env v=(do
   let ov<-holding [v] (eval o X.env)
   let iv<-holding [v,ov] (eval i X.env)
   standAt pos
   holding [v,ov,iv] (setItem ov iv v)
   release [v,ov,iv] []):=by intro _;rfl):PG X (.Subscript o i pos) (L6 to ti t):=by
 intro a s b H v u Q I r h
 rw[ha]
 refine cr (dG (Ei (ho a s b H _ I h) λov g ⟨x,d,q,p,f⟩=>?_))
 refine cr (dG (Ei (hi a g b d _ q f) λiv c ⟨y,w,m,l,j⟩=>?_))
 refine cr (mv (cr (dG (Ei (hs a c b w x y v ov iv u _ m p l r j) λ_ z ⟨n,k,e⟩=>?_))))
 exact wpAny_release ⟨b,n,k,e⟩
def LQ(te:TE)(g:TG):TS:=λD σ H=>te σ H λx H1=>g x σ H1 D.nx
theorem wc{tg e:Expr}{te:TE}{g:TG}(he:PE X e te)(hg:PG X tg g)(hs:swapsWithSole [tg] e pos.line X.env=pure false:=by rfl)(hw:swappedStores [tg] e X.env=pure none:=by rfl)
  (h1:(assignEach [tg] X.env).map (·.2)=[assign tg X.env]:=by rfl):PS X (.Assign [tg] e pos) (LQ te g):=by
 intro a s b H D I h
 refine wpAny_Assign_stores (Ei (he a s b H _ I h) λv c ⟨x,f,j,d,k⟩=>?_) hs hw
 rw[h1]
 exact Ei (hg a c b f x v _ j d k) λ_ l q=>q
theorem rF{i:Nat}{x:Str}{e:Expr}{te:TE}{pos':Pos}(hN:X.N.Nodup)(hi:X.N[i]?=some x)(hx:LT X.env.scope x)(he:PE X e te)(hs:swapsWith e (some (.Name x pos')) pos.line X.env=pure false:=by rfl)(hf:X.fn x=true\/X.env.scope.names.lookup x=some .local:=by first|exact .inl rfl|exact .inr rfl|assumption):
  PS X (.Assign [.Name x pos'] e pos) (LQ te (Io i)):=by
 intro a s f H D I h
 refine wpAny_Assign_Name (Ei (he a s f H _ I h) λv k ⟨y,c,g,b,j⟩=>?_) hs
 exact yE g hN hi hx b (λl d=>⟨_,c,d,j⟩) hf
end
section
variable{X:Cx}{pos:Pos}
def JN(c:TT)(tb:TS):TS:=λD σ H=>∃W:Nat->St->Hp->Prop,(∃m,W m σ H)/\∀m σ H,W m σ H->
 c σ H λb H1=>if b=true then ∃N:St->Hp->Prop,(∀σ' H',N σ' H'->∃m',m'<m/\W m' σ' H')/\tb {D with nx:=N,ct:=N,bk:=D.nx} σ H1 else D.nx σ H1
theorem uD{c:Expr}{body:List Stmt}{tc:TT}{tb:TS}(hp:PassesOwn (model X.prog X.w) X.A X.env X.xe)(hc:PT X c tc)(hb:PSs X body tb):PS X (.While c body [] pos) (JN tc tb):=by
 intro d s F H D I h;obtain⟨W,⟨G,J⟩,l⟩:=h;refine wpAny_While (codeAny_whileLoop (λn E=>∃σ' H',Inv X d σ' H' E/\W n σ' H') ?_ G ⟨F,H,I,J⟩);rintro n B ⟨e,t,K,C⟩;refine gO hp (Ei (hc d B e t _ K (l n e t C)) λb z ⟨y,x,k⟩=>?_)
 cases b with
 | true=>
  obtain⟨N,u,k⟩:=k;rw[if_pos rfl];refine gO hp (Ei (hb d z e y _ x k) λf L j=>?_)
  cases f with
  | next=>
   obtain⟨a,g,m,q⟩:=j;obtain⟨r,o,p⟩:=u a g q;exact⟨r,o,a,g,m,p⟩
  | cont=>
   obtain⟨a,g,m,q⟩:=j;obtain⟨r,o,p⟩:=u a g q;exact⟨r,o,a,g,m,p⟩
  | brk=>exact j
  | ret v=>exact j
 | false=>
  rw[if_neg de];exact im ⟨e,y,x,k⟩
end
structure It where
 go:Nat->Hp->Prop
 yld:Nat->Hp->V->Hp->Prop
 stop:Nat->Hp->Prop
def F9(X:Cx)(pins:List (cG×Obj))(H:Hp)(b:cG):Prop:=
 H b=none/\b≠X.env.locals/\b∉X.fs/\(b∈X.ex\/X.s₀.heap.objs.size<=b)/\(∀x c,X.env.cells.lookup x=some c->c≠b)/\∀p∈X.pn++pins,p.1≠b
theorem Inv.fpOk{X:Cx}{pins:List (cG×Obj)}{σ:St}{H H':Hp}{s:cD}{b:cG}(I:Inv X pins σ H s)(hb:s.heap.objs.size<=b)(hn:H' b=none):F9 X pins H' b:=by
 refine⟨hn,ic (cU I.lt hb),I.nofs hb,.inr (dg I.sz hb),λx c e z=>?_,λp hp z=>?_⟩
 ·obtain⟨v,q⟩:=I.cell x c e;exact absurd (cU q.lt (by rw[z];exact hb)) (dt _)
 ·exact absurd (cU (cQ (I.pin p hp).1) (by rw[z];exact hb)) (dt _)
structure Iz(P:cT)(w:dc)(K:cu)(tg:Expr)(J:It)(fp:List cG)(it:cG)(tn:Nat->Heap->Prop):Prop where
 mem:it∈fp
 obj:∀i h,tn i h->∀b∈fp,∃o,h.get? b=some o/\∀v,o.data≠ .cell v
 keep:∀i h h',tn i h->(∀b∈fp,∀o,h.get? b=some o->h'.get? b=some o)->tn i h'
 item:∀(X:Cx),X.prog=P->X.w=w->X.K=K->X.calm=true->∀(i:Nat) (pins:List (cG×Obj)) (s:cD) (σ:St) (H:Hp) (E:cA->cD->Prop),Inv X pins σ H s->(∀b∈fp,F9 X pins H b)->tn i s.heap->J.go i H->
  wpAny (model P w) X.A (pyNext (.ref it)) (λr s1=>∃u,r=some u/\
   wpAny (model P w) X.A (letOwnedTupleGo tg (.ref it) u) (λ_ s2=>∃x H',Inv X pins σ H' s2/\RelV x u/\J.yld i H x H'/\tn (i+1) s2.heap/\∀b∈fp,H' b=none) E s1) E s
 done:∀(X:Cx),X.prog=P->X.w=w->X.K=K->X.calm=true->∀(i:Nat) (pins:List (cG×Obj)) (s:cD) (σ:St) (H:Hp) (E:cA->cD->Prop),Inv X pins σ H s->(∀b∈fp,F9 X pins H b)->tn i s.heap->J.stop i H->
  wpAny (model P w) X.A (pyNext (.ref it)) (λr s1=>r=none/\Inv X pins σ H s1) E s
 self:∀(A:dw) (i:Nat) (s:cD) (Q:cA->cD->Prop) (E:cA->cD->Prop),tn i s.heap->Q (.ref it) s->wpAny (model P w) A (pyIter (.ref it)) Q E s
abbrev TI:=St->Hp->(It->Hp->Prop)->Prop
def L1(X:Cx)(pins:List (cG×Obj))(σ:St)(tg:Expr)(R:It->Hp->Prop)(itv:cA)(s2:cD):Prop:=
 ∃(it:cG) (fp:List cG) (tn:Nat->Heap->Prop) (J:It) (H':Hp),itv = .ref it/\Inv X pins σ H' s2/\Iz X.prog X.w X.K tg J fp it tn/\tn 0 s2.heap/\(∀b∈fp,F9 X pins H' b)/\R J H'
def PI(X:Cx)(tg iter:Expr)(wi:TI):Prop:=
 ∀(pins:List (cG×Obj)) (s:cD) (σ:St) (H:Hp) (R:It->Hp->Prop),Inv X pins σ H s->wi σ H R->
  wpAny (model X.prog X.w) X.A (eval iter X.env) (λv s1=>wpAny (model X.prog X.w) X.A (pyIter v) (L1 X pins σ tg R) X.xe s1) X.xe s
theorem BT{M:Model}{A:dw}{E:cA->cD->Prop}{s:cD}{tg:Expr}{it:cG}{u:cA}{o:Obj}{n:String}{vs:Array cA}{Q:Unit->cD->Prop}(ho:s.heap.get? it=some o)(hc:o.cls = .type n)(hd:o.data = .fields vs)
  (hn:["enumerate","zip","dict_itemiterator","dict_reverseitemiterator","odict_iterator","itertools.zip_longest","itertools.pairwise"].contains n=false)(hQ:Q () s):wpAny M A (letOwnedTupleGo tg (.ref it) u) Q E s:=by
 unfold letOwnedTupleGo
 cases tg <;> first
  | exact cv hQ
  | (cases u <;> first
    | exact cv hQ
    | (refine cr (wpAny_load ho ?_);rw[hc,hd];show wpAny M A (if(["enumerate","zip","dict_itemiterator","dict_reverseitemiterator","odict_iterator","itertools.zip_longest","itertools.pairwise"].contains n&&vs[0]?==some (rawInt _))=true then _ else _) Q E s;rw[if_neg (by intro h;rw[hn,jp]at h;cases h)];exact cv hQ))
def KA(K:cu)(a:cG):It:=
 ⟨λi H=>∃xs x,SqL K H a xs/\xs[i]?=some x,λi H x H'=>H'=H/\∀xs,SqL K H a xs->xs[i]?=some x,λi H=>∃xs,SqL K H a xs/\xs.length<=i⟩
def KL(K:cu)(a:cG):It:=
 ⟨λi H=>∃xs x,SqT K H a xs/\xs[i]?=some x,λi H x H'=>H'=H/\∀xs,SqT K H a xs->xs[i]?=some x,λi H=>∃xs,SqT K H a xs/\xs.length<=i⟩
def JX(lo:Int)(n:Nat):It:=⟨λi _=>i<n,λi H x H'=>H'=H/\x = .int (lo+i),λi _=>n<=i⟩
theorem AD{P:cT}{w:dc}{K:cu}{tg:Expr}(a it:cG):Iz P w K tg (KA K a) [it] it (λi h=>h.IsListIter it a i) where
 mem:=by simp
 obj:=λi h st b f=>by
  have e:b=it:=by simpa using f
  subst e
  obtain⟨o,e,c,d⟩:=st
  exact⟨o,e,λv z=>by rw[d]at z;cases z⟩
 keep:=λi h l st k=>st.at λo e=>k it (by simp) o e
 item:=by
  intro X y C r N i g s M H E I m st B
  subst y C r
  obtain⟨T,x,j,G⟩:=B
  obtain⟨L,D,p,Y⟩:=I.list j
  obtain⟨u,U,O⟩:=D.get G
  obtain⟨t,q,Q,A,J,F⟩:=m it (by simp)
  refine wpAny_pyNext_list_item st p.isList (x:=u) (by simpa using U) λl n V=>?_
  have Z:Inv X g M H {s with heap:=l}:=I.turned (t':=s.toks) (λb o f e=>(V.2 b f).trans e) t q A J F
  obtain⟨o,e,c,d⟩:=id n
  exact⟨u,rfl,BT (s:={s with heap:=l}) e c d (by decide) ⟨x,H,Z,O,⟨rfl,λys R=>by rw[I.list_inj R j];exact G⟩,n,λb f=>(m b f).1⟩⟩
 done:=by
  intro X y C r N i g s M H E I m st B
  subst y C r
  obtain⟨T,j,G⟩:=B
  obtain⟨L,D,p,Y⟩:=I.list j
  obtain⟨t,q,Q,A,J,F⟩:=m it (by simp)
  have hl:=D.length
  exact wpAny_pyNext_list_end (I.ok.hd N) st p.isList (by simp;omega) λl S=>⟨rfl,I.turned (t':=s.toks) (λb o f e=>S b o f e) t q A J F⟩
 self:=λ_ _ _ _ _ st h=>wpAny_pyIter_listiter st h
theorem zf{P:cT}{w:dc}{K:cu}{tg:Expr}(a it:cG):Iz P w K tg (KL K a) [it] it (λi h=>h.IsTupleIter it a i) where
 mem:=by simp
 obj:=λi h st b f=>by
  have e:b=it:=by simpa using f
  subst e
  obtain⟨o,e,c,d⟩:=st
  exact⟨o,e,λv z=>by rw[d]at z;cases z⟩
 keep:=λi h m st k=>st.at λo e=>k it (by simp) o e
 item:=by
  intro X A D t N i j s M H E I n st C
  subst A D t
  obtain⟨T,x,l,J⟩:=C
  obtain⟨g,F,p,Y⟩:=I.tuple l
  obtain⟨u,U,O⟩:=F.get J
  obtain⟨y,r,Q,B,L,G⟩:=n it (by simp)
  refine wpAny_pyNext_tuple_item st (show s.heap.IsTuple a g.toArray from p) (x:=u) (by simpa using U) λm q V=>?_
  have Z:Inv X j M H {s with heap:=m}:=I.turned (t':=s.toks) (λb o f e=>(V.2 b f).trans e) y r B L G
  obtain⟨o,e,c,d⟩:=id q
  exact⟨u,rfl,BT (s:={s with heap:=m}) e c d (by decide) ⟨x,H,Z,O,⟨rfl,λys R=>by rw[I.tuple_inj R l];exact J⟩,q,λb f=>(n b f).1⟩⟩
 done:=by
  intro X A D t N i j s M H E I n st C
  subst A D t
  obtain⟨T,l,J⟩:=C
  obtain⟨g,F,p,Y⟩:=I.tuple l
  obtain⟨y,r,Q,B,L,G⟩:=n it (by simp)
  have hl:=F.length
  exact wpAny_pyNext_tuple_end (I.ok.hd N) st (show s.heap.IsTuple a g.toArray from p) (by simp;omega) λm S=>⟨rfl,I.turned (t':=s.toks) (λb o f e=>S b o f e) y r B L G⟩
 self:=λ_ _ _ _ _ st h=>wpAny_pyIter_tupleiter st h
theorem zg{P:cT}{w:dc}{K:cu}{tg:Expr}(it:cG)(lo:Int)(n:Nat):Iz P w K tg (JX lo n) [it] it (λi h=>IsRangeIter h it (lo+(i:Nat)*1) ((n:Int)-(i:Nat)) 1) where
 mem:=by simp
 obj:=λi h st b a=>by
  have e:b=it:=by simpa using a
  subst e
  exact⟨_,st,λv z=>by
   have C:lX _=Data.cell v:=z
   cases C⟩
 keep:=λi h d st k=>k it (by simp) _ st
 item:=by
  intro X p u l y i c s B H E I f st r
  subst p u l
  obtain⟨m,j,D,q,A,x⟩:=f it (by simp)
  have W:=Walks.range (prog:=X.prog) (w:=X.w) (I.ok.hd y) it lo 1 n
  refine W.item i s _ _ r st λv d tk F g J=>?_
  obtain⟨t,rfl⟩:=F
  have L:Inv X c B H {s with heap:=d,toks:=tk}:=I.turned (λb o a e=>J b o (by simpa using a) e) m j q A x
  refine⟨_,rfl,BT (s:={s with heap:=d,toks:=tk}) (n:="range_iterator") g rfl rfl (by decide) ⟨.int (lo+i),H,L,⟨t,?_⟩,⟨rfl,rfl⟩,g,λb a=>(f b a).1⟩⟩
  rw[h9]
 done:=by
  intro X p u l y i c s B H E I f st r
  subst p u l
  obtain⟨m,j,D,q,A,x⟩:=f it (by simp)
  exact wpAny_pyNext_range_end (I.ok.hd y) st (by have:n<=i:=r;omega) λd G=>⟨rfl,I.turned (t':=s.toks) (λb o a e=>G b o a e) m j q A x⟩
 self:=λ_ _ _ _ _ st h=>wpAny_pyIter_rangeiter st h
section
variable{X:Cx}{tg:Expr}
def Ko(K:cu)(tl:TE):TI:=λσ H R=>tl σ H λx H1=>∃a,x = .ref a/\(∃xs,SqL K H1 a xs)/\R (KA K a) H1
def K8(K:cu)(tl:TE):TI:=λσ H R=>tl σ H λx H1=>∃a,x = .ref a/\(∃xs,SqT K H1 a xs)/\R (KL K a) H1
theorem sT{l:Expr}{tl:TE}(hl:PE X l tl):PI X tg l (Ko X.K tl):=by
 intro f s n H R I h;refine Ei (hl f s n H _ I h) λv c ⟨x,g,d,r,j⟩=>?_
 obtain⟨a,e,⟨u,m⟩,q⟩:=j;subst e
 cases r;obtain⟨t,w,p,y⟩:=d.list m;refine iB p.isList ?_;refine⟨c.heap.objs.size,[c.heap.objs.size],_,_,g,rfl,d.kept (t':=c.toks) λb o e=>cF _ e,AD a _,⟨_,cN _ rfl,rfl,rfl⟩,λb k=>?_,q⟩;have e:b=c.heap.objs.size:=by simpa using k
 subst e;exact d.fpOk (cI _) (d.hok.fresh (cI _))
theorem uz{l:Expr}{tl:TE}(hl:PE X l tl):PI X tg l (K8 X.K tl):=by
 intro f s r H R I h;refine Ei (hl f s r H _ I h) λv c ⟨x,j,d,t,k⟩=>?_
 obtain⟨a,e,⟨u,n⟩,q⟩:=k;subst e
 cases t;obtain⟨g,w,p,y⟩:=d.tuple n;refine mK (show c.heap.IsTuple a g.toArray from p) ?_;refine⟨c.heap.objs.size,[c.heap.objs.size],_,_,j,rfl,d.kept (t':=c.toks) λb o e=>cF _ e,zf a _,⟨_,cN _ rfl,rfl,rfl⟩,λb m=>?_,q⟩;have e:b=c.heap.objs.size:=by simpa using m
 subst e;exact d.fpOk (cI _) (d.hok.fresh (cI _))
theorem yY{pins:List (cG×Obj)}{σ:St}{H:Hp}{s:cD}{R:It->Hp->Prop}{E:cA->cD->Prop}{lo hi:Int}{t u v:Tok}{tk:Nat}(I:Inv X pins σ H s)(h1: -(2^62)<=lo)(h2:lo<2^62)(h3: -(2^62)<=hi)(h4:hi<2^62)
  (q:R (JX lo (hi-lo).toNat) H):wpAny (model X.prog X.w) X.A (pyIter (.ref s.heap.objs.size)) (L1 X pins σ tg R) E {s with heap:=s.heap.push {cls:= .type "range",data:= .fields #[.int lo t,.int hi u,.int 1 v]},toks:=tk}:=by
 refine wpAny_pyIter_range (IsRange.new ..) (small_one h1 h2 h3 h4) ?_
 have a:Inv X pins σ H {s with heap:=s.heap.push {cls:= .type "range",data:= .fields #[.int lo t,.int hi u,.int 1 v]},toks:=tk}:=I.kept λb o e=>cF _ e
 refine⟨(s.heap.push {cls:= .type "range",data:= .fields #[.int lo t,.int hi u,.int 1 v]}).objs.size,[(s.heap.push {cls:= .type "range",data:= .fields #[.int lo t,.int hi u,.int 1 v]}).objs.size],_,_,H,rfl,
  a.kept (t':=tk) λb o e=>cF _ e,zg _ lo (hi-lo).toNat,?_,λb f=>?_,q⟩
 ·have c:lo+((0:Nat):Int)*1=lo:=by simp
  have d:(((hi-lo).toNat:Nat):Int)-((0:Nat):Int)=pZ lo hi 1:=by rw[rangeSize_one];split <;> omega
  show IsRangeIter _ _ (lo+((0:Nat):Int)*1) ((((hi-lo).toNat:Nat):Int)-((0:Nat):Int)) 1
  rw[c,d]
  exact cN _ rfl
 ·have e:b=(s.heap.push {cls:= .type "range",data:= .fields #[.int lo t,.int hi u,.int 1 v]}).objs.size:=by simpa using f
  subst e
  exact a.fpOk (cI _) (a.hok.fresh (cI _))
def LH(ta:TA):TI:=λσ H R=>ta σ H λvs H1=>∃j:Int,vs=[.int j]/\ -(2^62)<=j/\j<2^62/\R (JX 0 j.toNat) H1
def LL(ta:TA):TI:=λσ H R=>ta σ H λvs H1=>∃i j:Int,vs=[.int i,.int j]/\(-(2^62)<=i/\i<2^62/\ -(2^62)<=j/\j<2^62)/\R (JX i (j-i).toNat) H1
theorem rW{a:Expr}{ta:TA}{p pos:Pos}(hg:Gl X "range")(hm:X.mg "range"=none)(ha:PA X [a] ta)(hs:dh [a] X.env=[(false,eval a X.env)]:=by rfl):PI X tg (.Call (.Name "range" p) [a] [] pos) (LH ta):=by
 intro c s g H R I h;refine rc (tI I hg hm boot_range (d7 (Ei (ha pos c s g H _ I h) λo n ⟨vs,m,l,k,b⟩=>?_) hs rfl));obtain⟨j,e,b,f,q⟩:=b;subst e
 cases k with
 | cons r d=>
  cases d;obtain⟨t,rfl⟩:=r;exact call_range_1 (yY l (by omega) (by omega) b f (by simpa using q))
theorem Aq{a b:Expr}{ta:TA}{p pos:Pos}(hg:Gl X "range")(hm:X.mg "range"=none)(ha:PA X [a,b] ta)(hs:dh [a,b] X.env=[(false,eval a X.env),(false,eval b X.env)]:=by rfl)(hs2:dh [b] X.env=[(false,eval b X.env)]:=by rfl):
  PI X tg (.Call (.Name "range" p) [a,b] [] pos) (LL ta):=by
 intro f s m H R I h
 refine rc (tI I hg hm boot_range (d7 (Ei (ha pos f s m H _ I h) λy w ⟨vs,v,u,n,c⟩=>?_) (by rw[hs,hs2]) (by rw[hs2];rfl)))
 obtain⟨i,j,e,⟨c,l,g,k⟩,q⟩:=c
 subst e
 cases n with
 | cons r d=>
  cases d with
  | cons o d=>
   cases d
   obtain⟨t,rfl⟩:=r
   obtain⟨x,rfl⟩:=o
   exact call_range_2 (yY u c l g k q)
def L9(wi:TI)(g:TG)(tb:TS):TS:=λD σ H=>wi σ H λJ H1=>∃W:Nat->Nat->St->Hp->Prop,(∃m,W 0 m σ H1)/\∀i m σ H,W i m σ H->
 (J.stop i H/\D.nx σ H)\/(J.go i H/\∃N:St->Hp->Prop,(∀σ' H',N σ' H'->∃m',m'<m/\W (i+1) m' σ' H')/\∀x H',J.yld i H x H'->g x σ H' λσ2 H2=>tb {D with nx:=N,ct:=N,bk:=D.nx} σ2 H2)
def GL(fp:List cG)(h:Heap):List (cG×Obj):=fp.filterMap λb=>(h.get? b).map λo=>(b,o)
theorem ub{fp:List cG}{h:Heap}{b:cG}{o:Obj}(hb:b∈fp)(e:h.get? b=some o):(b,o)∈GL fp h:=gF.mpr ⟨b,hb,by rw[e];rfl⟩
theorem A8{fp:List cG}{h:Heap}{p:cG×Obj}(hp:p∈GL fp h):p.1∈fp/\h.get? p.1=some p.2:=by
 obtain⟨b,c,e⟩:=gF.mp hp
 cases q:h.get? b with
 | none=>rw[q]at e;cases e
 | some o=>
  rw[q]at e;have a:(b,o)=p:=Option.some.inj e;subst a;exact⟨c,q⟩
theorem Inv.pinned{pins:List (cG×Obj)}{σ:St}{H:Hp}{s:cD}{fp:List cG}(I:Inv X pins σ H s)(hf:∀b∈fp,F9 X pins H b)(ho:∀b∈fp,∃o,s.heap.get? b=some o/\∀v,o.data≠ .cell v):Inv X (pins++GL fp s.heap) σ H s:=
 I.pins_of λp hp=>(dJ.mp hp).elim (λz=>I.pin p (d5 _ z)) λz=>by
  obtain⟨c,e⟩:=A8 z
  obtain⟨h,f,g,_⟩:=hf p.1 c
  obtain⟨o,a,d⟩:=ho p.1 c
  rw[e]at a;cases a
  exact⟨e,h,f,g,d⟩
theorem Inv.unpinned{pins pl:List (cG×Obj)}{σ:St}{H:Hp}{s:cD}(I:Inv X (pins++pl) σ H s):Inv X pins σ H s:=I.pins_of λp hp=>I.pin p (d5 _ (jK _ hp))
theorem sP{iter:Expr}{body:List Stmt}{wi:TI}{g:TG}{tb:TS}{pos:Pos}(hp:PassesOwn (model X.prog X.w) X.A X.env X.xe)(hc:X.calm=true)(hi:PI X tg iter wi)(hg:PG X tg g)(hb:PSs X body tb)
  (hs:∀x,foldedSetIterable iter X.env x=pure x:=by intro _;rfl):PS X (.For tg iter body [] pos) (L9 wi g tb):=by
 intro c s σ H D I h
 refine wpAny_For (Ei (hi c s σ H _ I h) λv s1 h1=>Ei h1 λab s2 h2=>?_) hs
 obtain⟨it,z,O,J,H2,e,I2,T,aa,U,W,⟨m0,w0⟩,L⟩:=h2
 subst e
 have q:∀{H':Hp},(∀b∈z,H' b=none)->∀b∈z,F9 X c H' b:=λhn b hb=>⟨hn b hb,(U b hb).2⟩
 refine codeAny_forLoop_any (λn s'=>∃i σ' H',Inv X c σ' H' s'/\O i s'.heap/\(∀b∈z,H' b=none)/\W i n σ' H') ?_ m0 ⟨0,σ,H2,I2,aa,λb hb=>(U b hb).1,w0⟩
 rintro n P ⟨i,l,C,R,E,F,w3⟩
 rcases L i n l C w3 with⟨stop,qn⟩|⟨go,N,hN,K⟩
 ·refine gO hp (Ei (T.done X rfl rfl rfl hc i c P l C X.xe R (q F) E stop) λr s4 ⟨G,I4⟩=>?_)
  subst G
  exact im ⟨l,C,I4,qn⟩
 ·refine gO hp (Ei (T.item X rfl rfl rfl hc i c P l C X.xe R (q F) E go) λr s4 ⟨u,G,h4⟩=>?_)
  subst G
  refine gO hp (Ei h4 λ_ S ⟨x,Z,I5,r5,y5,B,Q⟩=>?_)
  have V:=I5.pinned (q Q) (T.obj _ _ B)
  refine gO hp (Ei (hg _ S l Z x u _ V r5 (K x Z y5)) λ_ s6 ⟨Y,H6,I6,q6⟩=>?_)
  refine gO hp (Ei (hb _ s6 Y H6 _ I6 q6) λf M p=>?_)
  have t:∀{a:St} {j:Hp},Inv X (c++GL z S.heap) a j M->N a j->∃m,m<n/\∃i σ' H',Inv X c σ' H' M/\O i M.heap/\(∀b∈z,H' b=none)/\W i m σ' H':=λ {a j} k y=>by
   obtain⟨m',hm,w7⟩:=hN a j y
   refine⟨m',hm,i+1,a,j,k.unpinned,T.keep _ _ _ B λb hb o e=>(k.pin (b,o) (d5 _ (d5 _ (ub hb e)))).1,λb hb=>?_,w7⟩
   obtain⟨o,e,d⟩:=T.obj _ _ B b hb
   exact(k.pin (b,o) (d5 _ (d5 _ (ub hb e)))).2.1
  cases f with
  | next=>obtain⟨a,j,k,y⟩:=p;exact t k y
  | cont=>obtain⟨a,j,k,y⟩:=p;exact t k y
  | brk=>obtain⟨a,j,k,p⟩:=p;exact⟨a,j,k.unpinned,p⟩
  | ret v=>obtain⟨x7,a,j,k,r7,p⟩:=p;exact⟨x7,a,j,k.unpinned,r7,p⟩
end
theorem uX{K:cu}{a:cG}{xs:List V}{g:TG}{tb:TS}{D:Gp}{σ:St}{H:Hp}(Pv:Nat->St->Hp->Prop)(h0:Pv 0 σ H)(hl:∀i σ H,i<=xs.length->Pv i σ H->SqL K H a xs)
  (hs:∀i x σ H,xs[i]?=some x->Pv i σ H->g x σ H λσ2 H2=>tb {D with nx:=Pv (i+1),ct:=Pv (i+1),bk:=D.nx} σ2 H2)(hd:∀σ H,Pv xs.length σ H->D.nx σ H):
  ∃W:Nat->Nat->St->Hp->Prop,(∃m,W 0 m σ H)/\∀i m σ H,W i m σ H->
   ((KA K a).stop i H/\D.nx σ H)\/((KA K a).go i H/\∃N:St->Hp->Prop,(∀σ' H',N σ' H'->∃m',m'<m/\W (i+1) m' σ' H')/\∀x H',(KA K a).yld i H x H'->g x σ H' λσ2 H2=>tb {D with nx:=N,ct:=N,bk:=D.nx} σ2 H2):=by
 refine⟨λi m σ H=>m=xs.length-i/\i<=xs.length/\Pv i σ H,⟨xs.length,by simp,du _,h0⟩,?_⟩
 rintro i m σ H ⟨rfl,d,p⟩
 have q:=hl i σ H d p
 by_cases b:i<xs.length
 ·refine .inr ⟨⟨xs,xs[i],q,by simp[b]⟩,Pv (i+1),λσ' H' c=>⟨xs.length-(i+1),by omega,rfl,b,c⟩,λx H' y=>?_⟩
  obtain⟨e,y⟩:=y
  subst e
  exact hs i x σ _ (y xs q) p
 ·have e:i=xs.length:=by omega
  subst e
  exact .inl ⟨⟨xs,q,cI _⟩,hd σ H p⟩
theorem CS{K:cu}{a:cG}{xs:List V}{g:TG}{tb:TS}{D:Gp}{σ:St}{H:Hp}(Pv:Nat->St->Hp->Prop)(h0:Pv 0 σ H)(hl:∀i σ H,i<=xs.length->Pv i σ H->SqT K H a xs)
  (hs:∀i x σ H,xs[i]?=some x->Pv i σ H->g x σ H λσ2 H2=>tb {D with nx:=Pv (i+1),ct:=Pv (i+1),bk:=D.nx} σ2 H2)(hd:∀σ H,Pv xs.length σ H->D.nx σ H):
  ∃W:Nat->Nat->St->Hp->Prop,(∃m,W 0 m σ H)/\∀i m σ H,W i m σ H->
   ((KL K a).stop i H/\D.nx σ H)\/((KL K a).go i H/\∃N:St->Hp->Prop,(∀σ' H',N σ' H'->∃m',m'<m/\W (i+1) m' σ' H')/\∀x H',(KL K a).yld i H x H'->g x σ H' λσ2 H2=>tb {D with nx:=N,ct:=N,bk:=D.nx} σ2 H2):=by
 refine⟨λi m σ H=>m=xs.length-i/\i<=xs.length/\Pv i σ H,⟨xs.length,by simp,du _,h0⟩,?_⟩
 rintro i m σ H ⟨rfl,d,p⟩
 have q:=hl i σ H d p
 by_cases b:i<xs.length
 ·refine .inr ⟨⟨xs,xs[i],q,by simp[b]⟩,Pv (i+1),λσ' H' c=>⟨xs.length-(i+1),by omega,rfl,b,c⟩,λx H' y=>?_⟩
  obtain⟨e,y⟩:=y
  subst e
  exact hs i x σ _ (y xs q) p
 ·have e:i=xs.length:=by omega
  subst e
  exact .inl ⟨⟨xs,q,cI _⟩,hd σ H p⟩
theorem rZ{lo:Int}{n:Nat}{g:TG}{tb:TS}{D:Gp}{σ:St}{H:Hp}(Pv:Nat->St->Hp->Prop)(h0:Pv 0 σ H)
  (hs:∀i σ H,i<n->Pv i σ H->g (.int (lo+i)) σ H λσ2 H2=>tb {D with nx:=Pv (i+1),ct:=Pv (i+1),bk:=D.nx} σ2 H2)(hd:∀σ H,Pv n σ H->D.nx σ H):
  ∃W:Nat->Nat->St->Hp->Prop,(∃m,W 0 m σ H)/\∀i m σ H,W i m σ H->
   ((JX lo n).stop i H/\D.nx σ H)\/((JX lo n).go i H/\∃N:St->Hp->Prop,(∀σ' H',N σ' H'->∃m',m'<m/\W (i+1) m' σ' H')/\∀x H',(JX lo n).yld i H x H'->g x σ H' λσ2 H2=>tb {D with nx:=N,ct:=N,bk:=D.nx} σ2 H2):=by
 refine⟨λi m σ H=>m=n-i/\i<=n/\Pv i σ H,⟨n,by simp,du _,h0⟩,?_⟩
 rintro i m σ H ⟨rfl,c,p⟩
 by_cases a:i<n
 ·refine .inr ⟨a,Pv (i+1),λσ' H' b=>⟨n-(i+1),by omega,rfl,a,b⟩,λx H' y=>?_⟩
  obtain⟨e,y⟩:=y
  subst e y
  exact hs i σ _ a p
 ·have e:i=n:=by omega
  subst e
  exact .inl ⟨cI _,hd σ H p⟩
abbrev R2:=V->V->Hp->VK->Prop
def Fs(X:Cx)(f:cA->cA->Sem cA)(r:R2):Prop:=
 ∀(pins:List (cG×Obj)) (s:cD) (σ:St) (H:Hp) (x y:V) (v u:cA) (Q:VK),Inv X pins σ H s->RelV x v->RelV y u->r x y H Q->
  wpAny (model X.prog X.w) X.A (f v u) (EP X pins σ Q) X.xe s
def L0(X:Cx)(f:cA->Sem cA)(r:V->Hp->VK->Prop):Prop:=
 ∀(pins:List (cG×Obj)) (s:cD) (σ:St) (H:Hp) (x:V) (v:cA) (Q:VK),Inv X pins σ H s->RelV x v->r x H Q->
  wpAny (model X.prog X.w) X.A (f v) (EP X pins σ Q) X.xe s
def EJ(X:Cx)(f:cA)(r:List V->Hp->VK->Prop):Prop:=
 ∀(pins:List (cG×Obj)) (s:cD) (σ:St) (H:Hp) (xs:List V) (us:List cA) (Q:VK),Inv X pins σ H s->Vals xs us->r xs H Q->
  wpAny (model X.prog X.w) X.A (call f us) (EP X pins σ Q) X.xe s
def Mo(X:Cx)(r:V->Hp->(Bool->Hp->Prop)->Prop):Prop:=
 ∀(pins:List (cG×Obj)) (s:cD) (σ:St) (H:Hp) (x:V) (v:cA) (Q:Bool->Hp->Prop),Inv X pins σ H s->RelV x v->r x H Q->
  wpAny (model X.prog X.w) X.A (truthy v) (TP X pins σ Q) X.xe s
def LV(r:R2)(ta tb:TE):TE:=λσ H Q=>ta σ H λx H1=>tb σ H1 λy H2=>r x y H2 Q
def MQ(r:V->Hp->VK->Prop)(ta:TE):TE:=λσ H Q=>ta σ H λx H1=>r x H1 Q
def rI(C:Int->Int->Prop)(g:Int->Int->V):R2:=λx y H Q=>∃i j,x = .int i/\y = .int j/\C i j/\Q (g i j) H
def Kw(g:Int->Int->V):R2:=λx y H Q=>∃i j,x = .int i/\y = .int j/\Q (g i j) H
def rU(g:Int->V):V->Hp->VK->Prop:=λx H Q=>∃i,x = .int i/\Q (g i) H
section
variable{X:Cx}{a b c:Expr}{ta tb tc:TE}{pos:Pos}
theorem KG(ha:PE X a ta)(hb:PE X b tb){pins:List (cG×Obj)}{s:cD}{σ:St}{H:Hp}{R:V->V->Hp->Prop}(I:Inv X pins σ H s)
  (h:ta σ H λx H1=>tb σ H1 λy H2=>R x y H2){Q:cA->cD->Prop}{f:cA->cA->Sem cA}
  (hf:∀v u s2 x y H2,Inv X pins σ H2 s2->RelV x v->RelV y u->R x y H2->wpAny (model X.prog X.w) X.A (f v u) Q X.xe s2):
  wpAny (model X.prog X.w) X.A (eval a X.env) (λv s₁=>wpAny (model X.prog X.w) X.A (eval b X.env) (λu s₂=>wpAny (model X.prog X.w) X.A (f v u) Q X.xe s₂) X.xe s₁) X.xe s:=by
 refine Ei (ha pins s σ H _ I h) λv c ⟨x,H1,k,d,l⟩=>?_
 refine Ei (hb pins c σ H1 _ k l) λu s2 ⟨y,H2,e,g,j⟩=>?_
 exact hf v u s2 x y H2 e d g j
theorem rN{op:Operator}{r:R2}(ho:Fs X (binaryOp op) r)(ha:PE X a ta)(hb:PE X b tb):PE X (.BinOp a op b pos) (LV r ta tb):=by
 intro c s k H Q I h;exact wpAny_BinOp (KG ha hb I h λv u d x y g e j f q=>ho c d k g x y v u Q e j f q)
theorem DX{op:UnaryOp}{r:V->Hp->VK->Prop}(ho:L0 X (unaryOp op) r)(ha:PE X a ta):PE X (.UnaryOp op a pos) (MQ r ta):=by
 intro b s c H Q I h;exact UnaryOp_ (Ei (ha b s c H _ I h) λv d ⟨x,f,g,e,j⟩=>ho b d c f x v Q g e j)
theorem Lw{f:cA->cA->Sem cA}{C:Int->Int->Prop}{g:Int->Int->Int}
  (rule:∀(i j:Int) (t u:Tok) (s:cD) (Q:cA->cD->Prop) (E:cA->cD->Prop),C i j->Q (.int (g i j) s.toks) {s with toks:=s.toks+1}->wpAny (model X.prog X.w) X.A (f (.int i t) (.int j u)) Q E s):
  Fs X f (rI C λi j=> .int (g i j)):=by
 intro d s k H x y v u Q I a b h
 obtain⟨i,j,rfl,rfl,e,q⟩:=h
 obtain⟨t,rfl⟩:=a
 obtain⟨c,rfl⟩:=b
 exact rule i j t c s _ _ e ⟨.int (g i j),H,I.tok _,⟨_,rfl⟩,q⟩
theorem LJ{f:cA->cA->Sem cA}{g:Int->Int->Int}
  (rule:∀(i j:Int) (t u:Tok) (s:cD) (Q:cA->cD->Prop) (E:cA->cD->Prop),Q (.int (g i j) s.toks) {s with toks:=s.toks+1}->wpAny (model X.prog X.w) X.A (f (.int i t) (.int j u)) Q E s):
  Fs X f (Kw λi j=> .int (g i j)):=by
 intro d s e H x y v u Q I a b h
 obtain⟨i,j,rfl,rfl,q⟩:=h
 obtain⟨t,rfl⟩:=a
 obtain⟨c,rfl⟩:=b
 exact rule i j t c s _ _ ⟨.int (g i j),H,I.tok _,⟨_,rfl⟩,q⟩
theorem Kv{f:cA->cA->Sem cA}{g:Int->Int->Bool}
  (rule:∀(i j:Int) (t u:Tok) (s:cD) (Q:cA->cD->Prop) (E:cA->cD->Prop),Q (.bool (g i j)) s->wpAny (model X.prog X.w) X.A (f (.int i t) (.int j u)) Q E s):
  Fs X f (Kw λi j=> .bl (g i j)):=by
 intro d s e H x y v u Q I a b h
 obtain⟨i,j,rfl,rfl,q⟩:=h
 obtain⟨t,rfl⟩:=a
 obtain⟨c,rfl⟩:=b
 exact rule i j t c s _ _ ⟨.bl (g i j),H,I,rfl,q⟩
def LI(i j:Int):Prop:=0<=j/\j<=1000000/\i.natAbs<2^64
theorem sC:Fs X (binaryOp .Add) (Kw λi j=> .int (i+j)):=LJ λ_ _ _ _ _ _ _ q=>add_int q
theorem v4:Fs X (binaryOp .Sub) (Kw λi j=> .int (i-j)):=LJ λ_ _ _ _ _ _ _ q=>sub_int q
theorem rY:Fs X (binaryOp .Mod) (rI (λ_ j=>0<j) λi j=> .int (i%j)):=Lw λi j _ _ _ _ _ a q=>by
 have h1:(0:Int)<j:=a;exact mod_int' (by omega) (by rw[Int.fmod_eq_emod_of_nonneg i (by omega)];exact q)
theorem Cm:Fs X (binaryOp .Pow) (rI LI λi j=> .int (i^j.toNat)):=Lw λ_ _ _ _ _ _ _ a q=>pow_int_small a.1 a.2.1 a.2.2 q
theorem ML{f:cA->Sem cA}{g:Int->Int}
  (rule:∀(i:Int) (t:Tok) (s:cD) (Q:cA->cD->Prop) (E:cA->cD->Prop),Q (.int (g i) s.toks) {s with toks:=s.toks+1}->wpAny (model X.prog X.w) X.A (f (.int i t)) Q E s):
  L0 X f (rU λi=> .int (g i)):=by
 intro b s c H x v Q I a h
 obtain⟨i,rfl,q⟩:=h
 obtain⟨t,rfl⟩:=a
 exact rule i t s _ _ ⟨.int (g i),H,I.tok _,⟨_,rfl⟩,q⟩
theorem Dy:L0 X (unaryOp .USub) (rU λi=> .int (-i)):=ML λ_ _ _ _ _ q=>neg_int q
end
def K9:V->V->Bool
 | .non,.non=>true | .non,.int _=>true | .int _,.non=>true | .non,.bl _=>true | .bl _,.non=>true | .non,.str _=>true | .str _,.non=>true
 | .int _,.int _=>true | .bl _,.bl _=>true | .str _,.str _=>true | .byt _,.byt _=>true
 | .int _,.str _=>true | .str _,.int _=>true | .bl _,.str _=>true | .str _,.bl _=>true
 | _,_=>false
def MT:R2:=λx y H Q=>K9 x y=true/\Q (.bl (decide (x=y))) H
def MO:R2:=λx y H Q=>K9 x y=true/\Q (.bl (!decide (x=y))) H
theorem z5{i j:Int}:decide (V.int i=V.int j)=(i==j):=by
 rw[gv];simp
theorem Cz{i j:Bool}:decide (V.bl i=V.bl j)=(i==j):=by
 rw[gv];simp
theorem AC{i j:Str}:decide (V.str i=V.str j)=(i==j):=by
 rw[gv];simp
theorem zW{i j:Array UInt8}:decide (V.byt i=V.byt j)=(i.toList==j.toList):=by
 rw[gv]
 cases i
 cases j;simp
section
variable{X:Cx}{a b c:Expr}{ta tb tc:TE}{pos:Pos}
theorem sf{pins:List (cG×Obj)}{σ:St}{H:Hp}{s:cD}{Q:VK}{k k':Bool}(I:Inv X pins σ H s)(q:Q (.bl k) H)(e:k=k'):EP X pins σ Q (.bool k') s:=by
 subst e;exact⟨.bl k,H,I,rfl,q⟩
theorem tO:Fs X (compareOp .Eq) MT:=by
 intro e s f H x y v u Q I d a h;obtain⟨c,q⟩:=h
 cases x with
 | non=>
  cases d
  cases y with
  | non=>cases a;exact o5 (sf I q (by simp))
  | bl j=>cases a;exact o6 (sf I q (by simp))
  | int j=>obtain⟨b,rfl⟩:=a;exact pu (sf I q (by simp))
  | str j=>obtain⟨b,rfl⟩:=a;exact pz (sf I q (by simp))
  | _=>exact absurd (show false=true from c) de
 | bl i=>
  cases d
  cases y with
  | non=>cases a;exact o7 (sf I q (by simp))
  | bl j=>cases a;exact eq_bool (sf I q Cz)
  | str j=>obtain⟨b,rfl⟩:=a;exact o8 (sf I q (by simp))
  | _=>exact absurd (show false=true from c) de
 | int i=>
  obtain⟨t,rfl⟩:=d
  cases y with
  | non=>cases a;exact pA (sf I q (by simp))
  | int j=>obtain⟨b,rfl⟩:=a;exact eq_int (sf I q z5)
  | str j=>obtain⟨b,rfl⟩:=a;exact pB (sf I q (by simp))
  | _=>exact absurd (show false=true from c) de
 | str i=>
  obtain⟨t,rfl⟩:=d
  cases y with
  | non=>cases a;exact pC (sf I q (by simp))
  | bl j=>cases a;exact o9 (sf I q (by simp))
  | int j=>obtain⟨b,rfl⟩:=a;exact pD (sf I q (by simp))
  | str j=>obtain⟨b,rfl⟩:=a;exact eq_str (sf I q AC)
  | _=>exact absurd (show false=true from c) de
 | byt i=>
  obtain⟨t,rfl⟩:=d
  cases y with
  | byt j=>obtain⟨b,rfl⟩:=a;exact PySem.W.eq_bytes (sf I q zW)
  | _=>exact absurd (show false=true from c) de
 | _=>cases y <;> exact absurd (show false=true from c) de
theorem zC:Fs X (compareOp .NotEq) MO:=by
 intro e s f H x y v u Q I d a h;obtain⟨c,q⟩:=h
 cases x with
 | non=>
  cases d
  cases y with
  | non=>cases a;exact pb (sf I q (by simp))
  | bl j=>cases a;exact pc (sf I q (by simp))
  | int j=>obtain⟨b,rfl⟩:=a;exact pE (sf I q (by simp))
  | str j=>obtain⟨b,rfl⟩:=a;exact pF (sf I q (by simp))
  | _=>exact absurd (show false=true from c) de
 | bl i=>
  cases d
  cases y with
  | non=>cases a;exact ph (sf I q (by simp))
  | bl j=>cases a;exact ne_bool (sf I q (congrArg not Cz))
  | str j=>obtain⟨b,rfl⟩:=a;exact pi (sf I q (by simp))
  | _=>exact absurd (show false=true from c) de
 | int i=>
  obtain⟨t,rfl⟩:=d
  cases y with
  | non=>cases a;exact pG (sf I q (by simp))
  | int j=>obtain⟨b,rfl⟩:=a;exact ne_int (sf I q (congrArg not z5))
  | str j=>obtain⟨b,rfl⟩:=a;exact pH (sf I q (by simp))
  | _=>exact absurd (show false=true from c) de
 | str i=>
  obtain⟨t,rfl⟩:=d
  cases y with
  | non=>cases a;exact pI (sf I q (by simp))
  | bl j=>cases a;exact pj (sf I q (by simp))
  | int j=>obtain⟨b,rfl⟩:=a;exact pJ (sf I q (by simp))
  | str j=>obtain⟨b,rfl⟩:=a;exact ne_str (sf I q (congrArg not AC))
  | _=>exact absurd (show false=true from c) de
 | byt i=>
  obtain⟨t,rfl⟩:=d
  cases y with
  | byt j=>obtain⟨b,rfl⟩:=a;exact PySem.W.ne_bytes (sf I q (congrArg not zW))
  | _=>exact absurd (show false=true from c) de
 | _=>cases y <;> exact absurd (show false=true from c) de
theorem z7:Fs X (compareOp .Lt) (Kw λi j=> .bl (decide (i<j))):=Kv λ_ _ _ _ _ _ _ q=>lt_int q
theorem BE:Fs X (compareOp .LtE) (Kw λi j=> .bl (decide (i<=j))):=Kv λ_ _ _ _ _ _ _ q=>le_int q
theorem D4:Fs X (compareOp .Gt) (Kw λi j=> .bl (decide (j<i))):=Kv λ_ _ _ _ _ _ _ q=>gt_int q
theorem AT:Fs X (compareOp .Is) (λx y H Q=>y = .non/\Q (.bl (decide (x = .non))) H):=by
 intro c s d H x y v u Q I a b h;obtain⟨rfl,q⟩:=h
 cases b;refine is_none_gen (sf I q ?_)
 cases x <;> first
  | (cases a;rfl)
  | (obtain⟨t,rfl⟩:=a;rfl)
theorem zP:Fs X (compareOp .IsNot) (λx y H Q=>y = .non/\Q (.bl (!decide (x = .non))) H):=by
 intro c s d H x y v u Q I a b h;obtain⟨rfl,q⟩:=h
 cases b;refine isnot_none_gen (sf I q ?_)
 cases x <;> first
  | (cases a;rfl)
  | (obtain⟨t,rfl⟩:=a;rfl)
theorem Ee(b:Expr){op:CmpOp}(h:op≠ .In:=by decide)(h2:op≠ .NotIn:=by decide):behindInMarks op b=false:=by
 have c:(op==CmpOp.In)=false:=by cases op <;> first|rfl|exact absurd rfl h
 have a:(op==CmpOp.NotIn)=false:=by cases op <;> first|rfl|exact absurd rfl h2
 cases b <;> simp[behindInMarks,c,a]
theorem tF{op:CmpOp}{r:R2}(ho:Fs X (compareOp op) r)(ha:PE X a ta)(hb:PE X b tb)(hm:behindInMarks op b=false):PE X (.Compare a [op] [b] pos) (LV r ta tb):=by
 intro c s k H Q I h;exact wpAny_Compare1 (KG ha hb I h λv u d x y g e j f q=>ho c d k g x y v u Q e j f q) hm
def Kf(t:TE):TT:=λσ H Q=>t σ H λx H'=>∃k,x = .bl k/\Q k H'
theorem rQ{op:CmpOp}{r:R2}(ho:Fs X (compareOp op) r)(ha:PE X a ta)(hb:PE X b tb)(hm:behindInMarks op b=false):PT X (.Compare a [op] [b] pos) (Kf (LV r ta tb)):=by
 intro d s f H Q I h;refine lM (Ei (ha d s f H _ I h) λv o ⟨x,j,C,B,n⟩=>Ei (hb d o f j _ C n) λu g ⟨y,D,w,t,p⟩=>
  Ei (ho d g f D x y v u _ w B t p) λc E ⟨z,A,q,m,k,e,l⟩=>?_) hm
 subst e
 cases m;exact eI ⟨A,q,l⟩
def Jx(r r':R2)(ta tb tc:TE):TE:=λσ H Q=>ta σ H λx H1=>tb σ H1 λy H2=>r x y H2 λz H3=>∃k,z = .bl k/\
 (if k=true then tc σ H3 λw' H4=>r' y w' H4 Q else Q (.bl false) H3)
theorem yZ{op op':CmpOp}{r r':R2}(ho:Fs X (compareOp op) r)(ho':Fs X (compareOp op') r')(ha:PE X a ta)(hb:PE X b tb)(hc:PE X c tc)
  (hm:lastMarks [op,op'] [b,c]=false:=by with_unfolding_all rfl):PE X (.Compare a [op,op'] [b,c] pos) (Jx r r' ta tb tc):=by
 intro f s g H Q I h
 refine Compare_chain (Ei (ha f s g H _ I h) λv D ⟨x,p,M,K,A⟩=>chain_link (Ei (hb f D g p _ M A) λu o ⟨y,O,G,m,F⟩=>
  Ei (ho f o g O x y v u _ G K m F) λd J ⟨z,n,l,t,k,e,j⟩=>?_)) hm
 subst e
 cases t
 refine eI ?_
 cases k with
 | false=>exact ite_ff ⟨.bl false,n,l,rfl,j⟩
 | true=>exact ite_tt (chain_last (Ei (hc f J g n _ l j) λq w ⟨B,N,L,E,C⟩=>ho' f w g N y B u q Q L m E C))
theorem Cd{op op':CmpOp}{r r':R2}(ho:Fs X (compareOp op) r)(ho':Fs X (compareOp op') r')(ha:PE X a ta)(hb:PE X b tb)(hc:PE X c tc)
  (hm:lastMarks [op,op'] [b,c]=false:=by with_unfolding_all rfl):PT X (.Compare a [op,op'] [b,c] pos) (Kf (Jx r r' ta tb tc)):=by
 intro f s g H Q I h
 refine isTrue_chain (Ei (ha f s g H _ I h) λv G ⟨x,p,U,S,C⟩=>test_link (Ei (hb f G g p _ U C) λu o ⟨y,W,N,m,M⟩=>
  Ei (ho f o g W x y v u _ N S m M) λd P ⟨z,n,l,t,k,e,j⟩=>?_)) hm
 subst e
 cases t
 refine eI ?_
 cases k with
 | false=>
  obtain⟨k',A,L⟩:=j
  cases A
  exact ite_ff ⟨n,l,L⟩
 | true=>
  refine ite_tt (test_last (Ei (hc f P g n _ l j) λq w ⟨D,V,T,J,F⟩=>Ei (ho' f w g V y D u q _ T m J F) λY s5 ⟨z2,E,R,O,Z,B,K⟩=>?_))
  subst B
  cases O
  exact eI ⟨E,R,K⟩
def K1(K:cu)(x:V)(H:Hp)(k:Bool):Prop:=
 match x with
 | .non=>k=false
 | .bl b=>k=b
 | .int i=>k=(i != 0)
 | .str y=>y.length<=sizeLine/\k=((y.length:Int) != 0)
 | .byt y=>y.size<=sizeLine/\k=((y.size:Int) != 0)
 | .ref p=>(∃xs,SqL K H p xs/\k = !xs.isEmpty)\/(∃xs,SqT K H p xs/\k = !xs.isEmpty)\/∃kvs,H p=some (.dK kvs)/\k = !kvs.isEmpty
 | _=>False
theorem zh{κ:Type}{kvs:List (κ×V)}{vs:List (κ×cA)}(r:KV kvs vs):(!vs.isEmpty) = !kvs.isEmpty:=by
 cases r <;> rfl
theorem wo{xs:List V}{its:List cA}(r:Vals xs its):(!its.toArray.isEmpty) = !xs.isEmpty:=by
 cases r <;> simp
theorem Fo:(sizeLine:Nat)<2^63:=by rw[lY];decide
theorem DP:Mo X (λx H Q=>∃k,K1 X.K x H k/\Q k H):=by
 intro A s B H x v Q I f h;obtain⟨k,e,q⟩:=h;have C:=Fo;have D:sizeLine=16777216:=lY
 cases x with
 | non=>
  cases f;have a:k=false:=e;subst a;exact truthy_none ⟨H,I,q⟩
 | bl b=>
  cases f;have a:k=b:=e;subst a;exact eI ⟨H,I,q⟩
 | int i=>
  obtain⟨t,rfl⟩:=f;have a:k=(i != 0):=e;subst a;exact PySem.P.truthy_int ⟨H,I,q⟩
 | str y=>
  obtain⟨t,rfl⟩:=f;obtain⟨u,a⟩:y.length<=sizeLine/\k=((y.length:Int) != 0):=e;subst a;exact PySem.P.truthy_str (by omega) ⟨H,I.tok _,q⟩
 | byt y=>
  obtain⟨t,rfl⟩:=f;obtain⟨u,a⟩:y.size<=sizeLine/\k=((y.size:Int) != 0):=e;subst a;exact PySem.W.truthy_bytes (by omega) ⟨H,I.tok _,q⟩
 | ref p=>
  cases f;have a:(∃d,SqL X.K H p d/\k = !d.isEmpty)\/(∃d,SqT X.K H p d/\k = !d.isEmpty)\/∃c,H p=some (.dK c)/\k = !c.isEmpty:=e;rcases a with⟨d,g,a⟩|⟨d,g,a⟩|⟨c,g,a⟩
  ·subst a;obtain⟨n,r,l,o⟩:=I.list g;have j:=r.length;exact wpAny_truthy_list l.isList (by simp only[cX];omega) ⟨H,I.tok _,by rw[wo r];exact q⟩
  ·subst a;obtain⟨n,r,l,o⟩:=I.tuple g;have j:=r.length;exact truthy_tuple l (by simp only[cX];omega) ⟨H,I.tok _,by rw[wo r];exact q⟩
  ·subst a;obtain⟨o,z,vs,r,m⟩:c.length<=sizeLine/\(p==sysModules)=false/\∃vs,KV c vs/\s.heap.DictOf (Gz X.prog X.w) p vs:=I.hok p _ g;have j:c.length=vs.length:=mt r;exact wpAny_truthy_dict z m (by omega) ⟨H,I.tok _,by rw[zh r];exact q⟩
 | _=>exact(show False from e).elim
theorem BH(ha:PE X a ta)(he:∀whole,isTrue a X.env whole=(do let v<-whole;standAt a.pos;holding [v] (truthy v))):
  PT X a (λσ H Q=>ta σ H λx H'=>∃k,K1 X.K x H' k/\Q k H'):=by
 intro b s σ H Q I h
 exact qa (Ei (ha b s σ H _ I h) λv c ⟨x,e,f,d,g⟩=>DP b c σ e x v Q f d g) (he _)
theorem ue:Fs X (binaryOp .Add) (λx y H Q=>∃i j,x = .str i/\y = .str j/\i.length+j.length<=sizeLine/\Q (.str (i++j)) H):=by
 intro d s f H x y v u Q I a b h;obtain⟨i,j,rfl,rfl,e,q⟩:=h;obtain⟨t,rfl⟩:=a;obtain⟨c,rfl⟩:=b;exact add_str (λc tk=>⟨.str (i++j),H,I.tok _,⟨_,rfl⟩,q⟩) e
theorem EX{x:V}{us:List cA}(r:Vals [x] us):∃u,us=[u]/\RelV x u:=by
 cases r with
 | cons a b=>cases b;exact⟨_,rfl,a⟩
theorem Jg{x y:V}{us:List cA}(r:Vals [x,y] us):∃u w',us=[u,w']/\RelV x u/\RelV y w':=by
 cases r with
 | cons a b=>
  cases b with
  | cons d c=>cases c;exact⟨_,_,rfl,a,d⟩
theorem wu:EJ X (.builtin "abs") (λxs H Q=>∃i,xs=[.int i]/\Q (.int (if i<0 then -i else i)) H):=by
 intro a s b H xs c Q I r h;obtain⟨i,rfl,q⟩:=h;obtain⟨u,rfl,t,rfl⟩:=EX r;exact call_abs_int λu tk=>⟨.int (if i<0 then -i else i),H,I.tok _,⟨_,rfl⟩,q⟩
theorem xH:EJ X (.type "int") (λxs H Q=>(∃i,xs=[.int i]/\Q (.int i) H)\/∃k,xs=[.bl k]/\Q (.int (if k then 1 else 0)) H):=by
 intro b s c H xs d Q I r h;rcases h with⟨i,rfl,q⟩|⟨k,rfl,q⟩
 ·obtain⟨u,rfl,t,rfl⟩:=EX r;exact call_int_int ⟨.int i,H,I,⟨_,rfl⟩,q⟩
 ·obtain⟨u,rfl,a⟩:=EX r
  cases a;exact call_int_bool ⟨.int (if k then 1 else 0),H,I.tok _,⟨_,rfl⟩,q⟩
end
structure ObjM(h:Heap)(x dx C:cG)(mA:Str->Option cA):Prop where
 obj:h.get? x=some (gu C dx)
 ns:h.Ns1 dx mA
 ne:dx≠x
theorem Ap{h:Heap}{dx:cG}{mA:Str->Option cA}(n:h.Ns1 dx mA):∃od,h.get? dx=some od/\∀name,j7 name od=some (mA name):=by
 obtain⟨o,c,l,f,k,hk,_,g⟩:=n;refine⟨o,f,λname=>?_⟩;have e:=g name;unfold nsFind findBy at e;rw[<-Array.find?_toList]at e;unfold j7;rw[k];dsimp only;split
 ·rename_i y q
  rw[q]at e;exact congrArg some e
 ·rename_i q
  rw[q]at e;have a:c.toList.any (·.refKey)=false:=by
   rw[List.any_eq_false];intro y j;obtain⟨z,t,b⟩:=hk y (Array.mem_toList_iff.mp j);simp[rg,b]
  have d:¬c.toList.any (·.refKey)=true:=by rw[a];exact de
  rw[if_neg d];exact congrArg some e
theorem ObjM.look{h:Heap}{x dx C:cG}{mA:Str->Option cA}(I:ObjM h x dx C mA):∃od,PySem.W.InstAt h x (gu C dx) C (some od)/\∀name,j7 name od=some (mA name):=
 let⟨od,b,a⟩:=Ap I.ns
 ⟨od,⟨I.obj,rfl,rfl,b⟩,a⟩
section
variable{prog:cT}{w:dc}{A:dw}{E:cA->cD->Prop}{s:cD}{K:cu}{x dx C f:cG}{mA:Str->Option cA}{name:Str}{v:cA}
theorem C3{expr:Bool}{Q:cA->cD->Prop}(X:K.In s.heap)(I:ObjM s.heap x dx C mA)(hg:jG K C name=true)(hh:kz K C=true)
  (ha:gm K (.ref C) name=some none)(hv:mA name=some v)(hv':nR v=true)(h:Q v {s with toks:=s.toks+1}):
  wpAny (model prog w) A (getAttr (.ref x) name expr) Q E s:=by
 obtain⟨b,J,a⟩:=I.look
 exact PySem.W.get_value X J (j2 hg).1 (PySem.W.findObj_own hh ha rfl (by rw[a,hv])) hv' h
theorem BO{pl:Sem Bool}{Q:cA×List cA->cD->Prop}(X:K.In s.heap)(I:ObjM s.heap x dx C mA)(hg:jG K C name=true)
  (hf:gm K (.ref C) name=some (some (.ref f)))(ht:m7 K (.ref f)=true)(hv:mA name=none)(h:Q (.ref f,[.ref x]) s):
  wpAny (model prog w) A (getMethod (.ref x) name pl) Q E s:=by
 obtain⟨b,J,a⟩:=I.look
 exact PySem.W.method_fn X J (j2 hg).1 (j2 hg).2 hf (beq_iff_eq.mp ht) (by show(j7 name b).map (·.isSome)=some false;rw[a,hv];rfl) h
theorem CM{ns:List Str}{Q:Unit->cD->Prop}(X:K.In s.heap)(I:ObjM s.heap x dx C mA)
  (hs:gm K (.ref C) "__setattr__"=some (some (.builtin "object.__setattr__")))(hp:m9 K C=true)(ht:lF K C name=some none)(hh:kz K C=true)
  (hw:lp mA ns)(hsz:ns.length<=sizeLine)
  (h:∀h',ObjM h' x dx C (λy=>if y=name then some v else mA y)->fI dx s.heap h'->Q () {s with heap:=h',toks:=s.toks+2}):
  wpAny (model prog w) A (setAttr (.ref x) name v) Q E s:=by
 obtain⟨q,J,t⟩:=I.look
 refine PySem.W.set_plain X J hs (PySem.W.osa_open (s:={s with toks:=s.toks+1}) (r:=none) X J hp ht λb=>?_)
 obtain⟨p,l,j⟩:=PySem.W.any_some hh
 have k:s.heap.get? x=some ⟨.ref C,some dx,.plain,#[]⟩:=I.obj
 refine cr (cv (cr (cr (wpAny_loadPart k (cr (qY (s:={s with toks:=s.toks+1}) (PySem.W.looks_clsIn X l) ?_))))))
 rw[j]
 refine cv (a:=some dx) (cr (cv (cr ?_)))
 refine wpAny_nsSet1 (s:={s with toks:=s.toks+1}) I.ns λh' c d=>?_
 obtain⟨o,m,n,e,g,f⟩:=c.count (lp.cons name v hw)
 refine cr (wpAny_lookBehind e (by rw[g];exact pastItsLine_dict (dg f (by rw[dQ];omega))) ?_)
 exact cv (h _ ⟨(d.2 _ (Ne.symm I.ne)).trans I.obj,c,I.ne⟩ d)
theorem Bx{R:Result->cD->Prop}{vs:List cA}{kw:List (Str×cA)}(X:K.In s.heap)(hm:oq K C=true)
  (hi:gm K (.ref C) "__init__"=some (some (.ref f)))(hf:PySem.W.typeIn K (.ref f)=some (.type "function"))
  (h:codeAny (model prog w) (A.under (.builtin "type.__call__" ⟨.ref C::vs,kw⟩)) (.call (.ref f) ⟨.ref (s.heap.objs.size+1)::vs,kw⟩) (PySem.W.InitBack (s.heap.objs.size+1) R)
   {s with heap:=(s.heap.push fL).push (gu C s.heap.objs.size)}):
  codeAny (model prog w) A (.call (.ref C) ⟨vs,kw⟩) R s:=by
 obtain⟨c,g,d,t,b⟩:=s
 exact PySem.W.make_core (PySem.W.makes_of X hm) (PySem.W.looks_findIn X hi) (λa=>PySem.W.bind_fn X a hf) (.inl rfl) h
end
def EF(f:Str)(v:V):List (Str×V)->List (Str×V)
 | []=>[(f,v)]
 | (g,x)::r=>if g=f then(g,v)::r else(g,x)::EF f v r
theorem vx(f g:Str)(v:V):∀fs:List (Str×V),(EF f v fs).lookup g=if g=f then some v else fs.lookup g
 | []=>by
  show gP g [(f,v)]=_
  by_cases h:g=f
  ·have a:(g==f)=true:=beq_iff_eq.mpr h
   simp only[gP,a,if_pos h]
  ·have a:(g==f)=false:=beq_eq_false_iff_ne.mpr h
   simp only[gP,a,if_neg h]
 | (k,x)::r=>by
  have b:=vx f g v r
  rw[show EF f v ((k,x)::r)=(if k=f then(k,v)::r else(k,x)::EF f v r)from rfl]
  by_cases hk:k=f
  ·rw[if_pos hk]
   by_cases h:g=k
   ·have a:(g==k)=true:=beq_iff_eq.mpr h
    simp only[gP,a,if_pos (h.trans hk)]
   ·have a:(g==k)=false:=beq_eq_false_iff_ne.mpr h
    simp only[gP,a,if_neg (λe:g=f=>h (e.trans hk.symm))]
  ·rw[if_neg hk]
   by_cases h:g=k
   ·have a:(g==k)=true:=beq_iff_eq.mpr h
    simp only[gP,a,if_neg (λe:g=f=>hk (h.symm.trans e))]
   ·have a:(g==k)=false:=beq_eq_false_iff_ne.mpr h
    simp only[gP,a]
    exact b
theorem vO(f:Str)(v:V):∀fs:List (Str×V),f∈(EF f v fs).map (·.1)/\∀g,g∈fs.map (·.1)->g∈(EF f v fs).map (·.1)
 | []=>⟨by simp[EF],λg h=>by simp at h⟩
 | (k,x)::r=>by
  obtain⟨a,b⟩:=vO f v r
  rw[show EF f v ((k,x)::r)=(if k=f then(k,v)::r else(k,x)::EF f v r)from rfl]
  by_cases hk:k=f
  ·rw[if_pos hk]
   subst hk
   exact⟨by simp,λg h=>by simpa using h⟩
  ·rw[if_neg hk]
   refine⟨?_,λg h=>?_⟩
   ·rw[dN]
    exact cO _ a
   ·rw[dN]at h ⊢
    rcases cZ.mp h with e|e
    ·exact cZ.mpr (.inl e)
    ·exact cO _ (b g e)
theorem vq(f:Str)(v:V):∀fs:List (Str×V),(EF f v fs).length<=fs.length+1
 | []=>by simp[EF]
 | (k,x)::r=>by
  have a:=vq f v r
  rw[show EF f v ((k,x)::r)=(if k=f then(k,v)::r else(k,x)::EF f v r)from rfl]
  by_cases hk:k=f
  ·rw[if_pos hk,dQ,dQ];omega
  ·rw[if_neg hk,dQ,dQ];omega
theorem RelO.some_of{v:V}{o:Option cA}(r:RelO (some v) o):∃u,o=some u/\RelV v u:=by
 cases o with
 | none=>exact(show False from r).elim
 | some u=>exact⟨u,rfl,r⟩
theorem RelO.none_of{o:Option cA}(r:RelO none o):o=none:=by
 cases o with
 | none=>rfl
 | some u=>exact(show False from r).elim
theorem A5{v:V}{u:cA}(r:RelV v u):nR u=true:=by
 cases v with
 | non=>cases(show u=cA.none from r);rfl
 | bl b=>cases(show u=eo b from r);rfl
 | int i=>obtain⟨t,e⟩:=(show ∃t,u=dX i t from r);cases e;rfl
 | str x=>obtain⟨t,e⟩:=(show ∃t,u=iu x t from r);cases e;rfl
 | byt b=>obtain⟨t,e⟩:=(show ∃t,u=qx b t from r);cases e;rfl
 | flt b=>obtain⟨t,e⟩:=(show ∃t,u=qy b t from r);cases e;rfl
 | ref a=>cases(show u=cR a from r);rfl
 | ty n=>cases(show u=dL n from r);rfl
section
variable{P:cT}{w:dc}{H H':Hp}{h h':Heap}{a C dx:cG}{fs fs':List (Str×V)}
theorem yc(hok:HOk P w H h)(e:H a=some (.ins C dx fs)):∃mA,ObjM h a dx C mA/\(∀f,RelO (fs.lookup f) (mA f))/\lp mA (fs.map (·.1))/\fs.length<=1000/\H dx=some (.own a):=by
 obtain⟨d,z,b,c,mA,n,r,q⟩:=(show ObjOk P w H h a (.ins C dx fs)from hok a _ e);exact⟨mA,⟨c,n,b⟩,r,q,z,d⟩
end
structure Cls(K:cu)(C:cG):Prop where
 pg:jG K C ea=true
 hd:kz K C=true
 po:m9 K C=true
 sa:gm K (.ref C) "__setattr__"=some (some (.builtin "object.__setattr__"))
theorem Cls.get{K:cu}{C:cG}(c:Cls K C)(f:Str):jG K C f=true:=c.pg
def NoAttr(K:cu)(C:cG)(f:Str):Prop:=gm K (.ref C) f=some none
theorem NoAttr.taker{K:cu}{C:cG}{f:Str}(n:NoAttr K C f):lF K C f=some none:=by
 unfold lF;rw[show gm K (.ref C) f=some none from n];rfl
structure Jr(K:cu)(C:cG)(m:Str)(f:cG):Prop where
 at_:gm K (.ref C) m=some (some (.ref f))
 fn:m7 K (.ref f)=true
 kp:iH K (.ref f)=true
section
variable{X:Cx}{pins:List (cG×Obj)}{σ:St}{H:Hp}{s:cD}{a C dx:cG}{fs:List (Str×V)}{f:Str}{v:V}{A:dw}{E:cA->cD->Prop}
theorem zv{b:Bool}{Q:cA->cD->Prop}(I:Inv X pins σ H s)(e:H a=some (.ins C dx fs))(c:Cls X.K C)(n:NoAttr X.K C f)(l:fs.lookup f=some v)
  (h:∀u s',Inv X pins σ H s'->RelV v u->Q u s'):wpAny (model X.prog X.w) A (getAttr (.ref a) f b) Q E s:=by
 obtain⟨g,O,r,_,_,_⟩:=yc I.hok e
 obtain⟨u,j,d⟩:=RelO.some_of (v:=v) (o:=g f) (by rw[<-l];exact r f)
 exact C3 I.kIn O (c.get f) c.hd n j (A5 d) (h u _ (I.tok _) d)
theorem t6{m:Str}{g:cG}{pl:Sem Bool}{Q:cA×List cA->cD->Prop}(I:Inv X pins σ H s)(e:H a=some (.ins C dx fs))(c:Cls X.K C)(k:Jr X.K C m g)(l:fs.lookup m=none)
  (h:Q (.ref g,[.ref a]) s):wpAny (model X.prog X.w) A (getMethod (.ref a) m pl) Q E s:=by
 obtain⟨b,O,r,_,_,_⟩:=yc I.hok e
 have d:b m=none:=RelO.none_of (by rw[<-l];exact r m)
 exact BO I.kIn O (c.get m) k.at_ k.fn d h
theorem zB{y:V}{u:cA}{Q:Unit->cD->Prop}(I:Inv X pins σ H s)(e:H a=some (.ins C dx fs))(c:Cls X.K C)(n:NoAttr X.K C f)(hl:fs.length<1000)(ry:RelV y u)
  (h:∀s',Inv X pins σ (upd H a (.ins C dx (EF f y fs))) s'->Q () s'):wpAny (model X.prog X.w) A (setAttr (.ref a) f u) Q E s:=by
 obtain⟨k,O,r,l,_,j⟩:=yc I.hok e
 have D:(fs.map (·.1)).length<=sizeLine:=by rw[cx,lY];omega
 refine CM I.kIn O c.sa c.po n.taker c.hd l D λF d B=>h _ ?_
 have v:∃o,F.get? dx=some o:=let⟨o,_,_,m,_⟩:=d.ns;⟨o,m⟩
 refine I.write (x:=a) (e:=dx) (by rw[e];exact True.intro) (.inr j) (λb q t z=>(B.2 b t).trans z) v ?_
 refine⟨by rw[rG O.ne];exact j,?_,O.ne,d.obj,_,d.ns,λg=>?_,λg p=>?_⟩
 ·have:=vq f y fs;omega
 ·show RelO ((EF f y fs).lookup g) (if g=f then some u else k g)
  rw[vx]
  by_cases q:g=f
  ·rw[if_pos q,if_pos q];exact ry
  ·rw[if_neg q,if_neg q];exact r g
 ·by_cases q:g=f
  ·rw[q];exact(vO f y fs).1
  ·refine(vO f y fs).2 g (l g λz=>p ?_)
   show(if g=f then some u else k g)=none
   rw[if_neg q];exact z
theorem Inv.made(I:Inv X pins σ H s):Inv X pins σ (upd (upd H s.heap.objs.size (.own (s.heap.objs.size+1))) (s.heap.objs.size+1) (.ins C s.heap.objs.size []))
  {s with heap:=(s.heap.push fL).push (gu C s.heap.objs.size)}:=by
 have d:(s.heap.push fL).get? s.heap.objs.size=some fL:=cN s.heap rfl
 have k:((s.heap.push fL).push (gu C s.heap.objs.size)).get? (s.heap.objs.size+1)=some (gu C s.heap.objs.size):=by
  have:=cN (s.heap.push fL) (o:=gu C s.heap.objs.size) rfl
  rwa[gn]at this
 have f:(s.heap.push fL).Ns s.heap.objs.size (λ_=>none):=⟨fL,#[],_,d,rfl,(λe h=>absurd h (by simp)),λ_=>rfl⟩
 have j:=I.laid (a:=s.heap.objs.size) (o:= .own (s.heap.objs.size+1)) (h':=s.heap.push fL) (t':=s.toks) (λb u q=>cF _ q) (cI _) ⟨_,d⟩
 refine j.laid (a:=s.heap.objs.size+1) (o:= .ins C s.heap.objs.size []) (t':=s.toks) (λb u q=>cF _ q) (na (gn _ _)) ?_
 have c:s.heap.objs.size≠s.heap.objs.size+1:=df (dH _)
 refine⟨by rw[rG c,rz],du _,c,k,λ_=>none,(Heap.Ns1.of_empty f).at λo q=>cF _ q,λ_=>True.intro,λy g=>absurd rfl g⟩
theorem Dm{prog:cT}{w:dc}{env:Env}{e:Expr}{f:Str}{pos:Pos}{s:cD}{Q:cA->cD->Prop}(hb:attributeBase e f env (eval e env)=eval e env)
  (h:wpAny (model prog w) A (eval e env) (λo s₁=>wpAny (model prog w) A (getAttr o f true) Q E s₁) E s):wpAny (model prog w) A (eval (.Attribute e f pos) env) Q E s:=
 Attribute_any_ h (by rw[arm_eval_Attribute,hb])
end
def K4(K:cu)(ta:TE)(f:Str):TE:=λσ H Q=>ta σ H λx H1=>∃a C dx fs v,x = .ref a/\H1 a=some (.ins C dx fs)/\Cls K C/\NoAttr K C f/\fs.lookup f=some v/\Q v H1
def Ms(K:cu)(ta tv:TE)(f:Str):TS:=λD σ H=>tv σ H λy H1=>ta σ H1 λx H2=>∃a C dx fs,x = .ref a/\H2 a=some (.ins C dx fs)/\Cls K C/\NoAttr K C f/\fs.length<1000/\
 D.nx σ (upd H2 a (.ins C dx (EF f y fs)))
section
variable{X:Cx}{o e value:Expr}{f:Str}{pos pos' tpos:Pos}{ta tv:TE}
theorem uG(he:PE X e ta)(hb:attributeBase e f X.env (eval e X.env)=eval e X.env):PE X (.Attribute e f pos) (K4 X.K ta f):=by
 intro b s m H Q I h;refine Dm hb (Ei (he b s m H _ I h) λu y ⟨x,d,o,j,a,C,A,w,v,r,p,c,n,l,q⟩=>?_);subst r;obtain rfl:u=cR a:=j;exact zv o p c n l λz t k g=>⟨v,d,k,g,q⟩
theorem Bi(ha:PE X o ta)(hv:PE X value tv)(hs:swapsWith value (some (.Attribute o f pos')) pos.line X.env=pure false):PS X (.Assign [.Attribute o f pos'] value pos) (Ms X.K ta tv f):=by
 intro b s d H D I h;refine plainObj_wpAny_Assign_Attribute (Ei (hv b s d H _ I h) λu k ⟨y,e,w,m,q⟩=>Ei (ha b k d e _ w q) λv A ⟨x,G,t,j,a,C,F,B,z,g,c,n,l,p⟩=>?_) hs;subst z;obtain rfl:v=cR a:=j;exact zB t g c n l m λE r=>⟨d,_,r,p⟩
theorem methcall_of{pl:Sem Bool}{m:Str}{apos:Pos}{args:List Expr}{pins:List (cG×Obj)}{s:cD}{σ:St}{H:Hp}{Q:cA->cD->Prop}{te:TE}(he:PE X e te)(I:Inv X pins σ H s)
  (h:te σ H λx H1=>∃a C dx fs g,x = .ref a/\H1 a=some (.ins C dx fs)/\Cls X.K C/\Jr X.K C m g/\fs.lookup m=none/\
   ∀s1,Inv X pins σ H1 s1->wpAny (model X.prog X.w) X.A (callWith pos (.ref g) [.ref a] (backTo pos (dh args X.env)) (backToKw pos (keywordEach [] X.env))) Q X.xe s1)
  (ht:eval (.Call (.Attribute e m apos) args [] pos) X.env=(do
   let ov<-eval e X.env
   standAt apos.atName
   let(f,first)<-holding [ov] (getMethod ov m pl)
   callWith pos f first (backTo pos (dh args X.env)) (backToKw pos (keywordEach [] X.env)))):
  wpAny (model X.prog X.w) X.A (eval (.Call (.Attribute e m apos) args [] pos) X.env) Q X.xe s:=by
 refine iy (pl:=pl) (Ei (he pins s σ H _ I h) λu s1 ⟨x,H1,b,j,a,C,dx,fs,g,n,d,c,k,l,q⟩=>?_) ht
 subst n
 obtain rfl:u=cR a:=j
 exact t6 b d c k l (q s1 b)
end
structure Room(k:Nat)(A:dw):Prop where
 hd:A.handled=none
 dp:A.depth+3*k+5<recursionLimit
 un:A.units+16*k+200<cLine
theorem Room.mono{j k:Nat}{A:dw}(r:Room k A)(h:j<=k):Room j A:=⟨r.hd,by have:=r.dp;omega,by have:=r.un;omega⟩
theorem Room.deeper{k:Nat}{A:dw}(r:Room (k+1) A)(env:Env):Room k (A.deeper env):=
 ⟨r.hd,by have:=r.dp;show A.depth+1+3*k+5<_;omega,by have:=r.un;show A.units+3+16*k+200<_;omega⟩
theorem y8{A:dw}{C:cG}{us:List cA}{kw:List (Str×cA)}:(A.under (.builtin "type.__call__" ⟨.ref C::us,kw⟩)).depth=A.depth+1:=by
 first|rfl|simp[nc,Code.weight,Code.isCreation,Code.isGuard,Code.isCaller,Code.frames,Code.isFrame,guardIds]
theorem y3{A:dw}{C:cG}{us:List cA}{kw:List (Str×cA)}:(A.under (.builtin "type.__call__" ⟨.ref C::us,kw⟩)).units=A.units+1:=by
 first|rfl|simp[nc,Code.cUnits,Code.frames,Code.isFrame]
theorem Room.make{k:Nat}{A:dw}(r:Room (k+1) A)(C:cG)(us:List cA)(kw:List (Str×cA)):Room k (A.under (.builtin "type.__call__" ⟨.ref C::us,kw⟩)):=
 ⟨r.hd,by have:=r.dp;rw[y8];omega,by have:=r.un;rw[y3];omega⟩
theorem Room.depth{k:Nat}{A:dw}(r:Room k A):A.depth<recursionLimit:=by have:=r.dp;omega
theorem Room.units{k:Nat}{A:dw}(r:Room k A):A.units+64<cLine:=by have:=r.un;omega
def Ks:TA:=λ_ H Q=>Q [] H
def Le(ta:TE)(tr:TA):TA:=λσ H Q=>ta σ H λx H1=>tr σ H1 λxs H2=>Q (x::xs) H2
section
variable{X:Cx}{e:Expr}{es:List Expr}{te:TE}{t:TA}{pos:Pos}
theorem rq:PA X [] Ks:=λ_ _ _ _ H Q I h=>kA ⟨[],H,I,.nil,h⟩
theorem mM(ha:PE X e te)(hr:PA X es t)(hs:dh (e::es) X.env=(false,eval e X.env)::dh es X.env:=by rfl):PA X (e::es) (Le te t):=by
 intro b a s c H Q I h;rw[hs];show wpAny _ _ (spliced ((false,eval e X.env)::backTo b (dh es X.env))) _ _ s;refine fF (Ei (ha a s c H _ I h) λu g ⟨x,d,o,n,f⟩=>?_);exact Ei (hr b a g c d _ o f) λr q ⟨k,p,m,l,j⟩=>⟨x::k,p,m,.cons n l,j⟩
def Mr(t:TA):TE:=λσ H Q=>t σ H λxs H1=>xs.length<=sizeLine/\∀p,H1 p=none->Q (.ref p) (upd H1 p (.tup xs))
def L5(t:TA):TE:=λσ H Q=>t σ H λxs H1=>xs.length<=sizeLine/\∀p,H1 p=none->Q (.ref p) (upd H1 p (.lst xs))
theorem sE{x1}(h:PA X es t):PE X (.Tuple es x1 pos) (Mr t):=by
 intro c s l H Q I k;refine wpAny_Tuple_spliced (Ei (h pos c s l H _ I k) λj a ⟨g,d,f,r,z,q⟩=>⟨by rw[<-r.length];exact z,?_⟩);have m:d a.heap.objs.size=none:=f.hok.fresh (cI _);refine⟨.ref a.heap.objs.size,upd d a.heap.objs.size (.tup g),f.laid (t':=a.toks) (λb u e=>cF _ e) (cI _) ?_,rfl,q _ m⟩;exact⟨z,j,r,⟨_,cN _ rfl,rfl,_,rfl⟩⟩
theorem t5(h:PA X es t):PE X (.List es pos) (L5 t):=by
 intro c s l H Q I k;refine wpAny_List_spliced (Ei (h pos c s l H _ I k) λj a ⟨g,d,f,r,z,q⟩=>⟨by rw[<-r.length];exact z,?_⟩);have m:d a.heap.objs.size=none:=f.hok.fresh (cI _);refine⟨.ref a.heap.objs.size,upd d a.heap.objs.size (.lst g),f.laid (t':=a.toks) (λb u e=>cF _ e) (cI _) ?_,rfl,q _ m⟩;exact⟨z,j,0,r,cN _ rfl⟩
end
abbrev Sp:=List V->Hp->VK->XK->Prop
abbrev Hl:=List Env->Hp->cD->XK->cA->cD->Prop
structure Env0(P:cT)(w:dc)(K:cu)(mg:Str->Option cA)(base:Heap)(A:dw)(outer:List Env)(s:cD)(H:Hp):Prop where
 frames:A.frames=some outer
 mod:Mod K mg base
 bs:∀b o,base.get? b=some o->s.heap.get? b=some o/\H b=none
 bsz:base.objs.size<=s.heap.objs.size
 funs:s.heap.FunFrames base outer
 frf:∀b∈Fj outer,H b=none
 hok:HOk P w H s.heap
 bare:AllBare s.gens
def CE(outer:List Env)(P:cT)(w:dc)(H:Hp)(s:cD)(Q:VK)(u:cA)(s':cD):Prop:=
 ∃v H',s'.os=s.os/\AllBare s'.gens/\Un (Fj outer) [] H H' s.heap s'.heap/\HOk P w H' s'.heap/\RelV v u/\Q v H'
def CR(CX:Hl)(outer:List Env)(P:cT)(w:dc)(H:Hp)(s:cD)(Q:VK)(E:XK)(r:Result)(s':cD):Prop:=
 match r with
 | .ok (.ret u)=>CE outer P w H s Q u s'
 | .ok _=>False
 | .error e=>CX outer H s E e s'
structure FnOk(P:cT)(w:dc)(K:cu)(mg:Str->Option cA)(base:Heap)(CX:Hl)(k:Nat)(f:cG)(fd:FuncData)(ps:List Str)(sp:Sp):Prop where
 len:∀vs H Q E,sp vs H Q E->vs.length=ps.length
 run:∀(A:dw) (outer:List Env) (s:cD) (H:Hp) (args:Args) (us:List cA) (vs:List V) (Q:VK) (E:XK),Room k A->Env0 P w K mg base A outer s H->BindsTo s fd args (ps.zip us)->Vals vs us->sp vs H Q E->
  codeAny (model P w) A (.call (.ref f) args) (CR CX outer P w H s Q E) s
theorem FnOk.imp{P:cT}{w:dc}{K:cu}{mg:Str->Option cA}{base:Heap}{CX:Hl}{k:Nat}{f:cG}{fd:FuncData}{ps:List Str}{sp sp':Sp}(F:FnOk P w K mg base CX k f fd ps sp)
  (h:∀vs H Q E,sp' vs H Q E->sp vs H Q E):FnOk P w K mg base CX k f fd ps sp':=
 ⟨λvs H Q E q=>F.len vs H Q E (h _ _ _ _ q),λA a s H b l vs Q E c d j e g=>F.run A a s H b l vs Q E c d j e (h _ _ _ _ g)⟩
theorem Env0.make{P:cT}{w:dc}{K:cu}{mg:Str->Option cA}{base:Heap}{A:dw}{outer:List Env}{s:cD}{H:Hp}(e:Env0 P w K mg base A outer s H)(C:cG)(us:List cA)(kw:List (Str×cA)):
  Env0 P w K mg base (A.under (.builtin "type.__call__" ⟨.ref C::us,kw⟩)) outer s H:=⟨by first|exact e.frames|(simpa [nc,Code.envs,Code.isFrame,pushEnvs]using e.frames),e.mod,e.bs,e.bsz,e.funs,e.frf,e.hok,e.bare⟩
section
variable{X:Cx}{pins:List (cG×Obj)}{σ:St}{H:Hp}{s s':cD}
theorem Inv.env0(I:Inv X pins σ H s):Env0 X.prog X.w X.K X.mg X.base X.A X.stack s H:=
 ⟨I.ok.frames,I.ok.mod,I.bs,dg I.ok.bsz I.sz,I.stack,I.stkFree,I.hok,I.bare⟩
theorem Inv.after{Q:VK}{u:cA}(I:Inv X pins σ H s)(h:CE X.stack X.prog X.w H s Q u s'):EP X pins σ Q u s':=by
 obtain⟨v,j,f,a,l,c,r,q⟩:=h;obtain⟨k,g,d,t,e⟩:=s';obtain rfl:e=s.os:=f;exact⟨v,j,I.call (h':=k) (g':=g) (d':=d) (t':=t) (ch:=[]) l c a (λb z=>absurd z (by simp)),r,q⟩
end
def Kn(sp:Sp)(dvs:List V)(E:XK)(t:TA):TE:=λσ H Q=>t σ H λvs H1=>sp (vs++dvs) H1 Q E
def Ib(C:cG)(m:Str)(sp:Sp)(dvs:List V)(E:XK)(ta:TE)(t:TA):TE:=λσ H Q=>ta σ H λx H1=>∃a dx fs,x = .ref a/\H1 a=some (.ins C dx fs)/\fs.lookup m=none/\
 t σ H1 λvs H2=>sp (x::(vs++dvs)) H2 Q E
def Km(C:cG)(sp:Sp)(dvs:List V)(E:XK)(t:TA):TE:=λσ H Q=>t σ H λvs H1=>∀x dx,H1 x=none->H1 dx=none->dx≠x->
 sp (.ref x::(vs++dvs)) (upd (upd H1 dx (.own x)) x (.ins C dx [])) (λv H2=>v = .non/\Q (.ref x) H2) E
def Binds(K:cu)(fd:FuncData)(ps:List Str)(ds:List cA):Prop:=
 ∀(s:cD) (us:List cA),K.In s.heap->(us++ds).length=ps.length->BindsTo s fd ⟨us,[]⟩ (ps.zip (us++ds))
theorem Binds.all{K:cu}{fd:FuncData}{ps:List Str}(h:∀us:List cA,us.length=ps.length->bindArgs fd ⟨us,[]⟩=pure (ps.zip us)):Binds K fd ps []:=λs us _ a=>by
 rw[fT]at a ⊢;exact .of_eq (h us a)
def EC(CX:Hl)(X:Cx)(E:XK):Prop:=∀(pins:List (cG×Obj)) (σ:St) (H:Hp) (s:cD) (e:cA) (s':cD),Inv X pins σ H s->CX X.stack H s E e s'->X.xe e s'
section
variable{X:Cx}{CX:Hl}{k:Nat}{f C:cG}{fd:FuncData}{ps:List Str}{sp:Sp}{dvs:List V}{ds:List cA}{E:XK}{x m:Str}{p pos apos:Pos}{e o:Expr}{es:List Expr}{ta:TE}{t:TA}
theorem AM{pins:List (cG×Obj)}{σ:St}{H:Hp}{s:cD}{Q:VK}{us:List cA}{vs:List V}(F:FnOk X.prog X.w X.K X.mg X.base CX k f fd ps sp)(hr:Room k X.A)(hb:Binds X.K fd ps ds)(hd:Vals dvs ds)(hx:EC CX X E)
  (I:Inv X pins σ H s)(r:Vals vs us)(h:sp (vs++dvs) H Q E):wpAny (model X.prog X.w) X.A (call (.ref f) us) (EP X pins σ Q) X.xe s:=by
 have b:Vals (vs++dvs) (us++ds):=r.append hd
 have g:(us++ds).length=ps.length:=by rw[<-b.length];exact F.len _ _ _ _ h
 refine iI (iW (F.run X.A X.stack s H ⟨us,[]⟩ (us++ds) (vs++dvs) Q E hr I.env0 (hb s us I.kIn g) b h) λr d a=>?_)
 cases r with
 | error e=>exact hx pins σ H s e d I a
 | ok c=>
  cases c with
  | ret u=>exact I.after a
  | next=>exact fh a
  | brk=>exact fh a
  | cont=>exact fh a
theorem CV(F:FnOk X.prog X.w X.K X.mg X.base CX k f fd ps sp)(hr:Room k X.A)(hg:Gl X x)(hm:X.mg x=some (.ref f))(hk:iH X.K (.ref f)=true)(hb:Binds X.K fd ps ds)(hd:Vals dvs ds)(hx:EC CX X E)
  (ha:PA X (e::es) t)(hdb:(x==("__debug__":Str))=false:=by decide)(he:dh (e::es) X.env=(false,eval e X.env)::dh es X.env:=by rfl)(hpl:(backTo pos (dh es X.env)).any (·.1)=false:=by rfl):
  PE X (.Call (.Name x p) (e::es) [] pos) (Kn sp dvs E t):=by
 intro a s c H Q I h
 refine fG (vh I hg hm ?_ hdb)
 refine je (h₀:=X.base) I.ok.mod.kin hk (Ei (ha pos a s c H _ I h) λj d ⟨vs,g,b,r,q⟩=>⟨b.kIn,?_⟩) he hpl
 exact AM F hr hb hd hx b r q
theorem C8{pl:Sem Bool}(he:PE X o ta)(c:Cls X.K C)(hm:Jr X.K C m f)(F:FnOk X.prog X.w X.K X.mg X.base CX k f fd ps sp)(hr:Room k X.A)(hb:Binds X.K fd ps ds)(hd:Vals dvs ds)(hx:EC CX X E)(ha:PA X (e::es) t)
  (hst:dh (e::es) X.env=(false,eval e X.env)::dh es X.env:=by rfl)(hpl:(backTo pos (dh es X.env)).any (·.1)=false:=by rfl)
  (ht:eval (.Call (.Attribute o m apos) (e::es) [] pos) X.env=(do
   let ov<-eval o X.env
   standAt apos.atName
   let(f,first)<-holding [ov] (getMethod ov m pl)
   callWith pos f first (backTo pos (dh (e::es) X.env)) (backToKw pos (keywordEach [] X.env))):=by rfl):
  PE X (.Call (.Attribute o m apos) (e::es) [] pos) (Ib C m sp dvs E ta t):=by
 intro b s g H Q I h
 refine iy (pl:=pl) (Ei (he b s g H _ I h) λu y ⟨x,n,j,v,a,J,G,z,p,l,q⟩=>?_) ht
 subst z
 obtain rfl:u=cR a:=v
 refine t6 j p c hm l ?_
 refine je (first:=[.ref a]) (h₀:=X.base) I.ok.mod.kin hm.kp (Ei (ha pos b y g n _ j q) λus D ⟨vs,L,d,r,B⟩=>⟨d.kIn,?_⟩) hst hpl
 exact AM (us:= .ref a::us) (vs:= .ref a::vs) F hr hb hd hx d (.cons rfl r) B
theorem BA{pl:Sem Bool}(he:PE X o ta)(c:Cls X.K C)(hm:Jr X.K C m f)(F:FnOk X.prog X.w X.K X.mg X.base CX k f fd ps sp)(hr:Room k X.A)(hb:Binds X.K fd ps ds)(hd:Vals dvs ds)(hx:EC CX X E)
  (ht:eval (.Call (.Attribute o m apos) [] [] pos) X.env=(do
   let ov<-eval o X.env
   standAt apos.atName
   let(f,first)<-holding [ov] (getMethod ov m pl)
   callWith pos f first (backTo pos (dh [] X.env)) (backToKw pos (keywordEach [] X.env))):=by rfl):
  PE X (.Call (.Attribute o m apos) [] [] pos) (Ib C m sp dvs E ta Ks):=by
 intro b s g H Q I h
 refine iy (pl:=pl) (Ei (he b s g H _ I h) λu t ⟨x,p,d,e,a,v,r,n,j,l,q⟩=>?_) ht
 subst n
 obtain rfl:u=cR a:=e
 refine t6 d j c hm l ?_
 exact PySem.W.callWith_K0 (first:=[.ref a]) d.kIn hm.kp (AM (us:=[.ref a]) (vs:=[.ref a]) F hr hb hd hx d (.cons rfl .nil) q)
structure Mk(K:cu)(C f:cG):Prop where
 makes:oq K C=true
 init:gm K (.ref C) "__init__"=some (some (.ref f))
 fn:m7 K (.ref f)=true
 kp:iH K (.ref C)=true
theorem BF{pins:List (cG×Obj)}{σ:St}{H:Hp}{s:cD}{Q:VK}{us:List cA}{vs:List V}(M:Mk X.K C f)(F:FnOk X.prog X.w X.K X.mg X.base CX k f fd ps sp)(hr:Room (k+1) X.A)(hb:Binds X.K fd ps ds)(hd:Vals dvs ds)
  (hx:EC CX X E)(I:Inv X pins σ H s)(r:Vals vs us)
  (h:∀x dx,H x=none->H dx=none->dx≠x->sp (.ref x::(vs++dvs)) (upd (upd H dx (.own x)) x (.ins C dx [])) (λv H2=>v = .non/\Q (.ref x) H2) E):
  wpAny (model X.prog X.w) X.A (call (.ref C) us) (EP X pins σ Q) X.xe s:=by
 have d:=h (s.heap.objs.size+1) s.heap.objs.size (I.hok.fresh (ec _)) (I.hok.fresh (cI _)) (df (dH _))
 have b:=Inv.made (C:=C) I
 have c:Vals (V.ref (s.heap.objs.size+1)::(vs++dvs)) (cR (s.heap.objs.size+1)::(us++ds)):= .cons rfl (r.append hd)
 have n:(cR (s.heap.objs.size+1)::us++ds).length=ps.length:=by
  have e:=c.length
  rw[F.len _ _ _ _ d]at e
  exact e.symm
 refine iI (Bx (f:=f) I.kIn M.makes M.init (beq_iff_eq.mp M.fn) (iW (F.run _ X.stack _ _ ⟨cR (s.heap.objs.size+1)::us,[]⟩ (cR (s.heap.objs.size+1)::(us++ds)) _ _ E (hr.make C us [])
  (b.env0.make C us []) (hb _ (cR (s.heap.objs.size+1)::us) b.kIn n) c d) λr l a=>?_))
 cases r with
 | error e=>exact hx pins σ _ _ e l b a
 | ok j=>
  cases j with
  | ret u=>
   obtain⟨v,m,o,p,ev,g⟩:=b.after a
   subst ev
   exact⟨p,⟨V.ref (s.heap.objs.size+1),m,o,rfl,g⟩⟩
  | next=>exact fh a
  | brk=>exact fh a
  | cont=>exact fh a
theorem Dl(M:Mk X.K C f)(F:FnOk X.prog X.w X.K X.mg X.base CX k f fd ps sp)(hr:Room (k+1) X.A)(hg:Gl X x)(hm:X.mg x=some (.ref C))(hb:Binds X.K fd ps ds)(hd:Vals dvs ds)(hx:EC CX X E)
  (ha:PA X (e::es) t)(hdb:(x==("__debug__":Str))=false:=by decide)(he:dh (e::es) X.env=(false,eval e X.env)::dh es X.env:=by rfl)(hpl:(backTo pos (dh es X.env)).any (·.1)=false:=by rfl):
  PE X (.Call (.Name x p) (e::es) [] pos) (Km C sp dvs E t):=by
 intro a s c H Q I h
 refine fG (vh I hg hm ?_ hdb)
 refine je (h₀:=X.base) I.ok.mod.kin M.kp (Ei (ha pos a s c H _ I h) λj d ⟨vs,g,b,r,q⟩=>⟨b.kIn,?_⟩) he hpl
 exact BF M F hr hb hd hx b r q
end
structure Ea(N P:List Str)(sc:Scope):Prop where
 kind:sc.kind = .function
 co:sc.isCoroutine=false
 gen:sc.isGenerator=false
 nd:N.Nodup
 pre:N.take P.length=P
 par:∀x∈P,sc.names.lookup x=some .local\/sc.names.lookup x=some .cell
 nofree:∀y∈sc.names,y.2≠ .free
theorem w8{kindOf:Str->Option io}{x:Str}:∀{binds:List (Str×cA)} {m:Str->Option cA},(∀v,(x,v)∉binds)->bindL kindOf binds m x=m x
 | [],_,_=>rfl
 | (n,v)::r,m,h=>by
  unfold bindL
  rw[w8 λw a=>h w (cO _ a)]
  split
  ·have:x≠n:=by rintro rfl;exact h v cM
   simp[this]
  ·rfl
theorem xD{kindOf:Str->Option io}{x:Str}:∀{binds:List (Str×cA)} {m:Str->Option cA},(∀v,(x,v)∉binds)->bindC kindOf binds m x=m x
 | [],_,_=>rfl
 | (n,v)::r,m,h=>by
  unfold bindC
  rw[xD λw a=>h w (cO _ a)]
  split
  ·rfl
  ·have:x≠n:=by rintro rfl;exact h v cM
   simp[this]
theorem xy{kindOf:Str->Option io}{x:Str}{v:cA}:∀{P:List Str} {vs:List cA} {i:Nat} {m:Str->Option cA},P.Nodup->P[i]?=some x->vs[i]?=some v->kindOf x=some .local->
  bindL kindOf (P.zip vs) m x=some v
 | [],_,_,_,_,h,_,_=>by simp at h
 | _::_,[],_,_,_,_,h,_=>by simp at h
 | p::P,w::vs,0,m,nd,h1,h2,hk=>by
  simp at h1 h2;subst h1;subst h2
  show bindL kindOf ((p,w)::P.zip vs) m p=_
  unfold bindL
  rw[w8 λv a=>(fu.mp nd).1 (jR a).1,if_pos hk]
  simp
 | p::P,w::vs,i+1,m,nd,h1,h2,hk=>by
  show bindL kindOf ((p,w)::P.zip vs) m x=_
  unfold bindL
  exact xy (i:=i) (fu.mp nd).2 (by simpa using h1) (by simpa using h2) hk
theorem xl{kindOf:Str->Option io}{x:Str}{v:cA}:∀{P:List Str} {vs:List cA} {i:Nat} {m:Str->Option cA},P.Nodup->P[i]?=some x->vs[i]?=some v->kindOf x≠some .local->
  bindC kindOf (P.zip vs) m x=some v
 | [],_,_,_,_,h,_,_=>by simp at h
 | _::_,[],_,_,_,_,h,_=>by simp at h
 | p::P,w::vs,0,m,nd,h1,h2,hk=>by
  simp at h1 h2;subst h1;subst h2
  show bindC kindOf ((p,w)::P.zip vs) m p=_
  unfold bindC
  rw[xD λv a=>(fu.mp nd).1 (jR a).1,if_neg hk]
  simp
 | p::P,w::vs,i+1,m,nd,h1,h2,hk=>by
  show bindC kindOf ((p,w)::P.zip vs) m x=_
  unfold bindC
  exact xl (i:=i) (fu.mp nd).2 (by simpa using h1) (by simpa using h2) hk
def start(N:List Str)(vs:List V):St:=vs.map some++fw (N.length-vs.length) none
def Hx(CX:Hl)(P:cT)(w:dc)(K:cu)(mg:Str->Option cA)(base:Heap)(N:List Str)(qual:Str)(scope:Scope)(f:cG)(cd:cA)(A:dw)(outer:List Env)(s:cD)(H:Hp)(E:XK):Cx where
 prog:=P
 w:=w
 K:=K
 mg:=mg
 base:=base
 A:=A.deeper (envOfC qual scope s.heap.objs.size f cd)
 N:=N
 s₀:=s
 H₀:=H
 env:=envOfC qual scope s.heap.objs.size f cd
 outer:=outer
 stack:=envOfC qual scope s.heap.objs.size f cd::outer
 ex:=[]
 calm:=true
 fn:=λ_=>true
 pn:=[]
 xe:=λe s'=>wpAny (model P w) (A.deeper (envOfC qual scope s.heap.objs.size f cd)) (leaving (envOfC qual scope s.heap.objs.size f cd) e) (λ_ s''=>CX outer H s E e s'') (λe' s''=>CX outer H s E e' s'') s'
theorem yT{sc:Scope}{n:Nat}{x:Str}(h:sc.names.lookup x=some .cell):∃c,(cellsFrom n sc.names []).lookup x=some c:=by
 have q:=lr sc.names n [] (.inl h);exact kH.mp q
theorem AO{CX:Hl}{P:cT}{w:dc}{K:cu}{mg:Str->Option cA}{base:Heap}{N ps:List Str}{qual:Str}{scope:Scope}{f:cG}{cd:cA}{A:dw}{outer:List Env}{s s1:cD}{H:Hp}{E:XK}{us:List cA}{vs:List V}
  (S:Ea N ps scope)(hd:A.handled=none)(e0:Env0 P w K mg base A outer s H)(hl:vs.length=ps.length)(r:Vals vs us)
  (x:InCallC s s.heap.objs.size (bindL (envOfC qual scope s.heap.objs.size f cd).kindOf (ps.zip us) λ_=>none) (cellsFrom (s.heap.objs.size+1) scope.names []) (bindC (envOfC qual scope s.heap.objs.size f cd).kindOf (ps.zip us) λ_=>none) s1):
  Inv (Hx CX P w K mg base N qual scope f cd A outer s H E) [] (start N vs) H s1:=by
 have B:ps.length<=N.length:=by have:=congrArg jh S.pre;rw[cV]at this;omega
 obtain⟨h1,tk,rfl,hk⟩:=x.done
 have g:∀b:cG,b∉(Hx CX P w K mg base N qual scope f cd A outer s H E).ex:=λb z=>absurd (show b∈([]:List cG)from z) (by simp)
 refine⟨⟨e0.mod,S.kind,rfl,rfl,cI _,λy z c h1 h2=>?_,λy d=>?_,λy c _ h=>?_,λ_=>hd,Around.frames_deeper e0.frames,.inr ⟨rfl,rfl⟩,λb z=>absurd z (g b),e0.bs,e0.bsz,λb _ _=>g b,λb z=>absurd z (g b),e0.funs,e0.frf⟩,
  rfl,e0.bare,Un.kept hk,⟨_,x.toInCall.ns,λi y v h1 h2 h3=>?_⟩,λy c h=>⟨_,x.cell y c h⟩,e0.hok.fresh (cI _),λy c h=>?_,λp hp=>absurd (show p∈([]:List (cG×Obj))from hp) (by simp),e0.hok.kept hk,?_⟩
 ·exact name_of_addr x.apart (eU h1) (eU h2)
 ·have d:scope.names.lookup y=some .cell\/scope.names.lookup y=some .free:=d
  rcases d with d|d
  ·exact yT d
  ·exact absurd rfl (S.nofree _ (eU d))
 ·exact dB (x.above y c (eU h))
 ·have j:i<vs.length:=by
   unfold start at h2
   by_cases j:i<vs.length
   ·exact j
   ·rw[eY (by simpa using j)]at h2
    rw[List.getElem?_replicate]at h2
    split at h2 <;> cases h2
  have o:vs[i]?=some v:=by
   unfold start at h2
   rw[gM (by simpa using j),cH]at h2
   cases e:vs[i]? with
   | none=>rw[e]at h2;cases h2
   | some a=>rw[e]at h2;cases h2;rfl
  obtain⟨u,m,t⟩:=r.get o
  have hp:ps[i]?=some y:=by
   rw[<-S.pre,gV (by omega)];exact h1
  have l:ps.Nodup:=by rw[<-S.pre];exact S.nd.sublist (List.take_sublist _ _)
  refine⟨u,t,?_⟩
  rcases S.par y (da hp)with k|k
  ·exact .inl ⟨k,xy l hp m k⟩
  ·obtain⟨c,e⟩:=yT (n:=s.heap.objs.size+1) k
   refine .inr ⟨.inl k,c,e,?_⟩
   have q:=x.cell y c e
   rw[xl l hp m (by show scope.names.lookup y≠_;rw[k];decide)]at q
   exact q
 ·exact e0.hok.fresh (dB (x.above y c (eU h)))
 ·unfold start
  show _=N.length
  rw[dq,cx,eS]
  omega
theorem BS{CX:Hl}{P:cT}{w:dc}{K:cu}{mg:Str->Option cA}{base:Heap}{k:Nat}{f:cG}{name qual:Str}{params:Arguments}{body:List Stmt}{scope:Scope}{dV kV doc pm cdv ct oc:cA}{an od:Option cG}
  {osl:Array (Option cA)}{N ps:List Str}{sp:Sp}(lk:K.lookup f=some ⟨oc,od,.func (f7 name qual params body scope dV kV doc pm an cdv ct),osl⟩)(hcd:lZ K cdv qual=true)(S:Ea N ps scope)
  (len:∀vs H Q E,sp vs H Q E->vs.length=ps.length)
  (hbody:∀(A:dw) (outer:List Env) (s:cD) (H:Hp) (vs:List V) (Q:VK) (E:XK),Room k (A.deeper (envOfC qual scope s.heap.objs.size f cdv))->sp vs H Q E->
   ∃t,PSs (Hx CX P w K mg base N qual scope f cdv A outer s H E) body t/\t {nx:=λ_ H'=>Q .non H',rt:=Q} (start N vs) H):
  FnOk P w K mg base CX (k+1) f (f7 name qual params body scope dV kV doc pm an cdv ct) ps sp:=by
 refine⟨len,λA outer s H M G vs Q E j d F r h=>?_⟩
 have T:=len _ _ _ _ h
 have B:K.In s.heap:=d.mod.kin.keeps λb o e=>(d.bs b o e).1
 have z:s.heap.NoLimit:=d.mod.nolimit.keeps λb o e=>(d.bs b o e).1
 have g:∀y∈ps.zip G,scope.names.lookup y.1=some .local\/(scope.names.lookup y.1=some .cell/\((cellsFrom (s.heap.objs.size+1) scope.names []).lookup y.1).isSome=true):=λ⟨n,v⟩ D=>by
  rcases S.par n (jR D).1 with q|q
  ·exact .inl q
  ·exact .inr ⟨q,lr _ _ _ (.inl q)⟩
 refine codeAny_call_function j.depth (B _ _ lk) rfl S.co S.gen rfl (PySem.W.codeRec_of B hcd) (F _ _ _ _ ?_)
 refine wpAny_newFunctionEnv_cells S.kind g λU C p x=>?_
 subst C
 refine⟨z.keeps x.toInCall.keep,codeAny_func ?_⟩
 obtain⟨t,O,L⟩:=hbody A outer s H vs Q E (j.deeper _) h
 have I:Inv (Hx CX P w K mg base N qual scope f cdv A outer s H E) [] (start N vs) H p:=AO S j.hd d T r x
 refine gh (O [] p (start N vs) H _ I L) (λR l c=>?_) λe l c=>c
 have fin:∀{a:St} {H':Hp} {v:V} {u:cA},Inv (Hx CX P w K mg base N qual scope f cdv A outer s H E) [] a H' l->RelV v u->Q v H'->CE outer P w H s Q u l:=
  λ {a H' v u} J m q=>⟨v,H',J.os,J.bare,J.base,J.hok,m,q⟩
 cases R with
 | ret u=>
  obtain⟨v,a,H',J,m,q⟩:=c
  exact fin J m q
 | next=>
  obtain⟨a,H',J,q⟩:=c
  exact fin (v:=V.non) (u:=cA.none) J rfl q
 | brk=>
  obtain⟨_,_,_,q⟩:=c
  exact fh q
 | cont=>
  obtain⟨_,_,_,q⟩:=c
  exact fh q
section
variable{X:Cx}{x:Str}{p pos:Pos}{e:Expr}{es:List Expr}{t:TA}{id T:String}{r:List V->Hp->VK->Prop}
def ME(r:List V->Hp->VK->Prop)(t:TA):TE:=λσ H Q=>t σ H λvs H1=>r vs H1 Q
theorem rH(hc:EJ X (.builtin id) r)(hg:Gl X x)(hm:X.mg x=none)(hv:bootBuiltins x=some (.builtin id))(ha:PA X (e::es) t)(hn:x≠"__name__":=by decide)(hdb:(x==("__debug__":Str))=false:=by decide)
  (he:dh (e::es) X.env=(false,eval e X.env)::dh es X.env:=by rfl)(hpl:(backTo pos (dh es X.env)).any (·.1)=false:=by rfl):PE X (.Call (.Name x p) (e::es) [] pos) (ME r t):=by
 intro a s b H Q I h
 refine fG (tI I hg hm hv ?_ hn hdb)
 exact g7 (Ei (ha pos a s b H _ I h) λk c ⟨vs,f,g,d,j⟩=>hc a c b f vs k Q g d j) he hpl
theorem sd(hc:EJ X (.type T) r)(hg:Gl X x)(hm:X.mg x=none)(hv:bootBuiltins x=some (.type T))(ha:PA X (e::es) t)(hn:x≠"__name__":=by decide)(hdb:(x==("__debug__":Str))=false:=by decide)
  (he:dh (e::es) X.env=(false,eval e X.env)::dh es X.env:=by rfl)(hpl:(backTo pos (dh es X.env)).any (·.1)=false:=by rfl):PE X (.Call (.Name x p) (e::es) [] pos) (ME r t):=by
 intro a s b H Q I h
 refine fG (tI I hg hm hv ?_ hn hdb)
 exact d7 (Ei (ha pos a s b H _ I h) λk c ⟨vs,f,g,d,j⟩=>hc a c b f vs k Q g d j) he hpl
end
end L2
namespace HT
open PySem PyProof.Rows
section
variable{prog:cT}{w:dc}{A:dw}{E:cA->cD->Prop}{s:cD}
theorem cat_tup{t b:cG}{vs ws:List cA}{Q:cA->cD->Prop}(ht:IsTup s.heap t vs.toArray)(hb:IsTup s.heap b ws.toArray)(hv:vs≠[])
  (h1:ws=[]->Q (.ref t) s)(h2:ws≠[]->Q (.ref s.heap.objs.size) {s with heap:=s.heap.push {cls:= .type "tuple",data:= .seq (vs++ws).toArray}})
  (hsz:vs.length+ws.length<=sizeLine):wpAny (model prog w) A (binaryOp .Add (.ref t) (.ref b)) Q E s:=by
 obtain⟨⟨cls,l,data,p⟩,c,k,n,o⟩:=id ht
 obtain⟨⟨r,g,q,f⟩,a,h,m,j⟩:=id hb
 simp only at k o h j
 subst k o h j
 have e:vs.toArray++ws.toArray=(vs++ws).toArray:=by simp
 by_cases d:ws=[]
 ·exact ng ⟨_,c,rfl⟩ ⟨_,a,rfl⟩ kW mw jq ji (i8 _ _)
   (tuple_addW1 t b vs.toArray ws.toArray n m l g p f (by simpa using hv) (by simp[d])) ⟨c,a,h1 d⟩
 ·refine ng ⟨_,c,rfl⟩ ⟨_,a,rfl⟩ kW mw jq ji (i8 _ _)
   (tuple_addW2 t b vs.toArray ws.toArray n m l g p f (by simpa using hv) (by simpa using d) (by rw[cX,cX];exact hsz)) ⟨c,a,?_⟩
  rw[e]
  exact h2 d
def sIx(n d:Nat):Option Int->Nat
 | none=>d
 | some v=>if v<0 then(v+(n:Int)).toNat else min v.toNat n
end
end HT
namespace L2
open PySem PySem.Spec PyProof.Rows
abbrev TO:=St->Hp->(Option Int->Hp->Prop)->Prop
def PO(X:Cx)(e:Option Expr)(t:TO):Prop:=
 ∀(pins:List (cG×Obj)) (s:cD) (σ:St) (H:Hp) (Q:Option Int->Hp->Prop),Inv X pins σ H s->t σ H Q->
  wpAny (model X.prog X.w) X.A (evalPart e X.env) (λu s'=>∃o H',Inv X pins σ H' s'/\IsPart u o/\Q o H') X.xe s
def J7:TO:=λ_ H Q=>Q none H
def Lr(t:TE):TO:=λσ H Q=>t σ H λx H1=>∃i,x = .int i/\Q (some i) H1
section
variable{X:Cx}{e:Expr}{te:TE}{lo hi:Option Expr}{tl th:TO}{pos p2:Pos}
theorem zT:PO X none J7:=by
 intro a s b H Q I h;rw[pK];exact cv ⟨none,H,I,.none,h⟩
theorem uK(h:PE X e te):PO X (some e) (Lr te):=by
 intro a s d H Q I g;rw[evalPart_some];refine Ei (h a s d H _ I g) λu k ⟨x,c,f,b,j⟩=>?_
 obtain⟨i,rfl,q⟩:=j;obtain⟨t,rfl⟩:=b;exact⟨some i,c,f,.int i t,q⟩
def Mt(X:Cx)(r:V->Option Int->Option Int->Hp->VK->Prop):Prop:=
 ∀(pins:List (cG×Obj)) (s:cD) (σ:St) (H:Hp) (x:V) (v vl vu:cA) (lo hi:Option Int) (sl:cG) (Q:VK),Inv X pins σ H s->RelV x v->s.heap.IsSliceOf sl vl vu .none->IsPart vl lo->IsPart vu hi->r x lo hi H Q->
  ∃T id,typeLookup (.type T) "__getitem__"=pure (some (.builtin id))/\s.TypeIs v T/\wpAny (model X.prog X.w) X.A (getItem v (.ref sl)) (EP X pins σ Q) X.xe s
def MN(r:V->Option Int->Option Int->Hp->VK->Prop)(te:TE)(tl th:TO):TE:=λσ H Q=>te σ H λx H1=>tl σ H1 λl H2=>th σ H2 λu H3=>r x l u H3 Q
theorem u6{r:V->Option Int->Option Int->Hp->VK->Prop}(hr:Mt X r)(he:PE X e te)(hl:PO X lo tl)(hu:PO X hi th):PE X (.Subscript e (.Slice lo hi none p2) pos) (MN r te tl th):=by
 intro a s d H Q I h;refine Subscript_ (Ei (he a s d H _ I h) λv y ⟨x,m,K,G,t⟩=>?_);refine wpAny_Slice (Ei (hl a y d m _ K t) λf k ⟨l,L,E,n,B⟩=>Ei (hu a k d L _ E B) λg c ⟨u,j,C,o,p⟩=>?_);rw[pK];refine cv ?_;have J:Inv X a d j {c with heap:=c.heap.push {cls:= .type "slice",data:= .fields #[f,g,.none]}}:=C.kept (t':=c.toks) λb M q=>cF _ q
 obtain⟨T,id,D,F,z⟩:=hr a {c with heap:=c.heap.push {cls:= .type "slice",data:= .fields #[f,g,.none]}} d j x v f g l u c.heap.objs.size Q J G (qZ ..) n o p;show wpAny (model X.prog X.w) X.A (subscriptTail e (.Slice lo hi none p2) v (.ref c.heap.objs.size)) (EP X a d Q) X.xe {c with heap:=c.heap.push {cls:= .type "slice",data:= .fields #[f,g,.none]}};exact tail_any (ops:=[.ref c.heap.objs.size,v]) F D z (by with_unfolding_all rfl)
def Go(xs:List V)(lo hi:Option Int):List V:=(xs.drop (HT.sIx xs.length 0 lo)).take (HT.sIx xs.length xs.length hi-HT.sIx xs.length 0 lo)
theorem vA(xs:List V)(lo hi:Option Int):(Go xs lo hi).length<=xs.length:=by
 unfold Go;rw[cV,iX];omega
def Lx(K:cu):R2:=λx y H Q=>∃a b xs ys,x = .ref a/\y = .ref b/\SqT K H a xs/\SqT K H b ys/\xs≠[]/\xs.length+ys.length<=sizeLine/\
 (ys=[]->Q (.ref a) H)/\(ys≠[]->∀p,H p=none->Q (.ref p) (upd H p (.tup (xs++ys))))
theorem Vals.nil_iff{xs:List V}{us:List cA}(r:Vals xs us):us=[]↔xs=[]:=by
 cases r with
 | nil=>simp
 | cons _ _=>simp
theorem Db:Fs X (binaryOp .Add) (Lx X.K):=by
 intro t s F H x y v u Q I j k h;obtain⟨a,b,p,r,rfl,rfl,f,n,A,e,g,m⟩:=h
 cases j
 cases k;obtain⟨D,d,B,_⟩:=I.tuple f;obtain⟨C,c,l,_⟩:=I.tuple n;refine HT.cat_tup B l (λz=>A (d.nil_iff.mp z)) (λz=>⟨.ref a,H,I,rfl,g (c.nil_iff.mp z)⟩) (λz=>?_) (by rw[<-d.length,<-c.length];exact e);refine⟨.ref s.heap.objs.size,_,I.laid (t':=s.toks) (o:= .tup (p++r)) (λb E q=>cF _ q) (cI _) ?_,rfl,m (λw=>z (c.nil_iff.mpr w)) _ (I.hok.fresh (cI _))⟩;exact⟨by rw[dq];exact e,_,d.append c,p6 _ _⟩
end
def Js(n:Nat)(i:Int):Option Nat:=if 0<=i then(if i<n then some i.toNat else none)else if -(n:Int)<=i then some (i+n).toNat else none
def G0{α:Type}(xs:List α)(i:Int):Option α:=(Js xs.length i).bind λj=>xs[j]?
theorem Ag{n:Nat}{i:Int}{j:Nat}(h:Js n i=some j):seqIndex? i n=some j/\j<n/\ -(n:Int)<=i/\i<n:=by
 unfold Js at h;by_cases h0:0<=i
 ·rw[if_pos h0]at h;by_cases h1:i<n
  ·rw[if_pos h1]at h;have e:i.toNat=j:=Option.some.inj h;exact⟨by rw[ol h0 h1,e],by omega,by omega,h1⟩
  ·rw[if_neg h1]at h;cases h
 ·rw[if_neg h0]at h;by_cases h1: -(n:Int)<=i
  ·rw[if_pos h1]at h;have e:(i+n).toNat=j:=Option.some.inj h;exact⟨by rw[nh (by omega) h1,e],by omega,h1,by omega⟩
  ·rw[if_neg h1]at h;cases h
theorem yg{α:Type}{xs:List α}{i:Int}{v:α}(h:G0 xs i=some v):∃j,seqIndex? i xs.length=some j/\xs[j]?=some v/\j<xs.length/\ -(xs.length:Int)<=i/\i<xs.length:=by
 unfold G0 at h
 cases e:Js xs.length i with
 | none=>rw[e]at h;cases h
 | some j=>
  rw[e]at h;obtain⟨h1,h2,h3,h4⟩:=Ag e;exact⟨j,h1,h,h2,h3,h4⟩
theorem si{α:Type}{xs:List α}{j:Nat}{v:α}(h:xs[j]?=some v):G0 xs (j:Int)=some v:=by
 have a:j<xs.length:=(cL.mp h).1;have e:Js xs.length (j:Int)=some j:=by
  unfold Js;rw[if_pos (by omega),if_pos (by omega)];simp
 unfold G0;rw[e];exact h
def J9(b:Expr):Prop:=∀o i,subscripted b false o i=operate [o,i] (getItem o i)
def IxR(X:Cx)(r:R2):Prop:=
 ∀(value slice:Expr) (pins:List (cG×Obj)) (s:cD) (σ:St) (H:Hp) (x y:V) (v u:cA) (Q:VK),Inv X pins σ H s->RelV x v->RelV y u->r x y H Q->
  subscripted slice false v u=operate [v,u] (getItem v u)->wpAny (model X.prog X.w) X.A (subscriptTail value slice v u) (EP X pins σ Q) X.xe s
def KT(X:Cx)(id:String)(r:V->List V->Hp->VK->Prop):Prop:=
 ∀(pins:List (cG×Obj)) (s:cD) (σ:St) (H:Hp) (x:V) (xs:List V) (v:cA) (us:List cA) (Q:VK),Inv X pins σ H s->RelV x v->Vals xs us->r x xs H Q->
  wpAny (model X.prog X.w) X.A (call (.builtin id) (v::us)) (EP X pins σ Q) X.xe s
section
variable{X:Cx}{a b:Expr}{ta tb:TE}{pos:Pos}
theorem IxR.or{r r':R2}(h:IxR X r)(h':IxR X r'):IxR X (λx y H Q=>r x y H Q\/r' x y H Q):=by
 intro a b c s e H x y v u Q I f d q g;rcases q with q|q
 ·exact h a b c s e H x y v u Q I f d q g
 ·exact h' a b c s e H x y v u Q I f d q g
theorem rM{r:R2}(hr:IxR X r)(ha:PE X a ta)(hb:PE X b tb)(hs:J9 b):PE X (.Subscript a b pos) (LV r ta tb):=by
 intro c s k H Q I h;exact Subscript_ (KG ha hb I h λv u d x y g e j f q=>hr a b c d k g x y v u Q e j f q (hs _ _))
def KK(K:cu):R2:=λx y H Q=>∃p xs i v,x = .ref p/\y = .int i/\SqL K H p xs/\G0 xs i=some v/\Q v H
def KO(K:cu):R2:=λx y H Q=>∃p xs i v,x = .ref p/\y = .int i/\SqT K H p xs/\G0 xs i=some v/\Q v H
def Lk:R2:=λx y H Q=>∃z i c,x = .str z/\y = .int i/\z.length<=sizeLine/\G0 z.cps.toList i=some c/\Q (.str ⟨#[c]⟩) H
theorem rK:IxR X (KK X.K):=by
 intro l m a s f H x y v u Q I A B h k;obtain⟨p,E,i,z,rfl,rfl,D,n,q⟩:=h
 cases A;obtain⟨t,rfl⟩:=B;obtain⟨e,r,b,G⟩:=I.list D;obtain⟨j,h1,h2,h3,h4,h5⟩:=yg n;obtain⟨w,d,g⟩:=r.get h2;have o:=r.length;have F:=Fo;have fin:EP X a f Q w s:=⟨z,H,I,g,q⟩;by_cases h0:0<=i
 ·have c:i.toNat=j:=by
   rw[ol h0 h5]at h1;exact Option.some.inj h1
  exact item_listR b.isList h0 (by omega) (by rw[c];simpa using d) fin k
 ·have c:(i+(e.toArray.size:Int)).toNat=j:=by
   rw[nh (by omega) h4]at h1;rw[cX,<-o];exact Option.some.inj h1
  exact jr (x:=w) b.isList.typeIs ni.lookup
   (wpAny_getItem_list_neg (Q:=λr C=>r=w/\EP X a f Q r C) b.isList (by omega) (by rw[cX] <;> omega) (by omega) (by rw[c];simpa using d) ⟨rfl,fin⟩) k
theorem sj:IxR X (KO X.K):=by
 intro e f a s c H x y v u Q I l n h B;obtain⟨p,D,i,z,rfl,rfl,A,g,q⟩:=h
 cases l;obtain⟨t,rfl⟩:=n;obtain⟨C,r,b,F⟩:=I.tuple A;obtain⟨j,h1,h2,h3,h4,h5⟩:=yg g;obtain⟨w,m,d⟩:=r.get h2;have k:=r.length;have E:=Fo;have fin:EP X a c Q w s:=⟨z,H,I,d,q⟩;exact jr (x:=w) b.typeIs slot_tuple_getitem.lookup
  (getItem_tuple (j:=j) (Q:=λr o=>r=w/\EP X a c Q r o) b (by omega) (by omega) (by rw[cX,<-k];exact h1) (by simpa using m) ⟨rfl,fin⟩) B
theorem yv:IxR X Lk:=by
 intro a b k s p H x y v u Q I f g h n;obtain⟨z,i,c,rfl,rfl,w,d,q⟩:=h;obtain⟨t,rfl⟩:=f;obtain⟨o,rfl⟩:=g;obtain⟨j,h1,h2,h3,h4,h5⟩:=yg d;have m:z.cps.toList.length=z.length:=by simp[fH]
 rw[m]at h1 h4 h5;have r:=Fo;exact tail_any (mL s z t) nS.lookup (getItem_str (c:=c) (by
  have l:decide (i < -(2^63:Int))=false:=decide_eq_false (by omega);have e:decide (i>=2^63)=false:=decide_eq_false (by omega);rw[l,e,kI]) (by rw[h1];simpa using h2) ⟨.str ⟨#[c]⟩,H,I.tok _,⟨_,rfl⟩,q⟩) n
def MK(K:cu):R2:=λx y H Q=>KK K x y H Q\/KO K x y H Q\/Lk x y H Q
theorem Cw:IxR X (MK X.K):=rK.or (sj.or yv)
theorem zm(its:List cA)(n j:Nat)(u:cA):d2 (·.setIfInBounds j u) {cls:= .type "list",data:= .seq its.toArray n}={cls:= .type "list",data:= .seq (its.set j u).toArray n}:=by
 simp[d2]
theorem Inv.lst{pins:List (cG×Obj)}{σ:St}{H:Hp}{s:cD}{p:cG}{xs:List V}(I:Inv X pins σ H s)(h:H p=some (.lst xs)):
  ∃(its:List cA) (n:Nat),Vals xs its/\s.heap.get? p=some {cls:= .type "list",data:= .seq its.toArray n}/\xs.length<=sizeLine:=by
 obtain⟨z,its,n,r,e⟩:=I.hok p _ h
 exact⟨its,n,r,e,z⟩
theorem Inv.lstUpd{pins:List (cG×Obj)}{σ:St}{H:Hp}{s:cD}{p:cG}{xs ys:List V}{its its':List cA}{n n':Nat}{f:Obj->Obj}(I:Inv X pins σ H s)(h:H p=some (.lst xs))
  (ho:s.heap.get? p=some {cls:= .type "list",data:= .seq its.toArray n})(hf:f {cls:= .type "list",data:= .seq its.toArray n}={cls:= .type "list",data:= .seq its'.toArray n'})(r:Vals ys its')(hz:ys.length<=sizeLine)(t:Nat):
  Inv X pins σ (upd H p (.lst ys)) {s with heap:=s.heap.update p f,toks:=t}:=by
 have e:(s.heap.update p f).get? p=some {cls:= .type "list",data:= .seq its'.toArray n'}:=by
  rw[eH f ho (by rw[hf] <;> rfl),hf]
 refine I.write (x:=p) (e:=p) (by rw[h];trivial) (.inl rfl) (λb u a q=>(fi _ _ (Ne.symm a)).trans q) ⟨_,e⟩ ?_
 exact⟨hz,its',n',r,e⟩
def Lp:V->V->V->Hp->(Hp->Prop)->Prop:=λo i v H Q=>∃p xs k j,o = .ref p/\i = .int k/\H p=some (.lst xs)/\Js xs.length k=some j/\Q (upd H p (.lst (xs.set j v)))
theorem wB:JT X Lp:=by
 intro c s w H o i v B z u Q I f y m h;obtain⟨p,l,k,j,rfl,rfl,hp,g,q⟩:=h
 cases f;obtain⟨t,rfl⟩:=y;obtain⟨a,n,r,b,x⟩:=I.lst hp;obtain⟨h1,h2,h3,h4⟩:=Ag g;have d:=r.length;have A:=Fo;have e:Inv X c w (upd H p (.lst (l.set j v))) {s with heap:=s.heap.update p (d2 (·.setIfInBounds j u))}:=
  I.lstUpd hp b (zm a n j u) (r.set m j) (by rw[jd];exact x) s.toks
 by_cases h0:0<=k
 ·have hk:k.toNat=j:=by
   rw[ol h0 h4]at h1;exact Option.some.inj h1
  exact PySem.W.ki_setAt b h0 (by omega) (by rw[cX,<-d];exact h4) (by rw[hk];exact⟨_,e,q⟩)
 ·have hk:(k+(a.toArray.size:Int)).toNat=j:=by
   rw[nh (by omega) h3]at h1;rw[cX,<-d];exact Option.some.inj h1
  exact PySem.W.ki_setBack b (by omega) (by rw[cX,<-d];exact h3) (by omega) (by rw[hk];exact⟨_,e,q⟩)
theorem xh(lo hi:Option Int)(n:Nat):(sliceBounds lo hi none n).1=((HT.sIx n 0 lo:Nat):Int)/\(sliceBounds lo hi none n).2.1=((HT.sIx n n hi:Nat):Int)/\(sliceBounds lo hi none n).2.2=1:=by
 refine⟨?_,?_,rfl⟩
 ·cases lo with
  | none=>simp[sliceBounds,HT.sIx]
  | some i=>
   simp only[sliceBounds,HT.sIx,kX,show(1:Int)>0 by decide,if_true];by_cases h:i<0
   ·simp only[h,if_true] <;> omega
   ·simp only[h,if_false] <;> omega
 ·cases hi with
  | none=>simp[sliceBounds,HT.sIx]
  | some i=>
   simp only[sliceBounds,HT.sIx,kX,show(1:Int)>0 by decide,if_true];by_cases h:i<0
   ·simp only[h,if_true] <;> omega
   ·simp only[h,if_false] <;> omega
theorem wy(its:List cA)(lo hi:Option Int):slicePick its.toArray lo hi none=((its.drop (HT.sIx its.length 0 lo)).take (HT.sIx its.length its.length hi-HT.sIx its.length 0 lo)).toArray:=by
 obtain⟨h1,h2,h3⟩:=xh lo hi its.toArray.size;unfold slicePick;rw[h1,h2,h3];simp only[sliceRange_one,pick_run,cX] <;> rfl
def Mm(K:cu):V->Option Int->Option Int->Hp->VK->Prop:=λx lo hi H Q=>∃a xs,x = .ref a/\SqL K H a xs/\∀p,H p=none->Q (.ref p) (upd H p (.lst (Go xs lo hi)))
theorem C0:Mt X (Mm X.K):=by
 intro m s A H x v w B d e y Q I l t j k h;obtain⟨a,c,rfl,n,q⟩:=h
 cases l;obtain⟨u,r,g,p⟩:=I.list n;have f:=r.length;refine⟨"list",_,ni.lookup,g.isList.typeIs,?_⟩;refine wpAny_getItem_list_slice g.isList t j k .none (by simp) ?_ (by rw[cX] <;> omega);rw[wy,<-f];refine⟨.ref s.heap.objs.size,_,I.laid (t':=s.toks) (o:= .lst (Go c d e)) (λb z q=>cF _ q) (cI _) ?_,rfl,q _ (I.hok.fresh (cI _))⟩;exact⟨dg (vA c d e) p,_,0,(r.drop (HT.sIx c.length 0 d)).take (HT.sIx c.length c.length e-HT.sIx c.length 0 d),cN _ rfl⟩
def FF:V->Bool
 | .non=>true
 | .bl _=>true
 | .int _=>true
 | .str _=>true
 | _=>false
def Jt:V->V->Bool
 | .non,.non=>true
 | .bl a,.bl b=>a==b
 | .bl a,.int b=>(if a then 1 else 0)==b
 | .int a,.bl b=>a==(if b then 1 else 0)
 | .int a,.int b=>a==b
 | .str a,.str b=>a==b
 | _,_=>false
theorem Dw{A:dw}{s:cD}{y x:V}{u v:cA}(ry:RelV y u)(rx:RelV x v)(fy:FF y=true)(fx:FF x=true):q4 A s u v (Jt y x):=by
 cases y with
 | non=>
  cases ry
  cases x with
  | non=>cases rx;exact rj _
  | bl b=>cases rx;exact qz b
  | int b=>obtain⟨t,rfl⟩:=rx;exact qI b t
  | str b=>obtain⟨t,rfl⟩:=rx;exact qJ b t
  | _=>exact absurd (show false=true from fx) de
 | bl a=>
  cases ry
  cases x with
  | non=>cases rx;exact qA a
  | bl b=>cases rx;exact qB a b
  | int b=>obtain⟨t,rfl⟩:=rx;exact qK a b t
  | str b=>obtain⟨t,rfl⟩:=rx;exact qL a b t
  | _=>exact absurd (show false=true from fx) de
 | int a=>
  obtain⟨c,rfl⟩:=ry
  cases x with
  | non=>cases rx;exact qM a c
  | bl b=>cases rx;exact qO a c b
  | int b=>obtain⟨t,rfl⟩:=rx;exact q5 a c b t
  | str b=>obtain⟨t,rfl⟩:=rx;exact mG a c b t
  | _=>exact absurd (show false=true from fx) de
 | str a=>
  obtain⟨c,rfl⟩:=ry
  cases x with
  | non=>cases rx;exact qQ a c
  | bl b=>cases rx;exact qS a c b
  | int b=>obtain⟨t,rfl⟩:=rx;exact mH a c b t
  | str b=>obtain⟨t,rfl⟩:=rx;exact q8 a c b t
  | _=>exact absurd (show false=true from fx) de
 | _=>exact absurd (show false=true from fy) de
def J4(x:V)(u:cA):Bool:=match u with
 | .none=>Jt .non x
 | .bool b=>Jt (.bl b) x
 | .int i _=>Jt (.int i) x
 | .str z _=>Jt (.str z) x
 | _=>false
theorem CA{x y:V}{u:cA}(r:RelV y u)(f:FF y=true):J4 x u=Jt y x:=by
 cases y with
 | non=>cases r;rfl
 | bl b=>cases r;rfl
 | int i=>obtain⟨t,rfl⟩:=r;rfl
 | str z=>obtain⟨t,rfl⟩:=r;rfl
 | _=>exact absurd (show false=true from f) de
theorem xT{x:V}:∀{xs:List V} {us:List cA},Vals xs us->xs.all FF=true->us.any (J4 x)=xs.any λy=>Jt y x
 | _,_,.nil,_=>rfl
 | y::xs,u::us,.cons r t,f=>by
  rw[jI,dn]at f
  rw[gW,gW,CA r f.1,xT t f.2]
theorem wH{A:dw}{s:cD}{x:V}{v:cA}(rx:RelV x v)(fx:FF x=true):∀{xs:List V} {us:List cA},Vals xs us->xs.all FF=true->∀u∈us,q4 A s u v (J4 x u)
 | _,_,.nil,_=>λu a=>by cases a
 | y::xs,u::us,.cons r t,f=>λb a=>by
  rw[jI,dn]at f
  rcases cZ.mp a with rfl|a
  ·rw[CA r f.1];exact Dw r rx f.1 fx
  ·exact wH rx fx t f.2 b a
def Ju(x:V)(xs:List V):Bool:=xs.any λy=>Jt y x
def Mv(K:cu)(neg:Bool):R2:=λx y H Q=>∃p xs,y = .ref p/\(SqL K H p xs\/SqT K H p xs)/\FF x=true/\xs.all FF=true/\Q (.bl (if neg then !Ju x xs else Ju x xs)) H
theorem tV:Fs X (compareOp .NotIn) (Mv X.K true):=by
 intro k s n H x y v u Q I g j h;obtain⟨p,m,rfl,b,f,c,q⟩:=h
 cases j;rcases b with b|b
 ·obtain⟨a,r,d,l⟩:=I.list b;refine SeqAt.notIn_listAt (J4 x) d.isList (λw e=>wH g f r c w (by simpa using e)) ⟨.bl _,H,I,rfl,?_⟩;rw[show a.toArray.any (J4 x)=a.any (J4 x)by simp,xT r c];exact q
 ·obtain⟨a,r,d,l⟩:=I.tuple b;refine SeqAt.notIn_tupleAt (J4 x) d (λw e=>wH g f r c w (by simpa using e)) ⟨.bl _,H,I,rfl,?_⟩;rw[show a.toArray.any (J4 x)=a.any (J4 x)by simp,xT r c];exact q
theorem rO:EJ X (.builtin "len") (λxs H Q=>∃p ys,xs=[.ref p]/\(SqL X.K H p ys\/SqT X.K H p ys)/\Q (.int ys.length) H):=by
 intro g s l H xs k Q I r h;obtain⟨p,ys,rfl,b,q⟩:=h;obtain⟨u,rfl,f⟩:=EX r
 cases f;have m:=Fo;rcases b with b|b
 ·obtain⟨e,d,c,j⟩:=I.list b;have a:=d.length;exact Calls.call_len_list c.isList (by simp only[cX] <;> omega) ⟨.int ys.length,H,I.tok _,⟨s.toks+1,by rw[cX,a]⟩,q⟩
 ·obtain⟨e,d,c,j⟩:=I.tuple b;have a:=d.length;exact len_tuple c (by simp only[cX] <;> omega) ⟨.int ys.length,H,I.tok _,⟨s.toks+1,by rw[cX,a]⟩,q⟩
theorem xq:EJ X (.builtin "len") (λxs H Q=>∃z,xs=[.str z]/\z.length<=sizeLine/\Q (.int z.length) H):=by
 intro a s c H xs e Q I r h;obtain⟨z,rfl,d,q⟩:=h;obtain⟨u,rfl,t,rfl⟩:=EX r;have b:=Fo;exact len_str (by omega) ⟨.int z.length,H,I.tok _,⟨_,rfl⟩,q⟩
theorem sN:EJ X (.type "list") (λxs H Q=>∃p ys,xs=[.ref p]/\(SqL X.K H p ys\/SqT X.K H p ys)/\∀l,H l=none->Q (.ref l) (upd H l (.lst ys))):=by
 intro x s B H xs C Q I r h;obtain⟨p,ys,rfl,g,q⟩:=h;obtain⟨u,rfl,A⟩:=EX r
 cases A;have fin:∀(a:List cA),Vals ys a->ys.length<=sizeLine->∀(c:Heap) (d:Nat),(∀b o',s.heap.get? b=some o'->c.get? b=some o')->
   c.get? s.heap.objs.size=some {cls:= .type "list",dict:=none,data:= .seq a.toArray d,slots:= #[]}->EP X x B Q (.ref s.heap.objs.size) {s with heap:=c}:=λa f k c d j e=>
  ⟨.ref s.heap.objs.size,_,I.laid (t':=s.toks) j (cI _) (show ObjOk X.prog X.w _ c _ (.lst ys)from⟨k,a,d,f,e⟩),rfl,q _ (I.hok.fresh (cI _))⟩
 rcases g with g|g
 ·obtain⟨a,f,m,k⟩:=I.list g;have z:=f.length;obtain⟨o,t,y,n,v⟩:=m.isList;exact pM p (.inl rfl) t y v (λc d j e=>fin a f k c d j e) (by simp only[cX] <;> omega)
 ·obtain⟨a,f,m,k⟩:=I.tuple g;have z:=f.length;obtain⟨o,t,y,n,v⟩:=m;exact pM p (.inr rfl) t y v (λc d j e=>fin a f k c d j e) (by simp only[cX] <;> omega)
theorem sG:EJ X (.type "tuple") (λxs H Q=>∃p ys,xs=[.ref p]/\((SqL X.K H p ys/\∀l,H l=none->Q (.ref l) (upd H l (.tup ys)))\/(SqT X.K H p ys/\Q (.ref p) H))):=by
 intro c s k H xs z Q I r h;obtain⟨p,ys,rfl,h⟩:=h;obtain⟨u,rfl,t⟩:=EX r
 cases t;rcases h with⟨g,q⟩|⟨g,q⟩
 ·obtain⟨a,j,f,m⟩:=I.list g;have y:=j.length;refine ou f.isList (λd x=>?_) (by simp only[cX] <;> omega);have n:Inv X c k H {s with heap:=d}:=I.kept (t':=s.toks) x;have v:Inv X c k (upd H d.objs.size (.tup ys)) {s with heap:=d.push {cls:= .type "tuple",data:= .seq a.toArray}}:=
   n.laid (t':=s.toks) (λb o e=>cF _ e) (cI _) (show ObjOk X.prog X.w _ _ _ (.tup ys)from⟨m,a,j,p6 _ _⟩)
  exact⟨.ref d.objs.size,_,v,rfl,q _ (n.hok.fresh (cI _))⟩
 ·obtain⟨a,j,f,m⟩:=I.tuple g;exact call_tuple_same f ⟨.ref p,H,I,rfl,q⟩
def Mc(K:cu)(T:String)(x:V)(H:Hp):Prop:=match x with
 | .str _=>T="str"
 | .int _=>T="int"
 | .ref p=>(T="list"/\∃xs,SqL K H p xs)\/(T="tuple"/\∃o,K.lookup p=some o/\o.cls = .type "tuple"/\o.dict=none)\/
   (T="dict"/\((∃kvs,H p=some (.dK kvs))\/∃kvs,H p=some (.dT kvs)))\/(T="set"/\∃S n,H p=some (.set S n))
 | _=>False
theorem Cy{pins:List (cG×Obj)}{σ:St}{H:Hp}{s:cD}{T:String}{x:V}{v:cA}(I:Inv X pins σ H s)(r:RelV x v)(ty:Mc X.K T x H):
  s.TypeIs v T/\∀a,v = .ref a->∃ob,s.heap.get? a=some ob/\ob.dict=none:=by
 cases x with
 | str z=>
  obtain⟨t,rfl⟩:=r
  cases(show T="str"from ty)
  exact⟨mL s z t,λ_ e=>nomatch e⟩
 | int i=>
  obtain⟨t,rfl⟩:=r
  cases(show T="int"from ty)
  exact⟨typeIs_int s i t,λ_ e=>nomatch e⟩
 | ref p=>
  cases r
  rcases ty with⟨rfl,m,j⟩|⟨rfl,o,hk,k,f⟩|⟨rfl,hk⟩|⟨rfl,S,n,hk⟩
  ·obtain⟨l,_,g,_⟩:=I.list j
   refine⟨g.isList.typeIs,λa e=>?_⟩
   cases e
   obtain⟨o,n,e,c,f,_⟩:=g
   exact⟨o,e,f⟩
  ·refine⟨⟨o,I.kIn p o hk,k⟩,λa e=>?_⟩
   cases e
   exact⟨o,I.kIn _ o hk,f⟩
  ·have z:∃o,s.heap.get? p=some o/\o.ExactDict:=by
    rcases hk with⟨h,hk⟩|⟨h,hk⟩
    ·obtain⟨_,_,_,_,o,_,_,e,b,_⟩:=I.hok p _ hk
     exact⟨o,e,b⟩
    ·obtain⟨_,_,_,_,o,_,_,e,b,_⟩:=I.hok p _ hk
     exact⟨o,e,b⟩
   obtain⟨o,e,b⟩:=z
   refine⟨⟨o,e,b.1⟩,λa d=>?_⟩
   cases d
   exact⟨o,e,b.2.1⟩
  ·obtain⟨o,_,_,_,e,b,_⟩:=I.hok p _ hk
   refine⟨⟨o,e,b.1⟩,λa d=>?_⟩
   cases d
   exact⟨o,e,b.2.1⟩
 | _=>exact fh ty
def Mq(K:cu)(T:String)(r:V->List V->Hp->VK->Prop)(to:TE):TE:=λσ H Q=>to σ H λx H1=>Mc K T x H1/\r x [] H1 Q
def MA(K:cu)(T:String)(r:V->List V->Hp->VK->Prop)(to:TE)(t:TA):TE:=λσ H Q=>to σ H λx H1=>Mc K T x H1/\t σ H1 λxs H2=>r x xs H2 Q
variable{o e:Expr}{es:List Expr}{to:TE}{t:TA}{name:Str}{apos cpos:Pos}{T id:String}{r:V->List V->Hp->VK->Prop}
theorem xL(pa:PlainAttrs T)(slot:Slot T name id)(hty:typeOf (.builtin id)=pure (.type "method_descriptor"))(hm:KT X id r)(ho:PE X o to)
  (hbase:attributeBase o name X.env (eval o X.env)=eval o X.env:=by rfl)(hline:(apos.endLine==cpos.line)=true:=by rfl):PE X (.Call (.Attribute o name apos) [] [] cpos) (Mq X.K T r to):=by
 intro a s c H Q I h
 refine kY hbase hline (Ei (ho a s c H _ I h) λv e ⟨x,g,d,b,f,j⟩=>?_)
 obtain⟨h1,h2⟩:=Cy d b f
 exact⟨T,id,pa,slot,hty,h1,h2,gz rfl (ml (hm a e c g x [] v [] Q d b .nil j))⟩
theorem uJ(pa:PlainAttrs T)(slot:Slot T name id)(hty:typeOf (.builtin id)=pure (.type "method_descriptor"))(hm:KT X id r)(ho:PE X o to)(ha:PA X (e::es) t)
  (hbase:attributeBase o name X.env (eval o X.env)=eval o X.env:=by rfl)
  (hfew:((backTo cpos (dh (e::es) X.env)).all (λx=>!x.1)&&(backToKw cpos (keywordEach [] X.env)).all (λx=>x.1.isSome)
   && decide ((e::es).length+([]:List Keyword).length+(if([]:List Keyword).isEmpty then 0 else 1)<30))=true:=by rfl)
  (hline:(apos.endLine==cpos.line)=true:=by rfl)(hs:dh (e::es) X.env=(false,eval e X.env)::dh es X.env:=by rfl)(hplain:(backTo cpos (dh es X.env)).any (·.1)=false:=by rfl):
  PE X (.Call (.Attribute o name apos) (e::es) [] cpos) (MA X.K T r to t):=by
 intro a s b H Q I h
 refine wpAny_Call_method_late hbase hfew hline rfl (Ei (ho a s b H _ I h) λv k ⟨x,g,d,c,l,j⟩=>?_)
 obtain⟨h1,h2⟩:=Cy d c l
 refine⟨T,id,pa,slot,hty,h1,h2,?_⟩
 have hA:=ha cpos a k b g _ d j
 rw[hs]at hA ⊢
 refine gz (by show(false||(backTo cpos (dh es X.env)).any (·.1))=false;rw[hplain] <;> rfl) (iJ ?_)
 exact Ei hA λn f ⟨vs,u,q,p,m⟩=>hm a f b u x vs v n Q q c p m
end
def KF(X:Cx)(id:String)(r:V->List V->Hp->VK->Prop):Prop:=
 ∀(pins:List (cG×Obj)) (s:cD) (σ:St) (H:Hp) (x:V) (xs:List V) (v:cA) (us:List cA) (Q:VK),Inv X pins σ H s->RelV x v->Vals xs us->r x xs H Q->
  wpAny (model X.prog X.w) X.A (call (.builtin id) (v::us)) (EP X pins σ Q) X.xe s
theorem Vals.one:∀{x:V} {us:List cA},Vals [x] us->∃u,us=[u]/\RelV x u
 | _,_,.cons r .nil=>⟨_,rfl,r⟩
theorem Vals.two:∀{x y:V} {us:List cA},Vals [x,y] us->∃u v,us=[u,v]/\RelV x u/\RelV y v
 | _,_,_,.cons r (.cons q .nil)=>⟨_,_,rfl,r,q⟩
theorem Vals.zero:∀{us:List cA},Vals [] us->us=[]
 | _,.nil=>rfl
theorem Vals.dropLast{xs:List V}{us:List cA}(h:Vals xs us):Vals xs.dropLast us.dropLast:=by
 induction h with
 | nil=>exact .nil
 | cons r t a=>
  cases t with
  | nil=>exact .nil
  | cons q b=>exact .cons r a
theorem Vals.reverse{xs:List V}{us:List cA}(h:Vals xs us):Vals xs.reverse us.reverse:=by
 induction h with
 | nil=>exact .nil
 | cons r t a=>rw[nj,nj];exact Vals.append a (.cons r .nil)
theorem y6{α:Type}(l:List α):l.eraseIdx (l.length-1)=l.dropLast:=by
 induction l with
 | nil=>rfl
 | cons a r c=>
  cases r with
  | nil=>rfl
  | cons b r=>
   have e:(a::b::r).length-1=((b::r).length-1)+1:=by
    have h1:(a::b::r).length=r.length+2:=rfl;have h2:(b::r).length=r.length+1:=rfl;omega
   rw[e,List.eraseIdx_cons_succ,c]
   all_goals rfl
section
variable{X:Cx}{pins:List (cG×Obj)}{σ:St}{H:Hp}{s:cD}{l b:cG}{xs ys zs:List V}
theorem Inv.lset{its its':List cA}{n:Nat}{f:Array cA->Array cA}{t':Nat}(I:Inv X pins σ H s)(hH:H l=some (.lst xs))
  (e:s.heap.get? l=some {cls:= .type "list",data:= .seq its.toArray n})(hf:f its.toArray=its'.toArray)(hv:Vals ys its')(hz:ys.length<=sizeLine):
  Inv X pins σ (upd H l (.lst ys)) {s with heap:=s.heap.update l (d2 f),toks:=t'}:=by
 have q:=g8 e f
 rw[hf]at q
 refine I.write (x:=l) (e:=l) (by rw[hH];exact trivial) (.inl rfl) (λc u b a=>(fi s.heap (d2 f) (Ne.symm b)).trans a) ⟨_,q⟩ ?_
 exact⟨hz,its',_,hv,q⟩
theorem Inv.lnew{its:List cA}{t':Nat}(I:Inv X pins σ H s)(hv:Vals ys its)(hz:ys.length<=sizeLine):
  Inv X pins σ (upd H s.heap.objs.size (.lst ys)) {s with heap:=s.heap.push {cls:= .type "list",data:= .seq its.toArray},toks:=t'}:=
 I.laid (λ_ _ q=>cF _ q) (cI _) ⟨hz,its,0,hv,cN _ rfl⟩
theorem Inv.lstM(I:Inv X pins σ H s)(hH:H l=some (.lst xs)):xs.length<=sizeLine/\∃(its:List cA) (n:Nat),Vals xs its/\xs.length=its.length/\s.heap.get? l=some {cls:= .type "list",data:= .seq its.toArray n}:=by
 obtain⟨z,its,n,r,e⟩:=I.hok l _ hH;exact⟨z,its,n,r,r.length,e⟩
end
section
variable{X:Cx}
def JW:V->List V->Hp->VK->Prop:=λx vs H Q=>∃l xs y,x = .ref l/\vs=[y]/\H l=some (.lst xs)/\xs.length<sizeLine/\Q .non (upd H l (.lst (xs++[y])))
theorem tK:KF X "list.append" JW:=by
 intro g s m H x vs v k Q I d f h;obtain⟨l,j,y,rfl,rfl,b,o,q⟩:=h
 cases d;obtain⟨u,rfl,c⟩:=f.one;obtain⟨z,a,n,r,p,e⟩:=I.lstM b;refine gX fR ⟨_,e,rfl⟩ mm (l3 _ _) (nk l a.toArray n u (by rw[cX];omega)) ⟨e,?_⟩;refine⟨.non,_,I.lset (its':=a++[u]) b e (by simp) (r.append (.cons c .nil)) ?_,rfl,q⟩;rw[dq,eT];omega
def Ma:V->List V->Hp->VK->Prop:=λx vs H Q=>∃l xs y,x = .ref l/\vs=[]/\H l=some (.lst xs)/\xs[xs.length-1]?=some y/\Q y (upd H l (.lst xs.dropLast))
theorem DM:KF X "list.pop" Ma:=by
 intro o s A H x vs v w Q I g k h;obtain⟨l,t,y,rfl,rfl,b,j,q⟩:=h
 cases g;have c:=k.zero;subst c;obtain⟨z,a,n,r,p,e⟩:=I.lstM b;obtain⟨u,m,f⟩:=r.get j;have d:a.toArray[a.toArray.size-1]?=some u:=by
  show a.toArray[a.length-1]?=some u;rw[<-gf,<-p];exact m
 refine gX F.slot_list_pop ⟨_,e,rfl⟩ F.entry_list_pop (F.args_list_pop_1 _) (MeetsSeq.list_pop_last l a.toArray n u d (by rw[cX];omega)) ⟨e,?_⟩;refine⟨y,_,I.lset (its':=a.dropLast) b e ?_ r.dropLast ?_,f,q⟩
 ·show a.toArray.eraseIdxIfInBounds (a.toArray.size-1)=a.dropLast.toArray;rw[cX,List.eraseIdxIfInBounds_toArray,y6]
 ·rw[gQ];omega
def JQ:V->List V->Hp->VK->Prop:=λx vs H Q=>∃l xs,x = .ref l/\vs=[]/\H l=some (.lst xs)/\Q .non (upd H l (.lst xs.reverse))
theorem zj:KF X "list.reverse" JQ:=by
 intro g s m H x vs v k Q I d f h;obtain⟨l,j,rfl,rfl,b,q⟩:=h
 cases d;have c:=f.zero;subst c;obtain⟨z,a,n,r,o,e⟩:=I.lstM b;refine gX F.slot_list_reverse ⟨_,e,rfl⟩ F.entry_list_reverse (F.args_list_reverse_1 _) (AutoSeq1.list_reverse_list_0 l a.toArray n (by rw[cX];omega)) ⟨e,?_⟩;refine⟨.non,_,I.lset (its':=a.reverse) b e (by simp) r.reverse ?_,rfl,q⟩;rw[List.length_reverse];omega
def KI:V->List V->Hp->VK->Prop:=λx vs H Q=>∃l xs,x = .ref l/\vs=[]/\H l=some (.lst xs)/\Q .non (upd H l (.lst []))
theorem wZ:KF X "list.clear" KI:=by
 intro g s m H x vs v k Q I d f h;obtain⟨l,j,rfl,rfl,a,q⟩:=h
 cases d;have c:=f.zero;subst c;obtain⟨z,b,n,r,o,e⟩:=I.lstM a;refine gX F.slot_list_clear ⟨_,e,rfl⟩ F.entry_list_clear (F.args_list_clear_1 _) (AutoSeq1.list_clear_list_0 l b.toArray n (by rw[cX];omega)) ⟨e,?_⟩;exact⟨.non,_,I.lset (its':=[]) (ys:=[]) a e rfl .nil (du _),rfl,q⟩
end
end L2
namespace Att
open PySem PySem.W PySem.Calls PyProof.Rows
theorem vM{P:Params}{h:Heap}:∀(ns:List Int) (vs:List cA),WellAll P h vs (ns.map rh)->IntsAre vs ns:=by
 intro ns
 induction ns with
 | nil=>
  intro vs w;rw[qb]at w
  cases w;exact .nil
 | cons n ns c=>
  intro vs w;rw[dN]at w
  cases w with
  | cons a b=>
   cases a;exact .cons _ _ (c _ b)
theorem Aw{l:OpenLaw}{n:Nat}(hn:l.most=some n){P:Params}{h:Heap}{args:List WData}{vals:List cA}
  (hpre:l.row.toRowW.claim.pre args=true)(hwl:WellAll P h vals args):
  ∃a vs ns,vals=[cR a]/\args=[WData.list (ns.map rh)]/\h.get? a=some {cls:= .type "list",data:= .seq vs.toArray}/\IntsAre vs ns/\ns.length<=n:=by
 have c:WShape.hasAll [] args [.list .int]=true:=(pre_splitW hpre).1
 have e:l.pre.holds [] {args:=args}=true:=(pre_splitW hpre).2
 obtain⟨d,r,rfl,h1,h2⟩:=hasAllW_cons c
 obtain rfl:=hasAllW_nil h2
 obtain⟨m,rfl,h3⟩:=hasW_list h1
 obtain⟨ns,rfl⟩:=items_int h3
 have b:ns.length<=n:=by
  unfold OpenLaw.pre at e
  have h4:(WTm.not (.lt (.lit (.int (n:Int))) (.len (.arg 0)))).holds [] {args:=[.list (ns.map .int)]}=true:=by
   have h4:=(holds_andW e).1
   rw[hn]at h4
   exact h4
  have h5:=condW_of h4 (w_not (w_lt w_lit (w_len_list (w_arg rfl))))
  rw[cx]at h5
  refine kZ λq=>?_
  have j:(n:Int)<((ns.length:Nat):Int):=by omega
  first
   | (rw[decide_eq_true j]at h5;exact absurd h5 (by decide))
   | (simp at h5;omega)
 cases hwl with
 | cons g k=>
  cases k
  cases g with
  | list f hall=>exact⟨_,_,ns,rfl,rfl,f,vM ns _ hall,b⟩
theorem z8(l:OpenLaw)(args:List WData):l.row.toRowW.claim.post args (.bool true) args=true:=
 postW_of (r:=l.row.toRowW) (X:=(true==true))
  (show q9 [] (.bool true) .bool=true by first|rfl|decide|simp[q9,WShape.arms,WShape.armsAll])
  (show(WTm.eq .res (.lit (.bool true))).value [] {args:=args,res:=some (.bool true),after:=args}=some (.bool (true==true))from w_eq_bool (w_res rfl) w_lit) rfl
theorem attach_call{l:OpenLaw}{n:Nat}{q:cT}{loose:List Str}{XP:(Str->Option cA)->Heap->Prop}{YP:dc->Heap->Prop}{d:DefRec}
  (hn:l.most=some n)(hdf:d.params.defaults=[])
  (call:∀(w:dc) (s₀ s₁:cD) (mg mb:Str->Option cA) (fa:cG) (o:Obj) (pm cd doc:cA) (a:cG) (vs:List cA) (ns:List Int),
   Ground q loose [] XP w s₀ mg mb s₁.heap->YP w s₁.heap->
   s₁.heap.get? fa=some o->o.data = .func (docDef d.name d.params d.body d.scope pm cd doc)->s₁.heap.CodeRec cd d.name->mg d.name=some (.ref fa)->
   s₁.heap.get? a=some {cls:= .type "list",data:= .seq vs.toArray}->IntsAre vs ns->ns.length<=n->s₁.gens = #[]->
   codeAny (model l.prog w) callerA (.call (.ref fa) ⟨[.ref a],[]⟩) (λr s'=>r = .ok (.ret (.bool true))/\OldK s₁.heap s'.heap/\s'.os=s₁.os/\AllBare s'.gens) s₁):
  WalkO q loose XP YP l.row.toRowW d [] (λf vs=>oM f vs):=by
 intro w s₀ s₁ mg mb G Y fa o pm cd doc p kV s A k h j t x y as c u C m B
 obtain rfl:p = .none:=Dflts.none h hdf
 obtain rfl:kV = .none:=Dflts.noKw h
 obtain⟨a,vs,ns,rfl,rfl,g,b,e⟩:=Aw hn c m
 refine enter_call (iW (call w s₀ s₁ mg mb fa o pm cd doc a vs ns G Y s (fd_plain A) k j g b e t) λr s' v=>?_)
 obtain⟨rfl,h2,h3,h4⟩:=v
 exact⟨.inl ⟨.bool true,.bool true,[],rfl,λ_=>rfl,.bool true,z8 l _,λ_=>⟨my.nil,λ_ z=>(nomatch z)⟩⟩,h2,h3,h4⟩
end Att
namespace L2
open PySem PySem.Spec PyProof.Rows
theorem uy:∀{vs:List cA} {ns:List Int},IntsAre vs ns->Vals (ns.map V.int) vs
 | _,_,.nil=> .nil
 | _,_,.cons n t h=> .cons ⟨t,rfl⟩ (uy h)
def KM(H:Hp):Prop:=∀b,H b=none\/∃o xs,H b=some (.frz o (.lst xs))
theorem B4{P:cT}{w:dc}{K:cu}{mg mb:Str->Option cA}{CX:Hl}{k:Nat}{fa a:cG}{fd:FuncData}{x:Str}{sp:Sp}{s₁:cD}{vs:List cA}{ns:List Int}
  (KX:K.In s₁.heap)(hns:s₁.heap.Ns fB mg)(hb:s₁.heap.Ns builtinsNs mb)(hbb:∀x:Str,x≠"__name__"->mb x=bootBuiltins x)(hlim:s₁.heap.NoLimit)(hg:s₁.gens = #[])
  (ha:s₁.heap.get? a=some {cls:= .type "list",data:= .seq vs.toArray})(hi:IntsAre vs ns)(hl:ns.length<=sizeLine)(hr:Room k callerA)
  (F:∀base:Heap,K.In base->base.Ns fB mg->FnOk P w K mg base CX k fa fd [x] sp)(hbind:∀(s:cD) (u:cA),BindsTo s fd ⟨[u],[]⟩ [(x,u)])
  (hsp:∀H:Hp,KM H->SqL K H a (ns.map V.int)->sp [.ref a] H (λv _=>v = .bl true) λ_ _ _=>False)
  (hCX:∀H e s',CX [] H s₁ (λ_ _ _=>False) e s'->False):
  codeAny (model P w) callerA (.call (.ref fa) ⟨[.ref a],[]⟩) (λr s'=>r = .ok (.ret (.bool true))/\OldK s₁.heap s'.heap/\s'.os=s₁.os/\AllBare s'.gens) s₁:=by
 have I:=uy hi
 have D:=hi.length
 have p:∀H:Hp,KM H->SqL K H a (ns.map V.int)->HOk P w H s₁.heap->(∀b,H b≠none->b=a)->(H a≠none->K.lookup a=none)->
   codeAny (model P w) callerA (.call (.ref fa) ⟨[.ref a],[]⟩) (λr s'=>r = .ok (.ret (.bool true))/\OldK s₁.heap s'.heap/\s'.os=s₁.os/\AllBare s'.gens) s₁:=by
  intro H E T t hA N
  have c:∀{b:cG} {o:Obj},s₁.heap.get? b=some o->H b=none->(HJ s₁.heap H).get? b=some o:=λe n=>B1 e n
  have G:∀{b:cG} {o:Obj} {j:Array DictEntry} {l:Nat},s₁.heap.get? b=some o->o.data = .dict j l->H b=none:=λ {b o j l} e d=>by
   cases q:H b with
   | none=>rfl
   | some u=>
    have B:b=a:=hA b (by rw[q];simp)
    subst B
    rw[ha]at e;cases e
    have Q:iK vs.toArray _=Data.dict j l:=d
    cases Q
  have f:∀{b:cG} {m:Str->Option cA},s₁.heap.Ns b m->(HJ s₁.heap H).Ns b m:=λ {b m} ⟨o,j,l,e,d,r⟩=>⟨o,j,l,c e (G e d),d,r⟩
  have y:K.In (HJ s₁.heap H):=λb o e=>c (KX b o e) (by
   cases q:H b with
   | none=>rfl
   | some u=>
    have B:b=a:=hA b (by rw[q];simp)
    subst B
    rw[N (by rw[q];simp)]at e;cases e)
  have U:Mod K mg (HJ s₁.heap H):=⟨y,f hns,⟨mb,f hb,hbb⟩,let⟨mc,h1,h2⟩:=hlim;⟨mc,f h1,h2⟩⟩
  have M:Env0 P w K mg (HJ s₁.heap H) callerA [] s₁ H:=⟨rfl,U,λb o e=>CG e,na (Bf _ _),trivial,λb hb=>absurd (show b∈([]:List cG)from hb) (by simp),t,.of_eq hg⟩
  refine iW ((F _ y (f hns)).run callerA [] s₁ H ⟨[.ref a],[]⟩ [.ref a] [.ref a] _ _ hr M (hbind s₁ (.ref a)) (.cons rfl .nil) (hsp H E T)) λr s' h=>?_
  cases r with
  | error e=>exact(hCX H e s' h).elim
  | ok Z=>
   cases Z with
   | next=>exact fh h
   | brk=>exact fh h
   | cont=>exact fh h
   | ret u=>
    obtain⟨v,H',os,C,L,A,Y,q⟩:=h
    have S:v = .bl true:=q
    subst S
    obtain rfl:u=eo true:=Y
    refine⟨rfl,OldK.of_keep λb o e=>?_,os,C⟩
    cases q:H b with
    | none=>exact L.keep b o e q (by intro z;exact absurd (show b∈([]:List cG)from z) (by simp)) (by simp)
    | some u=>
     rcases E b with z|⟨R,xs,z⟩
     ·rw[q]at z;cases z
     ·have X:=L.frzs b R _ z
      obtain⟨J,_⟩:=t b _ z
      obtain⟨O,_⟩:=A b _ X
      rw[e]at J;cases J
      exact O
 cases hk:K.lookup a with
 | some o=>
  have e:=KX a o hk
  rw[ha]at e
  cases e
  refine p (λ_=>none) (λ_=> .inl rfl) (.inr ⟨_,vs.toArray,_,hk,rfl,rfl,rfl,by rw[cX,D];exact hl,by simpa using I⟩) (λb u z=>by have g:(none:Option HO)=some u:=z;cases g) (λb z=>absurd rfl z) λz=>absurd rfl z
 | none=>
  refine p (λb=>if b=a then some (.frz {cls:= .type "list",data:= .seq vs.toArray} (.lst (ns.map V.int)))else none) (λb=>?_) (.inl (.inr ⟨{cls:= .type "list",data:= .seq vs.toArray},if_pos rfl⟩)) (λb u z=>?_) (λb z=>?_) λ_=>hk
  ·by_cases hb:b=a
   ·exact .inr ⟨_,_,if_pos hb⟩
   ·exact .inl (if_neg hb)
  ·by_cases hb:b=a
   ·have g:=(if_pos hb).symm.trans z
    cases g
    subst hb
    exact⟨ha,by rw[cx];exact hl,vs,_,I,ha⟩
   ·have g:=(if_neg hb).symm.trans z
    cases g
  ·by_cases hb:b=a
   ·exact hb
   ·exact absurd (if_neg hb) z
theorem walk_of{l:PySem.W.OpenLaw}{n k:Nat}{q:cT}{loose:List Str}{XP:(Str->Option cA)->Heap->Prop}{YP:dc->Heap->Prop}{d:DefRec}{K:Params->cu}{CX:dc->Hl}{sp:dc->Sp}{x:Str}
  (hn:l.most=some n)(hn2:n<=sizeLine)(hdf:d.params.defaults=[])(hr:Room k callerA)
  (hY:∀(w:dc) (h:Heap),YP w h->(K w.params).In h)
  (F:∀(w:dc) (mg:Str->Option cA) (fa:cG) (h:Heap),(K w.params).In h->h.Ns fB mg->mg d.name=some (.ref fa)->
   ∃fd:FuncData,(∀(s:cD) (u:cA),BindsTo s fd ⟨[u],[]⟩ [(x,u)])/\
    ∀base:Heap,(K w.params).In base->base.Ns fB mg->FnOk l.prog w (K w.params) mg base (CX w) k fa fd [x] (sp w))
  (hsp:∀(w:dc) (H:Hp) (a:cG) (ns:List Int),ns.length<=n->KM H->SqL (K w.params) H a (ns.map V.int)->sp w [.ref a] H (λv _=>v = .bl true) λ_ _ _=>False)
  (hCX:∀(w:dc) (H:Hp) (s:cD) (e:cA) (s':cD),CX w [] H s (λ_ _ _=>False) e s'->False):
  PySem.W.WalkO q loose XP YP l.row.toRowW d [] (λf vs=>oM f vs):=by
 refine Att.attach_call hn hdf λw C m mg O fa o L M I a vs ns G Y J N E r p j c z=>?_
 have t:=hY w _ Y
 obtain⟨fd,A,D⟩:=F w mg fa _ t G.T.g r
 exact B4 t G.T.g G.T.b G.T.builtins G.T.nolimit z p j (dg c hn2) hr D A (λH y B=>hsp w H a ns c y B) λH e s'=>hCX w H m e s'
def Ej(s:Stmt):Arguments:=match s with
 | .FunctionDef _ a _ _ _ _ _ _ _ _=>a
 | _=>{posonlyargs:=[],args:=[],vararg:=none,kwonlyargs:=[],kw_defaults:=[],kwarg:=none,defaults:=[]}
def Ef(s:Stmt):List Stmt:=match s with
 | .FunctionDef _ _ b _ _ _ _ _ _ _=>b
 | _=>[]
def D7(s:Stmt):Scope:=match s with
 | .FunctionDef _ _ _ _ _ _ sc _ _ _=>sc
 | _=>{kind:= .function,names:=[],isGenerator:=false,isCoroutine:=false}
abbrev Eh:Hl:=λ_ _ _ _ _ _=>False
abbrev E0:XK:=λ_ _ _=>False
theorem Ec{X:Cx}:EC Eh X E0:=λ_ _ _ _ _ _ _ h=>h.elim
structure Fun(K:cu)(x qual:Str)(st:Stmt)(f:cG)(fd:FuncData):Prop where
 ex:∃(oc:cA) (od:Option cG) (kV doc pm:cA) (an:Option cG) (cdv ct:cA) (osl:Array (Option cA)),
  fd=f7 x qual (Ej st) (Ef st) (D7 st) .none kV doc pm an cdv ct/\K.lookup f=some ⟨oc,od,.func fd,osl⟩/\lZ K cdv qual=true
 kp:iH K (.ref f)=true
section
variable{P:cT}{w:dc}{K:cu}{mg:Str->Option cA}{base:Heap}
theorem Fun.ok{x qual:Str}{st:Stmt}{f:cG}{fd:FuncData}{N ps:List Str}{k:Nat}{sp:Sp}(F:Fun K x qual st f fd)(S:Ea N ps (D7 st))(len:∀vs H Q E,sp vs H Q E->vs.length=ps.length)
  (hbody:∀(cdv:cA) (A:dw) (outer:List Env) (s:cD) (H:Hp) (vs:List V) (Q:VK) (E:XK),Room k (A.deeper (envOfC qual (D7 st) s.heap.objs.size f cdv))->sp vs H Q E->
   ∃t,PSs (Hx Eh P w K mg base N qual (D7 st) f cdv A outer s H E).nox (Ef st) t/\t {nx:=λ_ H'=>Q .non H',rt:=Q} (start N vs) H):FnOk P w K mg base Eh (k+1) f fd ps sp:=by
 obtain⟨m,l,kV,e,j,n,cdv,g,d,rfl,lk,b⟩:=F.ex
 refine BS lk b S len λA outer s H vs Q E c a=>?_
 obtain⟨t,h,q⟩:=hbody cdv A outer s H vs Q E c a
 exact⟨t,h.nox,q⟩
theorem Fun.binds{x qual:Str}{st:Stmt}{f:cG}{fd:FuncData}{ps:List Str}(F:Fun K x qual st f fd)
  (h:∀(kV doc pm:cA) (an:Option cG) (cdv ct:cA) (us:List cA),us.length=ps.length->bindArgs (f7 x qual (Ej st) (Ef st) (D7 st) .none kV doc pm an cdv ct) ⟨us,[]⟩=pure (ps.zip us)):Binds K fd ps []:=by
 obtain⟨c,d,kV,doc,pm,an,cdv,ct,b,rfl,lk,a⟩:=F.ex
 exact .all (h kV doc pm an cdv ct)
theorem yQ{x qual:Str}{st:Stmt}{f:cG}{oc:cA}{od an:Option cG}{osl:Array (Option cA)}{kV doc pm cdv ct:cA}(l:K.lookup f=some ⟨oc,od,.func (f7 x qual (Ej st) (Ef st) (D7 st) .none kV doc pm an cdv ct),osl⟩)
  (c:lZ K cdv qual=true)(k:iH K (.ref f)=true):Fun K x qual st f (f7 x qual (Ej st) (Ef st) (D7 st) .none kV doc pm an cdv ct):=⟨⟨oc,od,kV,doc,pm,an,cdv,ct,osl,rfl,l,c⟩,k⟩
end
theorem D8{n:Nat}(h:n<=1000):n<sizeLine:=eP h (by decide)
section
variable{X:Cx}
theorem pv(i:Nat){x:Str}{pos:Pos}(hN:X.N[i]?=some x:=by rfl)(hv:LW X.env.scope x:=by first|exact Or.inl rfl|exact Or.inr (Or.inl rfl)|exact Or.inr (Or.inr rfl))(hd:(x==("__debug__":Str))=false:=by decide)
  (hcd:(x==("__classdict__":Str))=false:=by decide):PE X (.Name x pos) (Lm i):=DE hN hv hd hcd
end
theorem Eo{A B:Prop}(h:B):if false=true then A else B:=by
 rw[if_neg de];exact h
theorem EN{A B:Prop}(h:A):if true=true then A else B:=by
 rw[if_pos rfl];exact h
theorem Jq{c A B:Prop}[Decidable c](h1:c->A)(h2:¬c->B):if c then A else B:=by
 by_cases h:c
 ·rw[if_pos h];exact h1 h
 ·rw[if_neg h];exact h2 h
theorem GS{c A B:Prop}[Decidable c](hc:c)(h:B):if(!decide c)=true then A else B:=by
 rw[decide_eq_true hc];exact Eo h
def Same(H H':Hp):Prop:=∀b o,H b=some o->H' b=some o
theorem Same.refl(H:Hp):Same H H:=λ_ _ h=>h
theorem Same.trans{H H1 H2:Hp}(a:Same H H1)(b:Same H1 H2):Same H H2:=λc o h=>b c o (a c o h)
theorem Same.free{H H':Hp}(e:Same H H'){l:cG}(h:H' l=Option.none):H l=Option.none:=by
 cases q:H l with
 | none=>rfl
 | some o=>
  rw[e l o q]at h
  cases h
theorem Same.seq{K:cu}{H H':Hp}{a:cG}{xs:List V}(e:Same H H')(h:SqL K H a xs):SqL K H' a xs:=by
 rcases h with(h|⟨o,h⟩)|h
 ·exact .inl (.inl (e _ _ h))
 ·exact .inl (.inr ⟨o,e _ _ h⟩)
 ·exact .inr h
def FS(scope:Scope)(env:Env):List (Str×cG):=
 (scope.names.filterMap λx=>if x.2==er then(env.cells.lookup x.1).map λc=>(x.1,c)else none).reverse
theorem yb{env:Env}(f:Str×io->List (Str×cG)->Sem (ForInStep (List (Str×cG))))
  (hf:∀n k r,f (n,k) r=(if(k==er)=true then(do let c<-cellOf env n;pure (.yield ((n,c)::r)))else pure (.yield r))):
  ∀(ns:List (Str×io)) (cs:List (Str×cG)),(∀x∈ns,x.2 = .free->∃c,env.cells.lookup x.1=some c)->
   forIn ns cs f=pure ((ns.filterMap λx=>if x.2==er then(env.cells.lookup x.1).map λc=>(x.1,c)else none).reverse++cs)
 | [],cs,_=>by rw[gp];rfl
 | (n,k)::r,cs,h=>by
  rw[eg,hf]
  have a:∀x∈r,x.2 = .free->∃c,env.cells.lookup x.1=some c:=λx e=>h x (cO _ e)
  by_cases hk:k = .free
  ·subst hk
   obtain⟨c,b⟩:=h (n,.free) cM rfl
   have g:cellOf env n=pure c:=by unfold cellOf;rw[b]
   rw[if_pos (by rfl),g,pure_bind,pure_bind]
   show forIn r ((n,c)::cs) f=_
   rw[yb f hf r _ a,gb]
   simp[b]
  ·have d:(k==er)=false:=by simpa using hk
   rw[if_neg (by rw[d];decide),pure_bind]
   show forIn r cs f=_
   rw[yb f hf r _ a,gb]
   simp[d]
theorem Bd{scope:Scope}{env:Env}(h:∀x∈scope.names,x.2 = .free->∃c,env.cells.lookup x.1=some c):closureFor scope env=pure (FS scope env):=by
 simp only[closureFor];rw[yb (env:=env) _ (λn k r=>by cases hk:k==er <;> simp[hk]) scope.names [] h];rw[fT];rfl
theorem uh{env:Env}{x:Str}:∀{l:List (Str×cG)} {c:cG},(∀p∈l,env.cells.lookup p.1=some p.2)->l.lookup x=some c->env.cells.lookup x=some c
 | [],_,_,e=>by simp at e
 | (n,d)::r,c,h,e=>by
  rw[dW]at e
  cases a:x==n with
  | true=>
   rw[a]at e
   have f:d=c:=Option.some.inj e
   have b:x=n:=by simpa using a
   subst b f
   exact h _ cM
  | false=>
   rw[a]at e
   exact uh (λp hp=>h p (cO _ hp)) e
theorem yl{scope:Scope}{env:Env}{p:Str×cG}(h:p∈FS scope env):env.cells.lookup p.1=some p.2:=by
 unfold FS at h;rw[k6,gF]at h;obtain⟨x,_,e⟩:=h;split at e
 ·cases q:env.cells.lookup x.1 with
  | none=>rw[q]at e;cases e
  | some c=>
   rw[q]at e;have a:(x.1,c)=p:=Option.some.inj e;subst a;exact q
 ·cases e
theorem wE{scope:Scope}{env:Env}{x:Str}{c:cG}(h:(x,c)∈FS scope env):(x,er)∈scope.names:=by
 unfold FS at h;rw[k6,gF]at h;obtain⟨⟨y,k⟩,b,e⟩:=h;split at e
 ·rename_i hk
  have a:k = .free:=by simpa using hk
  cases q:env.cells.lookup y with
  | none=>simp[q]at e
  | some d=>
   simp[q]at e;rw[<-e.1,<-a];exact b
 ·cases e
theorem sL{scope:Scope}{env:Env}{x:Str}{c:cG}(e:(FS scope env).lookup x=some c):env.cells.lookup x=some c:=
 uh (λ_ hp=>yl hp) e
theorem tG{x:Str}:∀{l:List (Str×cG)},(∃c,(x,c)∈l)->∃c,l.lookup x=some c
 | [],⟨_,h⟩=>by cases h
 | (n,d)::r,⟨c,h⟩=>by
  rw[dW]
  cases a:x==n with
  | true=>exact⟨d,rfl⟩
  | false=>
   rcases cZ.mp h with q|q
   ·injection q with q1 _
    rw[q1]at a
    simp at a
   ·exact tG ⟨c,q⟩
theorem yG{scope:Scope}{env:Env}{x:Str}{c:cG}(hm:(x,er)∈scope.names)(e:env.cells.lookup x=some c):(FS scope env).lookup x=some c:=by
 have a:(x,c)∈FS scope env:=by
  unfold FS;rw[k6,gF];exact⟨(x,.free),hm,by simp[e]⟩
 obtain⟨d,b⟩:=tG ⟨c,a⟩;have:=sL b;rw[e]at this
 cases this;exact b
def EZ(caps:List (Option Nat))(σ:St):St:=caps.map λo=>o.bind λi=>(σ[i]?).bind id
structure CompOk(scope sc:Scope)(NX N:List Str)(caps:List (Option Nat)):Prop where
 kind:scope.kind = .function
 nd:N.Nodup
 own:∀y∈scope.names,y.2 = .cell->scope.names.lookup y.1=some .cell
 loc:∀y∈scope.names,y.2 = .local->scope.names.lookup y.1=some .local
 free:∀y∈scope.names,y.2 = .free->scope.names.lookup y.1=some .free/\(sc.names.lookup y.1=some .cell\/sc.names.lookup y.1=some .free)
 len:caps.length=N.length
 cap:∀p∈(caps.zip N),∀i,p.1=some i->NX[i]?=some p.2/\scope.names.lookup p.2=some .free
def IZ(scope sc:Scope)(NX N:List Str)(caps:List (Option Nat)):Bool:=
 (scope.kind == .function)&&decide N.Nodup&&scope.names.all (λy=>y.2 != .cell||scope.names.lookup y.1==some .cell)&&scope.names.all (λy=>y.2 != .local||scope.names.lookup y.1==some .local) &&
 scope.names.all (λy=>y.2 != .free||(scope.names.lookup y.1==some .free&&(sc.names.lookup y.1==some .cell||sc.names.lookup y.1==some .free)))&&(caps.length==N.length) &&
 (caps.zip N).all (λp=>match p.1 with|none=>true|some i=>NX[i]?==some p.2&&scope.names.lookup p.2==some .free)
theorem CompOk.of{scope sc:Scope}{NX N:List Str}{caps:List (Option Nat)}(h:IZ scope sc NX N caps=true):CompOk scope sc NX N caps:=by
 unfold IZ at h;simp only[dn]at h;obtain⟨⟨⟨⟨⟨⟨h1,h2⟩,h3⟩,h4⟩,h5⟩,h6⟩,b⟩:=h;refine⟨by simpa using h1,of_decide_eq_true h2,λy a c=>?_,λy a e=>?_,λy a f=>?_,by simpa using h6,λp hp i d=>?_⟩
 ·have:=dZ.mp h3 y a;rw[c]at this;simpa using this
 ·have:=dZ.mp h4 y a;rw[e]at this;simpa using this
 ·have:=dZ.mp h5 y a;rw[f]at this;simpa using this
 ·have:=dZ.mp b p hp;rw[d]at this;simpa using this
def Ku(scope:Scope)(C:cG)(env:Env):List (Str×cG):=cellsFrom (C+1) scope.names (FS scope env)
theorem t8:∀(names:List (Str×io)) (n:Nat) (acc:List (Str×cG)) {x:Str} {c:cG},(cellsFrom n names acc).lookup x=some c->(n<=c/\(x,f5)∈names)\/acc.lookup x=some c
 | [],_,_,_,_,h=> .inr h
 | (y,k)::r,n,acc,x,c,h=>by
  unfold cellsFrom at h
  split at h
  ·rename_i hk
   have b:k = .cell:=by simpa using hk
   rcases t8 r (n+1) _ h with⟨h1,h2⟩|h2
   ·exact .inl ⟨by omega,cO _ h2⟩
   ·rw[dW]at h2
    cases a:x==y with
    | true=>
     rw[a]at h2
     have e:n=c:=Option.some.inj h2
     have d:x=y:=by simpa using a
     exact .inl ⟨by omega,by rw[d,b];exact cM⟩
    | false=>rw[a]at h2;exact .inr h2
  ·rcases t8 r n acc h with⟨h1,h2⟩|h2
   ·exact .inl ⟨h1,cO _ h2⟩
   ·exact .inr h2
theorem uM:∀(names:List (Str×io)) (n:Nat) (acc:List (Str×cG)) {x:Str},(x,f5)∉names->(cellsFrom n names acc).lookup x=acc.lookup x
 | [],_,_,_,_=>rfl
 | (y,k)::r,n,acc,x,h=>by
  unfold cellsFrom
  have b:(x,f5)∉r:=λz=>h (cO _ z)
  split
  ·rename_i hk
   have c:k = .cell:=by simpa using hk
   rw[uM r _ _ b,dW]
   have a:(x==y)=false:=by
    cases a:x==y with
    | false=>rfl
    | true=>
     have d:x=y:=by simpa using a
     exact absurd (by rw[d,c];exact cM) h
   rw[a]
  ·exact uM r n acc b
theorem uC:∀(names:List (Str×io)) (n:Nat) (acc:List (Str×cG)) {x:Str},((x,f5)∈names\/∃c,acc.lookup x=some c)->∃c,(cellsFrom n names acc).lookup x=some c
 | [],_,_,_,h=>by
  rcases h with h|h
  ·cases h
  ·exact h
 | (y,k)::r,n,acc,x,h=>by
  unfold cellsFrom
  split
  ·rename_i hk
   refine uC r _ _ ?_
   by_cases a:x=y
   ·subst a;exact .inr ⟨n,by simp[dW]⟩
   ·rcases h with h|⟨c,h⟩
    ·rcases cZ.mp h with z|z
     ·injection z with z1 _;exact absurd z1 a
     ·exact .inl z
    ·exact .inr ⟨c,by rw[dW,show(x==y)=false by simpa using a];exact h⟩
  ·rename_i hk
   refine uC r _ _ ?_
   rcases h with h|h
   ·rcases cZ.mp h with z|z
    ·injection z with _ z2
     rw[<-z2]at hk
     exact absurd rfl hk
    ·exact .inl z
   ·exact .inr h
theorem vK:∀(names:List (Str×io)) (n:Nat) (acc:List (Str×cG)),(∀x y c,acc.lookup x=some c->acc.lookup y=some c->x=y)->(∀x c,acc.lookup x=some c->c<n)->
  ∀x y c,(cellsFrom n names acc).lookup x=some c->(cellsFrom n names acc).lookup y=some c->x=y
 | [],_,_,hi,_=>hi
 | (w,k)::r,n,acc,hi,hb=>by
  unfold cellsFrom
  split
  ·refine vK r (n+1) _ (λx y c h1 h2=>?_) (λx c h=>?_)
   ·rw[dW]at h1 h2
    cases a:x==w <;> cases b:y==w <;> rw[a]at h1 <;> rw[b]at h2
    ·exact hi x y c h1 h2
    ·cases h2;exact absurd (hb x _ h1) (dt _)
    ·cases h1;exact absurd (hb y _ h2) (dt _)
    ·have e:x=w:=by simpa using a
     have d:y=w:=by simpa using b
     rw[e,d]
   ·rw[dW]at h
    cases a:x==w <;> rw[a]at h
    ·exact dz (hb x c h)
    ·cases h;exact dH _
  ·exact vK r n acc hi hb
theorem vt:∀(names:List (Str×io)) (h:Heap) (acc:List (Str×cG)) {x:Str} {c:cG},(x,c)∈cellsFrom h.objs.size names acc->(x,c)∈acc\/(h.objs.size<=c/\(pushCells h names).IsCell c none)
 | [],_,_,_,_,hm=> .inl hm
 | (y,k)::r,h,acc,x,c,hm=>by
  unfold cellsFrom at hm
  unfold pushCells
  split at hm
  ·rename_i hk
   rw[if_pos hk]
   have b:(x,c)∈cellsFrom (h.push {cls:= .type "cell",data:= .cell none}).objs.size r ((y,h.objs.size)::acc):=by rw[gn];exact hm
   rcases vt r _ _ b with z|⟨d,a⟩
   ·rcases cZ.mp z with z|z
    ·injection z with _ a
     subst a
     refine .inr ⟨cI _,_,lG r _ _ _ (cN _ rfl),rfl⟩
    ·exact .inl z
   ·rw[gn]at d
    exact .inr ⟨by omega,a⟩
  ·rename_i hk
   rw[if_neg hk]
   exact vt r h acc hm
theorem yd{M:Model}{A:dw}{E:cA->cD->Prop}{s:cD}{scope:Scope}{globals:cG}{cl:List (Str×cG)}{qual:Str}{env:Env}{Q:Env->cD->Prop}(hcl:∀x c,(x,c)∈cl->c<s.heap.objs.size)
  (h:∀h':Heap,h'.Ns s.heap.objs.size (λ_=>none)->(∀b o,s.heap.get? b=some o->h'.get? b=some o)->(∀x c,(cellsFrom (s.heap.objs.size+1) scope.names cl).lookup x=some c->s.heap.objs.size+1<=c->h'.IsCell c none)->
   Q {scope:=scope,locals:=s.heap.objs.size,globals:=globals,cells:=cellsFrom (s.heap.objs.size+1) scope.names cl,qual:=qual,func:=none,code:=env.code,frame:=env.frame,builtins:=env.builtins} {s with heap:=h'}):
  wpAny M A (newFunctionEnv scope globals cl [] qual none .none (some env)) Q E s:=by
 simp only[newFunctionEnv,Option.isSome_some,if_true]
 refine cr (om ?_)
 refine cr (wpAny_layCells _ (λg a cells=>by cases d:a==f5 <;> simp[d]) _ _ _ _ ?_)
 rw[show({s with heap:=s.heap.push {cls:= .type "dict",data:= .dict #[]}}:cD).heap.objs.size=s.heap.objs.size+1 from gn ..]
 refine cr ?_
 rw[gp]
 refine cv (cv (h _ ?_ (λb o e=>lG _ _ _ _ (cF _ e)) λx c e j=>?_))
 ·refine⟨_,#[],0,lG _ _ _ _ (cN _ rfl),rfl,?_,λx=>rfl⟩
  first|exact λe k=>by simp at k|simp
 ·have l:=eU e
  have f:(x,c)∈cellsFrom (s.heap.push {cls:= .type "dict",data:= .dict #[]}).objs.size scope.names cl:=by rw[gn];exact l
  rcases vt _ _ _ f with z|z
  ·exact absurd (cU (hcl x c z) (Nat.le_of_succ_le j)) (dt _)
  ·exact z.2
def El(X:Cx)(scope:Scope)(N:List Str)(C:cG)(s₀:cD)(H₀:Hp)(ex:List cG):Cx where
 prog:=X.prog
 w:=X.w
 K:=X.K
 mg:=X.mg
 base:=X.base
 A:=X.A
 N:=N
 s₀:=s₀
 H₀:=H₀
 env:=compEnvC scope (Ku scope C X.env) C X.env
 outer:=X.stack
 stack:=X.stack
 ex:=ex
 fn:=λx=>scope.names.lookup x==some .cell
 calm:=X.calm
 pn:=[]
 xe:=λ_ _=>False
theorem uU{scope:Scope}{env:Env}{x:Str}{k:io}(hk:k = .cell\/k = .free)(h:(relabel scope env).names.lookup x=some k):(x,er)∈scope.names\/(x,f5)∈scope.names:=by
 have b:(x,k)∈(relabel scope env).names:=eU h;unfold relabel at b;rw[dv]at b;obtain⟨⟨n,d⟩,c,e⟩:=b;dsimp only at e;by_cases a:(d==er&&env.scope.kind == .function&&env.kindOf n==some .cell)=true
 ·rw[if_pos a]at e;injection e with e1 e2
  have:d = .free:=by
   rw[dn,dn]at a;simpa using a.1.1
  subst this e1;exact .inl c
 ·rw[if_neg a]at e;injection e with e1 e2
  subst e1 e2;rcases hk with hk|hk
  ·subst hk;exact .inr c
  ·subst hk;exact .inl c
theorem tw{env:Env}:∀{names:List (Str×io)} {x:Str},names.lookup x=some .free->
  (names.map λ(n,k)=>if(k==er&&env.scope.kind == .function&&env.kindOf n==some .cell)then(n,f5)else(n,k)).lookup x=some .cell\/
  (names.map λ(n,k)=>if(k==er&&env.scope.kind == .function&&env.kindOf n==some .cell)then(n,f5)else(n,k)).lookup x=some .free
 | [],_,h=>by simp at h
 | (n,k)::r,x,h=>by
  have c:=@tw env r x
  rw[dN]
  dsimp only
  cases a:x==n with
  | true=>
   simp only[dW,a]at h
   cases h
   by_cases b:(er==er&&env.scope.kind == .function&&env.kindOf n==some .cell)=true
   ·rw[if_pos b];left;simp[dW,a]
   ·rw[if_neg b];right;simp[dW,a]
  | false=>
   simp only[dW,a]at h
   by_cases b:(k==er&&env.scope.kind == .function&&env.kindOf n==some .cell)=true
   ·rw[if_pos b];simp only[dW,a];exact c h
   ·rw[if_neg b];simp only[dW,a];exact c h
section
variable{X:Cx}{pins:List (cG×Obj)}{σ:St}{H:Hp}{s:cD}{scope:Scope}{N:List Str}{caps:List (Option Nat)}{fp:List cG}
theorem zn{h1:Heap}{tk:Nat}(I:Inv X pins σ H s)(O:CompOk scope X.env.scope X.N N caps)(f2:∀b∈fp,F9 X pins H b)(hob:∀b∈fp,b<s.heap.objs.size)
  (hns:h1.Ns (s.heap.objs.size+1) (λ_=>none))(hD:h1.get? s.heap.objs.size=some {cls:= .type "list",data:= .seq #[]})(old:∀b o,s.heap.get? b=some o->h1.get? b=some o)
  (hnew:∀x c,(Ku scope (s.heap.objs.size+1) X.env).lookup x=some c->s.heap.objs.size+1+1<=c->h1.IsCell c none):
  Inv (El X scope N (s.heap.objs.size+1) s H fp) [(s.heap.objs.size,{cls:= .type "list",data:= .seq #[]})] (EZ caps σ) H {s with heap:=h1,toks:=tk}:=by
 have Q:∀b∈Fj X.stack,b<s.heap.objs.size:=λb f=>by
  obtain⟨_,o,t,_⟩:=I.stack.mem f
  exact cQ t
 have h:∀x c,X.env.cells.lookup x=some c->c<s.heap.objs.size:=λx c e=>by
  obtain⟨v,o,t,_⟩:=I.cell x c e
  exact cQ t
 have D:∀x c,(Ku scope (s.heap.objs.size+1) X.env).lookup x=some c->(s.heap.objs.size+1+1<=c/\(x,f5)∈scope.names)\/X.env.cells.lookup x=some c:=λx c e=>by
  rcases t8 _ _ _ e with z|z
  ·exact .inl z
  ·exact .inr (sL z)
 have B:∀x,(x,er)∈scope.names->∃c,X.env.cells.lookup x=some c:=λx d=>by
  rcases(O.free _ d rfl).2 with q|q
  ·exact I.ok.has x (.inl q)
  ·exact I.ok.has x (.inr q)
 have n:∀x,(x,er)∈scope.names->(x,f5)∉scope.names:=λx d L=>by
  have h1:=(O.free _ d rfl).1
  have h2:=O.own _ L rfl
  dsimp only at h1 h2
  rw[h1]at h2
  cases h2
 refine⟨⟨I.ok.mod,O.kind,I.ok.glob,I.ok.blt,ec _,λx y c h1 h2=>?_,λx C=>?_,λx c E e=>?_,I.ok.hd,I.ok.frames,.inl rfl,λb f=>⟨df (dz (hob b f)),λx c e=>?_⟩,I.bs,?_,λb o e f=>?_,λb f M=>?_,I.stack,I.stkFree⟩,
  rfl,I.bare,Un.kept old,⟨_,hns,λi x v Z A e3=>?_⟩,λx c e=>?_,I.hok.fresh (ec _),λx c e=>?_,λp hp=>?_,I.hok.kept old,?_⟩
 ·exact vK scope.names _ (FS scope X.env) (λx y c a b=>I.ok.inj x y c (sL a) (sL b)) (λx c a=>dz (dz (h x c (sL a)))) x y c h1 h2
 ·have d:(x,er)∈scope.names\/(x,f5)∈scope.names:=by
   rcases C with C|C
   ·exact uU (.inl rfl) C
   ·exact uU (.inr rfl) C
  rcases d with d|d
  ·obtain⟨c,L⟩:=B x d
   exact uC _ _ _ (.inr ⟨c,yG d L⟩)
  ·exact uC _ _ _ (.inl d)
 ·have P:scope.names.lookup x=some .cell:=by simpa [El]using E
  rcases D x c e with z|z
  ·exact dB (cU (dz (dH _)) z.1)
  ·exfalso
   have d:=eU P
   rcases t8 _ _ _ e with w|w
   ·exact absurd (cU (h x c z) (dg (iC (ec _)) w.1)) (dt _)
   ·have F:=wE (eU w)
    exact n x F d
 ·rcases D x c e with z|z
  ·exact λw=>absurd (cU (hob b f) (dg (iC (ec _)) (w▸z.1))) (dt _)
  ·exact(f2 b f).2.2.2.2.1 x c z
 ·exact dg I.ok.bsz I.sz
 ·rcases(f2 b f).2.2.2.1 with z|z
  ·exact I.ok.noex b o e z
  ·exact absurd (cU (cQ (I.ok.bs b o e).1) z) (dt _)
 ·rcases cZ.mp (I.stkSub b M)with z|z
  ·exact(f2 b f).2.1 z
  ·exact(f2 b f).2.2.1 z
 · -- a captured name
  have hi:i<caps.length:=by
   have:=(cL.mp A).1
   unfold EZ at this
   rwa[cx]at this
  have G:∃j,caps[i]?=some (some j)/\σ[j]?=some (some v):=by
   unfold EZ at A
   rw[cH]at A
   cases q:caps[i]? with
   | none=>rw[q]at A;cases A
   | some o=>
    rw[q]at A
    have g:(o.bind λi=>(σ[i]?).bind id)=some v:=Option.some.inj A
    cases o with
    | none=>cases g
    | some j=>
     refine⟨j,rfl,?_⟩
     cases R:σ[j]? with
     | none=>rw[nT,R]at g;cases g
     | some W=>
      rw[nT,R]at g
      cases W with
      | none=>cases g
      | some v2=>cases g;rfl
  obtain⟨j,V,Y⟩:=G
  have U:N[i]?=some x:=Z
  have hz:(some j,x)∈caps.zip N:=by
   have:(caps.zip N)[i]?=some (some j,x):=by
    rw[i3]
    exact⟨V,U⟩
   exact da this
  obtain⟨hX,E⟩:=O.cap _ hz j rfl
  have d:(x,er)∈scope.names:=eU E
  have J:LW X.env.scope x:=by
   rcases(O.free _ d rfl).2 with q|q
   ·exact .inr (.inl q)
   ·exact .inr (.inr q)
  obtain⟨m,hn,T⟩:=I.loc
  obtain⟨u,r,l⟩:=T j x v hX Y J
  refine⟨u,r,?_⟩
  rcases l with⟨k,_⟩|⟨_,c,e,⟨o,t,K⟩⟩
  ·exfalso
   rcases(O.free _ d rfl).2 with q|q
   ·have:X.env.scope.names.lookup x=some .local:=k
    rw[q]at this;cases this
   ·have:X.env.scope.names.lookup x=some .local:=k
    rw[q]at this;cases this
  ·have S:(El X scope N (s.heap.objs.size+1) s H fp).env.kindOf x=some .cell\/(El X scope N (s.heap.objs.size+1) s H fp).env.kindOf x=some .free:=tw E
   exact .inr ⟨S,c,(uM _ _ _ (n x d)).trans (yG d e),⟨o,old c o t,K⟩⟩
 ·rcases D x c e with z|z
  ·exact⟨none,hnew x c e z.1⟩
  ·obtain⟨v,o,t,K⟩:=I.cell x c z
   exact⟨v,o,old c o t,K⟩
 ·rcases D x c e with z|z
  ·exact I.hok.fresh (dg (iC (ec _)) z.1)
  ·exact I.freeC x c z
 ·have e:p=(s.heap.objs.size,{cls:= .type "list",data:= .seq #[]}):=by simpa [El]using hp
  subst e
  refine⟨hD,I.hok.fresh (cI _),df (dH _),λf=>absurd (Q _ f) (dt _),λv z=>by cases z⟩
 ·show(EZ caps σ).length=N.length
  unfold EZ
  rw[cx]
  exact O.len
end
def LD(X:Cx)(ifs:List Expr)(t:TT):Prop:=
 ∀(pins:List (cG×Obj)) (s:cD) (σ:St) (H:Hp) (Q:Bool->Hp->Prop),Inv X pins σ H s->t σ H Q->
  wpAny (model X.prog X.w) X.A (forIn ifs true λc r=>if r=true then do let ok<-isTrue c X.env (eval c X.env);pure (jS ok)else pure (jS r)) (TP X pins σ Q) X.xe s
def FT:TT:=λ_ H Q=>Q true H
theorem sh{X:Cx}:LD X [] FT:=λ_ _ _ H _ I h=>wpAny_tests_nil ⟨H,I,h⟩
theorem tS{X:Cx}{c:Expr}{t:TT}(h:PT X c t):LD X [c] t:=λa s b H Q I d=>wpAny_tests_one (h a s b H Q I d)
section
variable{prog:cT}{w:dc}{A:dw}{R:Result->cD->Prop}{s:cD}
theorem Bb{elt target iter:Expr}{ifs:List Expr}{scope:Scope}{pos:Pos}{it acc:cA}{env:Env}(I:Nat->cD->Prop)
  (turn:∀n s,I n s->wpAny (model prog w) A (pyNext it) (λr s₁=>match r with
   | none=>R (.ok .next) s₁
   | some v=>wpAny (model prog w) A (letOwnedTupleGo target it v) (λ_ s₀=>wpAny (model prog w) A (assign target env v) (λ_ s₂=>
     wpAny (model prog w) A (forIn ifs true λc r=>if r=true then do let ok<-isTrue c env (eval c env);pure (jS ok)else pure (jS r)) (λok s₃=>
      if ok=true then wpAny (model prog w) A (eval elt env) (λx s₄=>
       wpAny (model prog w) A (call (.builtin "list.append") [acc,x]) (λ_ s₅=>∃m,m<n/\I m s₅) (λ_ _=>False) s₄) (λ_ _=>False) s₃
      else ∃m,m<n/\I m s₃) (λ_ _=>False) s₂) (λ_ _=>False) s₀) (λ_ _=>False) s₁) (λ_ _=>False) s)
  (n:Nat)(h:I n s):codeAny (model prog w) A (.compLoop (.ListComp elt [⟨target,iter,ifs,0⟩] scope pos) 0 it acc env) R s:=by
 refine codeAny_loop rfl I (λn s j=>?_) n h
 show wpAny _ A ((compTurn (.ListComp elt [⟨target,iter,ifs,0⟩] scope pos) 0 it acc env).onRaise (λx=>do noteFrame x env;theTreesLotGoes x)) _ _ s
 refine wpAny_noted (wpAny_noRaise ?_)
 rw[compTurn_list]
 refine cr (mv (cr (Ei (turn n s j) λr s₁ a=>?_)))
 cases r with
 | none=>exact cv a
 | some v=>
  refine cr (Ei a λ_ s₀ e=>?_)
  refine cr (Ei e λ_ s₂ f=>cr (Ei f λok s₃ b=>?_))
  cases ok with
  | false=>exact cv ⟨rfl,b⟩
  | true=>exact cr (cr (Ei b λx s₄ d=>cr (Ei d λ_ s₅ g=>cv (cv ⟨rfl,g⟩))))
end
def Keep(caps:List (Option Nat))(σ σ':St):Prop:=∀(j:Nat) (v:V),(EZ caps σ)[j]?=some (some v)->σ'[j]?=some (some v)
def GK(caps:List (Option Nat))(g:TG):Prop:=∀σ σ1 x H (Q:St->Hp->Prop),Keep caps σ σ1->g x σ1 H Q->g x σ1 H λσ2 H2=>Keep caps σ σ2/\Q σ2 H2
def LR(caps:List (Option Nat))(g:JK):Prop:=∀σ σ1 xs H (Q:St->Hp->Prop),Keep caps σ σ1->g xs σ1 H Q->g xs σ1 H λσ2 H2=>Keep caps σ σ2/\Q σ2 H2
theorem Keep.set{caps:List (Option Nat)}{σ σ':St}{i:Nat}{x:Option V}(k:Keep caps σ σ')(h:caps[i]?=some none):Keep caps σ (σ'.set i x):=λj v e=>by
 by_cases a:i=j
 ·subst a;unfold EZ at e;rw[cH,h]at e
  cases e
 ·rw[jL a];exact k j v e
theorem rV{caps:List (Option Nat)}{i:Nat}(h:caps[i]?=some none):GK caps (Io i):=λ_ _ _ _ _ k q=>⟨k.set h,q⟩
theorem wU{caps:List (Option Nat)}:LR caps LA:=λ_ _ _ _ _ k q=>⟨q.1,k,q.2⟩
theorem sZ{caps:List (Option Nat)}{t:TG}{u:JK}(mono:∀x σ H (Q Q':St->Hp->Prop),(∀σ H,Q σ H->Q' σ H)->t x σ H Q->t x σ H Q')(h1:GK caps t)(h2:LR caps u):LR caps (Kh t u):=λσ a g H Q k q=>by
 obtain⟨v,r,e,q⟩:=q;refine⟨v,r,e,?_⟩;exact mono _ _ _ _ _ (λb f ⟨c,d⟩=>h2 σ b r f Q c d) (h1 σ a v H _ k q)
theorem sF{i:Nat}:∀x σ H (Q Q':St->Hp->Prop),(∀σ H,Q σ H->Q' σ H)->Io i x σ H Q->Io i x σ H Q':=λ_ _ _ _ _ h q=>h _ _ q
theorem yB{K:cu}{caps:List (Option Nat)}{n:Nat}{t:JK}(h:LR caps t):GK caps (Kt K n t):=λf b x H Q k q=>by
 obtain⟨a,c,e,d,g,q⟩:=q;exact⟨a,c,e,d,g,h f b c H Q k q⟩
def IQ(its:List cA)(n:Nat):Obj:={cls:= .type "list",data:= .seq its.toArray n}
def EB(caps:List (Option Nat))(g:TG)(tt:TT)(te:TE)(σ:St)(QQ:List V->Hp->Prop)(J:It)(H1:Hp):Prop:=
 ∃W:Nat->Nat->List V->Hp->Prop,(∃m,W 0 m [] H1)/\∀i m ys H,W i m ys H->
  (J.stop i H/\QQ ys H)\/(J.go i H/\∃N:List V->Hp->Prop,(∀ys' H',N ys' H'->∃m',m'<m/\W (i+1) m' ys' H')/\
   ∀x H',J.yld i H x H'->g x (EZ caps σ) H' λσ2 H2=>tt σ2 H2 λb H3=>if b=true then te σ2 H3 λy H4=>ys.length<sizeLine/\N (ys++[y]) H4 else N ys H3)
def K6(caps:List (Option Nat))(wi:TI)(g:TG)(tt:TT)(te:TE):TE:=λσ H Q=>
 wi σ H (EB caps g tt te σ λys H'=>∀D,H' D=none->Q (.ref D) (upd H' D (.lst ys)))
section
variable{X:Cx}{pins:List (cG×Obj)}{σ:St}{scope:Scope}{N:List Str}{caps:List (Option Nat)}{fp:List cG}
theorem BW{H H':Hp}{s s':cD}{σ':St}{its:List cA}{n:Nat}{ys:List V}(I:Inv X pins σ H s)(f2:∀b∈fp,F9 X pins H b)
  (J:Inv (El X scope N (s.heap.objs.size+1) s H fp) [(s.heap.objs.size,IQ its n)] σ' H' s')(hv:Vals ys its)(hz:ys.length<=sizeLine):
  Inv X pins σ (upd H' s.heap.objs.size (.lst ys)) s'/\H' s.heap.objs.size=none/\H' (s.heap.objs.size+1)=none:=by
 have f:=J.pin (s.heap.objs.size,IQ its n) (d5 _ (cK.mpr rfl))
 obtain⟨l,d,t,_,_⟩:=f
 have c:H s.heap.objs.size=none:=I.hok.fresh (cI _)
 have j:∀b o,s.heap.get? b=some o->b≠s.heap.objs.size:=λb o e=>df (cQ e)
 refine⟨I.call' (ch:=fp) J.os ⟨J.base.keep,J.base.slot,λb o e k p=>?_,J.base.there,λb h e=>?_,λb o u e=>?_,λb r e=>?_⟩ (λa o e=>?_) J.bare (λb m=>?_),d,J.free⟩
 ·rw[rG (j b o e)];exact J.base.free b o e k p
 ·rw[rG (rE e c)];exact J.base.tups b h e
 ·rw[rG (rE e c)];exact J.base.frzs b o u e
 ·rw[rG (rE e c)];exact J.base.tbls b r e
 ·by_cases g:a=s.heap.objs.size
  ·subst g
   rw[rz]at e
   cases e
   exact⟨hz,its,n,hv,l⟩
  ·rw[rG g]at e
   exact(J.hok a o e).stay (λb u _ q=>q) (λb q=>by rw[rG (rE q d)];exact q) λb h q=>by rw[rG (rE q d)];exact q
 ·obtain⟨_,h1,_,h3,h4,h5⟩:=f2 b m
  exact⟨h3,h1,h4,h5⟩
theorem vX{elt tg iter:Expr}{ifs:List Expr}{pos:Pos}{g:TG}{tt:TT}{te:TE}{QQ:List V->Hp->Prop}{R:cA->cG->Result->cD->Prop}{itv:cA}{s2:cD}(hc:X.calm=true)(O:CompOk scope X.env.scope X.N N caps)(gk:GK caps g)
  (hg:∀C s H fp,PG (El X scope N C s H fp) tg g)(ht:∀C s H fp,LD (El X scope N C s H fp) ifs tt)(he:∀C s H fp,PE (El X scope N C s H fp) elt te)
  (h2:L1 X pins σ tg (EB caps g tt te σ QQ) itv s2)
  (fin:∀(D C:cG) (s':cD) (H':Hp) (ys:List V) (m:Str->Option cA),Inv X pins σ (upd H' D (.lst ys)) s'->s'.heap.Ns C m->H' D=none->H' C=none->C≠D->X.s₀.heap.objs.size<=C->C≠X.env.locals->(∀x c,X.env.cells.lookup x=some c->c≠C)->(∀p∈X.pn++pins,p.1≠C)->
   QQ ys H'->R (.ref D) C (.ok .next) s'):
  wpAny (model X.prog X.w) X.A (newList []) (λacc s₃=>wpAny (model X.prog X.w) X.A (newFunctionEnv scope X.env.globals (FS scope X.env) [] X.env.qual none .none (some X.env)) (λcenv s₄=>
   codeAny (model X.prog X.w) X.A (.compStart (.ListComp elt [⟨tg,iter,ifs,0⟩] scope pos) 0 itv acc {cenv with scope:=relabel scope X.env}) (R acc cenv.locals) s₄) X.xe s₃) X.xe s2:=by
 obtain⟨it,fp,tn,J,K,e,L,T,ao,f2,W,⟨m0,w0⟩,aq⟩:=h2
 subst e
 have E:∀x c,X.env.cells.lookup x=some c->c<s2.heap.objs.size:=λx c e=>by
  obtain⟨v,o,ho,_⟩:=L.cell x c e
  exact cQ ho
 refine e7 (yd (λx c Q=>by rw[gn];exact dz (E x c (yl Q))) (λB l j h=>?_))
 dsimp only at l j h ⊢
 have G:∀b∈fp,b<s2.heap.objs.size:=λb a=>by
  obtain⟨o,ho,_⟩:=T.obj _ _ ao b a
  exact cQ ho
 generalize hH2:s2.heap.push {cls:= .type "list",dict:=none,data:= .seq ([]:List cA).toArray}=G2 at l j h ⊢
 have hC:G2.objs.size=s2.heap.objs.size+1:=by rw[<-hH2,gn]
 rw[hC]at l h ⊢
 have al:∀b o,s2.heap.get? b=some o->B.get? b=some o:=λb o e=>j b o (hH2▸cF _ e)
 have hD:B.get? s2.heap.objs.size=some {cls:= .type "list",data:= .seq #[]}:=j _ _ (hH2▸cN _ rfl)
 have I0:=zn (scope:=scope) (N:=N) (caps:=caps) (fp:=fp) (tk:=s2.toks) L O f2 G l hD al h
 have aj:tn 0 B:=T.keep _ _ _ ao λb _ o e=>al b o e
 have f0:∀{pins':List (cG×Obj)} {H':Hp},(∀p∈pins',p.1=s2.heap.objs.size)->(∀b∈fp,H' b=none)->∀b∈fp,F9 (El X scope N (s2.heap.objs.size+1) s2 K fp) pins' H' b:=λ {pins' H'} hp hn b a=>by
  obtain⟨_,k1,k2,k3,k4,k5⟩:=f2 b a
  refine⟨hn b a,df (dz (G b a)),λQ=>?_,.inl a,λx c e=>by
   rcases t8 _ _ _ e with z|z
   ·exact λw=>absurd (cU (G b a) (dg (iC (ec _)) (w▸z.1))) (dt _)
   ·exact k4 x c (sL z),λp Q=>?_⟩
  ·rcases cZ.mp (L.stkSub b Q)with z|z
   ·exact k1 z
   ·exact k2 z
  ·have q:=hp p (by simpa [El]using Q)
   rw[q]
   exact ic (G b a)
 have ab:codeAny (model X.prog X.w) X.A (.compLoop (.ListComp elt [⟨tg,iter,ifs,0⟩] scope pos) 0 (.ref it) (.ref s2.heap.objs.size) (El X scope N (s2.heap.objs.size+1) s2 K fp).env)
   (R (.ref s2.heap.objs.size) (s2.heap.objs.size+1)) {s2 with heap:=B}:=by
  refine Bb (λn s'=>∃i ys f k H',Inv (El X scope N (s2.heap.objs.size+1) s2 K fp) [(s2.heap.objs.size,IQ f k)] (EZ caps σ) H' s'/\Vals ys f/\ys.length<=sizeLine/\tn i s'.heap/\(∀b∈fp,H' b=none)/\W i n ys H')
   ?_ m0 ⟨0,[],[],0,K,I0,.nil,du _,aj,λb a=>(f2 b a).1,w0⟩
  rintro n s3 ⟨i,ys,f,k,H3,I3,v3,z3,ah,ak,w3⟩
  have ag:∀p∈[(s2.heap.objs.size,IQ f k)],p.1=s2.heap.objs.size:=λp hp=>by rw[cK.mp hp]
  rcases aq i n ys H3 w3 with⟨stop,qn⟩|⟨go,M,hM,ap⟩
  ·refine Ei (T.done (El X scope N (s2.heap.objs.size+1) s2 K fp) rfl rfl rfl hc i _ s3 _ H3 _ I3 (f0 ag ak) ah stop) λr s4 ⟨hr,I4⟩=>?_
   subst hr
   obtain⟨E1,E2,E3⟩:=BW L f2 I4 v3 z3
   obtain⟨m,Q,_⟩:=I4.loc
   refine fin _ _ s4 H3 ys m E1 Q E2 E3 (ic (dH _)) (iC L.sz) (ic (dz L.lt)) (λx c e=>?_) (λp hp=>?_) qn
   ·obtain⟨v,o,ho,_⟩:=L.cell x c e
    exact df (dz (cQ ho))
   ·exact df (dz (cQ (L.pin p hp).1))
  ·refine Ei (T.item (El X scope N (s2.heap.objs.size+1) s2 K fp) rfl rfl rfl hc i _ s3 _ H3 _ I3 (f0 ag ak) ah go) λr s4 ⟨u,hr,h4⟩=>?_
   subst hr
   refine Ei h4 λ_ s5 ⟨x,H5,I5,r5,y5,ad,av⟩=>?_
   have ax:=I5.pinned (f0 ag av) (T.obj _ _ ad)
   refine Ei (hg _ _ _ _ _ s5 _ H5 x u _ ax r5 (gk σ _ x H5 _ (λ_ _ e=>e) (ap x H5 y5))) λ_ s6 ⟨S,H6,I6,kp,q6⟩=>?_
   refine Ei (ht _ _ _ _ _ s6 S H6 _ I6 q6) λok s7 ⟨H7,I7,q7⟩=>?_
   have Z:∀{ai:St} {I:Hp} {t:cD} {aa:List V},Inv (El X scope N (s2.heap.objs.size+1) s2 K fp) ([(s2.heap.objs.size,IQ f k)]++GL fp s5.heap) ai I t->M aa I->
     tn (i+1) t.heap/\(∀b∈fp,I b=none)/\∃U,U<n/\W (i+1) U aa I:=λ {ai I t aa} Y m8=>by
    refine⟨T.keep _ _ _ ad λb a o e=>(Y.pin (b,o) (d5 _ (d5 _ (ub a e)))).1,λb a=>?_,hM _ _ m8⟩
    obtain⟨o,e,d⟩:=T.obj _ _ ad b a
    exact(Y.pin (b,o) (d5 _ (d5 _ (ub a e)))).2.1
   have ae:(EZ caps σ).length=S.length:=by rw[I6.len];exact I3.len
   cases ok with
   | false=>
    have ac:M ys H7:=q7
    obtain⟨b1,b2,U,af,w'⟩:=Z I7 ac
    exact⟨U,af,i+1,ys,f,k,H7,(I7.weak ae kp).unpinned,v3,z3,b1,b2,w'⟩
   | true=>
    have ac:te S H7 λy H4=>ys.length<sizeLine/\M (ys++[y]) H4:=q7
    refine Ei (he _ _ _ _ _ s7 S H7 _ I7 ac) λP t ⟨y,I,Y,r8,az,m8⟩=>?_
    obtain⟨b1,b2,U,af,w'⟩:=Z Y m8
    have ar:=Y.pin (s2.heap.objs.size,IQ f k) (d5 _ (jK _ (cK.mpr rfl)))
    obtain⟨e8,am,an,aw,_⟩:=ar
    have ay:=v3.length
    refine gX fR ⟨_,e8,rfl⟩ mm (l3 _ _) (nk s2.heap.objs.size f.toArray k P (by rw[cX];omega)) ⟨e8,?_⟩
    have q:=g8 e8 (·.push P)
    rw[show f.toArray.push P=(f++[P]).toArray by simp]at q
    obtain⟨k',q⟩:∃k',(t.heap.update s2.heap.objs.size (d2 (·.push P))).get? s2.heap.objs.size=some (IQ (f++[P]) k'):=⟨_,q⟩
    have I9:Inv (El X scope N (s2.heap.objs.size+1) s2 K fp) [] (EZ caps σ) I t:=(Y.weak ae kp).pins_of (pins':=[]) λp hp=>nomatch hp
    have au:=I9.turned (h':=t.heap.update s2.heap.objs.size (d2 (·.push P))) (t':=t.toks) (it:=s2.heap.objs.size) (λb o a e=>(fi t.heap _ (Ne.symm a)).trans e) am an (.inr (cI _))
     (λx c e z=>by
      rcases t8 _ _ _ e with w|w
      ·exact absurd (cU (dz (dH _)) (z▸w.1)) (dt _)
      ·exact absurd (E x c (sL w)) (by rw[z];exact dt _)) (λp hp=>nomatch hp)
    refine⟨U,af,i+1,ys++[y],f++[P],k',I,au.pins_of λp hp=>?_,v3.append (.cons r8 .nil),by rw[dq,eT];omega,T.keep _ _ _ b1 λb a o e=>?_,b2,w'⟩
    ·rw[cK.mp hp]
     exact⟨q,am,an,aw,λv z=>by cases z⟩
    ·exact(fi t.heap _ (ic (G b a))).trans e
 exact codeAny_compStart_list ab (T.self _ _ _ _ _ aj ab)
theorem sr{elt tg iter:Expr}{ifs:List Expr}{pos:Pos}{wi:TI}{g:TG}{tt:TT}{te:TE}(hc:X.calm=true)(O:CompOk scope X.env.scope X.N N caps)(gk:GK caps g)(hi:PI X tg iter wi)
  (hg:∀C s H fp,PG (El X scope N C s H fp) tg g)(ht:∀C s H fp,LD (El X scope N C s H fp) ifs tt)(he:∀C s H fp,PE (El X scope N C s H fp) elt te)
  (hs:∀x,foldedSetIterable iter X.env x=pure x:=by intro _;rfl):PE X (.ListComp elt [⟨tg,iter,ifs,0⟩] scope pos) (K6 caps wi g tt te):=by
 intro a s j H Q I h
 rw[eval_ListComp]
 have c:closureFor scope X.env=pure (FS scope X.env):=Bd λx J K=>by
  rcases(O.free x J K).2 with q|q
  ·exact I.ok.has x.1 (.inl q)
  ·exact I.ok.has x.1 (.inr q)
 refine kJ (use:=none) rfl hs c O.kind O.loc (Ei (hi a s j H _ I h) λv P h1=>Ei h1 λL M h2=>?_)
 refine vX (R:=λr C=>compPost (model X.prog X.w) X.A X.xe none (EP X a j Q) r C) hc O gk hg ht he h2 ?_
 intro D C u T S m F E y B k p d n f t
 refine⟨m,E,λh' l=>?_⟩
 have G:=F.turned (h':=h') (t':=u.toks) (it:=C) (λb o z e=>l.extBut b o z e) (by rw[rG k];exact B) d (.inr p) n f
 exact⟨.ref D,_,G,rfl,t D y⟩
def JA(i:Nat)(caps:List (Option Nat))(wi:TI)(g:TG)(tt:TT)(te:TE):TS:=λD σ H=>
 wi σ H (EB caps g tt te σ λys H'=>∀d,H' d=none->D.nx (σ.set i (some (.ref d))) (upd H' d (.lst ys)))
theorem sA{i:Nat}{y:Str}{py spos:Pos}{elt tg iter:Expr}{ifs:List Expr}{pos:Pos}{wi:TI}{g:TG}{tt:TT}{te:TE}(hN:X.N.Nodup)(hy:X.N[i]?=some y)(hl:X.env.scope.names.lookup y=some .local)
  (hsw:swapsWith (.ListComp elt [⟨tg,iter,ifs,0⟩] scope pos) (some (.Name y py)) spos.line X.env=pure true)
  (hc:X.calm=true)(O:CompOk scope X.env.scope X.N N caps)(gk:GK caps g)(hi:PI X tg iter wi)
  (hg:∀C s H fp,PG (El X scope N C s H fp) tg g)(ht:∀C s H fp,LD (El X scope N C s H fp) ifs tt)(he:∀C s H fp,PE (El X scope N C s H fp) elt te)
  (hs:∀x,foldedSetIterable iter X.env x=pure x:=by intro _;rfl):PS X (.Assign [.Name y py] (.ListComp elt [⟨tg,iter,ifs,0⟩] scope pos) spos) (JA i caps wi g tt te):=by
 intro c s T H D I h
 rw[exec_Assign_Name_used _ _ _ _ hsw]
 refine cr (mv (cr ?_))
 show wpAny _ X.A (do let _<-comprehension (.ListComp elt [⟨tg,iter,ifs,0⟩] scope pos) scope X.env _ (newList []) false (eval iter X.env) (some (assign (.Name y py) X.env))) _ _ s
 have n:closureFor scope X.env=pure (FS scope X.env):=Bd λx Y Z=>by
  rcases(O.free x Y Z).2 with q|q
  ·exact I.ok.has x.1 (.inl q)
  ·exact I.ok.has x.1 (.inr q)
 refine cr (Ei (kJ (use:=some (assign (.Name y py) X.env)) (Q:=λ_ f=>SP X c D .next f) rfl hs n O.kind O.loc
  (Ei (hi c s T H _ I h) λv s1 h1=>Ei h1 λaa s2 h2=>?_)) λ_ f S=>cv (cv S))
 refine vX (R:=λF C=>compPost (model X.prog X.w) X.A X.xe (some (assign (.Name y py) X.env)) (λ_ f=>SP X c D .next f) F C) hc O gk hg ht he h2 ?_
 intro d C f H' ys m V U L P u E j k p K
 show wpAny _ X.A (assign (.Name y py) X.env (.ref d)) _ _ _
 refine m6 (xF (v:= .ref d) V hN hy (.inl hl) rfl (λt G ⟨a,l,J⟩=>?_) (.inr hl))
 have r:C≠a:=by
  rcases J with z|z
  ·rw[z];exact j
  ·exact λq=>k y a z q.symm
 refine⟨m,U.sameBut l r,λh' B=>?_⟩
 have W:=G.turned (h':=h') (t':=t.toks) (it:=C) (λb o M e=>B.extBut b o M e) (by rw[rG u];exact P) j (.inr E) k p
 exact⟨_,_,W,K d L⟩
end
structure Dn(P:cT)(w:dc)(K:cu)(mg:Str->Option cA)(base:Heap)(CX:Hl)(k:Nat)(x:Str)(ps:List Str)(sp:Sp):Prop where
 ex:∃f fd,FnOk P w K mg base CX k f fd ps sp/\mg x=some (.ref f)/\iH K (.ref f)=true/\Binds K fd ps []
theorem rR{X:Cx}{CX:Hl}{k j:Nat}{x:Str}{ps:List Str}{sp:Sp}{E:XK}{p pos:Pos}{e:Expr}{es:List Expr}{t:TA}(D:Dn X.prog X.w X.K X.mg X.base CX k x ps sp)(hr:Room j X.A)(hk:k<=j)(hg:Gl X x)(hx:EC CX X E)
  (ha:PA X (e::es) t)(hdb:(x==("__debug__":Str))=false:=by decide)(he:dh (e::es) X.env=(false,eval e X.env)::dh es X.env:=by rfl)(hpl:(backTo pos (dh es X.env)).any (·.1)=false:=by rfl):
  PE X (.Call (.Name x p) (e::es) [] pos) (Kn sp [] E t):=by
 obtain⟨f,c,F,m,a,b⟩:=D.ex
 exact CV F (hr.mono hk) hg m a b .nil hx ha hdb he hpl
def Def(K:cu)(mg:Str->Option cA)(x:Str)(st:Stmt):Prop:=∃f fd,Fun K x x st f fd/\mg x=some (.ref f)
section
variable{P:cT}{w:dc}{K:cu}{mg:Str->Option cA}{base:Heap}
theorem Def.ok{x:Str}{st:Stmt}{N ps:List Str}{k:Nat}{sp:Sp}(F:Def K mg x st)(S:Ea N ps (D7 st))(len:∀vs H Q E,sp vs H Q E->vs.length=ps.length)
  (hb:∀(kV doc pm:cA) (an:Option cG) (cdv ct:cA) (us:List cA),us.length=ps.length->bindArgs (f7 x x (Ej st) (Ef st) (D7 st) .none kV doc pm an cdv ct) ⟨us,[]⟩=pure (ps.zip us))
  (hbody:∀(f:cG) (cdv:cA) (A:dw) (outer:List Env) (s:cD) (H:Hp) (vs:List V) (Q:VK) (E:XK),Room k (A.deeper (envOfC x (D7 st) s.heap.objs.size f cdv))->sp vs H Q E->
   ∃t,PSs (Hx Eh P w K mg base N x (D7 st) f cdv A outer s H E).nox (Ef st) t/\t {nx:=λ_ H'=>Q .non H',rt:=Q} (start N vs) H):Dn P w K mg base Eh (k+1) x ps sp:=by
 obtain⟨f,a,F,m⟩:=F
 exact⟨f,a,F.ok S len (hbody f),m,F.kp,F.binds hb⟩
theorem Def.nothing{x:Str}{st:Stmt}{ps:List Str}(F:Def K mg x st)
  (hb:∀(kV doc pm:cA) (an:Option cG) (cdv ct:cA) (us:List cA),us.length=ps.length->bindArgs (f7 x x (Ej st) (Ef st) (D7 st) .none kV doc pm an cdv ct) ⟨us,[]⟩=pure (ps.zip us)):
  Dn P w K mg base Eh 0 x ps (λ_ _ _ _=>False):=by
 obtain⟨f,a,F,m⟩:=F
 exact⟨f,a,⟨λ_ _ _ _ h=>h.elim,λ_ _ _ _ _ _ _ _ _ _ _ _ _ h=>h.elim⟩,m,F.kp,F.binds hb⟩
theorem Dn.imp{CX:Hl}{k:Nat}{x:Str}{ps:List Str}{sp sp':Sp}(D:Dn P w K mg base CX k x ps sp)(h:∀vs H Q E,sp' vs H Q E->sp vs H Q E):Dn P w K mg base CX k x ps sp':=by
 obtain⟨f,a,F,r⟩:=D.ex;exact⟨f,a,F.imp h,r⟩
end
def J1(K:cu)(mg:Str->Option cA)(x:Str)(xs:List V):Prop:=∃a,mg x=some (.ref a)/\∀H,SqT K H a xs
def Ki(K:cu)(xs:List V):TE:=λ_ H Q=>∀a,(∀H,SqT K H a xs)->Q (.ref a) H
theorem tW{X:Cx}{x:Str}{xs:List V}{pos:Pos}(h:J1 X.K X.mg x xs)(hg:Gl X x:=by rfl)(hd:(x==("__debug__":Str))=false:=by decide):PE X (.Name x pos) (Ki X.K xs):=λ_ _ _ H _ I q=>by
 obtain⟨a,m,r⟩:=h;exact vh I hg m ⟨.ref a,H,I,rfl,q a r⟩ hd
theorem zM{X:Cx}{x:Str}{i:Int}{pos:Pos}(h:∃t,X.mg x=some (.int i t))(hg:Gl X x:=by rfl)(hd:(x==("__debug__":Str))=false:=by decide):PE X (.Name x pos) (tC (.int i)):=λ_ _ _ H _ I q=>by
 obtain⟨t,m⟩:=h;exact vh I hg m ⟨.int i,H,I,⟨t,rfl⟩,q⟩ hd
theorem G9{c A B:Prop}[Decidable c](hc:¬c)(h:B):if decide c=true then A else B:=by rw[if_neg (by simpa using hc)];exact h
theorem IY{c A B:Prop}[Decidable c](hc:c)(h:A):if decide c=true then A else B:=by rw[if_pos (by simpa using hc)];exact h
theorem EA{c A B:Prop}[Decidable c](h1:c->A)(h2:¬c->B):if decide c=true then A else B:=by
 by_cases h:c
 ·exact IY h (h1 h)
 ·exact G9 h (h2 h)
theorem GJ{c A B:Prop}[Decidable c](h1:¬c->A)(h2:c->B):if(!decide c)=true then A else B:=by
 by_cases h:c
 ·rw[if_neg (by simpa using h)];exact h2 h
 ·rw[if_pos (by simpa using h)];exact h1 h
theorem Mx{i j:Int}(h:i≠j):V.int i≠V.int j:=λz=>h (V.int.inj z)
theorem Kl{i j:Int}(h:V.int i=V.int j):i=j:=V.int.inj h
theorem t9{k:Int}{m:Nat}(h:k.natAbs<2^m):mn k<=m:=by
 unfold mn;split
 ·exact du _
 ·rcases mO k.natAbs with h0|hp
  ·rename_i hz
   exact absurd (by simpa using h0) (by simpa using hz)
  ·have:k.natAbs.log2<m:=(on (ic hp)).mpr h;omega
theorem Lc{i j:Int}{m n:Nat}(hi:i.natAbs<2^m)(hj:j.natAbs<2^n)(h:m+n<=134217728):IntMulOk i j:=IntMulOk.of_le (t9 hi) (t9 hj) h
section
variable{X:Cx}
theorem sx:Fs X (binaryOp .Mult) (rI IntMulOk λi j=> .int (i*j)):=Lw λ_ _ _ _ _ _ _ c h=>mul_int h c
theorem AL:Fs X (binaryOp .FloorDiv) (rI (λ_ j=>j≠0/\j.natAbs<2^9000) λi j=> .int (i.fdiv j)):=Lw λi j _ _ _ _ _ c h=>
 qc c.1 h (Or.inl (kK ((on (by have:=c.1;omega)).mpr c.2)))
theorem tE:Fs X (binaryOp .FloorDiv) (rI (λ_ j=>0<j/\j.natAbs<2^9000) λi j=> .int (i/j)):=Lw λi j _ _ _ _ _ c h=>
 qc (by have:=c.1;omega) (by rw[iL _ (by have:=c.1;omega)];exact h) (Or.inl (kK ((on (by have:=c.1;omega)).mpr c.2)))
theorem c9{n:Int}(h0:0<n)(h:n.natAbs<2^64):0<n/\n.natAbs<2^9000:=⟨h0,cU h (eA (by decide) (by decide))⟩
theorem JG{i j:Int}(h:i.natAbs<2^64):IntMulOk i j:=IntMulOk.of_left (t9 h)
theorem J6{i j:Int}(h:j.natAbs<2^64):IntMulOk i j:=IntMulOk.of_right (t9 h)
theorem tR{x:Str}{T:String}{pos:Pos}(hg:Gl X x)(hm:X.mg x=none)(hv:bootBuiltins x=some (.type T))(hn:x≠"__name__":=by decide)(hd:(x==("__debug__":Str))=false:=by decide):PE X (.Name x pos) (tC (.ty T)):=CY hg hm hv rfl hn hd
def JU:V->List V->Hp->VK->Prop:=λx vs H Q=>∃l xs i y,x = .ref l/\vs=[.int i,y]/\H l=some (.lst xs)/\0<=i/\i<=(xs.length:Int)/\xs.length<sizeLine/\Q .non (upd H l (.lst (xs.take i.toNat++y::xs.drop i.toNat)))
theorem Ba:KF X "list.insert" JU:=by
 intro k s t H x vs v p Q I f j h;obtain⟨l,o,i,y,rfl,rfl,d,h0,h1,A,q⟩:=h
 cases f;obtain⟨u,b,rfl,⟨tk,rfl⟩,g⟩:=j.two;obtain⟨z,a,n,r,B,e⟩:=I.lstM d;have w:=Fo;have c:¬(!j8 i)=true:=by
  unfold j8;simp only[nl,Bool.not_eq_false];simp only[dn,decide_eq_true_eq];omega
 refine gX F.slot_list_insert ⟨_,e,rfl⟩ F.entry_list_insert (F.args_list_insert_3 _ _ _) (lH l a.toArray n i tk b c (by rw[cX];omega)) ⟨e,?_⟩;refine⟨.non,_,I.lset (its':=a.take i.toNat++b::a.drop i.toNat) d e ?_ (Vals.append (r.take _) (.cons g (r.drop _))) ?_,rfl,q⟩
 ·have m:(if i<0 then(i+(a.toArray.size:Int)).toNat else min i.toNat a.toArray.size)=i.toNat:=by
   rw[if_neg (by omega),cX];omega
  show(a.toArray.extract 0 _).push b++a.toArray.extract _=_;rw[m];apply oN;simp[Array.toList_extract,List.extract];exact eJ (by rw[iX];omega)
 ·rw[dq,dQ,cV,iX];omega
def tyOf(K:cu)(H:Hp)(x:V)(t:String):Prop:=match x with
 | .non=>t="NoneType"
 | .bl _=>t="bool"
 | .int _=>t="int"
 | .str _=>t="str"
 | .ref a=>(t="list"/\∃xs,SqL K H a xs)\/(t="tuple"/\∃xs,SqT K H a xs)
 | _=>False
def Gv(t T:String):Bool:=t==T||(t=="bool"&&T=="int")
def JO:List String:=["NoneType","bool","int","str","list","tuple"]
def JP:List String:=["bool","int","str","list","tuple"]
theorem A9{pins:List (cG×Obj)}{σ:St}{H:Hp}{s:cD}{A:dw}{E:cA->cD->Prop}{Q:cA->cD->Prop}{c:cA}{b:Bool}{x:V}{u:cA}{t:String}(I:Inv X pins σ H s)(rx:RelV x u)(ty:tyOf X.K H x t)
  (e:l4 X.K (.type t) c=some b)(h:∀tk,Q (.bool b) {s with toks:=tk}):wpAny (model X.prog X.w) A (call (.builtin "isinstance") [u,c]) Q E s:=by
 cases x with
 | non=>cases(show u=cA.none from rx);cases(show t="NoneType"from ty);exact ip nq I.kIn True.intro e (λz=>nomatch z) h
 | bl y=>cases(show u=eo y from rx);cases(show t="bool"from ty);exact ip nr I.kIn True.intro e (λz=>nomatch z) h
 | int i=>obtain⟨tk,q⟩:=(show ∃t,u=dX i t from rx);cases q;cases(show t="int"from ty);exact ip nU I.kIn True.intro e (λz=>nomatch z) h
 | str y=>obtain⟨tk,q⟩:=(show ∃t,u=iu y t from rx);cases q;cases(show t="str"from ty);exact ip nV I.kIn True.intro e (λz=>nomatch z) h
 | ref a=>
  cases(show u=cR a from rx)
  rcases ty with⟨rfl,g,d⟩|⟨rfl,g,d⟩
  ·obtain⟨f,_,⟨o,n,h1,h2,_⟩,_⟩:=I.list d
   exact ip nt I.kIn ⟨o,h1,h2⟩ e (λz=>nomatch z) h
  ·obtain⟨f,_,⟨o,h1,h2,_⟩,_⟩:=I.tuple d
   exact ip mP I.kIn ⟨o,h1,h2⟩ e (λz=>nomatch z) h
 | byt _=>exact ty.elim
 | flt _=>exact ty.elim
 | ty _=>exact ty.elim
theorem vm{K:cu}{H:Hp}{x:V}{t:String}(h:tyOf K H x t):t∈JO:=by
 cases x with
 | non=>cases(show t="NoneType"from h);decide
 | bl _=>cases(show t="bool"from h);decide
 | int _=>cases(show t="int"from h);decide
 | str _=>cases(show t="str"from h);decide
 | ref a=>rcases h with⟨rfl,_⟩|⟨rfl,_⟩ <;> decide
 | byt _=>exact h.elim
 | flt _=>exact h.elim
 | ty _=>exact h.elim
theorem Bt{K:cu}{t T:String}(ht:t∈JO)(hT:T∈JP):l4 K (.type t) (.type T)=some (Gv t T):=by
 simp only[JO,JP,cZ,g9,or_false]at ht hT;rcases ht with rfl|rfl|rfl|rfl|rfl|rfl <;> rcases hT with rfl|rfl|rfl|rfl|rfl <;> (unfold l4 PySem.W.kitCls PySem.W.subIn;kernel_rfl)
theorem sq:EJ X (.builtin "isinstance") (λxs H Q=>∃x T t,xs=[x,.ty T]/\T∈JP/\tyOf X.K H x t/\Q (.bl (Gv t T)) H):=by
 intro e s g H xs f Q I r h;obtain⟨x,T,t,rfl,d,ty,q⟩:=h;obtain⟨u,a,rfl,b,c⟩:=Jg r
 cases(show a=dL T from c);exact A9 I b ty (Bt (vm ty) d) λtk=>⟨.bl _,H,I.tok tk,rfl,q⟩
end
theorem Same.tup{K:cu}{H H':Hp}{a:cG}{xs:List V}(e:Same H H')(h:SqT K H a xs):SqT K H' a xs:=by
 rcases h with(h|⟨o,h⟩)|h
 ·exact .inl (.inl (e _ _ h))
 ·exact .inl (.inr ⟨o,e _ _ h⟩)
 ·exact .inr h
theorem rr{H:Hp}{p:cG}(h:H p=none)(o:HO):Same H (upd H p o):=λb u q=>by rw[rG (rE q h)];exact q
theorem Same.over{H H':Hp}{p:cG}(e:Same H H')(h:H p=none)(o:HO):Same H (upd H' p o):=λb u q=>by
 rw[rG (rE q h)];exact e b u q
def IsF(K:cu)(H:Hp)(v:V)(p:Int×Int):Prop:=∃a,v = .ref a/\SqT K H a [.int p.1,.int p.2]
theorem IsF.mono{K:cu}{H H':Hp}{v:V}{p:Int×Int}(e:Same H H')(h:IsF K H v p):IsF K H' v p:=by
 obtain⟨a,rfl,q⟩:=h;exact⟨a,rfl,e.tup q⟩
theorem uw{K:cu}{H:Hp}{a p:cG}{xs ys zs:List V}(h:SqT K H a xs)(hp:H p=some (.lst ys)):SqT K (upd H p (.lst zs)) a xs:=by
 rcases h with(h|⟨o,h⟩)|h
 ·exact .inl (.inl (by rw[rG (sI h hp (by intro z;cases z))];exact h))
 ·exact .inl (.inr ⟨o,by rw[rG (sI h hp (by intro z;cases z))];exact h⟩)
 ·exact .inr h
theorem IsF.over{K:cu}{H:Hp}{v:V}{p:cG}{ys zs:List V}{q:Int×Int}(h:IsF K H v q)(hp:H p=some (.lst ys)):IsF K (upd H p (.lst zs)) v q:=by
 obtain⟨a,rfl,h⟩:=h;exact⟨a,rfl,uw h hp⟩
theorem Paired.get{α β:Type}{F:α->β->Prop}:∀{xs:List α} {ys:List β} {i:Nat} {y:β},dr F xs ys->ys[i]?=some y->∃x,xs[i]?=some x/\F x y
 | _,_,_,_,.nil,e=>by simp at e
 | _,_,0,_,.cons r _,e=>by simp at e;subst e;exact⟨_,rfl,r⟩
 | _,_,i+1,y,.cons _ t,e=>by
  obtain⟨x,h1,h2⟩:=Paired.get (i:=i) t (by simpa using e)
  exact⟨x,by simpa using h1,h2⟩
theorem Paired.get'{α β:Type}{F:α->β->Prop}:∀{xs:List α} {ys:List β} {i:Nat} {x:α},dr F xs ys->xs[i]?=some x->∃y,ys[i]?=some y/\F x y
 | _,_,_,_,.nil,e=>by simp at e
 | _,_,0,_,.cons r _,e=>by simp at e;subst e;exact⟨_,rfl,r⟩
 | _,_,i+1,y,.cons _ t,e=>by
  obtain⟨x,h1,h2⟩:=Paired.get' (i:=i) t (by simpa using e)
  exact⟨x,by simpa using h1,h2⟩
theorem Paired.app{α β:Type}{F:α->β->Prop}:∀{xs xs':List α} {ys ys':List β},dr F xs ys->dr F xs' ys'->dr F (xs++xs') (ys++ys')
 | _,_,_,_,.nil,t=>t
 | _,_,_,_,.cons r s,t=> .cons r (Paired.app s t)
theorem sD{α:Type}{xs:List α}{i:Int}{v:α}(h0:0<=i)(h:xs[i.toNat]?=some v):G0 xs i=some v:=by
 have e:i=((i.toNat:Nat):Int):=by omega
 rw[e];exact si h
theorem tm{ns:List Int}{i:Nat}(h:i<ns.length):(ns.map V.int)[i]?=some (.int (ns.getD i 0)):=by
 simp[h]
theorem yq{c:TT}{tb:TS}{D:Gp}{σ:St}{H:Hp}(Pv:Nat->St->Hp->Prop)(h0:∃m,Pv m σ H)
  (hs:∀m σ H,Pv m σ H->c σ H λb H1=>if b=true then tb {D with nx:=λσ' H'=>∃m',m'<m/\Pv m' σ' H',ct:=λσ' H'=>∃m',m'<m/\Pv m' σ' H',bk:=D.nx} σ H1 else D.nx σ H1)
  (mono:∀σ H Q Q',(∀b H1,Q b H1->Q' b H1)->c σ H Q->c σ H Q'):JN c tb D σ H:=by
 refine⟨Pv,h0,λm σ H p=>?_⟩
 refine mono σ H _ _ (λb H1 q=>?_) (hs m σ H p)
 cases b with
 | true=>exact⟨_,λσ' H' z=>z,q⟩
 | false=>exact q
end L2
namespace FQ
structure LU(p:Int×Int):Prop where
 pos:0<p.2
 cop:Int.gcd p.1 p.2=1
def red(t b:Int):Int×Int:=(t*b.sign/(Int.gcd t b:Int),b*b.sign/(Int.gcd t b:Int))
theorem gcd_turn{a b:Int}:Int.gcd b (a%b)=Int.gcd a b:=by
 have h:=Int.gcd_add_mul_left_right b (a%b) (a/b);rw[Int.emod_add_mul_ediv]at h;rw[<-h,nu]
theorem wf{k m n:Int}(h:Int.gcd k m=1)(d:k ∣ m*n):k ∣ n:=by
 have h1:k.natAbs ∣ m.natAbs*n.natAbs:=by
  have:=lN.mpr d;rwa[j9]at this
 exact lN.mp (nN h h1)
theorem u8{t b:Int}(hb:b≠0):∃u v:Int,t*b.sign=u*(Int.gcd t b:Int)/\b*b.sign=v*(Int.gcd t b:Int)/\red t b=(u,v)/\0<v/\Int.gcd u v=1:=by
 have j:0<Int.gcd t b:=fz _ hb;have d:(0:Int)<(Int.gcd t b:Int):=by omega
 have l:(Int.gcd t b:Int) ∣ t:=Int.gcd_dvd_left ..;have g:(Int.gcd t b:Int) ∣ b:=Int.gcd_dvd_right ..;obtain⟨u,c⟩:=l;obtain⟨v,a⟩:=g;refine⟨u*b.sign,v*b.sign,?_,?_,?_,?_,?_⟩
 ·rw[fU,gl u,<-c]
 ·rw[fU,gl v,<-a]
 ·unfold red
  congr 1
  ·apply kb (by omega);rw[fU,gl u,<-c]
  ·apply kb (by omega);rw[fU,gl v,<-a]
 ·have h1:0<b*b.sign:=by rw[Int.mul_sign_self];omega
  have h2:b*b.sign=(v*b.sign)*(Int.gcd t b:Int):=by rw[fU,gl v,<-a]
  rw[h2]at h1;rcases Int.lt_or_le 0 (v*b.sign)with h|h
  ·exact h
  ·exact absurd h1 (oO.mpr (Int.mul_nonpos_of_nonpos_of_nonneg h (fj d)))
 ·have k:b.sign=1\/b.sign = -1:=by
   rcases kc hb with h|h
   ·exact .inr (gG h)
   ·exact .inl (ie h)
  have f:Int.gcd u v=1:=by
   have e:=Int.gcd_mul_left (Int.gcd t b:Int) u v;rw[<-c,<-a,jf]at e;have:Int.gcd t b*1=Int.gcd t b*Int.gcd u v:=by rw[qC];exact e
   exact(Nat.eq_of_mul_eq_mul_left j this).symm
  rcases k with h|h <;> rw[h] <;> simp[f]
theorem red_low{t b:Int}(hb:b≠0):LU (red t b):=by
 obtain⟨u,v,_,_,e,h1,h2⟩:=u8 (t:=t) hb;rw[e];exact⟨h1,h2⟩
theorem red_worth{t b:Int}(hb:b≠0):(red t b).1*b=t*(red t b).2:=by
 obtain⟨u,v,h1,h2,e,_,_⟩:=u8 (t:=t) hb;rw[e];have c:(Int.gcd t b:Int)≠0:=by have:=fz t hb;omega
 have d:b.sign≠0:=by simpa using hb
 have a:(u*b)*((Int.gcd t b:Int)*b.sign)=(t*v)*((Int.gcd t b:Int)*b.sign):=by
  calc (u*b)*((Int.gcd t b:Int)*b.sign)=(u*(Int.gcd t b:Int))*(b*b.sign):=by ac_rfl
   _=(t*b.sign)*(v*(Int.gcd t b:Int)):=by rw[<-h1,<-h2]
   _=(t*v)*((Int.gcd t b:Int)*b.sign):=by ac_rfl
 exact gH (dE c d) a
theorem wq{p q:Int×Int}(hp:LU p)(hq:LU q)(h:p.1*q.2=q.1*p.2):p=q:=by
 obtain⟨a,b⟩:=p;obtain⟨c,d⟩:=q;obtain⟨l,g⟩:=hp;obtain⟨m,f⟩:=hq;dsimp only at *;have j:b ∣ d:=by
  have:b ∣ a*d:=⟨c,by rw[h,gl]⟩;exact wf (by rw[nu];exact g) this
 have k:d ∣ b:=by
  have:d ∣ c*b:=⟨a,by rw[<-h,gl]⟩;exact wf (by rw[nu];exact f) this
 have e:b=d:=Int.dvd_antisymm (by omega) (by omega) j k;subst e;have:a=c:=gH (by omega) h;rw[this]
theorem red_eq{t b t' b':Int}(hb:b≠0)(hb':b'≠0)(h:t*b'=t'*b):red t b=red t' b':=by
 refine wq (red_low hb) (red_low hb') ?_;have d:=red_worth (t:=t) hb;have c:=red_worth (t:=t') hb';have a:((red t b).1*(red t' b').2)*(b*b')=((red t' b').1*(red t b).2)*(b*b'):=by
  calc ((red t b).1*(red t' b').2)*(b*b')=((red t b).1*b)*((red t' b').2*b'):=by ac_rfl
   _=(t*(red t b).2)*((red t' b').2*b'):=by rw[d]
   _=(t*b')*((red t b).2*(red t' b').2):=by ac_rfl
   _=(t'*b)*((red t b).2*(red t' b').2):=by rw[h]
   _=(t'*(red t' b').2)*((red t b).2*b):=by ac_rfl
   _=((red t' b').1*b')*((red t b).2*b):=by rw[c]
   _=((red t' b').1*(red t b).2)*(b*b'):=by ac_rfl
 exact gH (dE hb hb') a
theorem red_eq_iff{t b:Int}(hb:b≠0){p:Int×Int}(hp:LU p)(h:p.1*b=t*p.2):red t b=p:=by
 refine wq (red_low hb) hp ?_;have c:=red_worth (t:=t) hb;have a:((red t b).1*p.2)*b=(p.1*(red t b).2)*b:=by
  calc ((red t b).1*p.2)*b=((red t b).1*b)*p.2:=by ac_rfl
   _=(t*p.2)*(red t b).2:=by rw[c];ac_rfl
   _=(p.1*(red t b).2)*b:=by rw[<-h];ac_rfl
 exact gH hb a
theorem red_small{t b:Int}(hb:b≠0):(red t b).1.natAbs<=t.natAbs/\(red t b).2.natAbs<=b.natAbs:=by
 obtain⟨u,v,h1,h2,e,_,_⟩:=u8 (t:=t) hb;rw[e];have c:1<=Int.gcd t b:=fz _ hb;have f:b.sign.natAbs=1:=by
  rcases kc hb with h|h
  ·rw[gG h];rfl
  ·rw[ie h];rfl
 have a:=congrArg rb h1;have d:=congrArg rb h2;rw[j9,j9,f,qC,jf]at a d;constructor
 ·show u.natAbs<=_;rw[a];exact k7 _ c
 ·show v.natAbs<=_;rw[d];exact k7 _ c
theorem fdiv_red{t b:Int}(hb:b≠0):((t.fdiv ((Int.gcd t b:Int)*b.sign),b.fdiv ((Int.gcd t b:Int)*b.sign)):Int×Int)=red t b:=by
 obtain⟨u,v,h1,h2,e,_,_⟩:=u8 (t:=t) hb;rw[e];have j:(Int.gcd t b:Int)≠0:=by have:=fz t hb;omega
 have k:b.sign≠0:=by simpa using hb
 have c:b.sign*b.sign=1:=by
  rcases kc hb with h|h
  ·rw[gG h];rfl
  ·rw[ie h];rfl
 have f:t=u*((Int.gcd t b:Int)*b.sign):=by
  calc t=t*(b.sign*b.sign):=by rw[c,h9]
   _=(t*b.sign)*b.sign:=by ac_rfl
   _=u*((Int.gcd t b:Int)*b.sign):=by rw[h1];ac_rfl
 have g:b=v*((Int.gcd t b:Int)*b.sign):=by
  calc b=b*(b.sign*b.sign):=by rw[c,h9]
   _=(b*b.sign)*b.sign:=by ac_rfl
   _=v*((Int.gcd t b:Int)*b.sign):=by rw[h2];ac_rfl
 generalize hd:(Int.gcd t b:Int)*b.sign=d at f g ⊢;have a:d≠0:=by rw[<-hd];exact dE j k
 rw[f,g,mo _ a,mo _ a]
end FQ
namespace LM
def cellAt(ns:List Int)(k:Int):Int:=if k<ns.length then ns.getD k.toNat 0 else 0
def oddGo(n:Int):Nat->List Int×Int
 | 0=>([],n)
 | k+1=>((oddGo n k).1++[(oddGo n k).2%5040],(oddGo n k).2/5040)
def evenX(n k:Int):Int:=(n*n+48271*n+k+1)%2147483647
def evenGo(n:Int):Nat->List Int×Int
 | 0=>([],n)
 | k+1=>((evenGo n k).1++[evenX (evenGo n k).2 k],evenX (evenGo n k).2 k)
def mixed(c:Int)(m:Nat):List Int:=if c%2=1 then(oddGo (c/2) m).1 else(evenGo ((c/2%2147483647*16807+11)%2147483647) m).1
theorem oddGo_len(n:Int):∀m,(oddGo n m).1.length=m
 | 0=>rfl
 | m+1=>by simp[oddGo,oddGo_len n m]
theorem evenGo_len(n:Int):∀m,(evenGo n m).1.length=m
 | 0=>rfl
 | m+1=>by simp[evenGo,evenGo_len n m]
theorem mixed_len(c:Int)(m:Nat):(mixed c m).length=m:=by
 unfold mixed;split <;> simp[oddGo_len,evenGo_len]
theorem yF(n:Int):∀m,∀x∈(oddGo n m).1,0<=x/\x<2147483647
 | 0,x,h=>by cases h
 | m+1,x,h=>by
  rcases dJ.mp h with h|h
  ·exact yF n m x h
  ·rw[cK.mp h];omega
theorem yz(n k:Int):0<=evenX n k/\evenX n k<2147483647:=⟨dO _ (by decide),dC _ (by decide)⟩
theorem xf(n:Int):∀m,∀x∈(evenGo n m).1,0<=x/\x<2147483647
 | 0,x,h=>by cases h
 | m+1,x,h=>by
  rcases dJ.mp h with h|h
  ·exact xf n m x h
  ·rw[cK.mp h];exact yz _ _
theorem evenGo_num(n:Int)(h0:0<=n)(h1:n<2147483647):∀m,0<=(evenGo n m).2/\(evenGo n m).2<2147483647
 | 0=>⟨h0,h1⟩
 | m+1=>yz _ _
theorem mixed_bd(c:Int)(m:Nat):∀x∈mixed c m,0<=x/\x<2147483647:=by
 unfold mixed;split
 ·exact yF _ _
 ·exact xf _ _
def ins(xs:List Int)(i:Nat)(x:Int):List Int:=xs.take i++x::xs.drop i
theorem Cb(xs:List Int)(i:Nat)(x:Int):(ins xs i x).Perm (x::xs):=by
 unfold ins;refine nW.trans ?_;rw[lO]
def permGo(num:Int):Nat->List Int×Int
 | 0=>([],num)
 | k+1=>(ins (permGo num k).1 ((permGo num k).2%(k+1)).toNat k,(permGo num k).2/(k+1))
def perm(num:Int)(n:Nat):List Int:=(permGo num n).1
theorem perm_succ_perm:∀(num:Int) (n:Nat),(perm num n).Perm ((db n).map hO)
 | _,0=>iM _
 | num,n+1=>by
  unfold perm
  rw[gc,cS]
  refine(Cb _ _ _).trans ?_
  refine p7.trans ?_ List.perm_append_comm
  exact(perm_succ_perm num n).cons _
theorem perm_len(num:Int)(n:Nat):(perm num n).length=n:=by
 have:=(perm_succ_perm num n).length_eq;simpa using this
theorem vU(row:List Int):(db row.length).map (λi=>row.getD i 0)=row:=by
 apply k8
 ·simp
 ·intro i h1 h2;simp at h1;simp[h1]
def addOne(r:List Int)(t:Int)(w:Int):List Int:=r.set t.toNat (r.getD t.toNat 0+w)
theorem zE(r:List Int)(t w:Int):(addOne r t w).length=r.length:=by simp[addOne]
def addDeal(M:List (List Int))(o:List Int)(w:Int):List (List Int):=qd (λr t=>addOne r t w) M o
end LM
namespace L2
open PySem PySem.Spec PyProof.Rows
def Ji:Sp:=λvs H Q _=>∃i:Int,vs=[.int i]/\Q (.bl true) H
def Kg:Sp:=λvs H Q _=>∃i j:Int,vs=[.int i,.int j]/\Q (.int (Int.gcd i j:Int)) H
def JM(p:Int×Int):HO:= .tup [.int p.1,.int p.2]
def Sz(n:Nat)(p:Int×Int):Prop:=p.1.natAbs<2^n/\p.2.natAbs<2^n/\p.2≠0
def FK(x y:Int×Int):Int×Int:=FQ.red (x.1*y.2+y.1*x.2) (x.2*y.2)
def IW(x y:Int×Int):Int×Int:=FQ.red (x.1*y.2-y.1*x.2) (x.2*y.2)
def IF(x y:Int×Int):Int×Int:=FQ.red (x.1*y.1) (x.2*y.2)
def G4(f:(Int×Int)->(Int×Int)->(Int×Int))(K:cu):Sp:=λvs H Q _=>∃a b x y,vs=[.ref a,.ref b]/\SqT K H a [.int x.1,.int x.2]/\SqT K H b [.int y.1,.int y.2]/\Sz 4000 x/\Sz 4000 y/\
 ∀p H',Same H H'->H' p=some (JM (f x y))->Q (.ref p) H'
def IR(K:cu):Sp:=λvs H Q _=>∃a ns k,vs=[.ref a,.int k]/\SqL K H a (ns.map V.int)/\0<=k/\Q (.int (LM.cellAt ns k)) H
def Jd:Sp:=λvs H Q _=>∃(c:Int) (m:Nat),vs=[.int c,.int m]/\m<=63/\∀p H',Same H H'->H p=none->H' p=some (.lst ((LM.mixed c m).map V.int))->Q (.ref p) H'
def IX:Sp:=λvs H Q _=>∃(num:Int) (n:Nat),vs=[.int num,.int n]/\n<=63/\∀p H',Same H H'->H p=none->H' p=some (.lst ((LM.perm num n).map V.int))->Q (.ref p) H'
def Hf:Sp:=λvs H Q _=>∃i j:Int,vs=[.int i,.int j]/\0<=j/\Q (.int (Int.gcd i j:Int)) H
def Ik:Sp:=λvs H Q _=>∃t b:Int,vs=[.int t,.int b]/\0<b/\b.natAbs<2^9000/\∀p H',Same H H'->H' p=some (JM (FQ.red t b))->Q (.ref p) H'
theorem DF{t b:Int}(hb:b≠0):Int.gcd t b<=b.natAbs:=Nat.le_of_dvd (by omega) (Int.gcd_dvd_natAbs_right ..)
theorem uT{t b:Int}(hb:b≠0)(hz:b.natAbs<2^9000):
  (b<0->(-(Int.gcd t b:Int)≠0/\(-(Int.gcd t b:Int)).natAbs<2^9000)/\t.fdiv (-(Int.gcd t b:Int))=(FQ.red t b).1/\b.fdiv (-(Int.gcd t b:Int))=(FQ.red t b).2)/\
  (¬b<0->((Int.gcd t b:Int)≠0/\(Int.gcd t b:Int).natAbs<2^9000)/\t.fdiv (Int.gcd t b:Int)=(FQ.red t b).1/\b.fdiv (Int.gcd t b:Int)=(FQ.red t b).2):=by
 have d:0<Int.gcd t b:=fz _ hb
 have a:=DF (t:=t) hb
 have e:=FQ.fdiv_red (t:=t) hb
 constructor
 ·intro c
  rw[gG c,Int.mul_neg_one]at e
  exact⟨⟨by omega,by rw[Int.natAbs_neg,jf];exact eP a hz⟩,congrArg Prod.fst e,congrArg Prod.snd e⟩
 ·intro c
  rw[ie (by omega),h9]at e
  exact⟨⟨by omega,by rw[jf];exact eP a hz⟩,congrArg Prod.fst e,congrArg Prod.snd e⟩
theorem y9{a b m n:Nat}(h1:a<2^m)(h2:b<2^n):a*b<2^(m+n):=by
 rw[Nat.pow_add];exact Nat.mul_lt_mul'' h1 h2
theorem u4{a b:Int}{m n:Nat}(h1:a.natAbs<2^m)(h2:b.natAbs<2^n):(a*b).natAbs<2^(m+n):=by
 rw[j9];exact y9 h1 h2
theorem vH{a:Int}{m n:Nat}(h:a.natAbs<2^m)(hmn:m<=n):a.natAbs<2^n:=cU h (eA (by decide) hmn)
theorem G1{a b:Int}(h1:a.natAbs<2^4000)(h2:b.natAbs<2^4000):IntMulOk a b:=Lc h1 h2 (by decide)
theorem KE{a b:Int}(h1:a.natAbs<2^4000)(h2:b.natAbs<2^4000):(a*b).natAbs<2^9000:=vH (u4 h1 h2) (by decide)
mutual
inductive Rep(K:cu)(H:Hp):V->iN->Prop
 | non:Rep K H .non .none
 | bl (b:Bool):Rep K H (.bl b) (.bool b)
 | int (i:Int):Rep K H (.int i) (.int i)
 | str (x:Str):Rep K H (.str x) (.str x)
 | lst {a:cG} {xs:List V} {ds:List iN}:SqL K H a xs->Reps K H xs ds->xs.length<=1000->Rep K H (.ref a) (.list ds)
 | tup {a:cG} {xs:List V} {ds:List iN}:SqT K H a xs->Reps K H xs ds->xs.length<=1000->Rep K H (.ref a) (.tuple ds)
inductive Reps(K:cu)(H:Hp):List V->List iN->Prop
 | nil:Reps K H [] []
 | cons {x:V} {d:iN} {xs:List V} {ds:List iN}:Rep K H x d->Reps K H xs ds->Reps K H (x::xs) (d::ds)
end
section
variable{X:Cx}{pins:List (cG×Obj)}{σ:St}{H:Hp}{s:cD}
mutual
theorem Rep.reads(I:Inv X pins σ H s){x:V}{d:iN}{u:cA}(r:Rep X.K H x d)(q:RelV x u):∃as,Reads s.heap u d as:=by
 cases r with
 | non=>cases(show u=cA.none from q);exact⟨_,.none⟩
 | bl b=>cases(show u=eo b from q);exact⟨_,.bool b⟩
 | int i=>obtain⟨t,e⟩:=(show ∃t,u=dX i t from q);cases e;exact⟨_,.int i t⟩
 | str x=>obtain⟨t,e⟩:=(show ∃t,u=iu x t from q);cases e;exact⟨_,.str x t⟩
 | @lst a xs ds hq hs hl=>
  cases(show u=cR a from q);obtain⟨g,f,⟨o,n,h1,h2,_,h3⟩,_⟩:=I.list hq;obtain⟨as,c⟩:=Reps.reads I hs f;exact⟨_,.list h1 h2 h3 (by simpa using c)⟩
 | @tup a xs ds hq hs hl=>
  cases(show u=cR a from q);obtain⟨g,f,⟨o,h1,h2,n,h3⟩,_⟩:=I.tuple hq;obtain⟨as,c⟩:=Reps.reads I hs f;exact⟨_,.tuple h1 h2 h3 (by simpa using c)⟩
theorem Reps.reads(I:Inv X pins σ H s){xs:List V}{ds:List iN}{us:List cA}(r:Reps X.K H xs ds)(q:Vals xs us):∃as,ReadsAll s.heap us ds as:=by
 cases r with
 | nil=>cases q;exact⟨_,.nil⟩
 | cons r b=>
  cases q with
  | cons q a=>
   obtain⟨as,h1⟩:=Rep.reads I r q;obtain⟨c,h2⟩:=Reps.reads I b a;exact⟨_,.cons h1 h2⟩
end
def Lz(K:cu):R2:=λx y H Q=>∃d e,Rep K H x d/\Rep K H y e/\f8 d=true/\f8 e=true/\Q (.bl (gw d e)) H
def Lh(K:cu):R2:=λx y H Q=>∃d e,Rep K H x d/\Rep K H y e/\f8 d=true/\f8 e=true/\Q (.bl (!gw d e)) H
theorem y2{k:Nat}(hr:Room k X.A):Fs X (compareOp .Eq) (Lz X.K):=by
 intro j s m H x y v u Q I b f h;obtain⟨d,e,l,g,c,a,q⟩:=h;obtain⟨as,h1⟩:=l.reads I b;obtain⟨n,h2⟩:=g.reads I f;exact eq_dataH h1 h2 c a hr.units ⟨.bl _,H,I,rfl,q⟩
theorem xc{k:Nat}(hr:Room k X.A):Fs X (compareOp .NotEq) (Lh X.K):=by
 intro j s m H x y v u Q I b f h;obtain⟨d,e,l,g,c,a,q⟩:=h;obtain⟨as,h1⟩:=l.reads I b;obtain⟨n,h2⟩:=g.reads I f;exact ne_dataH h1 h2 c a hr.units ⟨.bl _,H,I,rfl,q⟩
end
theorem Reps.length{K:cu}{H:Hp}:∀{xs:List V} {ds:List iN},Reps K H xs ds->xs.length=ds.length
 | _,_,.nil=>rfl
 | _,_,.cons _ r=>by simp[Reps.length r]
theorem Reps.get{K:cu}{H:Hp}:∀{xs:List V} {ds:List iN} {i:Nat} {d:iN},Reps K H xs ds->ds[i]?=some d->∃x,xs[i]?=some x/\Rep K H x d
 | _,_,_,_,.nil,e=>by simp at e
 | _,_,0,_,.cons r _,e=>by simp at e;subst e;exact⟨_,rfl,r⟩
 | _,_,i+1,d,.cons _ t,e=>by
  obtain⟨x,h1,h2⟩:=Reps.get (i:=i) t (by simpa using e)
  exact⟨x,by simpa using h1,h2⟩
def dF(p:Int×Int):iN:= .tuple [.int p.1,.int p.2]
theorem IsF.rep{K:cu}{H:Hp}{v:V}{p:Int×Int}(h:IsF K H v p):Rep K H v (dF p):=by
 obtain⟨a,rfl,q⟩:=h;exact .tup q (.cons (.int _) (.cons (.int _) .nil)) (by simp)
theorem Paired.len{α β:Type}{F:α->β->Prop}{xs:List α}{ys:List β}(h:dr F xs ys):xs.length=ys.length:=mt h
theorem we{lo:Int}{n:Nat}{caps:List (Option Nat)}{g:TG}{tt:TT}{te:TE}{σ:St}{QQ:List V->Hp->Prop}{H:Hp}(Pv:Nat->List V->Hp->Prop)(h0:Pv 0 [] H)
  (hs:∀i ys H,i<n->Pv i ys H->g (.int (lo+i)) (EZ caps σ) H λσ2 H2=>tt σ2 H2 λb H3=>if b=true then te σ2 H3 λy H4=>ys.length<sizeLine/\Pv (i+1) (ys++[y]) H4 else Pv (i+1) ys H3)
  (hd:∀ys H,Pv n ys H->QQ ys H):EB caps g tt te σ QQ (JX lo n) H:=by
 refine⟨λi m ys H=>m=n-i/\i<=n/\Pv i ys H,⟨n,by simp,du _,h0⟩,?_⟩
 rintro i m ys H ⟨rfl,h,p⟩
 by_cases a:i<n
 ·refine .inr ⟨a,Pv (i+1),λf d c=>⟨n-(i+1),by omega,rfl,a,c⟩,λx d y=>?_⟩
  obtain⟨e,y⟩:=y
  subst e y
  exact hs i ys _ a p
 ·have e:i=n:=by omega
  subst e
  exact .inl ⟨cI _,hd ys H p⟩
theorem vG{K:cu}{a:cG}{xs:List V}{caps:List (Option Nat)}{g:TG}{tt:TT}{te:TE}{σ:St}{QQ:List V->Hp->Prop}{H:Hp}(Pv:Nat->List V->Hp->Prop)(h0:Pv 0 [] H)
  (hl:∀i ys H,i<=xs.length->Pv i ys H->SqL K H a xs)
  (hs:∀i x ys H,xs[i]?=some x->Pv i ys H->g x (EZ caps σ) H λσ2 H2=>tt σ2 H2 λb H3=>if b=true then te σ2 H3 λy H4=>ys.length<sizeLine/\Pv (i+1) (ys++[y]) H4 else Pv (i+1) ys H3)
  (hd:∀ys H,Pv xs.length ys H->QQ ys H):EB caps g tt te σ QQ (KA K a) H:=by
 refine⟨λi m ys H=>m=xs.length-i/\i<=xs.length/\Pv i ys H,⟨xs.length,by simp,du _,h0⟩,?_⟩
 rintro i m ys H ⟨rfl,f,p⟩
 have q:=hl i ys H f p
 by_cases c:i<xs.length
 ·refine .inr ⟨⟨xs,xs[i],q,by simp[c]⟩,Pv (i+1),λj h d=>⟨xs.length-(i+1),by omega,rfl,c,d⟩,λx h y=>?_⟩
  obtain⟨e,y⟩:=y
  subst e
  exact hs i x ys _ (y xs q) p
 ·have e:i=xs.length:=by omega
  subst e
  exact .inl ⟨⟨xs,q,cI _⟩,hd ys H p⟩
theorem ua{K:cu}{a:cG}{xs:List V}{caps:List (Option Nat)}{g:TG}{tt:TT}{te:TE}{σ:St}{QQ:List V->Hp->Prop}{H:Hp}(Pv:Nat->List V->Hp->Prop)(h0:Pv 0 [] H)
  (hl:∀i ys H,i<=xs.length->Pv i ys H->SqT K H a xs)
  (hs:∀i x ys H,xs[i]?=some x->Pv i ys H->g x (EZ caps σ) H λσ2 H2=>tt σ2 H2 λb H3=>if b=true then te σ2 H3 λy H4=>ys.length<sizeLine/\Pv (i+1) (ys++[y]) H4 else Pv (i+1) ys H3)
  (hd:∀ys H,Pv xs.length ys H->QQ ys H):EB caps g tt te σ QQ (KL K a) H:=by
 refine⟨λi m ys H=>m=xs.length-i/\i<=xs.length/\Pv i ys H,⟨xs.length,by simp,du _,h0⟩,?_⟩
 rintro i m ys H ⟨rfl,f,p⟩
 have q:=hl i ys H f p
 by_cases c:i<xs.length
 ·refine .inr ⟨⟨xs,xs[i],q,by simp[c]⟩,Pv (i+1),λj h d=>⟨xs.length-(i+1),by omega,rfl,c,d⟩,λx h y=>?_⟩
  obtain⟨e,y⟩:=y
  subst e
  exact hs i x ys _ (y xs q) p
 ·have e:i=xs.length:=by omega
  subst e
  exact .inl ⟨⟨xs,q,cI _⟩,hd ys H p⟩
theorem tH{σ:St}{H:Hp}{A:Hp->Prop}{B:Hp->Prop}:(FT σ H λb H3=>if b=true then A H3 else B H3)=A H:=by
 unfold FT;exact if_pos rfl
theorem sH{lo:Int}{n:Nat}{caps:List (Option Nat)}{g:TG}{te:TE}{σ:St}{QQ:List V->Hp->Prop}{H:Hp}(Pv:Nat->List V->Hp->Prop)(h0:Pv 0 [] H)
  (hs:∀i ys H,i<n->Pv i ys H->g (.int (lo+i)) (EZ caps σ) H λσ2 H2=>te σ2 H2 λy H4=>ys.length<sizeLine/\Pv (i+1) (ys++[y]) H4)
  (hd:∀ys H,Pv n ys H->QQ ys H):EB caps g FT te σ QQ (JX lo n) H:=
 we Pv h0 (λi ys H a p=>by simp only[tH];exact hs i ys H a p) hd
theorem sO{K:cu}{a:cG}{xs:List V}{caps:List (Option Nat)}{g:TG}{te:TE}{σ:St}{QQ:List V->Hp->Prop}{H:Hp}(Pv:Nat->List V->Hp->Prop)(h0:Pv 0 [] H)
  (hl:∀i ys H,i<=xs.length->Pv i ys H->SqL K H a xs)
  (hs:∀i x ys H,xs[i]?=some x->Pv i ys H->g x (EZ caps σ) H λσ2 H2=>te σ2 H2 λy H4=>ys.length<sizeLine/\Pv (i+1) (ys++[y]) H4)
  (hd:∀ys H,Pv xs.length ys H->QQ ys H):EB caps g FT te σ QQ (KA K a) H:=
 vG Pv h0 hl (λi x ys H b p=>by simp only[tH];exact hs i x ys H b p) hd
theorem vB{K:cu}{a:cG}{xs:List V}{caps:List (Option Nat)}{g:TG}{te:TE}{σ:St}{QQ:List V->Hp->Prop}{H:Hp}(Pv:Nat->List V->Hp->Prop)(h0:Pv 0 [] H)
  (hl:∀i ys H,i<=xs.length->Pv i ys H->SqT K H a xs)
  (hs:∀i x ys H,xs[i]?=some x->Pv i ys H->g x (EZ caps σ) H λσ2 H2=>te σ2 H2 λy H4=>ys.length<sizeLine/\Pv (i+1) (ys++[y]) H4)
  (hd:∀ys H,Pv xs.length ys H->QQ ys H):EB caps g FT te σ QQ (KL K a) H:=
 ua Pv h0 hl (λi x ys H b p=>by simp only[tH];exact hs i x ys H b p) hd
theorem wt{a b T:Int}(hT:T≠0):FK (FQ.red a T) (FQ.red b T)=FQ.red (a+b) T:=by
 have h1:=FQ.red_worth (t:=a) hT;have h2:=FQ.red_worth (t:=b) hT;have c:=(FQ.red_low (t:=a) hT).pos;have d:=(FQ.red_low (t:=b) hT).pos;unfold FK;refine FQ.red_eq (dE (by omega) (by omega)) hT ?_;generalize FQ.red a T=p at *;generalize FQ.red b T=q at *
 calc (p.1*q.2+q.1*p.2)*T=(p.1*T)*q.2+(q.1*T)*p.2:=by rw[gR];ac_rfl
  _=(a*p.2)*q.2+(b*q.2)*p.2:=by rw[h1,h2]
  _=(a+b)*(p.2*q.2):=by rw[gR];ac_rfl
theorem uZ{T:Int}(hT:T≠0):FQ.red 0 T=(0,1):=FQ.red_eq_iff hT ⟨by decide,by decide⟩ (by simp)
theorem x3{T:Int}(hT:T≠0):FQ.red T T=(1,1):=FQ.red_eq_iff hT ⟨by decide,by decide⟩ (by simp)
theorem vf{a T:Int}(hT:T≠0)(h1:a.natAbs<2^100)(h2:T.natAbs<2^100):Sz 4000 (FQ.red a T):=by
 have s:=FQ.red_small (t:=a) hT;have p:=(FQ.red_low (t:=a) hT).pos;refine⟨eP s.1 (cU h1 (eA (by decide) (by decide))),eP s.2 (cU h2 (eA (by decide) (by decide))),by omega⟩
def Jj(K:cu):Sp:=λvs H Q _=>∃(a:cG) (ns:List Int),vs=[.ref a]/\SqL K H a (ns.map V.int)/\ns.length<=63/\∀H',Q (.bl true) H'
def F8:Nat->iN->Bool
 | _,.none=>true
 | _,.bool _=>true
 | _,.int _=>true
 | _,.str x=>f8 (.str x)
 | n+1,.tuple ds=>ds.all (F8 n)
 | n+1,.list ds=>ds.all (F8 n)
 | _,_=>false
def HL(K:cu)(n:Nat):Sp:=λvs H Q _=>∃v u d,vs=[v,u]/\Rep K H v d/\Rep K H u d/\F8 n d=true/\Q (.bl true) H
def JB(sp:Nat->Sp):Nat->Sp
 | 0=>λ_ _ _ _=>False
 | n+1=>sp n
structure Flies(P:cT)(w:dc)(outer:List Env)(H:Hp)(s:cD)(a C:cG)(B:Heap)(a0:cA)(H':Hp)(s':cD):Prop where
 os:s'.os=s.os
 bare:AllBare s'.gens
 un:Un (Fj outer) [] H H' s.heap s'.heap
 hok:HOk P w H' B
 keep:∀b o,s.heap.get? b=some o->H b=none->b∉Fj outer->B.get? b=some o
 has:∀b o,s.heap.get? b=some o->b∉Fj outer->∃o',B.get? b=some o'
 fly:lu B outer a (.ref C) a0 s'.heap
def FJ(P:cT)(w:dc):Hl:=λouter H s E e s'=>∃a C B a0 H',e = .ref a/\Flies P w outer H s a C B a0 H' s'/\E (.ref C) none H'
theorem ObjOk.is{P:cT}{w:dc}{H:Hp}{h:Heap}{a:cG}{o:HO}(x:ObjOk P w H h a o):∃u,h.get? a=some u:=by
 cases o with
 | lst d=>obtain⟨_,_,_,_,e⟩:=x;exact⟨_,e⟩
 | tup d=>obtain⟨_,_,_,o,e,_⟩:=x;exact⟨_,e⟩
 | dK b=>obtain⟨_,_,_,_,o,_,_,e,_⟩:=x;exact⟨_,e⟩
 | dT b=>obtain⟨_,_,_,_,o,_,_,e,_⟩:=x;exact⟨_,e⟩
 | set S n=>obtain⟨o,_,_,_,e,_⟩:=x;exact⟨_,e⟩
 | ins C l c=>obtain⟨_,_,_,e,_⟩:=x;exact⟨_,e⟩
 | own y=>obtain⟨_,e⟩:=x;exact⟨_,e⟩
 | xd c=>obtain⟨_,⟨_,_,_,e,_⟩,_⟩:=x;exact⟨_,e⟩
 | rng p g=>obtain⟨_,_,_,e⟩:=x;exact⟨_,e⟩
 | frz k u=>obtain⟨e,_⟩:=x;exact⟨_,e⟩
 | tbl j=>exact⟨_,(show h.get? a=some _ from x)⟩
 | met f y=>exact⟨_,(show h.get? a=some _ from x)⟩
 | ext m=>obtain⟨_,⟨_,e⟩,_⟩:=x;exact⟨_,e⟩
theorem Flies.free{P:cT}{w:dc}{outer:List Env}{H H':Hp}{s s':cD}{a C:cG}{B:Heap}{a0:cA}(f:Flies P w outer H s a C B a0 H' s'):H' a=none:=by
 cases q:H' a with
 | none=>rfl
 | some o=>
  obtain⟨x,b⟩:=(f.hok a o q).is;rw[f.fly.2.1]at b;cases b
theorem BL{P:cT}{w:dc}{H:Hp}{h:Heap}{l:List cG}(x:HOk P w H h)(n:∀b∈l,H b=none):HOk P w H (lE h l):=λa o e=>
 (x a o e).stay (λb u c q=>gy _ q λz=>by
  rcases c with rfl|c
  ·rw[n _ z]at e;cases e
  ·rw[n _ z]at c;cases c) (λ_ q=>q) λ_ _ q=>q
section
variable{P:cT}{w:dc}{K:cu}{mg:Str->Option cA}{base:Heap}{N:List Str}{qual:Str}{scope:Scope}{f:cG}{cd:cA}{A:dw}{outer:List Env}{s₀:cD}{H₀:Hp}{E:XK}
abbrev Il(P:cT)(w:dc)(K:cu)(mg:Str->Option cA)(base:Heap)(N:List Str)(qual:Str)(scope:Scope)(f:cG)(cd:cA)(A:dw)(outer:List Env)(s₀:cD)(H₀:Hp)(E:XK):Cx:=Hx (FJ P w) P w K mg base N qual scope f cd A outer s₀ H₀ E
theorem wz{env:Env}{l:List Env}{L:cG}(h:env.frame=some L):Fj (env::l)=L::Fj l:=by unfold Fj;rw[gb,h]
theorem x0{pins:List (cG×Obj)}{σ:St}{H:Hp}{s:cD}{h':Heap}{e C:cG}{vs:List cA}(I:Inv (Il P w K mg base N qual scope f cd A outer s₀ H₀ E) pins σ H s)(hx:Heap.MadeExcOf s.heap h' e (.ref C) vs)(hE:E (.ref C) none H):
  (Il P w K mg base N qual scope f cd A outer s₀ H₀ E).xe (.ref e) {s with heap:=h'}:=by
 have F:(envOfC qual scope s₀.heap.objs.size f cd).frame=some s₀.heap.objs.size:=rfl
 have Q:(Il P w K mg base N qual scope f cd A outer s₀ H₀ E).stack=envOfC qual scope s₀.heap.objs.size f cd::outer:=rfl
 have x:∀k∈(envOfC qual scope s₀.heap.objs.size f cd::outer),∀b,k.frame=some b->b∈Fj (envOfC qual scope s₀.heap.objs.size f cd::outer):=λk G b a=>gF.mpr ⟨k,G,a⟩
 have M:s.heap.FunFrames base (envOfC qual scope s₀.heap.objs.size f cd::outer):=I.stack
 have D:∀b∈Fj (envOfC qual scope s₀.heap.objs.size f cd::outer),H b=none:=I.stkFree
 have d:∀b o,s₀.heap.get? b=some o->b∉Fj outer->b∉Fj (envOfC qual scope s₀.heap.objs.size f cd::outer):=λb o q nb=>by
  rw[wz F]
  intro z
  rcases cZ.mp z with z|z
  ·exact absurd (cQ q) (by rw[z];exact dt _)
  ·exact nb z
 have U:Un (Fj outer) [] H₀ H s₀.heap s.heap:=I.base
 show wpAny _ _ (leaving _ _) _ _ _
 refine wpAny_leaves_madeW (base:=lE s.heap (Fj (envOfC qual scope s₀.heap.objs.size f cd::outer))) (h:=s.heap) I.ok.frames F (λb o q=>mI _ q) (PySem.W.funFrames_hide M x) hx λO t B _ _ v=>?_
 have j:=B.1
 refine⟨e,C,_,_,H,rfl,⟨I.os,I.bare,⟨λb o q n nb _=>?_,λb o q n a _=>?_,λb o q n y=>U.free b o q n y,λb o q _=>?_,U.tups,U.frzs,U.tbls⟩,BL I.hok D,λb o q n nb=>?_,λb o q nb=>?_,B⟩,hE⟩
 ·exact j _ _ (gy _ (U.keep b o q n nb (by simp)) (d b o q nb))
 ·obtain⟨L,g⟩:=U.slot b o q n a (by simp)
  obtain⟨_,m,c,l⟩:=I.funs.mem a
  have J:m={o with slots:=L}:=Option.some.inj (c.symm.trans g)
  obtain⟨r,p⟩:=v b m (hx.keeps _ _ c) l
  rw[J]at p
  exact⟨r,p⟩
 ·obtain⟨u,g⟩:=U.there b o q (by simp)
  by_cases a:b∈Fj outer
  ·obtain⟨_,m,c,l⟩:=I.funs.mem a
   obtain⟨r,p⟩:=v b m (hx.keeps _ _ c) l
   exact⟨_,p⟩
  ·exact⟨u,j _ _ (gy _ g (d b o q a))⟩
 ·exact gy _ (U.keep b o q n nb (by simp)) (d b o q nb)
 ·obtain⟨u,g⟩:=U.there b o q (by simp)
  exact⟨u,gy _ g (d b o q nb)⟩
theorem HU{E':XK}(hE:∀c d H',E' c d H'->E c d H'):EC (FJ P w) (Il P w K mg base N qual scope f cd A outer s₀ H₀ E) E':=by
 intro Y σ H s e L I hc;obtain⟨a,C,B,W,H',rfl,F,q⟩:=hc;have D:(envOfC qual scope s₀.heap.objs.size f cd).frame=some s₀.heap.objs.size:=rfl;have v:∀b o,s₀.heap.get? b=some o->b∉Fj outer->b∉Fj (envOfC qual scope s₀.heap.objs.size f cd::outer):=λb o q nb=>by
  rw[wz D];intro z;rcases cZ.mp z with z|z
  ·exact absurd (cQ q) (by rw[z];exact dt _)
  ·exact nb z
 have t:∀b∈Fj outer,b∈Fj (envOfC qual scope s₀.heap.objs.size f cd::outer):=λb g=>by rw[wz D];exact cO _ g
 have U:Un (Fj outer) [] H₀ H s₀.heap s.heap:=I.base;have l:Un (Fj (envOfC qual scope s₀.heap.objs.size f cd::outer)) [] H H' s.heap L.heap:=F.un;have Z:L.heap.FunFrames B (envOfC qual scope s₀.heap.objs.size f cd::outer):=F.fly.2.2.1;show wpAny _ _ (leaving _ _) _ _ _;refine wpAny_leaves_onW I.ok.frames D F.fly λJ O T=>?_
 have p:=O.1;have R:∀b o,s₀.heap.get? b=some o->H₀ b=none->b∉Fj outer->B.get? b=some o:=λb o q n nb=>F.keep b o (U.keep b o q n nb (by simp)) (U.free b o q n (by simp)) (v b o q nb)
 have S:∀b o,s₀.heap.get? b=some o->b∉Fj outer->∃j,B.get? b=some j:=λb o q nb=>by
  obtain⟨j,h⟩:=U.there b o q (by simp);exact F.has b j h (v b o q nb)
 have k:∀b o,s₀.heap.get? b=some o->H₀ b=none->b∈Fj outer->∃k,J.get? b=some {o with slots:=k}:=λb o q n g=>by
  obtain⟨k,h⟩:=U.slot b o q n g (by simp);obtain⟨aa,X⟩:=l.slot b _ h (U.free b o q n (by simp)) (t b g) (by simp);obtain⟨_,V,r,Q⟩:=Z.mem (t b g);have x:=Option.some.inj (r.symm.trans X);obtain⟨y,G⟩:=T b V r Q;rw[x]at G;exact⟨y,G⟩
 refine⟨a,C,B,W,H',rfl,⟨F.os.trans I.os,F.bare,⟨λb o q n nb _=>p _ _ (R b o q n nb),λb o q n g _=>k b o q n g,λb o q n m=>?_,λb o q _=>?_,λb M q=>l.tups b M (U.tups b M q),λb o u q=>l.frzs b o u (U.frzs b o u q),λb ps q=>?_⟩,F.hok,R,S,O⟩,hE _ _ _ q⟩
 ·obtain⟨j,h⟩:=U.there b o q m;exact l.free b j h (U.free b o q n m) m
 ·by_cases g:b∈Fj outer
  ·obtain⟨k,h⟩:=k b o q (I.ok.frf b g) g;exact⟨_,h⟩
  ·obtain⟨j,h⟩:=S b o q g;exact⟨j,p _ _ h⟩
 ·obtain⟨m1,e1⟩:=U.tbls b ps q;obtain⟨m2,x⟩:=l.tbls b _ e1;exact⟨m1++m2,by rw[x,mJ]⟩
end
def Mj:List cA:=[.type "ValueError",.type "Exception",.type "BaseException",.type "object"]
structure GZ(K:cu)(mg:Str->Option cA)(x:Str)(C:cG):Prop where
 bound:mg x=some (.ref C)
 exc:kL K C Mj "ValueError.__new__"=true
theorem AV{K:cu}{h:Heap}{C:cG}{bmB:List cA}{nid:String}(X:K.In h)(q:kL K C bmB nid=true):
  ∃bm N nm qn bs hdct sn sub ab col dd k0 k1 k2 k3 k5 mN,h.get? C=some (excClassObj nm qn C N bs bm hdct sn sub ab col dd k0 k1 k2 k3 k5 nid)/\h.Ns N mN/\mN "__init__"=none/\OwnTail h bmB bm:=by
 unfold kL at q
 split at q
 ·rename_i dd cd sl hlk
  split at q
  ·rename_i C' bm u0 u1 u2 u3 n u5 hmro hsl
   simp only[dn,beq_iff_eq,nl]at q
   obtain⟨⟨⟨⟨⟨rfl,rfl⟩,b⟩,e⟩,a⟩,c⟩:=q
   obtain⟨nm,bs,g,d,qn,f,sn,sub,ab,col,j⟩:=cd
   dsimp only at hmro b a c
   subst hmro b
   obtain⟨l⟩:=sl
   simp only at hsl
   subst hsl
   exact⟨bm,d,nm,qn,bs,f,sn,sub,ab,col,dd,u0,u1,u2,u3,u5,_,X _ _ hlk,.of_isNs (PySem.W.isNs_of_in X a),PySem.W.nsMap_none_of_in X a c,PySem.W.tail_of_in X e⟩
  ·cases q
 ·cases q
section
variable{P:cT}{w:dc}{K:cu}{mg:Str->Option cA}{base:Heap}{N:List Str}{qual:Str}{scope:Scope}{f:cG}{cd:cA}{A:dw}{outer:List Env}{s₀:cD}{H₀:Hp}{E:XK}
def Kz(C:cG)(E:XK)(t:TA):TS:=λ_ σ H=>t σ H λvs H1=>vs.length<=sizeLine/\E (.ref C) none H1
theorem tM{x:Str}{C:cG}{e₀:Expr}{es:List Expr}{np cpos pos:Pos}{t:TA}(hC:GZ K mg x C)(hg:Gl (Il P w K mg base N qual scope f cd A outer s₀ H₀ E) x)
  (ha:PA (Il P w K mg base N qual scope f cd A outer s₀ H₀ E).nox (e₀::es) t)
  (hd:(x==("__debug__":Str))=false:=by decide)(he:dh (e₀::es) (Il P w K mg base N qual scope f cd A outer s₀ H₀ E).env=(false,eval e₀ (Il P w K mg base N qual scope f cd A outer s₀ H₀ E).env)::dh es (Il P w K mg base N qual scope f cd A outer s₀ H₀ E).env:=by rfl)
  (hpl:(backTo cpos (dh es (Il P w K mg base N qual scope f cd A outer s₀ H₀ E).env)).any (·.1)=false:=by rfl):
  PS (Il P w K mg base N qual scope f cd A outer s₀ H₀ E) (.Raise (some (.Call (.Name x np) (e₀::es) [] cpos)) none pos) (Kz C E t):=by
 intro b s n H D I h
 obtain⟨bm,j,nm,m,bs,hdct,sn,sub,ab,col,dd,k0,k1,k2,k3,k5,mN,d,l,c,T⟩:=AV I.ok.mod.kin hC.exc
 refine wpAny_Raise_call_subT (C:=C) (nm:=nm) (q:=m) (N:=j) (bs:=bs) (bm:=bm) (hdct:=hdct) (sn:=sn) (sub:=sub) (ab:=ab) (col:=col) (dd:=dd) (k0:=k0) (k1:=k1) (k2:=k2) (k3:=k3) (k5:=k5) (mN:=mN) (bmB:=Mj) (newId:="ValueError.__new__")
  PySem.F.excBase_ValueError (T.hasType (by decide)) (I.ok.hd rfl) (by rw[he];exact hpl) c (vh I hg hC.bound ⟨rfl,?_⟩ hd)
 have z:=ha cpos b s n H _ (I.wish _) h
 have g:dh (e₀::es) (Il P w K mg base N qual scope f cd A outer s₀ H₀ E).nox.env=(false,eval e₀ (Il P w K mg base N qual scope f cd A outer s₀ H₀ E).env)::dh es (Il P w K mg base N qual scope f cd A outer s₀ H₀ E).env:=he
 rw[g]at z
 rw[he]
 refine iJ ?_
 refine gh z (λy v h1=>?_) λ_ _ z=>fh z
 obtain⟨vs,u,a,r,k,p⟩:=h1
 have a:=a.unwish
 exact⟨rfl,by rw[<-r.length];exact k,a.bk _ _ d,l.keeps a.bk,T.keeps a.bk,λB e o=>x0 a o p⟩
end
section
variable{M:Model}{A:dw}{E:cA->cD->Prop}{K:cu}{h:Heap}{g:Array GenState}{d:Drawn}{t:Nat}{os:OsState}{a C CW:cG}{oe:Obj}
theorem xk{Q:Bool->cD->Prop}(X:K.In h)(qW:kL K CW Mj "ValueError.__new__"=true)(hm:mz K C (.ref CW)=some true)(ha:h.get? a=some oe)(hc:oe.cls = .ref C)
  (hq:Q true ⟨h,g,d,t,os⟩):wpAny M A (excMatches (.ref a) (.ref CW)) Q E ⟨h,g,d,t,os⟩:=by
 obtain⟨c,p,B,v,x,f,D,l,F,k,o,q,y,r,w,n,u,b,s,m,T⟩:=AV X qW
 have j:c.contains (.type "BaseException")=true:=T.hasType (by decide)
 have e:(cR CW::c).contains (.type "BaseException")=true:=by rw[List.contains_cons,j,Bool.or_true]
 have z:=tc_notTuple
 have L:=PySem.W.looks_mroIn (M:=M) X hm
 unfold excMatches
 repeat (first|(with_reducible refine nv ha ?_;rw[hc])|with_reducible refine nv b ?_|(with_reducible refine wpAny_isSubtype_exc b ?_;rw[e])|with_reducible refine L.at ?_|wp_step)
 exact hq
end
def LK(C a:cG):HO:= .ext λh=>∃o,h.get? a=some o/\o.cls = .ref C/\∃vs,o.data = .fields vs
section
variable{X:Cx}{pins:List (cG×Obj)}{σ:St}{H:Hp}{s:cD}
theorem Inv.caught{a C:cG}{B:Heap}{a0:cA}{H':Hp}{s':cD}{h6:Heap}(I:Inv X pins σ H s)(F:Flies X.prog X.w X.stack H s a C B a0 H' s')(fl:lu B X.stack a (.ref C) a0 h6)(up:s'.heap.UpToSlots h6):
  Inv X pins σ (upd H' a (LK C a)) {s' with heap:=h6}:=by
 have fr:=F.free
 have h:=F.un
 have M:=F.fly.2.2.1
 obtain⟨G,vs,l,y,r,_⟩:=fl.first
 have m:∀b u,H' b=some u->b≠a:=λb u q z=>by rw[z,fr]at q;cases q
 have E:∀b o,s.heap.get? b=some o->H b=none->b≠a:=λb o q n z=>by
  by_cases e:b∈Fj X.stack
  ·obtain⟨_,t,d,g⟩:=fl.2.2.1.mem e
   rw[z,l]at d
   cases d
   exact g _ r
  ·have:=F.keep b o q n e
   rw[z,fl.2.1]at this
   cases this
 refine I.call' (s':={s' with heap:=h6}) (ch:=[]) F.os ⟨λb o q n nb _=>fl.1 _ _ (F.keep b o q n nb),λb o q n e _=>?_,λb o q n N=>?_,λb o q _=>?_,λb D q=>?_,λb o u q=>?_,λb O q=>?_⟩ ?_ F.bare (λb z=>absurd z (by simp))
 ·obtain⟨P,j⟩:=h.slot b o q n e (by simp)
  obtain⟨_,t,d,g⟩:=M.mem e
  have K:=Option.some.inj (d.symm.trans j)
  obtain⟨A,p⟩:=up b t d g
  rw[K]at p
  exact⟨A,p⟩
 ·rw[rG (E b o q n)]
  exact h.free b o q n N
 ·by_cases e:b∈Fj X.stack
  ·obtain⟨_,t,d,g⟩:=fl.2.2.1.mem e
   exact⟨_,d⟩
  ·obtain⟨L,j⟩:=F.has b o q e
   exact⟨L,fl.1 _ _ j⟩
 ·have f:=h.tups b D q
  rw[rG (m _ _ f)];exact f
 ·have f:=h.frzs b o u q
  rw[rG (m _ _ f)];exact f
 ·obtain⟨x,f⟩:=h.tbls b O q
  exact⟨x,by rw[rG (m _ _ f)];exact f⟩
 ·intro b u q
  by_cases e:b=a
  ·subst e
   rw[rz]at q
   cases q
   exact⟨⟨G,l,y,vs,r⟩,⟨G,l⟩,λh1 h2 ⟨o,j,p,J⟩ k=>⟨o,k o j,p,J⟩⟩
  ·rw[rG e]at q
   exact(F.hok b u q).stay (λc v _ z=>fl.1 _ _ z) (λc z=>by rw[rG (m _ _ z)];exact z) λc D z=>by rw[rG (m _ _ z)];exact z
end
def Cx.hold(X:Cx)(a:cG):Cx:={X with A:=X.A.mark (some (.ref a)),calm:=false,xe:=λ_ _=>False}
theorem Cx.Ok.hold{X:Cx}(ok:X.Ok)(a:cG):(X.hold a).Ok:=
 ⟨ok.mod,ok.kind,ok.glob,ok.blt,ok.above,ok.inj,ok.has,ok.cab,(λz=>by cases z),ok.frames,ok.stk,ok.exf,ok.bs,ok.bsz,ok.noex,ok.exfs,ok.funs,ok.frf⟩
section
variable{X:Cx}{pins:List (cG×Obj)}{σ:St}{H:Hp}{s:cD}
theorem Inv.hold(I:Inv X pins σ H s)(a:cG):Inv (X.hold a) pins σ H s:=⟨I.ok.hold a,I.os,I.bare,I.base,I.loc,I.cell,I.free,I.freeC,I.pin,I.hok,I.len⟩
theorem Inv.unhold{a:cG}(ok:X.Ok)(I:Inv (X.hold a) pins σ H s):Inv X pins σ H s:=⟨ok,I.os,I.bare,I.base,I.loc,I.cell,I.free,I.freeC,I.pin,I.hok,I.len⟩
end
def MB(X:Cx)(e:Expr)(t:XK->TE):Prop:=∀(pins:List (cG×Obj)) (s:cD) (σ:St) (H:Hp) (Q:VK) (E:XK) (xe:cA->cD->Prop),Inv X pins σ H s->
 (∀H1 s1 e' s',Inv X pins σ H1 s1->FJ X.prog X.w X.stack H1 s1 E e' s'->xe e' s')->t E σ H Q->wpAny (model X.prog X.w) X.A (eval e X.env) (EP X pins σ Q) xe s
def MC(X:Cx)(sts:List Stmt)(t:XK->TS):Prop:=∀(pins:List (cG×Obj)) (s:cD) (σ:St) (H:Hp) (D:Gp) (E:XK) (xe:cA->cD->Prop),Inv X pins σ H s->
 (∀H1 s1 e' s',Inv X pins σ H1 s1->FJ X.prog X.w X.stack H1 s1 E e' s'->xe e' s')->t E D σ H->wpAny (model X.prog X.w) X.A (execs sts X.env) (SP X pins D) xe s
section
variable{X:Cx}
theorem Dh{e:Expr}{te:XK->TE}{pos:Pos}(he:MB X e te)(hs:swapsWith e none pos.line X.env=pure false:=by rfl):MC X [.Expr e pos] (λE=>Ka (te E)):=by
 intro a s b H D E l I j h;refine kU (gh (Q:=SP X a D) (oK (Ei (he a s b H _ E l I j h) λv g ⟨x,c,k,m,d⟩=>⟨b,c,k,d⟩) I.quiet hs) (λf g q=>?_) λ_ _ z=>z)
 cases f with
 | next=>exact im q
 | ret v=>exact q
 | brk=>exact q
 | cont=>exact q
end
section
variable{P:cT}{w:dc}{K:cu}{mg:Str->Option cA}{base:Heap}
theorem Def.okE{x:Str}{st:Stmt}{N ps:List Str}{k:Nat}{sp:Sp}(F:Def K mg x st)(S:Ea N ps (D7 st))(len:∀vs H Q E,sp vs H Q E->vs.length=ps.length)
  (hb:∀(kV doc pm:cA) (an:Option cG) (cdv ct:cA) (us:List cA),us.length=ps.length->bindArgs (f7 x x (Ej st) (Ef st) (D7 st) .none kV doc pm an cdv ct) ⟨us,[]⟩=pure (ps.zip us))
  (hbody:∀(f:cG) (cdv:cA) (A:dw) (outer:List Env) (s:cD) (H:Hp) (vs:List V) (Q:VK) (E:XK),Room k (A.deeper (envOfC x (D7 st) s.heap.objs.size f cdv))->sp vs H Q E->
   ∃t,PSs (Il P w K mg base N x (D7 st) f cdv A outer s H E) (Ef st) t/\t {nx:=λ_ H'=>Q .non H',rt:=Q} (start N vs) H):Dn P w K mg base (FJ P w) (k+1) x ps sp:=by
 obtain⟨f,l,F,m⟩:=F
 have a:=F.binds hb
 have e:=F.kp
 obtain⟨j,h,kV,doc,pm,an,cdv,ct,g,rfl,lk,c⟩:=F.ex
 exact⟨f,_,BS lk c S len λA outer s H vs Q E d b=>hbody f cdv A outer s H vs Q E d b,m,e,a⟩
theorem FG{X:Cx}:EC (FJ X.prog X.w) X E0:=λ_ _ _ _ _ _ _ ⟨_,_,_,_,_,_,_,z⟩=>z.elim
end
structure Xs where
 WishError:cG
 NoFraction:cG
 NoWishes:cG
 NoTable:cG
 NoPick:cG
 NoOrder:cG
 NoRoll:cG
 NoPerson:cG
 Unready:cG
 NoWay:cG
def EH(x:Xs):Sp:=λvs H Q E=>∃t b:Int,vs=[.int t,.int b]/\(b=0->E (.ref x.NoFraction) none H)/\(b≠0->b.natAbs<2^9000/\∀p H',Same H H'->H' p=some (JM (FQ.red t b))->Q (.ref p) H')
def GA(K:cu):Sp:=λvs H Q _=>∃a b x y,vs=[.ref a,.ref b]/\SqT K H a [.int x.1,.int x.2]/\SqT K H b [.int y.1,.int y.2]/\Sz 4000 x/\Sz 4000 y/\Q (.bl (decide (x.1*y.2<y.1*x.2))) H
theorem Sz.up{m n:Nat}{p:Int×Int}(h:Sz m p)(hmn:m<=n):Sz n p:=⟨vH h.1 hmn,vH h.2.1 hmn,h.2.2⟩
theorem BV{a b:Int}{m:Nat}(h1:a.natAbs<2^m)(h2:b.natAbs<2^m):(a+b).natAbs<2^(m+1):=by
 have:=Int.natAbs_add_le a b;rw[qe];omega
section
variable{X:Cx}
theorem CH{xs:List V}{us:List cA}(r:Vals xs us){i:Nat}{u:cA}(h:us[i]?=some u):∃x,xs[i]?=some x/\RelV x u:=by
 have c:=r.length;have a:i<us.length:=(cL.mp h).1;have e:xs[i]?=some xs[i]:=by simp[show i<xs.length by omega]
 obtain⟨b,h1,h2⟩:=r.get e;rw[h]at h1
 cases h1;exact⟨_,e,h2⟩
theorem yy(hc:X.calm=true):EJ X (.builtin "all") (λxs H Q=>∃(p:cG) (bs:List Bool),xs=[.ref p]/\SqL X.K H p (bs.map V.bl)/\Q (.bl (bs.all id)) H):=by
 intro D s G H xs F Q I r h;obtain⟨p,bs,rfl,C,q⟩:=h;obtain⟨u,rfl,j⟩:=EX r
 cases(show u=cR p from j);obtain⟨c,z,g,J⟩:=I.list C;have t:=z.length;rw[cx]at t;have hp:p<s.heap.objs.size:=by obtain⟨_,e,_⟩:=g.isList;exact cQ e
 have y:TruthOf X.prog X.w X.A.in1 (λi v=>c.toArray[i]?=some v) (λi=>bs.getD i false):=λi v s Q E k m=>by
  dsimp only at k m;rw[jC]at k;obtain⟨x,a,j⟩:=CH z k;rw[cH]at a
  cases l:bs[i]? with
  | none=>rw[l]at a;cases a
  | some b=>
   rw[l]at a
   cases a
   cases(show v=eo b from j);have e:bs.getD i false=b:=by simp[cC,l]
   rw[e]at m;exact cv m
 refine call_all_walk (iB g.isList ⟨s.heap.objs.size,_,_,_,_,_,_,rfl,oP (A:=X.A.in1) (I.ok.hd hc) s.heap.objs.size p (df hp) c.toArray,⟨⟨_,cN _ rfl,rfl,rfl⟩,g.isList.push _⟩,y,λL tk hk=>?_⟩);have e:(db c.toArray.size).all (λi=>bs.getD i false)=bs.all id:=by
  rw[cX,<-t];apply gv.mpr;rw[dZ,dZ];constructor
  ·intro h x a;obtain⟨i,d,rfl⟩:=eK.mp a;have:=h i (dY.mpr d);simpa [d]using this
  ·intro h i d;have f:=dY.mp d;have:=h bs[i] (cW f);simpa [f]using this
 rw[e];refine⟨.bl _,H,I.kept λb o n=>hk b o (λB=>?_) (cF _ n),rfl,q⟩;rw[cK]at B;subst B;exact absurd (cQ n) (dt _)
theorem uY{ns:List Int}:∀{vs:List cA},Vals (ns.map V.int) vs->IntsAre vs ns:=by
 induction ns with
 | nil=>intro vs r;cases r;exact .nil
 | cons n ns b=>
  intro vs r
  cases r with
  | cons r a=>
   obtain⟨t,rfl⟩:=(show ∃t,_=dX n t from r);exact .cons _ _ (b a)
theorem vv{prog:cT}{w:dc}{A:dw}{E:cA->cD->Prop}{s:cD}{l:cG}{vs:List cA}{Q:List cA->cD->Prop}(ht:IsTup s.heap l vs.toArray)(hsz:vs.length<=sizeLine)
  (h:Q vs {s with heap:=(s.heap.push (seqObj "list" #[] 0)).update s.heap.objs.size (d2 (· ++ vs.toArray))}):wpAny (model prog w) A (collect (.ref l)) Q E s:=by
 obtain⟨o,d,c,n,f⟩:=ht
 have b:(s.heap.push (seqObj "list" #[] 0)).get? l=some o:=cF _ d
 have a:(s.heap.push (seqObj "list" #[] 0)).get? s.heap.objs.size=some (seqObj "list" #[] 0):=cN _ rfl
 unfold collect
 refine cr (kd (eX lP ?_))
 change wpAny _ _ (do again (.builtin "list.__iadd__" ⟨[<-newList [],.ref l],[]⟩)) _ _ s
 refine cr (i9 (cv ⟨ig _ (by decide +kernel),eX ny ?_⟩))
 change wpAny _ _ (fY (.ref s.heap.objs.size) (.ref l) (.ref s.heap.objs.size)) _ _ {s with heap:=s.heap.push (seqObj "list" #[] 0)}
 unfold fY
 refine cr (ii (T:="tuple") ⟨o,b,c⟩ ?_)
 rw[if_pos (by rw[show(dL "tuple"==dL "tuple")=true from rfl];simp)]
 refine cr (qf b f ?_)
 refine cr (qf (xs:= #[]) (n:=0) a rfl ?_)
 rw[if_neg (by simp)]
 refine cr (iw (xs:= #[]) (n:=0) a rfl ?_ (du _) (by change (#[]++vs.toArray).size<=sizeLine+1;simp only[Array.size_append,cX,jT];omega))
 refine cv ?_
 change wpAny (model prog w) A (do
   let o<-load s.heap.objs.size
   match o.data with
   | .seq xs _=>pure xs.toList
   | _=>unsupported "internal:collect") Q E {s with heap:=(s.heap.push (seqObj "list" #[] 0)).update s.heap.objs.size (d2 (· ++ vs.toArray))}
 refine cr (wpAny_load (get?_update_seq a _) ?_)
 change wpAny _ _ (pure ((#[]:Array cA)++vs.toArray).toList) Q E _
 have e:((#[]:Array cA)++vs.toArray).toList=vs:=by simp
 rw[e]
 exact cv h
theorem y7{prog:cT}{w:dc}{A:dw}{E:cA->cD->Prop}{s:cD}{l:cG}{vs:List cA}{ns:List Int}{Q:cA->cD->Prop}(ht:IsTup s.heap l vs.toArray)(hI:IntsAre vs ns)(h64:vs.length<64)
  (h:∀(out:Array cA) (ns':List Int),IntsAre out.toList ns'->ns'.Perm ns->ns'.Pairwise (· <= ·)->Q (.ref (s.heap.objs.size+1)) {s with heap:=sortedAll s.heap vs out}):
  wpAny (model prog w) A (call (.builtin "sorted") [.ref l]) Q E s:=by
 have a:((s.heap.push (seqObj "list" #[] 0)).update s.heap.objs.size (d2 (· ++ vs.toArray))).objs.size=s.heap.objs.size+1:=by rw[nX,lw]
 have b:(((s.heap.push (seqObj "list" #[] 0)).update s.heap.objs.size (d2 (· ++ vs.toArray))).push (seqObj "list" vs.toArray 0)).get? (s.heap.objs.size+1)=some (seqObj "list" vs.toArray 0):=by
  rw[<-a];exact cN _ rfl
 refine gN oo nA nB (nC _) ?_
 unfold Builtin.«sorted»
 refine cr (m:=checkCount "sorted" 1 1 _) (cv ?_)
 have f:vs.length<=sizeLine:=dB (D8 (by omega))
 refine cr (vv ht f (cr (i9 ?_)))
 change wpAny _ _ _ _ _ {s with heap:=((s.heap.push (seqObj "list" #[] 0)).update s.heap.objs.size (d2 (· ++ vs.toArray))).push (seqObj "list" vs.toArray 0)}
 rw[a]
 refine cr (dG (dR l5 ⟨_,b,rfl⟩ lI (oQ b hI h64 λout ns' e c d=>⟨_,rfl,?_⟩) (l8 _)))
 exact cv ⟨_,rfl,h out ns' e c d⟩
theorem xY:EJ X (.builtin "sorted") (λxs H Q=>∃(p:cG) (ns:List Int),xs=[.ref p]/\(SqL X.K H p (ns.map V.int)\/SqT X.K H p (ns.map V.int))/\ns.length<64/\∀(l:cG) (ns':List Int),H l=none->ns'.Perm ns->ns'.Pairwise (· <= ·)->Q (.ref l) (upd H l (.lst (ns'.map V.int)))):=by
 intro j s y H xs C Q I r h;obtain⟨p,ns,rfl,f,B,q⟩:=h;obtain⟨u,rfl,v⟩:=EX r
 cases(show u=cR p from v);have fin:∀(a:List cA),Vals (ns.map V.int) a->∀(d:Array cA) (ns':List Int),IntsAre d.toList ns'->ns'.Perm ns->ns'.Pairwise (· <= ·)->EP X j y Q (.ref (s.heap.objs.size+1)) {s with heap:=sortedAll s.heap a d}:=λa c d ns' z m x=>by
  obtain⟨e,n⟩:=qg s.heap a d;refine⟨.ref (s.heap.objs.size+1),_,I.laid (t':=s.toks) (λb o t=>pN t) (ec _) (show ObjOk X.prog X.w _ _ _ (.lst (ns'.map V.int))from⟨?_,d.toList,e,uy z,by rw[n]⟩),rfl,q _ ns' (I.hok.fresh (ec _)) m x⟩;rw[cx,m.length_eq];exact dB (D8 (by omega))
 rcases f with f|f
 ·obtain⟨a,c,g,A⟩:=I.list f;have k:=c.length;rw[cx]at k;exact sorted_ints g.isList (uY c) (by omega) (fin a c)
 ·obtain⟨a,c,g,A⟩:=I.tuple f;have k:=c.length;rw[cx]at k;exact y7 g (uY c) (by omega) (fin a c)
theorem zz{pins:List (cG×Obj)}{σ:St}{H:Hp}{s:cD}{A:dw}{E:cA->cD->Prop}{Q:cA->cD->Prop}{tp:cG}{dd:Option cG}{its:List cA}{n:Nat}{sl:Array (Option cA)}{b:Bool}{x:V}{u:cA}{t:String}(I:Inv X pins σ H s)(rx:RelV x u)(ty:tyOf X.K H x t)
  (htp:s.heap.get? tp=some ⟨.type "tuple",dd,.seq its.toArray n,sl⟩)(e:oR X.K (.type t) its=some b)(h:∀tk,Q (.bool b) {s with toks:=tk}):wpAny (model X.prog X.w) A (call (.builtin "isinstance") [u,.ref tp]) Q E s:=by
 cases x with
 | non=>cases(show u=cA.none from rx);cases(show t="NoneType"from ty);exact iq nq I.kIn True.intro htp e (λz=>nomatch z) h
 | bl y=>cases(show u=eo y from rx);cases(show t="bool"from ty);exact iq nr I.kIn True.intro htp e (λz=>nomatch z) h
 | int i=>obtain⟨tk,q⟩:=(show ∃t,u=dX i t from rx);cases q;cases(show t="int"from ty);exact iq nU I.kIn True.intro htp e (λz=>nomatch z) h
 | str y=>obtain⟨tk,q⟩:=(show ∃t,u=iu y t from rx);cases q;cases(show t="str"from ty);exact iq nV I.kIn True.intro htp e (λz=>nomatch z) h
 | ref a=>
  cases(show u=cR a from rx)
  rcases ty with⟨rfl,f,c⟩|⟨rfl,f,c⟩
  ·obtain⟨d,_,⟨o,g,h1,h2,_⟩,_⟩:=I.list c
   exact iq nt I.kIn ⟨o,h1,h2⟩ htp e (λz=>nomatch z) h
  ·obtain⟨d,_,⟨o,h1,h2,_⟩,_⟩:=I.tuple c
   exact iq mP I.kIn ⟨o,h1,h2⟩ htp e (λz=>nomatch z) h
 | byt _=>exact ty.elim
 | flt _=>exact ty.elim
 | ty _=>exact ty.elim
theorem A3:EJ X (.builtin "isinstance") (λxs H Q=>∃x p t,xs=[x,.ref p]/\SqT X.K H p [.ty "list",.ty "tuple"]/\tyOf X.K H x t/\Q (.bl (Gv t "list"||Gv t "tuple")) H):=by
 intro v s E H xs D Q I r h;obtain⟨x,p,t,rfl,m,ty,q⟩:=h;obtain⟨u,d,rfl,g,j⟩:=Jg r
 cases(show d=cR p from j);obtain⟨c,k,⟨o,h1,h2,n,h3⟩,_⟩:=I.tuple m;have e:c=[dL "list",dL "tuple"]:=by
  cases k with
  | cons w a=>
   cases a with
   | cons l a=>
    cases a
    cases(show _=dL "list"from w)
    cases(show _=dL "tuple"from l);rfl
 subst e;obtain⟨C,B,A,z⟩:=o;dsimp only at h2 h3;subst h2 h3;refine zz I g ty h1 (b:=Gv t "list"||Gv t "tuple") ?_ λtk=>⟨.bl _,H,I.tok tk,rfl,q⟩
 have y:=Bt (K:=X.K) (T:="list") (vm ty) (by decide);have f:=Bt (K:=X.K) (T:="tuple") (vm ty) (by decide);simp only[oR,y,f]
 cases Gv t "list" <;> cases Gv t "tuple" <;> rfl
end
mutual
theorem Bh:∀(n:Nat) (d:iN),F8 n d=true->d.canLay0=true/\d.depth<=n
 | _,.none,_=>by simp[iO,iY]
 | _,.bool _,_=>by simp[iO,iY]
 | _,.int _,_=>by simp[iO,iY]
 | n,.str x,h=>by
  have a:f8 (.str x)=true:=by cases n <;> simpa [F8]using h
  exact⟨SeqAt.canLay_of_shaped a,by simp[iY]⟩
 | n+1,.tuple ds,h=>by
  have:=wX n ds (by simpa [F8]using h)
  simp[iO,iY,this]
 | n+1,.list ds,h=>by
  have:=wX n ds (by simpa [F8]using h)
  simp[iO,iY,this]
 | 0,.tuple _,h=>by simp[F8]at h
 | 0,.list _,h=>by simp[F8]at h
 | 0,.dict _,h=>by simp[F8]at h
 | _+1,.dict _,h=>by simp[F8]at h
theorem wX:∀(n:Nat) (ds:List iN),(∀d∈ds,F8 n d=true)->kB ds=true/\lJ ds<=n
 | n,[],_=>by simp[kB,lJ]
 | n,d::ds,h=>by
  have h1:=Bh n d (h d cM)
  have h2:=wX n ds λx a=>h x (cO _ a)
  simp only[kB,lJ,h1.1,h2.1,Bool.and_self,true_and]
  omega
end
theorem vc{n:Nat}{d:iN}(h:F8 n d=true)(hn:n<=64):f8 d=true:=by
 have:=Bh n d h;unfold f8;rw[this.1];simp;omega
theorem tyOf.mono{K:cu}{H H':Hp}{x:V}{t:String}(e:Same H H')(h:tyOf K H x t):tyOf K H' x t:=by
 cases x with
 | ref a=>
  rcases h with⟨h1,c,b⟩|⟨h1,c,b⟩
  ·exact .inl ⟨h1,c,e.seq b⟩
  ·exact .inr ⟨h1,c,e.tup b⟩
 | non=>exact h
 | bl _=>exact h
 | int _=>exact h
 | str _=>exact h
 | byt _=>exact h
 | flt _=>exact h
 | ty _=>exact h
theorem DK{X:Cx}{tg l:Expr}{tl:TE}(hl:PE X l tl):PI X tg l (λσ H R=>Ko X.K tl σ H R\/K8 X.K tl σ H R):=by
 intro a s σ H R I h;rcases h with h|h
 ·exact sT hl a s σ H R I h
 ·exact uz hl a s σ H R I h
section
variable{X:Cx}{K:cu}
theorem wx(h:X.K=K):EJ X (.type "list") (λxs H Q=>∃p ys,xs=[.ref p]/\(SqL K H p ys\/SqT K H p ys)/\∀l,H l=none->Q (.ref l) (upd H l (.lst ys))):=by subst h;exact sN
theorem sQ(h:X.K=K):IxR X (KK K):=by subst h;exact rK
theorem tT(h:X.K=K):IxR X (KO K):=by subst h;exact sj
theorem uE(h:X.K=K):EJ X (.builtin "len") (λxs H Q=>∃p ys,xs=[.ref p]/\(SqL K H p ys\/SqT K H p ys)/\Q (.int ys.length) H):=by subst h;exact rO
theorem Dc{k:Nat}(h:X.K=K)(hr:Room k X.A):Fs X (compareOp .Eq) (Lz K):=by subst h;exact y2 hr
theorem zQ{k:Nat}(h:X.K=K)(hr:Room k X.A):Fs X (compareOp .NotEq) (Lh K):=by subst h;exact xc hr
theorem uo(h:X.K=K):Fs X (compareOp .NotIn) (Mv K true):=by subst h;exact tV
theorem u9{x:Str}{xs:List V}{pos:Pos}(e:X.K=K)(h:J1 K X.mg x xs)(hg:Gl X x:=by rfl)(hd:(x==("__debug__":Str))=false:=by decide):PE X (.Name x pos) (Ki K xs):=by subst e;exact tW h hg hd
end
end L2
namespace LM
def rng(n:Nat):List Int:=(db n).map hO
theorem rng_len(n:Nat):(rng n).length=n:=by simp[rng]
theorem mem_rng{n:Nat}{x:Int}:x∈rng n↔0<=x/\x<n:=by
 unfold rng;simp only[dv,dY];constructor
 ·rintro⟨a,h,rfl⟩;simp;omega
 ·rintro⟨h0,h1⟩;exact⟨x.toNat,by omega,by simp;omega⟩
theorem zA(n:Nat):(rng n).Pairwise (· <= ·):=by
 unfold rng;rw[js];refine nD ?_ (lx (n:=n));intro a b h;simp;omega
theorem rng_nodup(n:Nat):(rng n).Nodup:=by
 unfold rng;rw[List.nodup_iff_pairwise_ne,js];refine nD ?_ (lx (n:=n));intro a b h z;have:a=b:=hO.inj z;omega
theorem xV{a b r:List Int}(ha:a.Perm r)(hs:a.Pairwise (· <= ·))(hr:r.Pairwise (· <= ·)):a=r:=
 kM (λx y _ _ h1 h2=>Int.le_antisymm h1 h2) hs hr ha
end LM
namespace L2
open PySem PySem.Spec PyProof.Rows
def He(K:cu):Sp:=λvs H Q _=>∃v t,vs=[v]/\tyOf K H v t/\∀H',Same H H'->Q (.bl (Gv t "list"||Gv t "tuple")) H'
def Iu(K:cu):Sp:=λvs H Q _=>∃a us,vs=[.ref a]/\(SqL K H a us\/SqT K H a us)/\∀H',Same H H'->Q (.bl (decide (1<=us.length/\us.length<=6))) H'
theorem SqL.over{K:cu}{H:Hp}{a p:cG}{o:HO}{xs:List V}(h:SqL K H a xs)(hne:a≠p):SqL K (upd H p o) a xs:=by
 rcases h with(h|⟨u,h⟩)|h
 ·exact .inl (.inl (by rw[rG hne];exact h))
 ·exact .inl (.inr ⟨u,by rw[rG hne];exact h⟩)
 ·exact .inr h
def fr(T:Int)(m:List Int):List (Int×Int):=m.map λx=>FQ.red x T
def RwFT(K:cu)(H:Hp)(T:Int)(v:V)(m:List Int):Prop:=∃a gs,v = .ref a/\SqT K H a gs/\dr (IsF K H) gs (fr T m)
theorem rP{K:cu}{H H':Hp}{gs:List V}{ps:List (Int×Int)}(e:Same H H')(h:dr (IsF K H) gs ps):dr (IsF K H') gs ps:=Paired.mapP h λ_ _ q=>q.mono e
theorem RwFT.mono{K:cu}{H H':Hp}{T:Int}{v:V}{m:List Int}(e:Same H H')(h:RwFT K H T v m):RwFT K H' T v m:=by
 obtain⟨a,c,rfl,q,b⟩:=h;exact⟨a,c,rfl,e.tup q,rP e b⟩
end L2
namespace LN
open LM
def Pm(n:Nat)(l:List Int):Prop:=l.Perm (rng n)
theorem Pm.len{n:Nat}{l:List Int}(h:Pm n l):l.length=n:=by rw[qT h,rng_len]
theorem Pm.mem{n:Nat}{l:List Int}(h:Pm n l){x:Int}:x∈l↔0<=x/\x<n:=by rw[rd h];exact mem_rng
theorem Pm.nodup{n:Nat}{l:List Int}(h:Pm n l):l.Nodup:=(qV h).mpr (rng_nodup n)
theorem findSome_snoc{α:Type}{f:Nat->Option α}{i:Nat}(h:(db i).findSome? f=none):(db (i+1)).findSome? f=f i:=by
 rw[gc,lQ,h];simp
theorem findSome_up{α:Type}{f:Nat->Option α}{i n:Nat}{r:α}(h:(db i).findSome? f=some r)(hn:i<=n):(db n).findSome? f=some r:=by
 have e:db n=db i++(db (n-i)).map (i + ·):=by
  rw[<-List.range_add]
  congr 1
  omega
 rw[e,lQ,h];rfl
end LN
namespace L2
open PySem PySem.Spec PyProof.Rows
section
variable{X:Cx}{pins:List (cG×Obj)}{σ:St}{H:Hp}{s:cD}{h':Heap}
theorem Inv.turnedL{t':Nat}{fp:List cG}(I:Inv X pins σ H s)(k:∀b o,b∉fp->s.heap.get? b=some o->h'.get? b=some o)(hf:∀b∈fp,F9 X pins H b):Inv X pins σ H {s with heap:=h',toks:=t'}:=by
 have d:∀b u,H b=some u->b∉fp:=λb u e z=>by rw[(hf b z).1]at e;cases e
 refine I.step (g':=s.gens) (d':=s.drawn) (ch:=fp) (λb l=>?_) (λb o _ _ a e _=>k b o a e) (λb o _ _ a e _=>⟨o.slots,k b o a e⟩) (λ_ _ _ _ n=>n)
  (λb o a e=>⟨o,k b o a e⟩) (λ_ _ e=>e) (λ_ _ _ e=>e) (λb B e=>⟨#[],by rw[e];simp⟩) (λm w=>?_) (λb u e=>?_) I.bare
 ·obtain⟨y,f,A,h,x,p⟩:=hf b l;exact⟨h,f,x,p⟩
 ·obtain⟨o,j,t,g,r⟩:=w;exact⟨o,j,t,k _ o (λz=>(hf _ z).2.1 rfl) g,r⟩
 ·refine(I.hok b u e).stay (λc v a q=>k c v ?_ q) (λ_ q=>q) λ_ _ q=>q
  rcases a with z|z
  ·rw[z];exact d b u e
  ·exact d c _ z
theorem tq{h:Heap}{o u:Obj}{b:cG}(e:(h.push o).get? b=some u)(ho:o.isFreed=false):h.get? b=some u\/(b=h.objs.size/\u=o):=by
 rcases iD b h.objs.size with q|q|q
 ·left
  cases a:h.get? b with
  | some f=>rw[cF _ a]at e;exact e
  | none=>
   exfalso;unfold Heap.get? at a e;unfold k9 at e;simp only[Array.getElem?_push]at e;rw[if_neg (by omega)]at e;rw[a]at e
   cases e
 ·right
  subst q;rw[cN _ ho]at e
  cases e;exact⟨rfl,rfl⟩
 ·exfalso;have d:(h.push o).objs.size=h.objs.size+1:=by unfold k9;simp
  have c:b<h.objs.size+1:=by rw[<-d];exact cQ e
  exact dt _ (cU q (Nat.le_of_lt_succ c))
def KC(K:cu)(a:cG):It:=
 ⟨λi H=>∃xs x,SqL K H a xs/\xs[i]?=some x,λi H x H'=>∃y t,(∀xs,SqL K H a xs->xs[i]?=some y)/\x = .ref t/\H t=none/\H'=upd H t (.tup [.int i,y]),λi H=>∃xs,SqL K H a xs/\xs.length<=i⟩
theorem AA{P:cT}{w:dc}{K:cu}{elts:List Expr}{x1:Nat}{pos:Pos}(a it e:cG)(hne:e≠it):Iz P w K (.Tuple elts x1 pos) (KC K a) [e,it] e (λi h=>(∃old,IsEnum h e it i old)/\h.IsListIter it a i) where
 mem:=by simp
 obj:=λi h st b f=>by
  obtain⟨⟨old,j⟩,o,l,c,d⟩:=st
  rcases cZ.mp f with z|z
  ·subst z
   exact⟨_,j,λv z=>by cases z⟩
  ·have e:=cK.mp z
   subst e
   exact⟨o,l,λv z=>by rw[d]at z;cases z⟩
 keep:=λi h n st k=>by
  obtain⟨⟨old,j⟩,l⟩:=st
  exact⟨⟨old,k e (by simp) _ j⟩,l.at λo q=>k it (by simp) o q⟩
 item:=by
  intro X A C y N i g s t H E I G st B
  subst A C y
  obtain⟨Y,x,r,F⟩:=B
  obtain⟨J,D,p,hz⟩:=I.list r
  obtain⟨u,hu,Q⟩:=D.get F
  obtain⟨⟨old,j⟩,l⟩:=st
  refine wpAny_pyNext_enum_item j l p.isList (x:=u) (by simpa using hu) hne λn so T ht aa kk=>?_
  have M:∀b o,s.heap.get? b=some o->b≠s.heap.objs.size:=λb o q=>df (cQ q)
  have R:e≠s.heap.objs.size:=M _ _ j
  have li:it≠s.heap.objs.size:=by obtain⟨o,q,_⟩:=l;exact M _ _ q
  have hn:H s.heap.objs.size=none:=I.hok.fresh (cI _)
  have I0:Inv X g t (upd H s.heap.objs.size (.tup [.int i,x])) {s with heap:=s.heap.push {cls:= .type "tuple",data:= .seq #[.int i s.toks,u]},toks:=s.toks}:=
   I.laid (t':=s.toks) (λb o q=>cF _ q) (cI _) ⟨by show 2<=sizeLine;decide,[.int i s.toks,u],.cons ⟨_,rfl⟩ (.cons Q .nil),⟨_,cN _ rfl,rfl,_,rfl⟩⟩
  have m:∀b∈[e,it],F9 X g (upd H s.heap.objs.size (.tup [.int i,x])) b:=λb f=>by
   have q:=G b f
   refine⟨?_,q.2⟩
   have L:b≠s.heap.objs.size:=by
    rcases cZ.mp f with z|z
    ·rw[z];exact R
    ·rw[cK.mp z];exact li
   rw[rG L]
   exact q.1
  have I1:Inv X g t (upd H s.heap.objs.size (.tup [.int i,x])) {s with heap:=n,toks:=s.toks+1}:=
   Inv.turnedL (s:={s with heap:=s.heap.push {cls:= .type "tuple",data:= .seq #[.int i s.toks,u]},toks:=s.toks}) I0 (fp:=[e,it]) (t':=s.toks+1) (λb o f q=>by
    rcases tq q rfl with q|⟨rfl,rfl⟩
    ·exact kk b o (λz=>f (by simp[z])) (λz=>f (by simp[z])) q
    ·exact ht) m
  refine⟨_,rfl,wpAny_letOwnedTupleGo_enum (s:={s with heap:=n,toks:=s.toks+1}) so λh2 V O=>?_⟩
  have Z:Inv X g t (upd H s.heap.objs.size (.tup [.int i,x])) {s with heap:=h2,toks:=s.toks+1}:=
   Inv.turnedL (s:={s with heap:=n,toks:=s.toks+1}) I1 (fp:=[e,it]) (t':=s.toks+1) (λb o f q=>(O.2 b (λz=>f (by simp[z]))).trans q) m
  refine⟨.ref s.heap.objs.size,_,Z,rfl,⟨x,_,λys S=>by rw[I.list_inj S r];exact F,rfl,hn,rfl⟩,⟨⟨_,V⟩,T.at λo q=>(O.2 it (Ne.symm hne)).trans q⟩,λb f=>(m b f).1⟩
 done:=by
  intro X A C y N i g s t H E I G st B
  subst A C y
  obtain⟨Y,r,F⟩:=B
  obtain⟨J,D,p,hz⟩:=I.list r
  obtain⟨⟨old,j⟩,l⟩:=st
  have hl:=D.length
  exact wpAny_pyNext_enum_end (I.ok.hd N) j l p.isList (by simp;omega) λn U=>⟨rfl,I.turnedL (fp:=[e,it]) (t':=s.toks) (λb o f q=>U b o (λz=>f (by simp[z])) q) G⟩
 self:=λ_ _ _ _ _ st h=>by
  obtain⟨⟨old,j⟩,l⟩:=st
  exact nE j h
def La(K:cu)(ta:TA):TI:=λσ H R=>ta σ H λvs H1=>∃a,vs=[.ref a]/\(∃xs,SqL K H1 a xs)/\R (KC K a) H1
theorem z9{elts:List Expr}{x1:Nat}{tpos:Pos}{a:Expr}{ta:TA}{p pos:Pos}(hg:Gl X "enumerate")(hm:X.mg "enumerate"=none)(ha:PA X [a] ta)(hs:dh [a] X.env=[(false,eval a X.env)]:=by rfl):
  PI X (.Tuple elts x1 tpos) (.Call (.Name "enumerate" p) [a] [] pos) (La X.K ta):=by
 intro f s k H R I h
 refine rc (tI I hg hm oH (d7 (Ei (ha pos f s k H _ I h) λE d ⟨vs,g,c,A,o⟩=>?_) hs rfl))
 obtain⟨l,e,⟨D,x⟩,q⟩:=o
 subst e
 cases A with
 | cons r t=>
  cases t
  cases r
  obtain⟨B,F,n,G⟩:=c.list x
  refine call_enumerate_list n.isList λm j u C y=>?_
  refine nE (s:={d with heap:=m}) j ?_
  have w:Inv X f k g {d with heap:=m}:=c.kept (t':=d.toks) y
  refine⟨_,[d.heap.objs.size+1,d.heap.objs.size],_,_,g,rfl,w,AA l _ _ (Nat.succ_ne_self _),⟨⟨_,j⟩,u⟩,λb v=>?_,q⟩
  rcases cZ.mp v with z|z
  ·subst z
   exact c.fpOk (ec _) (c.hok.fresh (ec _))
  ·rw[cK.mp z]
   exact c.fpOk (cI _) (c.hok.fresh (cI _))
end
section
variable{X:Cx}{K:cu}
theorem wV{es:List Expr}{k:Nat}{pos:Pos}{t:JK}(hK:X.K=K)(n:Nat)(hc:X.calm=true)(h:Ly X es t)(hn:(assignEach es X.env).length=n:=by rfl)(hst:(assignEach es X.env).findIdx? (·.1)=none:=by rfl):
  PG X (.Tuple es k pos) (Kt K n t):=by subst hK;exact yW hc h hn hst
theorem Cq{T:String}{name:Str}{id:String}{r:V->List V->Hp->VK->Prop}{o e:Expr}{es:List Expr}{apos cpos:Pos}{to:TE}{t:TA}(hK:X.K=K)(pa:PlainAttrs T)(slot:Slot T name id)(hty:typeOf (.builtin id)=pure (.type "method_descriptor"))(hm:KT X id r)(ho:PE X o to)(ha:PA X (e::es) t)
  (hbase:attributeBase o name X.env (eval o X.env)=eval o X.env:=by rfl)
  (hfew:((backTo cpos (dh (e::es) X.env)).all (λx=>!x.1)&&(backToKw cpos (keywordEach [] X.env)).all (λx=>x.1.isSome)
   && decide ((e::es).length+([]:List Keyword).length+(if([]:List Keyword).isEmpty then 0 else 1)<30))=true:=by rfl)
  (hline:(apos.endLine==cpos.line)=true:=by rfl)(hs:dh (e::es) X.env=(false,eval e X.env)::dh es X.env:=by rfl)(hplain:(backTo cpos (dh es X.env)).any (·.1)=false:=by rfl):
  PE X (.Call (.Attribute o name apos) (e::es) [] cpos) (MA K T r to t):=by subst hK;exact uJ pa slot hty hm ho ha hbase hfew hline hs hplain
end
theorem Bz{K:cu}{a:cG}{xs:List V}{g:TG}{tb:TS}{D:Gp}{σ:St}{H:Hp}(Pv:Nat->St->Hp->Prop)(h0:Pv 0 σ H)(hl:∀i σ H,i<=xs.length->Pv i σ H->SqL K H a xs)
  (hs:∀i x σ H t,xs[i]?=some x->H t=none->Pv i σ H->g (.ref t) σ (upd H t (.tup [.int i,x])) λσ2 H2=>tb {D with nx:=Pv (i+1),ct:=Pv (i+1),bk:=D.nx} σ2 H2)(hd:∀σ H,Pv xs.length σ H->D.nx σ H):
  ∃W:Nat->Nat->St->Hp->Prop,(∃m,W 0 m σ H)/\∀i m σ H,W i m σ H->
   ((KC K a).stop i H/\D.nx σ H)\/((KC K a).go i H/\∃N:St->Hp->Prop,(∀σ' H',N σ' H'->∃m',m'<m/\W (i+1) m' σ' H')/\∀x H',(KC K a).yld i H x H'->g x σ H' λσ2 H2=>tb {D with nx:=N,ct:=N,bk:=D.nx} σ2 H2):=by
 refine⟨λi m σ H=>m=xs.length-i/\i<=xs.length/\Pv i σ H,⟨xs.length,by simp,du _,h0⟩,?_⟩
 rintro i m σ H ⟨rfl,d,p⟩
 have q:=hl i σ H d p
 by_cases b:i<xs.length
 ·refine .inr ⟨⟨xs,xs[i],q,by simp[b]⟩,Pv (i+1),λσ' H' c=>⟨xs.length-(i+1),by omega,rfl,b,c⟩,λx H' y=>?_⟩
  obtain⟨y,t,h1,rfl,h3,rfl⟩:=y
  exact hs i y σ H t (h1 xs q) h3 p
 ·have e:i=xs.length:=by omega
  subst e
  exact .inl ⟨⟨xs,q,cI _⟩,hd σ H p⟩
theorem An{K:cu}{a:cG}{xs:List V}{caps:List (Option Nat)}{g:TG}{tt:TT}{te:TE}{σ:St}{QQ:List V->Hp->Prop}{H:Hp}(Pv:Nat->List V->Hp->Prop)(h0:Pv 0 [] H)
  (hl:∀i ys H,i<=xs.length->Pv i ys H->SqL K H a xs)
  (hs:∀i x ys H t,xs[i]?=some x->H t=none->Pv i ys H->g (.ref t) (EZ caps σ) (upd H t (.tup [.int i,x])) λσ2 H2=>tt σ2 H2 λb H3=>if b=true then te σ2 H3 λy H4=>ys.length<sizeLine/\Pv (i+1) (ys++[y]) H4 else Pv (i+1) ys H3)
  (hd:∀ys H,Pv xs.length ys H->QQ ys H):EB caps g tt te σ QQ (KC K a) H:=by
 refine⟨λi m ys H=>m=xs.length-i/\i<=xs.length/\Pv i ys H,⟨xs.length,by simp,du _,h0⟩,?_⟩
 rintro i m ys H ⟨rfl,f,p⟩
 have q:=hl i ys H f p
 by_cases c:i<xs.length
 ·refine .inr ⟨⟨xs,xs[i],q,by simp[c]⟩,Pv (i+1),λj h d=>⟨xs.length-(i+1),by omega,rfl,c,d⟩,λx h y=>?_⟩
  obtain⟨y,t,h1,rfl,h3,rfl⟩:=y
  exact hs i y ys H t (h1 xs q) h3 p
 ·have e:i=xs.length:=by omega
  subst e
  exact .inl ⟨⟨xs,q,cI _⟩,hd ys H p⟩
theorem zo{K:cu}{a:cG}{xs:List V}{caps:List (Option Nat)}{g:TG}{te:TE}{σ:St}{QQ:List V->Hp->Prop}{H:Hp}(Pv:Nat->List V->Hp->Prop)(h0:Pv 0 [] H)
  (hl:∀i ys H,i<=xs.length->Pv i ys H->SqL K H a xs)
  (hs:∀i x ys H t,xs[i]?=some x->H t=none->Pv i ys H->g (.ref t) (EZ caps σ) (upd H t (.tup [.int i,x])) λσ2 H2=>te σ2 H2 λy H4=>ys.length<sizeLine/\Pv (i+1) (ys++[y]) H4)
  (hd:∀ys H,Pv xs.length ys H->QQ ys H):EB caps g FT te σ QQ (KC K a) H:=
 An Pv h0 hl (λi x ys H t b c p=>by simp only[tH];exact hs i x ys H t b c p) hd
def IsR(K:cu)(H:Hp)(v:V)(row:List Int):Prop:=∃a,v = .ref a/\SqT K H a (row.map V.int)
theorem IsR.mono{K:cu}{H H':Hp}{v:V}{row:List Int}(e:Same H H')(h:IsR K H v row):IsR K H' v row:=by
 obtain⟨a,rfl,q⟩:=h;exact⟨a,rfl,e.tup q⟩
def Eu(x y:Int×Int):Bool:=decide (x.1*y.2<y.1*x.2)
end L2
namespace EM
open LM
def at0(ms:List Int)(t:Int):Int:=ms.getD t.toNat 0
def best(ms:List Int)(w:List Int):Int:=(w.filter λt=>decide (at0 ms t≠0)).headD 0
def dishes(W:List (List Int))(ms:List Int):List Int:=W.map (best ms)
def cnt(ds:List Int)(t:Int):Int:=(ds.count t:Nat)
def EY(ds ms:List Int):Int->List Int->Int
 | s,[]=>s
 | s,t::r=>EY ds ms (if at0 ms t*cnt ds s<at0 ms s*cnt ds t then t else s) r
def pick(ds ms:List Int):Int:=EY ds ms (ds.headD 0) ds
def nextMs(ds ms:List Int):List Int:=(rng ms.length).map λj=>at0 ms j*cnt ds (pick ds ms)-cnt ds j*at0 ms (pick ds ms)
structure Course where
 m:Int
 D:Int
 ds:List Int
 gone:List Int
def goneOf(ds ms':List Int):List Int:=(rng ms'.length).filter λt=>decide (t∈ds)&&decide (at0 ms' t=0)
def FM(W:List (List Int))(D:Int)(ms:List Int):Course:=
 ⟨at0 ms (pick (dishes W ms) ms),D*cnt (dishes W ms) (pick (dishes W ms) ms),dishes W ms,goneOf (dishes W ms) (nextMs (dishes W ms) ms)⟩
def nz(ms:List Int):Nat:=((rng ms.length).filter λt=>decide (at0 ms t≠0)).length
theorem at0_mem{ms:List Int}{t:Int}(h0:0<=t)(h:t<ms.length):at0 ms t∈ms:=by
 unfold at0;have h1:t.toNat<ms.length:=by omega
 rw[cC,cz h1];exact cW h1
theorem Bq{ms w:List Int}(h:∃t∈w,at0 ms t≠0):best ms w∈w/\at0 ms (best ms w)≠0:=by
 obtain⟨t,f,e⟩:=h;have b:t∈w.filter λt=>decide (at0 ms t≠0):=d8.mpr ⟨f,decide_eq_true e⟩
 unfold best
 cases c:w.filter λt=>decide (at0 ms t≠0)with
 | nil=>rw[c]at b;cases b
 | cons a r=>
  have d:a∈w.filter λt=>decide (at0 ms t≠0):=by rw[c];exact cM
  have:=d8.mp d;exact⟨this.1,of_decide_eq_true this.2⟩
theorem xQ{a b e c d f:Int}(hd:0<d)(hc:0<=c)(hf:0<=f)(h1:a*d<=b*c)(h2:b*f<=e*d):a*f<=e*c:=by
 have h3:a*d*f<=b*c*f:=eZ h1 hf;have h4:b*f*c<=e*d*c:=eZ h2 hc;refine Int.le_of_mul_le_mul_right (a:=d) ?_ hd;have h:a*f*d=a*d*f:=by rw[fU]
 have j:b*c*f=b*f*c:=by rw[fU]
 have g:e*c*d=e*d*c:=by rw[fU]
 rw[h,g];rw[j]at h3;exact nF h3 h4
theorem cnt_pos{ds:List Int}{t:Int}(h:t∈ds):0<cnt ds t:=by
 have:=List.count_pos_iff.mpr h;unfold cnt;omega
theorem cnt_nn(ds:List Int)(t:Int):0<=cnt ds t:=by unfold cnt;omega
theorem wI{ds:List Int}{t:Int}(h:t∉ds):cnt ds t=0:=by
 unfold cnt;rw[mQ.mpr h];rfl
theorem cnt_le(ds:List Int)(t:Int):cnt ds t<=ds.length:=by
 have:=List.count_le_length (a:=t) (l:=ds);unfold cnt;omega
theorem uj{ds ms:List Int}:∀(r:List Int) (s:Int),s∈ds->(∀t∈r,t∈ds)->
  EY ds ms s r∈ds/\at0 ms (EY ds ms s r)*cnt ds s<=at0 ms s*cnt ds (EY ds ms s r)/\∀t∈r,at0 ms (EY ds ms s r)*cnt ds t<=at0 ms t*cnt ds (EY ds ms s r)
 | [],s,hs,_=>⟨hs,fC _,λt f=>by cases f⟩
 | t::r,s,hs,hr=>by
  have f:=hr t cM
  have g:∀u∈r,u∈ds:=λu e=>hr u (cO _ e)
  unfold EY
  by_cases c:at0 ms t*cnt ds s<at0 ms s*cnt ds t
  ·rw[if_pos c]
   obtain⟨a,b,d⟩:=uj (ms:=ms) r t f g
   refine⟨a,?_,λu e=>?_⟩
   ·exact xQ (cnt_pos f) (cnt_nn _ _) (cnt_nn _ _) b (fj c)
   ·rcases cZ.mp e with rfl|e
    ·exact b
    ·exact d u e
  ·rw[if_neg c]
   obtain⟨a,b,d⟩:=uj (ms:=ms) r s hs g
   refine⟨a,b,λu e=>?_⟩
   rcases cZ.mp e with rfl|e
   ·exact xQ (cnt_pos hs) (cnt_nn _ _) (cnt_nn _ _) b (oO.mp c)
   ·exact d u e
theorem xN{ds ms:List Int}(h:ds≠[]):pick ds ms∈ds/\∀t∈ds,at0 ms (pick ds ms)*cnt ds t<=at0 ms t*cnt ds (pick ds ms):=by
 cases ds with
 | nil=>exact absurd rfl h
 | cons a r=>
  have:=uj (ds:=a::r) (ms:=ms) (a::r) a cM λ_ h=>h
  exact⟨this.1,this.2.2⟩
theorem zL(ms:List Int):(rng ms.length).map (at0 ms)=ms:=by
 conv=>rhs;rw[<-vU ms]
 unfold rng;rw[ij];rfl
theorem Ck(ds ms:List Int):(nextMs ds ms).length=ms.length:=by
 unfold nextMs;rw[cx,rng_len]
theorem rng_get{n k:Nat}(h:k<n):(rng n)[k]?=some (k:Int):=by
 unfold rng;rw[cH,d9 h];rfl
theorem at0_next{ds ms:List Int}{t:Int}(h0:0<=t)(h:t<ms.length):at0 (nextMs ds ms) t=at0 ms t*cnt ds (pick ds ms)-cnt ds t*at0 ms (pick ds ms):=by
 have h1:t.toNat<ms.length:=by omega
 have e:((t.toNat:Nat):Int)=t:=by omega
 conv=>lhs;unfold at0 nextMs
 rw[cC,cH,rng_get h1,e];rfl
theorem sum_zero:∀{ms:List Int},(∀m∈ms,0<=m)->ms.sum=0->∀m∈ms,m=0
 | [],_,_,m,h=>by cases h
 | a::r,hn,hs,m,h=>by
  have e:=hn a cM
  have f:0<=r.sum:=by
   have:∀{r:List Int},(∀m∈r,0<=m)->0<=r.sum:=by
    intro r
    induction r with
    | nil=>intro _;exact fC 0
    | cons b q d=>intro h;rw[eQ];have:=h b cM;have:=d λm c=>h m (cO _ c);omega
   exact this λm c=>hn m (cO _ c)
  rw[eQ]at hs
  rcases cZ.mp h with rfl|h
  ·omega
  ·exact sum_zero (λm c=>hn m (cO _ c)) (by omega) m h
theorem tY:∀{ms:List Int},(∀m∈ms,m=0)->ms.sum=0
 | [],_=>rfl
 | a::r,h=>by rw[eQ,h a cM,tY λm b=>h m (cO _ b)];rfl
theorem some_left{ms:List Int}(h:ms.sum≠0):∃t:Int,0<=t/\t<ms.length/\at0 ms t≠0:=
 dM λc=>h (tY λm a=>by
  obtain⟨k,hk,e⟩:=eK.mp a
  refine dM λz=>c ⟨(k:Nat),by omega,by omega,?_⟩
  unfold at0
  rw[cC,f9,cz hk,e]
  exact z)
theorem AH{d:Int}:∀{l:List Int},l.Nodup->((d∈l->(l.map λj=>if d=j then(1:Int)else 0).sum=1)/\(d∉l->(l.map λj=>if d=j then(1:Int)else 0).sum=0))
 | [],_=>⟨λh=>(by cases h),λ_=>rfl⟩
 | a::r,hn=>by
  obtain⟨h1,h2⟩:=fu.mp hn
  obtain⟨c,b⟩:=AH (d:=d) h2
  rw[dN,eQ]
  by_cases e:d=a
  ·subst e
   exact⟨λ_=>by rw[if_pos rfl,b h1];rfl,λh=>absurd cM h⟩
  ·rw[if_neg e]
   exact⟨λh=>by rw[c ((cZ.mp h).resolve_left e)];rfl,λh=>by rw[b λz=>h (cO _ z)];rfl⟩
theorem vL{f g:Int->Int}:∀l:List Int,(l.map λj=>f j+g j).sum=(l.map f).sum+(l.map g).sum
 | []=>rfl
 | a::r=>by rw[dN,dN,dN,eQ,eQ,eQ,vL r];omega
theorem vN{f g:Int->Int}{a b:Int}:∀l:List Int,(l.map λj=>f j*a-g j*b).sum=(l.map f).sum*a-(l.map g).sum*b
 | []=>by simp
 | x::r=>by
  rw[dN,dN,dN,eQ,eQ,eQ,vN r,gR,gR]
  omega
theorem B7(d:Int)(ds:List Int)(j:Int):cnt (d::ds) j=cnt ds j+if d=j then 1 else 0:=by
 unfold cnt;rw[List.count_cons];by_cases e:d=j
 ·rw[if_pos e,if_pos (by simp[e])];rfl
 ·rw[if_neg e,if_neg (by simp[e])];rfl
theorem Ay{n:Nat}:∀{ds:List Int},(∀d∈ds,0<=d/\d<n)->((rng n).map (cnt ds)).sum=ds.length
 | [],_=>tY λm b=>by
  obtain⟨j,_,rfl⟩:=dv.mp b
  rfl
 | d::ds,h=>by
  have c:=Ay (n:=n) (ds:=ds) λx a=>h x (cO _ a)
  have e:(rng n).map (cnt (d::ds))=(rng n).map λj=>cnt ds j+if d=j then 1 else 0:=fD λj _=>B7 d ds j
  rw[e,vL,c,(AH (rng_nodup n)).1 (mem_rng.mpr (h d cM)),dQ]
  omega
theorem xi{p q:Int->Bool}:∀{l:List Int},(∀x∈l,q x=true->p x=true)->(l.filter q).length<=(l.filter p).length/\((∃x∈l,p x=true/\q x=false)->(l.filter q).length<(l.filter p).length)
 | [],_=>⟨cI _,λ⟨x,h,_⟩=>by cases h⟩
 | a::r,h=>by
  obtain⟨j,f⟩:=xi (p:=p) (q:=q) (l:=r) λx b=>h x (cO _ b)
  have g:=h a cM
  rw[nY,nY]
  cases d:q a with
  | true=>
   rw[if_pos rfl,if_pos (g d),dQ,dQ]
   refine⟨by omega,λ⟨x,b,hp,c⟩=>?_⟩
   rcases cZ.mp b with rfl|b
   ·rw[d]at c;cases c
   ·have:=f ⟨x,b,hp,c⟩;omega
  | false=>
   rw[if_neg (by decide)]
   cases e:p a with
   | true=>rw[if_pos rfl,dQ];exact⟨by omega,λ_=>by omega⟩
   | false=>
    rw[if_neg (by decide)]
    refine⟨j,λ⟨x,b,hp,c⟩=>?_⟩
    rcases cZ.mp b with rfl|b
    ·rw[e]at hp;cases hp
    ·exact f ⟨x,b,hp,c⟩
structure St(n:Nat)(D:Int)(ms:List Int)(T:Int)(G:List Int):Prop where
 pos:0<D
 len:ms.length=n
 nn:∀m∈ms,0<=m
 le:∀m∈ms,m<=D
 sum:ms.sum=n*(D-T)
 T0:0<=T
 gone:∀t:Int,0<=t->t<n->(t∈G↔at0 ms t=0)
 inG:∀t∈G,0<=t/\t<n
 nd:G.Nodup
 big:D<=8^(n-nz ms)
theorem DD(ms:List Int):nz ms<=ms.length:=by
 unfold nz;exact dg (d6 ..) (by rw[rng_len];exact cI _)
theorem St.start{n:Nat}:St n 1 (fw n 1) 0 []:=by
 have a:∀t:Int,0<=t->t<n->at0 (fw n (1:Int)) t=1:=λt h0 h=>by
  unfold at0;rw[cC,List.getElem?_replicate_of_lt (by omega)];rfl
 refine⟨by decide,eS,λm h=>?_,λm h=>?_,?_,fC 0,λt h0 h=>⟨λz=>(by cases z),λz=>?_⟩,λt h=>(by cases h),hU,?_⟩
 ·rw[(mR.mp h).2];decide
 ·rw[(mR.mp h).2];decide
 ·have:∀n:Nat,(fw n (1:Int)).sum=n:=by
   intro n
   induction n with
   | zero=>rfl
   | succ k b=>rw[List.replicate_succ,eQ,b];omega
  rw[this];omega
 ·rw[a t h0 h]at z;cases z
 ·exact_mod_cast Nat.one_le_pow _ _ (by decide)
section
variable{n:Nat}{W:List (List Int)}{D T:Int}{ms G:List Int}
theorem CO(S:St n D ms T G)(hW:∀w∈W,w.Perm (rng n))(hs:ms.sum≠0){w:List Int}(hw:w∈W):(0<=best ms w/\best ms w<n)/\at0 ms (best ms w)≠0/\best ms w∈w:=by
 obtain⟨t,h0,h1,c⟩:=some_left hs;rw[S.len]at h1;obtain⟨a,b⟩:=Bq (ms:=ms) (w:=w) ⟨t,(hW w hw).mem_iff.mpr (mem_rng.mpr ⟨h0,h1⟩),c⟩;exact⟨mem_rng.mp ((hW w hw).mem_iff.mp a),b,a⟩
theorem dish_ok(S:St n D ms T G)(hW:∀w∈W,w.Perm (rng n))(hs:ms.sum≠0){d:Int}(hd:d∈dishes W ms):(0<=d/\d<n)/\at0 ms d≠0:=by
 obtain⟨w,a,rfl⟩:=dv.mp hd;have:=CO S hW hs a;exact⟨this.1,this.2.1⟩
theorem A1(S:St n D ms T G)(hl:W.length=n)(hn1:1<=n)(hn6:n<=6)(hW:∀w∈W,w.Perm (rng n))(hs:ms.sum≠0):
  0<(FM W D ms).m/\0<cnt (dishes W ms) (pick (dishes W ms) ms)/\cnt (dishes W ms) (pick (dishes W ms) ms)<=6/\pick (dishes W ms) ms∈(FM W D ms).gone/\
  nz (nextMs (dishes W ms) ms)<nz ms/\
  St n (FM W D ms).D (nextMs (dishes W ms) ms) (T*cnt (dishes W ms) (pick (dishes W ms) ms)+(FM W D ms).m) (G++(FM W D ms).gone):=by
 have k:(dishes W ms).length=n:=by unfold dishes;rw[cx,hl]
 have N:dishes W ms≠[]:=λz=>by rw[z]at k;simp at k;omega
 have y:=λ {d:Int} (h:d∈dishes W ms)=>dish_ok S hW hs h
 unfold FM
 dsimp only
 generalize dishes W ms=f at *
 obtain⟨H,I⟩:=xN (ms:=ms) N
 have g:=cnt_pos H
 have L:=cnt_le f (pick f ms)
 rw[k]at L
 obtain⟨⟨v,A⟩,pn⟩:=y H
 have E:0<at0 ms (pick f ms):=by
  have:=S.nn _ (at0_mem v (by rw[S.len];exact A));omega
 have p:∀t:Int,0<=t->t<n->at0 (nextMs f ms) t=at0 ms t*cnt f (pick f ms)-cnt f t*at0 ms (pick f ms):=λt h0 h1=>at0_next h0 (by rw[S.len];exact h1)
 have s:(nextMs f ms).length=n:=by rw[Ck,S.len]
 have o:∀t:Int,0<=t->t<n->at0 ms t=0->at0 (nextMs f ms) t=0:=λt h0 h1 z=>by
  have:t∉f:=λq=>(y q).2 z
  rw[p t h0 h1,z,wI this];omega
 have F:∀t:Int,0<=t->t<n->at0 ms t≠0->at0 (nextMs f ms) t=0->t∈f:=λt h0 h1 z q=>dM λc=>by
  rw[p t h0 h1,wI c,jt,qh]at q
  rcases ow.mp q with q|q
  ·exact z q
  ·omega
 have B:at0 (nextMs f ms) (pick f ms)=0:=by
  rw[p _ v A,gl];omega
 have l:∀t:Int,t∈goneOf f (nextMs f ms)↔(0<=t/\t<n)/\t∈f/\at0 (nextMs f ms) t=0:=λt=>by
  unfold goneOf
  rw[d8,s,mem_rng,dn,decide_eq_true_iff,decide_eq_true_iff]
 have M:nz (nextMs f ms)<nz ms:=by
  unfold nz
  rw[s,S.len]
  refine(xi λx U h=>?_).2 ⟨pick f ms,mem_rng.mpr ⟨v,A⟩,decide_eq_true pn,by rw[B];rfl⟩
  have C:=mem_rng.mp U
  exact decide_eq_true λz=>of_decide_eq_true h (o x C.1 C.2 z)
 refine⟨E,g,by omega,(l _).mpr ⟨⟨v,A⟩,H,B⟩,M,gS S.pos g,s,?_,?_,?_,?_,λt h0 h1=>?_,λt h=>?_,?_,?_⟩
 ·intro m u
  unfold nextMs at u
  obtain⟨j,r,rfl⟩:=dv.mp u
  rw[S.len]at r
  obtain⟨J,K⟩:=mem_rng.mp r
  by_cases c:j∈f
  ·have:=I j c
   rw[gl (cnt f j)];omega
  ·rw[wI c,jt]
   have:=iP (S.nn _ (at0_mem J (by rw[S.len];exact K))) (fj g)
   omega
 ·intro m u
  unfold nextMs at u
  obtain⟨j,r,rfl⟩:=dv.mp u
  rw[S.len]at r
  obtain⟨J,K⟩:=mem_rng.mp r
  have h1:=eZ (S.le _ (at0_mem J (by rw[S.len];exact K))) (fj g)
  have h2:=iP (cnt_nn f j) (fj E)
  omega
 ·unfold nextMs
  rw[vN,zL,S.len,Ay (n:=n) (λd h=>(y h).1),k,S.sum]
  rw[pO,<-Int.mul_sub,jM,Int.sub_sub]
 ·have:=iP S.T0 (fj g);omega
 ·rw[dJ,S.gone t h0 h1,l]
  constructor
  ·rintro(z|z)
   ·exact o t h0 h1 z
   ·exact z.2.2
  ·intro z
   by_cases c:at0 ms t=0
   ·exact .inl c
   ·exact .inr ⟨⟨h0,h1⟩,F t h0 h1 c z,z⟩
 ·rcases dJ.mp h with h|h
  ·exact S.inG t h
  ·exact((l t).mp h).1
 ·refine gt.mpr ⟨S.nd,?_,λa O b Q e=>?_⟩
  ·unfold goneOf
   exact(rng_nodup _).filter _
  ·subst e
   obtain⟨q,P,_⟩:=(l a).mp Q
   exact(y P).2 ((S.gone a q.1 q.2).mp O)
 ·have R:cnt f (pick f ms)<=8:=by omega
  have h1:=ju S.big R (fj g) (by exact_mod_cast du _)
  refine nF h1 ?_
  have e:(8:Int)^(n-nz ms)*8=8^(n-nz ms+1):=(Int.pow_succ ..).symm
  rw[e]
  have V:=DD ms
  rw[S.len]at V
  exact_mod_cast eA (by decide) (show n-nz ms+1<=n-nz (nextMs f ms)by omega)
theorem C9(S:St n D ms T G)(hn1:1<=n)(hs:ms.sum=0):T=D/\G.Perm (rng n):=by
 have a:=sum_zero S.nn hs;refine⟨?_,?_⟩
 ·have:=S.sum;rw[hs]at this;rcases ow.mp this.symm with h|h <;> omega
 ·refine(ga S.nd (rng_nodup n)).mpr λt=>?_
  rw[mem_rng];exact⟨S.inG t,λh=>(S.gone t h.1 h.2).mpr (a _ (at0_mem h.1 (by rw[S.len];exact h.2)))⟩
end
end EM
namespace EM
open LM
structure Kp where
 D:Int
 ms:List Int
 T:Int
 G:List Int
def s0(n:Nat):Kp:=⟨1,fw n 1,0,[]⟩
def cs(W:List (List Int))(s:Kp):Course:=FM W s.D s.ms
def cn(W:List (List Int))(s:Kp):Int:=cnt (dishes W s.ms) (pick (dishes W s.ms) s.ms)
def nxt(W:List (List Int))(s:Kp):Kp:=⟨s.D*cn W s,nextMs (dishes W s.ms) s.ms,s.T*cn W s+(cs W s).m,s.G++(cs W s).gone⟩
def st(W:List (List Int))(n:Nat):Nat->Kp
 | 0=>s0 n
 | i+1=>nxt W (st W n i)
def Upto(W:List (List Int))(n N:Nat):Prop:=∀i,i<N->(st W n i).ms.sum≠0
theorem Upto.mono{W:List (List Int)}{n N M:Nat}(h:Upto W n N)(hM:M<=N):Upto W n M:=λi a=>h i (by omega)
theorem Upto.snoc{W:List (List Int)}{n N:Nat}(h:Upto W n N)(hs:(st W n N).ms.sum≠0):Upto W n (N+1):=λi a=>by
 rcases fN.mp a with z|z
 ·exact h i z
 ·rw[z];exact hs
structure Stops(W:List (List Int))(n N:Nat):Prop where
 up:Upto W n N
 last:(st W n N).ms.sum=0
theorem Stops.uniq{W:List (List Int)}{n N M:Nat}(h:Stops W n N)(h':Stops W n M):N=M:=by
 rcases iD N M with z|z|z
 ·exact absurd h.last (h'.up N z)
 ·exact z
 ·exact absurd h'.last (h.up M z)
structure Ws(n:Nat)(W:List (List Int)):Prop where
 n1:1<=n
 n6:n<=6
 len:W.length=n
 pm:∀w∈W,w.Perm (rng n)
section
variable{W:List (List Int)}{n:Nat}
theorem st_ok(h:Ws n W):∀i,Upto W n i->St n (st W n i).D (st W n i).ms (st W n i).T (st W n i).G/\nz (st W n i).ms+i<=n
 | 0,_=>⟨St.start,by
  have:=DD (fw n 1)
  rw[eS]at this
  exact this⟩
 | i+1,hu=>by
  obtain⟨S,d⟩:=st_ok h i (hu.mono (by omega))
  have b:=hu i (by omega)
  obtain⟨_,_,_,_,c,a⟩:=A1 S h.len h.n1 h.n6 h.pm b
  refine⟨a,?_⟩
  show nz (nextMs (dishes W (st W n i).ms) (st W n i).ms)+(i+1)<=n
  omega
theorem upto_le(h:Ws n W){i:Nat}(hu:Upto W n i):i<=n:=by have:=(st_ok h i hu).2;omega
theorem D_le{D T:Int}{ms G:List Int}(S:St n D ms T G)(hn:n<=6):D<=262144:=by
 have h:=S.big;have h2:(8:Int)^(n-nz ms)<=8^6:=by
  have:(8:Nat)^(n-nz ms)<=8^6:=eA (by decide) (by omega)
  exact_mod_cast this
 have e:(8:Int)^6=262144:=by decide
 omega
structure Ml(W:List (List Int))(n:Nat)(s:Kp):Prop where
 S:St n s.D s.ms s.T s.G
 S':St n (nxt W s).D (nxt W s).ms (nxt W s).T (nxt W s).G
 m0:0<(cs W s).m
 mD:(cs W s).m<=s.D
 c0:0<cn W s
 c6:cn W s<=6
 ne:(cs W s).gone≠[]
 dl:(dishes W s.ms).length=n
 dm:∀d∈dishes W s.ms,(0<=d/\d<n)/\at0 s.ms d≠0
theorem step_of(h:Ws n W){i:Nat}(hu:Upto W n i)(hs:(st W n i).ms.sum≠0):Ml W n (st W n i):=by
 obtain⟨S,_⟩:=st_ok h i hu;obtain⟨a,b,c,d,_,j⟩:=A1 S h.len h.n1 h.n6 h.pm hs;have e:(dishes W (st W n i).ms).length=n:=by unfold dishes;rw[cx,h.len]
 have f:∀d∈dishes W (st W n i).ms,(0<=d/\d<n)/\at0 (st W n i).ms d≠0:=λd k=>dish_ok S h.pm hs k
 have g:dishes W (st W n i).ms≠[]:=λz=>by rw[z]at e;have:=h.n1;simp at e;omega
 have hp:=f _ (xN (ms:=(st W n i).ms) g).1;refine⟨S,j,a,?_,b,c,(λz=>by unfold cs at z;rw[z]at d;cases d),e,f⟩;exact S.le _ (at0_mem hp.1.1 (by rw[S.len];exact hp.1.2))
def et(W:List (List Int))(n:Nat):Nat->Nat->Int->Int
 | 0,_,_=>0
 | i+1,p,t=>et W n i p t*cn W (st W n i)+if(dishes W (st W n i).ms).getD p 0=t then(cs W (st W n i)).m else 0
theorem et_bd(h:Ws n W)(p:Nat)(t:Int):∀i,Upto W n i->0<=et W n i p t/\et W n i p t<=(st W n i).T
 | 0,_=>⟨fC _,fC _⟩
 | i+1,hu=>by
  obtain⟨a,b⟩:=et_bd h p t i (hu.mono (by omega))
  have s:=step_of h (hu.mono (ec i)) (hu i (dH i))
  have h1:=iP a (fj s.c0)
  have h2:=eZ b (fj s.c0)
  have h3:=s.m0
  show 0<=et W n i p t*cn W (st W n i)+_/\et W n i p t*cn W (st W n i)+_<=(st W n i).T*cn W (st W n i)+(cs W (st W n i)).m
  split <;> omega
theorem all_gone(h:Ws n W){N:Nat}(hN:Stops W n N):(st W n N).T=(st W n N).D/\(st W n N).G.Perm (rng n):=C9 (st_ok h N hN.up).1 h.n1 hN.last
end
theorem nodup_len:∀(n:Nat) {l:List Int},l.Nodup->(∀x∈l,0<=x/\x<(n:Int))->l.length<=n
 | 0,l,_,h=>by
  cases l with
  | nil=>exact cI _
  | cons x r=>have:=h x cM;omega
 | n+1,l,hn,h=>by
  have c:=nodup_len n (l:=l.erase (n:Int)) (hn.erase _) λx b=>by
   have h1:=h x (List.mem_of_mem_erase b)
   have h2:x≠(n:Int):=λz=>by rw[z]at b;exact(hn.not_mem_erase) b
   omega
  have:=List.length_erase (a:=(n:Int)) (l:=l)
  split at this <;> omega
theorem gone_eq{ns ds ms:List Int}(hm:∀i,i∈ns↔i∈ds)(hn:ns.Nodup)(hs:ns.Pairwise (· <= ·))(hd:∀d∈ds,0<=d/\d<ms.length):ns.filter (λt=>decide (at0 ms t=0))=goneOf ds ms:=by
 refine xV (b:=[]) ?_ (hs.filter _) ((zA _).filter _);refine(ga (hn.filter _) ((rng_nodup _).filter _)).mpr λt=>?_
 rw[d8,d8,hm,mem_rng];constructor
 ·rintro⟨a,b⟩;exact⟨hd t a,by rw[decide_eq_true a,b];rfl⟩
 ·rintro⟨_,b⟩;have:=(dn _ _).mp b;exact⟨of_decide_eq_true this.1,this.2⟩
end EM
namespace L2
open PySem PySem.Spec PyProof.Rows
def D9(b:Nat->Bool):List Nat:=(db 6).filter b
def Es(S:List Nat)(led:Bool):SetTable:=⟨if S.length<=4 then 7 else 31,S.toArray,#[],0,led,if S.length<=4 then 0 else 1,true⟩
def HV:List Nat->List (List Nat)
 | []=>[[]]
 | a::r=>HV r++(HV r).map (a :: ·)
theorem wS:∀{l S:List Nat},S.Sublist l->S∈HV l
 | _,_,.slnil=>cK.mpr rfl
 | _,_,.cons a h=>dJ.mpr (.inl (wS h))
 | _,_,.cons₂ a h=>dJ.mpr (.inr (dv.mpr ⟨_,wS h,rfl⟩))
theorem tP(b:Nat->Bool):D9 b∈HV (db 6):=wS List.filter_sublist
def FH(S:List Nat)(v:Nat):Nat:=(S.filter (· < v)).length
def GQ(S:List Nat)(v:Nat):List Nat:=S.take (FH S v)++v::S.drop (FH S v)
def HH(S:List Nat)(v:Nat)(led:Bool):Bool:=
 match(Es S led).freeSlot (v:Int)with
 | some (j,d)=>
  let q:=(Es S led).put j
  decide (j=v) && !d&&decide (q.2=FH S v)&&q.1.fits (S.length+1)&&decide (q.1.plain=true) &&
  (if q.1.tooFull then
   match q.1.relaid ((GQ S v).map hO).toArray (kf (S.length+1))with
   | some (t',o)=>decide (t'=Es (GQ S v) led)&&decide (o=(db (S.length+1)).toArray)&&t'.fits (S.length+1)&&coversAll o (S.length+1)
   | none=>false
  else decide (q.1=Es (GQ S v) led))
 | none=>false
theorem Da:∀S∈HV (db 6),∀v∈db 6,v∉S->HH S v true=true/\HH S v false=true:=by decide +kernel
theorem C4:∀S∈HV (db 6),∀v∈db 6,v∉S->GQ S v=(db 6).filter λx=>decide (x∈S)||x==v:=by decide +kernel
theorem BM:∀S∈HV (db 6),(Es S true).fits S.length=true/\(Es S false).fits S.length=true:=by decide +kernel
def Hr(S:List Nat)(led:Bool):Bool:=
 (db (S.length+1)).all λi=>decide (oS (Es S led).place (if i=0 then 0 else(S.getD (i-1) 0)+1)=i)
theorem B9:∀S∈HV (db 6),Hr S true=true/\Hr S false=true:=by decide +kernel
def GT(tok:Nat->Tok)(v:Nat):Int×cA:=((v:Int),dX (v:Int) (tok v))
def SetIs(h:Heap)(a:cG)(b:Nat->Bool)(led:Bool):Prop:=
 ∃(o:Obj) (es:Array (Int×cA)) (ep:Nat) (tok:Nat->Tok),h.get? a=some o/\o.ExactSet/\o.data = .set es ep (Es (D9 b) led)/\es.toList=(D9 b).map (GT tok)
theorem sW{b:Nat->Bool}{v:Nat}:v∈D9 b↔v<6/\b v=true:=by
 unfold D9;rw[d8,dY]
theorem um(b:Nat->Bool):(D9 b).length<=6:=by
 unfold D9;exact dg (d6 ..) (by rw[e9];exact cI _)
theorem s9(b:Nat->Bool)(led:Bool):(Es (D9 b) led).fits (D9 b).length=true:=by
 have:=BM _ (tP b)
 cases led
 ·exact this.2
 ·exact this.1
theorem xA{b:Nat->Bool}{v:Nat}(hv:v<6)(hb:b v=false):GQ (D9 b) v=D9 λx=>b x||x==v:=by
 rw[C4 _ (tP b) v (dY.mpr hv) λz=>by rw[(sW.mp z).2]at hb;cases hb];unfold D9;refine gT λx a=>?_
 have:decide (x∈qD b (db 6))=b x:=by
  rw[gv,decide_eq_true_iff,d8];exact⟨λh=>h.2,λh=>⟨a,h⟩⟩
 rw[this]
theorem w5{b:Nat->Bool}{v:Nat}(hb:b v=true):(D9 λx=>b x||x==v)=D9 b:=by
 unfold D9;refine gT λx a=>?_
 by_cases e:x=v
 ·subst e;rw[hb];rfl
 ·rw[beq_false_of_ne e,kI]
theorem v7(v:Nat)(hv:v<6):hashInt (v:Int)=v:=
 (show ∀v∈db 6,hashInt ((v:Nat):Int)=v by decide +kernel) v (dY.mpr hv)
theorem wO{α:Type}(xs:Array α):Array.filterMap (λx=>xs[x]?) (db xs.size).toArray=xs:=by
 apply oN;rw[Array.toList_filterMap];have:∀(l:List α),oU (λx=>l[x]?) (db l.length)=l:=by
  intro l
  induction l with
  | nil=>rfl
  | cons a r b=>
   rw[dQ,List.range_succ_eq_map,gb,List.filterMap_map];show a::oU (λx=>r[x]?) (db r.length)=a::r;rw[b]
 have:=this xs.toList;simpa using this
theorem zq{prog:cT}{w:dc}{b:Nat->Bool}{tok:Nat->Tok}{es:Array (Int×cA)}(he:es.toList=(D9 b).map (GT tok)):ElemsOf (intKind prog w) es.toList:=by
 intro e a;rw[he]at a;obtain⟨u,c,rfl⟩:=dv.mp a;exact⟨⟨(u:Int),beq_self_eq_true _,(v7 u (sW.mp c).1).symm⟩,rfl⟩
theorem AN{b:Nat->Bool}{v:Nat}{led:Bool}{es:Array (Int×cA)}{x:cA}{tok:Nat->Tok}(hv:v<6)(hb:b v=false)(he:es.toList=(D9 b).map (GT tok)):
  ∃t,layNew (Es (D9 b) led) es (v:Int) x=(iE es (FH (D9 b) v) ((v:Int),x),t,false,false)/\t.plain=true/\t.fits (es.size+1)=true/\
   (t.tooFull=false->t=Es (GQ (D9 b) v) led)/\(t.tooFull=true->t.relaid ((GQ (D9 b) v).map hO).toArray (kf (es.size+1))=some (Es (GQ (D9 b) v) led,(db (es.size+1)).toArray)/\
    (Es (GQ (D9 b) v) led).fits (es.size+1)=true/\coversAll (db (es.size+1)).toArray (es.size+1)=true):=by
 have k:es.size=(D9 b).length:=by rw[<-el,he,cx]
 have h:=Da _ (tP b) v (dY.mpr hv) λz=>by rw[(sW.mp z).2]at hb;cases hb
 have h1:HH (D9 b) v led=true:=by
  cases led
  ·exact h.2
  ·exact h.1
 unfold HH at h1
 cases e:(Es (D9 b) led).freeSlot (v:Int)with
 | none=>rw[e]at h1;cases h1
 | some r=>
  obtain⟨j,d⟩:=r
  rw[e]at h1
  dsimp only at h1
  rw[dn,dn,dn,dn,dn,decide_eq_true_iff,decide_eq_true_iff,decide_eq_true_iff]at h1
  obtain⟨⟨⟨⟨⟨rfl,y⟩,hp⟩,c⟩,g⟩,a⟩:=h1
  have m:d=false:=by cases d <;> first|rfl|cases y
  subst m
  rw[<-k]at c a
  have l:(iE es (FH (D9 b) j) ((j:Int),x)).size=es.size+1:=by
   have:=(ly es (FH (D9 b) j) ((j:Int),x)).length_eq
   simpa using this
  refine⟨((Es (D9 b) led).put j).1,?_,g,c,λu=>?_,λw=>?_⟩
  ·unfold layNew
   rw[e]
   dsimp only
   rw[hp,l,c]
   have p:((Es (D9 b) led).put j).1.orStandIn (es.size+1)=((Es (D9 b) led).put j).1:=by
    unfold SetTable.orStandIn;rw[if_pos c]
   rw[p]
   rfl
  ·rw[u,if_neg (by decide)]at a
   exact of_decide_eq_true a
  ·rw[w,if_pos rfl]at a
   cases f:((Es (D9 b) led).put j).1.relaid ((GQ (D9 b) j).map hO).toArray (kf (es.size+1))with
   | none=>rw[f]at a;cases a
   | some q=>
    obtain⟨A,o⟩:=q
    rw[f]at a
    dsimp only at a
    rw[dn,dn,dn,decide_eq_true_iff,decide_eq_true_iff]at a
    obtain⟨⟨⟨rfl,rfl⟩,n⟩,s⟩:=a
    exact⟨rfl,n,s⟩
theorem xB{prog:cT}{w:dc}{A:dw}{E:cA->cD->Prop}{s:cD}{a:cG}{b:Nat->Bool}{led:Bool}{v:Nat}{tk:Tok}{Q:Bool->cD->Prop}(hv:v<6)(hS:SetIs s.heap a b led)
  (q:∀h',fI a s.heap h'->SetIs h' a (λx=>b x||x==v) led->Q (!b v) {s with heap:=h'}):
  wpAny (model prog w) A (setAddHashed a (.int v tk) ((intKind prog w).hash (v:Int))) Q E s:=by
 obtain⟨o,f,r,d,B,I,D,m⟩:=hS
 have N:f.size=(D9 b).length:=by rw[<-el,m,cx]
 have h6:=um b
 have P:(Es (D9 b) led).fits f.size=true:=by rw[N];exact s9 b led
 have M:ElemsOf (intKind prog w) f.toList:=zq m
 have V:(intKind prog w).hash (v:Int)=v:=v7 v hv
 have aa:64<=scanBound:=by decide +kernel
 unfold setAddHashed
 refine dG ?_
 rw[qt]
 dsimp only
 refine cr (dU B D P ?_)
 dsimp only
 rw[if_pos (byScan_of (knd:=intKind prog w) (x:= .int v tk) rfl (by omega) M)]
 unfold setAddByScan
 refine cr (cr (iQ ?_))
 refine cr (wpAny_setScan_of (knd:=intKind prog w) (k:=(v:Int)) (beq_self_eq_true _) B D P M ?_)
 cases g:b v with
 | true=>
  cases C:pP (λe:Int×cA=>(intKind prog w).is (v:Int) e.2) f.toList with
  | none=>
   have:=List.findIdx?_eq_none_iff.mp C (GT d v) (by rw[m];exact dv.mpr ⟨v,sW.mpr ⟨hv,g⟩,rfl⟩)
   rw[show(intKind prog w).is (v:Int) (GT d v).2=true from beq_self_eq_true _]at this
   cases this
  | some j=>
   refine cv (cv ?_)
   have:=q s.heap (re a _) ⟨o,f,r,d,B,I,by rw[w5 g];exact D,by rw[w5 g];exact m⟩
   rw[g]at this
   exact this
 | false=>
  cases C:pP (λe:Int×cA=>(intKind prog w).is (v:Int) e.2) f.toList with
  | some j=>
   obtain⟨e,h1,h2⟩:=List.findIdx?_eq_some_iff_getElem.mp C
   have H:f.toList[j]∈(D9 b).map (GT d):=by rw[<-m];exact cW e
   obtain⟨u,F,L⟩:=dv.mp H
   have h3:=(sW.mp F).2
   have h4:(intKind prog w).is (v:Int) (GT d u).2=true:=by rw[L];exact h1
   have h5:(u:Int)=v:=eq_of_beq h4
   have:u=v:=by omega
   rw[this,g]at h3
   cases h3
  | none=>
   obtain⟨t,T,J,X,y,p⟩:=AN (led:=led) (x:= .int v tk) hv g m
   dsimp only
   rw[V,T]
   dsimp only
   refine cr (cv ?_)
   rw[if_pos J,hashByValue_scannable 8 (x:= .int v tk) rfl]
   refine cr (cv ?_)
   rw[if_pos (show plainKind (dX (v:Int) tk)=true from rfl)]
   have n:(iE f (FH (D9 b) v) ((v:Int),dX (v:Int) tk)).toList=(D9 λx=>b x||x==v).map (GT λu=>if u=v then tk else d u):=by
    rw[SetTable.toList_insertAt,m,<-xA hv g]
    have Z:(D9 b).map (GT d)=(D9 b).map (GT λu=>if u=v then tk else d u):=fD λu F=>by
     have:u≠v:=λz=>by rw[z]at F;rw[(sW.mp F).2]at g;cases g
     show((u:Int),dX (u:Int) (d u))=((u:Int),dX (u:Int) (if u=v then tk else d u))
     rw[if_neg this]
    rw[Z]
    unfold GQ
    rw[cS,dN,pQ,pR]
    have S:GT (λu=>if u=v then tk else d u) v=((v:Int),dX (v:Int) tk):=by
     show((v:Int),dX (v:Int) (if v=v then tk else d v))=_
     rw[if_pos rfl]
    rw[S]
   have h:(iE f (FH (D9 b) v) ((v:Int),dX (v:Int) tk)).size=f.size+1:=by
    have:=(ly f (FH (D9 b) v) ((v:Int),dX (v:Int) tk)).length_eq
    simpa using this
   rw[xA hv g]at y p
   generalize iE f (FH (D9 b) v) ((v:Int),dX (v:Int) tk)=c at *
   have l:c.size<=sizeLine:=dB (D8 (by omega))
   rw[h]at l
   have O:=putSet_of c t D
   have g1:(s.heap.update a (mS c t)).get? a=some ⟨o.cls,o.dict,.set c (r+1) t,o.slots⟩:=by
    rw[<-O]
    exact eH _ B (by rw[O];rfl)
   refine cr (nG B D ?_ (by rw[h];exact l))
   cases G:t.tooFull with
   | false=>
    rw[if_neg (by simp)]
    refine cv (cv ?_)
    have:=q _ (eV s.heap a (mS c t)) ⟨_,c,r+1,_,g1,I,by rw[y G],n⟩
    rw[g]at this
    exact this
   | true=>
    obtain⟨Y,W,R⟩:=p G
    have H:Array.map (λx:Int×cA=>x.1) c=((D9 λx=>b x||x==v).map hO).toArray:=by
     apply oN
     rw[Array.toList_map,n,ij]
     rfl
    have U:relayAll t c (kf c.size)=(c,Es (D9 λx=>b x||x==v) led,false):=by
     unfold relayAll
     rw[H,h,Y]
     dsimp only
     rw[<-h,wO,h,W,R]
     rfl
    rw[if_pos (by simp),U]
    dsimp only
    refine cr (cv (cr (nG g1 rfl (cv (cv ?_)) (by rw[h];exact l))))
    have K:=putSet_of (o:=⟨o.cls,o.dict,.set c (r+1) t,o.slots⟩) c (Es (D9 λx=>b x||x==v) led) rfl
    have g2:((s.heap.update a (mS c t)).update a (mS c (Es (D9 λx=>b x||x==v) led))).get? a=some ⟨o.cls,o.dict,.set c (r+1+1) (Es (D9 λx=>b x||x==v) led),o.slots⟩:=by
     rw[<-K]
     exact eH _ g1 (by rw[K];rfl)
    have:=q _ ((eV s.heap a _).trans (eV _ a _)) ⟨_,c,r+1+1,_,g2,I,rfl,n⟩
    rw[g]at this
    exact this
def Eg(w:dc):Bool:=!w.params.followText "set-order"
theorem Ah{prog:cT}{w:dc}{A:dw}{E:cA->cD->Prop}{s:cD}(a:cA){Q₁:cA->cD->Prop}
  (h:Q₁ (.ref s.heap.objs.size) {s with heap:=s.heap.push {cls:= .type "set",data:= .set #[] 0 (fO 0 0 (Eg w))}}):
  codeAny (model prog w) A (.call (.builtin "set.__new__") ⟨[.type "set",a],[]⟩) (wants Q₁ E) s:=by
 refine lK ?_
 refine cr (fM (F.newCall_set_1 a) (cv ⟨jJ ox _,eX F.entry_set_new ?_⟩))
 rw[fW ox _]
 have b:=qi
 unfold Builtin.«set.__new__» oV
 refine cr (cr (cv ?_))
 refine cP rfl (cr (fM b (cP rfl (cv ?_))))
 unfold newSet setsByText
 refine cr (cr (cr (fJ (cv ?_))))
 show wpAny _ _ (newObj _ _) _ _ _
 unfold newObj
 dsimp only
 rw[if_neg (by decide)]
 unfold newObjAsIs
 exact cr (om (cv (cv h)))
theorem SetIs.congr{h h':Heap}{a:cG}{b:Nat->Bool}{led:Bool}(H:SetIs h a b led)(e:∀o,h.get? a=some o->h'.get? a=some o):SetIs h' a b led:=by
 obtain⟨o,d,f,c,g,r⟩:=H;exact⟨o,d,f,c,e o g,r⟩
theorem SetIs.by{h:Heap}{a:cG}{b b':Nat->Bool}{led:Bool}(H:SetIs h a b led)(e:∀x,x<6->b x=b' x):SetIs h a b' led:=by
 have:D9 b=D9 b':=gT λx c=>e x (dY.mp c)
 unfold SetIs at H ⊢;rw[this]at H;exact H
theorem BP{prog:cT}{w:dc}{A:dw}{R:Result->cD->Prop}{I:cG}{fp wr:List cG}{G:Array GenState->Array GenState->Prop}{n:Nat}{P:Nat->cA->Prop}{St:Nat->cD->Prop}{led:Bool}
  (W:WalksS prog w A.in1 I fp wr G n P St)(S:cG)(hS:S∉fp)(val:Nat->Nat)(hP:∀i v,P i v->val i<6/\∃t,v=dX (val i:Nat) t):
  ∀(k i:Nat) (s:cD) (b:Nat->Bool),n-i=k->i<=n->St i s->SetIs s.heap S b led->
   (∀s',Moved (S::wr) G s s'->SetIs s'.heap S (λx=>b x||(kC i (n-i)).any λj=>x==val j) led->R (.ok (.ret .none)) s')->
   codeAny (model prog w) A (.builtin "set.update.loop" ⟨[.ref S,.ref I],[]⟩) R s:=by
 have p:S∉wr:=λz=>hS (W.sub S z)
 intro k
 induction k with
 | zero=>
  intro i s b hk E f a h
  have e:i=n:=by omega
  subst e
  refine eX hV ?_
  rw[fW fX _]
  unfold Builtin.«set.update.loop»
  refine cr (W.done s _ _ f λs' m=>?_)
  refine cv (h s' ⟨λc o d=>m.heap c o λz=>d (cO _ z),m.gens,m.drawn,m.os,m.toks⟩ ((a.congr λo=>m.heap S o p).by λx _=>?_))
  rw[ik]
  simp
 | succ k H=>
  intro i s b hk E f a h
  refine eX hV ?_
  rw[fW fX _]
  unfold Builtin.«set.update.loop»
  refine cr (W.item i s _ _ (by omega) f λv s' J r m=>?_)
  obtain⟨u,t,rfl⟩:=hP i v J
  dsimp only
  refine cr (dG ?_)
  unfold setAdd
  refine dG (cr ((intKind prog w).pyHash (k:=((val i:Nat):Int)) (beq_self_eq_true _) ?_))
  refine xB u (SetIs.congr a λo=>m.heap S o p) λD y C=>?_
  refine cv ⟨jJ fX _,H (i+1) _ _ (by omega) (by omega) (W.frame (i+1) s' D (s'.toks+1) r (ec _) λc d o q=>by rw[y.2 c λz=>hS (z▸d)];exact q) C λB g l=>h B ?_ (l.by λx _=>?_)⟩
  ·refine⟨λc o d q=>g.heap c o d ?_,W.gtrans _ _ _ m.gens g.gens,g.drawn.trans m.drawn,g.os.trans m.os,dg m.toks (dg (ec _) g.toks)⟩
   show D.get? c=some o
   rw[y.2 c λz=>d (by rw[z];exact cM)]
   exact m.heap c o (λz=>d (cO _ z)) q
  ·have e:n-i=(n-(i+1))+1:=by omega
   rw[e,la,gW,Bool.or_assoc]
theorem vP{prog:cT}{w:dc}{A:dw}{E:cA->cD->Prop}{s:cD}{l:cG}{items:Array cA}{Q:cA->cD->Prop}(hh:A.handled=none)(hl:s.heap.IsList l items)(val:Nat->Nat)
  (hv:∀i v,items[i]?=some v->val i<6/\∃t,v=dX (val i:Nat) t)
  (h:∀(h':Heap) (tk:Nat),SetIs h' s.heap.objs.size (λx=>(kC 0 items.size).any λj=>x==val j) (Eg w)->(∀b o,s.heap.get? b=some o->h'.get? b=some o)->Q (.ref s.heap.objs.size) {s with heap:=h',toks:=tk}):
  wpAny (model prog w) A (call (.type "set") [.ref l]) Q E s:=by
 obtain⟨c,U,u⟩:=fk.mro
 have g:=fk.made
 have y:=fk.sub
 refine iI (lK (cv ⟨ig _ (by decide +kernel),eX nH ?_⟩))
 rw[mT (lR "set" [.ref l] []) rfl]
 have h1:=fk.notType
 have h2:=fk.canCreate
 have G:=nZ (.ref l)
 unfold Builtin.«type.__call__»
 refine cP (by rw[h1];rfl) (cP (by rw[h2];rfl) (cr (fM G (cr (fM u (cP rfl (cr (fM g (cr (cv ?_))))))))))
 refine cr (dG (iI (iW (Ah (E:=E) (.ref l) (Q₁:=λv K=>v = .ref s.heap.objs.size/\K=_) ⟨rfl,rfl⟩) λr p q=>?_)))
 cases r with
 | error e=>exact q
 | ok R=>
  cases R with
  | ret v=>
   obtain⟨rfl,rfl⟩:=(show v=_/\p=_ from q)
   have a:(s.heap.push {cls:=dL "set",data:=Data.set #[] 0 (fO 0 0 (Eg w))}).get? s.heap.objs.size=some {cls:=dL "set",data:=Data.set #[] 0 (fO 0 0 (Eg w))}:=cN _ rfl
   refine cr (eF (T:="set") ⟨_,a,rfl⟩ y (cP rfl (cr (dG ?_))))
   unfold callSpecial?
   refine cr (gd (T:="set") ⟨_,a,rfl⟩ fk.init.lookup ?_)
   refine dG (cr (fM (fk.init.bind _) (cr (iI (l9 fk.init.plain n5 (n7 ⟨_,a,rfl⟩ ?_))))))
   unfold Builtin.«set.__init__»
   refine cr (cv ?_)
   dsimp only[n8,oy]
   unfold typeNameOfCut
   unfold shownTypeOf
   refine cr (cr ?_)
   refine cr (ii (T:="set") ⟨_,a,rfl⟩ (cP rfl (cv (cv (cr (cv (cr (cv ?_))))))))
   unfold setUsed
   refine cr (cr (dU a rfl (by cases Eg w <;> rfl) (cv (cP rfl ?_))))
   have f:=hl.push {cls:=dL "set",data:=Data.set #[] 0 (fO 0 0 (Eg w))}
   have B:kN {s with heap:=s.heap.push {cls:=dL "set",data:=Data.set #[] 0 (fO 0 0 (Eg w))}} (.ref l) "list":=by
    obtain⟨o,h1,h2,_⟩:=f
    exact⟨o,h1,h2⟩
   unfold jU kg orM
   refine cr (cr (cr (eF B oW (eF B ma ?_))))
   refine cP rfl (cr (ii B (cP rfl (cr (iB f ?_)))))
   refine cr (kd ?_)
   have k:s.heap.get? s.heap.objs.size=none:=by
    cases e:s.heap.get? s.heap.objs.size with
    | none=>rfl
    | some o=>exact absurd (cQ e) (dt _)
   have C:l≠s.heap.objs.size:=λz=>by
    obtain⟨o,h1,_⟩:=hl
    rw[z,k]at h1;cases h1
   have n:(s.heap.push {cls:=dL "set",data:=Data.set #[] 0 (fO 0 0 (Eg w))}).objs.size=s.heap.objs.size+1:=lw ..
   have D:l≠s.heap.objs.size+1:=λz=>by
    obtain⟨o,h1,_⟩:=hl
    rw[z]at h1
    exact absurd (gU (cQ h1)) (dt _)
   dsimp only
   rw[n]
   refine BP (ri (oP (A:=A.in1.in1.in1) hh (s.heap.objs.size+1) l D items)) s.heap.objs.size (λz=>?_) val hv items.size 0 _ (λ_=>false) rfl (du _) ⟨?_,f.push _⟩ (led:=Eg w) ?_ λM m S=>?_
   ·rcases cZ.mp z with z|z
    ·exact absurd z (df (dH _))
    ·exact C (cK.mp z).symm
   ·exact⟨_,(by rw[<-n];exact cN _ rfl),rfl,rfl⟩
   ·exact⟨_,#[],0,λ_=>0,cF _ a,⟨rfl,rfl,rfl⟩,rfl,rfl⟩
   ·refine cv (cv (cv (cP rfl (cv ?_))))
    obtain⟨h',P,J,L,N⟩:=M
    have O:P=s.gens:=m.gens
    have I:J=s.drawn:=m.drawn
    have H:N=s.os:=m.os
    subst O I H
    refine h h' L (S.by λx _=>by rw[pS];rfl) λb o d=>m.heap b o (λz=>?_) (cF _ (cF _ d))
    rcases cZ.mp z with z|z
    ·rw[z,k]at d;cases d
    ·rw[cK.mp z]at d
     exact absurd (gU (cQ d)) (dt _)
  | _=>exact q.elim
theorem rX:Slot "set_iterator" (fK "__next__") "set_iterator.__next__":=by
 refine Slot.of (owner:="set_iterator") (n:="__next__") ?_ ?_ ?_ ?_ ?_ ?_
 ·rw[oz,lS];rfl
 ·decide +kernel
 ·decide +kernel
 ·decide +kernel
 ·exact Or.inl (by decide +kernel)
 ·rw[oX];rfl
theorem sV:entryFor table "set_iterator.__next__"=some Builtin.«set_iterator.__next__»:=entryFor_of_tree rfl
theorem sX(a:cA):argsOk "set_iterator.__next__" ⟨[a],[]⟩:=by
 show _=_;rw[pT (rows:=kq) rfl rfl];rfl
theorem vT:entryFor table "set.__iter__"=some Builtin.«frozenset.__iter__»:=kh (id':="frozenset.__iter__") rfl rfl (by decide +kernel) rfl
def En(a:cG)(slot i n ep:Nat):Obj:={cls:= .type "set_iterator",data:= .fields #[rawInt slot,rawInt i,.ref a,rawInt n,rawInt ep]}
theorem B2{prog:cT}{w:dc}{A:dw}{E:cA->cD->Prop}{s:cD}{a:cG}{o:Obj}{es:Array (Int×cA)}{ep:Nat}{t:SetTable}{Q:cA->cD->Prop}(ho:s.heap.get? a=some o)(hx:o.ExactSet)(hd:o.data = .set es ep t)
  (hf:t.fits es.size=true)(hp:t.plain=true)
  (h:Q (.ref s.heap.objs.size) {s with heap:=s.heap.push (En a 0 0 es.size ep)}):wpAny (model prog w) A (pyIter (.ref a)) Q E s:=by
 have b:s.TypeIs (.ref a) "set":=⟨o,ho,hx.1⟩
 refine jv b oA (dR oA b vT ?_ (F.args_set_iter_1 _))
 unfold Builtin.«frozenset.__iter__» p8 slotArgs kO setEntries setDrawn setsByText
 refine cr (cr (cv (cv (cr (cr (cr (dU ho hd hf (cv (cv (cr (cr (dU ho hd hf ?_))))))))))))
 refine cr (cr (fJ (cv (cv (cP ?_ ?_)))))
 ·show decide ((_&&(!t.plain&&_))=true)=false
  rw[hp]
  simp
 refine cr (cv ?_)
 unfold setEpoch newFields
 refine cr (cr (dU ho hd hf (cv (cr ?_))))
 unfold newObj
 dsimp only
 rw[if_neg (by show ¬5>sizeLine+2;decide +kernel)]
 unfold newObjAsIs
 refine cr (om (cv (cv ⟨_,rfl,"set_iterator",_,⟨_,cN _ rfl,rfl⟩,rX.lookup,h⟩)))
def Ey(S:List Nat)(k:Nat):Nat:=if k=0 then 0 else S.getD (k-1) 0+1
theorem ur:firstArgMember (dL "StopIteration") []=pure cA.none:=by
 unfold firstArgMember;dsimp only;rw[pure_bind];split <;> rfl
theorem vn(b:Nat->Bool)(led:Bool){k:Nat}(hk:k<=(D9 b).length):oS (Es (D9 b) led).place (Ey (D9 b) k)=k:=by
 have h:=B9 _ (tP b);have h1:Hr (D9 b) led=true:=by
  cases led
  ·exact h.2
  ·exact h.1
 unfold Hr at h1;have h2:=dZ.mp h1 k (dY.mpr (by omega));exact of_decide_eq_true h2
theorem BZ{prog:cT}{w:dc}{A:dw}{E:cA->cD->Prop}{s:cD}{I a:cG}{o:Obj}{es:Array (Int×cA)}{ep i:Nat}{b:Nat->Bool}{Q:Option cA->cD->Prop}(hw:Eg w=true)
  (hI:s.heap.get? I=some (En a (Ey (D9 b) i) i es.size ep))(ho:s.heap.get? a=some o)(hd:o.data = .set es ep (Es (D9 b) (Eg w)))(hes:es.size=(D9 b).length)(hi:i<es.size)(hne:a≠I)
  (h:∀h',fI I s.heap h'->h'.get? I=some (En a (Ey (D9 b) (i+1)) (i+1) es.size ep)->Q (some es[i].2) {s with heap:=h'}):
  wpAny (model prog w) A (pyNext (.ref I)) Q E s:=by
 have g:(Es (D9 b) (Eg w)).fits es.size=true:=by rw[hes];exact s9 b _
 have f:s.TypeIs (.ref I) "set_iterator":=⟨_,hI,rfl⟩
 unfold pyNext
 refine cr (ix (ef f rX (dR rX f sV ?_ (sX _))))
 unfold Builtin.«set_iterator.__next__» slotArgs
 refine cr (cv (cr (iR hI rfl ?_)))
 dsimp only[rawInt]
 unfold setEntries
 refine cr (cr (dU ho hd g (cv (cP (by simp) ?_))))
 unfold setNext setsByText
 refine cr (cr (dU ho hd g ?_))
 dsimp only
 have j:w.params.followText "set-order"=false:=by
  unfold Eg at hw
  cases e:w.params.followText "set-order"with
  | false=>rfl
  | true=>rw[e]at hw;cases hw
 refine cr (cr (fJ (cv ?_)))
 rw[if_neg (show ¬(model prog w).w.params.followText "set-order"=true by intro z;exact absurd (j.symm.trans z) (by decide))]
 refine cP (by show decide ((!true&&_)=true)=false;rfl) (cr ?_)
 have k:∀(x:Bool) (P:Sem Unit),(if(!true&&x)=true then P else pure ())=pure ():=λx P=>rfl
 rw[hw]
 refine(show ∀(R:Unit->cD->Prop),R () s->wpAny (model prog w) A.in1 (if(!true&&_)=true then _ else pure ()) R _ s from λR z=>cv z) _ ?_
 have c:i<(D9 b).length:=by omega
 have d:(Es (D9 b) true).place[i]?=some (D9 b)[i]:=by
  show(D9 b).toArray[i]?=_
  simp[c]
 rw[f9,vn b true (dB c),d,ff hi]
 refine cv ?_
 dsimp only
 have g1:(s.heap.update I (pU λx=>x.setIfInBounds 0 (dX (((D9 b)[i]+1:Nat):Int) 0))).get? I=some {cls:= .type "set_iterator",data:= .fields #[dX (((D9 b)[i]+1:Nat):Int) 0,rawInt i,.ref a,rawInt es.size,rawInt ep]}:=
  eH (o:=En a (Ey (D9 b) i) i es.size ep) _ hI rfl
 refine cr (gq hI rfl (by show 0<5;decide) (cr (gq g1 rfl (by show 1<5;decide) (cv ⟨_,rfl,cv ?_⟩))))
 refine h _ ((eV s.heap I _).trans (eV _ I _)) ?_
 have e:Ey (D9 b) (i+1)=(D9 b)[i]+1:=by
  unfold Ey
  rw[if_neg (Nat.succ_ne_zero i),Nat.add_sub_cancel,cC,cz c]
  rfl
 rw[e]
 exact eH _ g1 rfl
theorem xn{prog:cT}{w:dc}{A:dw}{E:cA->cD->Prop}{s:cD}{I a:cG}{o:Obj}{es:Array (Int×cA)}{ep:Nat}{b:Nat->Bool}{Q:Option cA->cD->Prop}(hA:A.handled=none)(hw:Eg w=true)
  (hI:s.heap.get? I=some (En a (Ey (D9 b) es.size) es.size es.size ep))(ho:s.heap.get? a=some o)(hd:o.data = .set es ep (Es (D9 b) (Eg w)))(hes:es.size=(D9 b).length)
  (h:∀h',(∀c ob,c≠I->s.heap.get? c=some ob->h'.get? c=some ob)->Q none {s with heap:=h'}):
  wpAny (model prog w) A (pyNext (.ref I)) Q E s:=by
 have g:(Es (D9 b) (Eg w)).fits es.size=true:=by rw[hes];exact s9 b _
 have f:s.TypeIs (.ref I) "set_iterator":=⟨_,hI,rfl⟩
 unfold pyNext
 refine cr (ix (ef f rX (dR rX f sV ?_ (sX _))))
 unfold Builtin.«set_iterator.__next__» slotArgs
 refine cr (cv (cr (iR hI rfl ?_)))
 dsimp only[rawInt]
 unfold setEntries
 refine cr (cr (dU ho hd g (cv (cP (by simp) ?_))))
 unfold setNext setsByText
 refine cr (cr (dU ho hd g ?_))
 dsimp only
 have j:w.params.followText "set-order"=false:=by
  unfold Eg at hw
  cases e:w.params.followText "set-order"with
  | false=>rfl
  | true=>rw[e]at hw;cases hw
 refine cr (cr (fJ (cv ?_)))
 rw[if_neg (show ¬(model prog w).w.params.followText "set-order"=true by intro z;exact absurd (j.symm.trans z) (by decide))]
 refine cP (by show decide ((!true&&_)=true)=false;rfl) (cr ?_)
 rw[hw]
 refine(show ∀(R:Unit->cD->Prop),R () s->wpAny (model prog w) A.in1 (if(!true&&_)=true then _ else pure ()) R _ s from λR z=>cv z) _ ?_
 rw[f9,vn b true (by omega),gA (cI _)]
 refine cv ?_
 dsimp only
 refine cr (gq hI rfl (by show 2<5;decide) ?_)
 unfold newExc raiseNew newTuple
 refine cr (cr (e7 (cr (fM (a:=cA.none) ur (e7 ?_ (lb ..)))) (du _)))
 refine cr (kP ?_)
 rw[show A.in1.handled=none from hA]
 refine md (cr (eF (T:="StopIteration") ⟨_,cN _ rfl,rfl⟩ ki (iS rfl (cv ?_))))
 refine h _ λc ob k d=>cF _ (cF _ ?_)
 rw[i5 _ _ _ _ k]
 exact d
theorem vi{α:Type}(next:Nat->Nat):∀(fuel k:Nat) (left:List α) (out:Array α),left.length=fuel->(rm next fuel k left out).toList.Perm (out.toList++left)
 | 0,k,left,out,h=>by
  rw[pickOrder.go.eq_1,jj.mp h,fT]
 | fuel+1,k,left,out,h=>by
  have a:next k%left.length<left.length:=Nat.mod_lt _ (by omega)
  rw[pickOrder.go.eq_2,cz a]
  dsimp only
  refine(vi next fuel (k+1) _ _ (by rw[List.length_eraseIdx,if_pos a];omega)).trans ?_
  rw[Array.toList_push,List.append_assoc]
  refine qu _ ?_
  generalize next k%left.length=j at a
  have e:left.eraseIdx j=left.take j++left.drop (j+1):=List.eraseIdx_eq_take_drop_succ ..
  rw[e]
  have b:left=left.take j++left[j]::left.drop (j+1):=by
   rw[<-List.drop_eq_getElem_cons a,lO]
  conv=>rhs;rw[b]
  rw[List.singleton_append]
  exact nW.symm
theorem vE{α:Type}(next:Nat->Nat)(xs:Array α):(pickOrder next xs).toList.Perm xs.toList:=by
 unfold pickOrder;have:=vi next xs.size 0 xs.toList #[] (el ..)
 simpa using this
theorem wG{prog:cT}{w:dc}{A:dw}{E:cA->cD->Prop}{s:cD}{I a:cG}{o:Obj}{es:Array (Int×cA)}{ep i:Nat}{b:Nat->Bool}{Q:Option cA->cD->Prop}(hw:Eg w=false)
  (hI:s.heap.get? I=some (En a 0 i es.size ep))(ho:s.heap.get? a=some o)(hd:o.data = .set es ep (Es (D9 b) (Eg w)))(hes:es.size=(D9 b).length)(hi:i<es.size)
  {x:Int×cA}(hx:(pickOrder (w.params.setOrder a ep) es)[i]?=some x)
  (h:∀h',fI I s.heap h'->h'.get? I=some (En a 0 (i+1) es.size ep)->Q (some x.2) {s with heap:=h'}):
  wpAny (model prog w) A (pyNext (.ref I)) Q E s:=by
 have c:(Es (D9 b) (Eg w)).fits es.size=true:=by rw[hes];exact s9 b _
 have g:s.TypeIs (.ref I) "set_iterator":=⟨_,hI,rfl⟩
 have d:w.params.followText "set-order"=true:=by
  unfold Eg at hw
  cases e:w.params.followText "set-order"with
  | true=>rfl
  | false=>rw[e]at hw;cases hw
 unfold pyNext
 refine cr (ix (ef g rX (dR rX g sV ?_ (sX _))))
 unfold Builtin.«set_iterator.__next__» slotArgs
 refine cr (cv (cr (iR hI rfl ?_)))
 dsimp only[rawInt]
 unfold setEntries
 refine cr (cr (dU ho hd c (cv (cP (by simp) ?_))))
 unfold setNext setWalk setsByText
 refine cr (cr (dU ho hd c ?_))
 dsimp only
 refine cr (cr (fJ (cv ?_)))
 rw[if_pos (show(model prog w).w.params.followText "set-order"=true from d)]
 refine cP (by simp) (cr (cr (dU ho hd c ?_)))
 dsimp only
 refine cr (cr (fJ (cv ?_)))
 rw[if_pos (show(model prog w).w.params.followText "set-order"=true from d)]
 refine cr (fJ (cv ?_))
 have f:(pickOrder ((model prog w).w.params.setOrder a ep) es)[((i:Nat):Int).toNat]?=some x:=by rw[f9];exact hx
 dsimp only
 rw[f]
 refine cv ?_
 dsimp only[Option.map]
 have g1:(s.heap.update I (pU λy=>y.setIfInBounds 0 (dX (((0:Int).toNat:Nat):Int) 0))).get? I=some {cls:= .type "set_iterator",data:= .fields #[dX (((0:Int).toNat:Nat):Int) 0,rawInt i,.ref a,rawInt es.size,rawInt ep]}:=
  eH (o:=En a 0 i es.size ep) _ hI rfl
 refine cr (gq hI rfl (by show 0<5;decide) (cr (gq g1 rfl (by show 1<5;decide) (cv ⟨_,rfl,cv ?_⟩))))
 refine h _ ((eV s.heap I _).trans (eV _ I _)) ?_
 exact eH _ g1 rfl
theorem xb{prog:cT}{w:dc}{A:dw}{E:cA->cD->Prop}{s:cD}{I a:cG}{o:Obj}{es:Array (Int×cA)}{ep:Nat}{b:Nat->Bool}{Q:Option cA->cD->Prop}(hA:A.handled=none)(hw:Eg w=false)
  (hI:s.heap.get? I=some (En a 0 es.size es.size ep))(ho:s.heap.get? a=some o)(hd:o.data = .set es ep (Es (D9 b) (Eg w)))(hes:es.size=(D9 b).length)
  (h:∀h',(∀c ob,c≠I->s.heap.get? c=some ob->h'.get? c=some ob)->Q none {s with heap:=h'}):
  wpAny (model prog w) A (pyNext (.ref I)) Q E s:=by
 have d:(Es (D9 b) (Eg w)).fits es.size=true:=by rw[hes];exact s9 b _
 have k:s.TypeIs (.ref I) "set_iterator":=⟨_,hI,rfl⟩
 have f:w.params.followText "set-order"=true:=by
  unfold Eg at hw
  cases e:w.params.followText "set-order"with
  | true=>rfl
  | false=>rw[e]at hw;cases hw
 unfold pyNext
 refine cr (ix (ef k rX (dR rX k sV ?_ (sX _))))
 unfold Builtin.«set_iterator.__next__» slotArgs
 refine cr (cv (cr (iR hI rfl ?_)))
 dsimp only[rawInt]
 unfold setEntries
 refine cr (cr (dU ho hd d (cv (cP (by simp) ?_))))
 unfold setNext setWalk setsByText
 refine cr (cr (dU ho hd d ?_))
 dsimp only
 refine cr (cr (fJ (cv ?_)))
 rw[if_pos (show(model prog w).w.params.followText "set-order"=true from f)]
 refine cP (by simp) (cr (cr (dU ho hd d ?_)))
 dsimp only
 refine cr (cr (fJ (cv ?_)))
 rw[if_pos (show(model prog w).w.params.followText "set-order"=true from f)]
 refine cr (fJ (cv ?_))
 have j:(pickOrder ((model prog w).w.params.setOrder a ep) es)[((es.size:Nat):Int).toNat]?=none:=by
  rw[f9]
  refine gA ?_
  have:=(vE (w.params.setOrder a ep) es).length_eq
  rw[el,el]at this
  exact na this
 dsimp only
 rw[j]
 refine cv ?_
 dsimp only[Option.map]
 refine cr (gq hI rfl (by show 2<5;decide) ?_)
 unfold newExc raiseNew newTuple
 refine cr (cr (e7 (cr (fM (a:=cA.none) ur (e7 ?_ (lb ..)))) (du _)))
 refine cr (kP ?_)
 rw[show A.in1.handled=none from hA]
 refine md (cr (eF (T:="StopIteration") ⟨_,cN _ rfl,rfl⟩ ki (iS rfl (cv ?_))))
 refine h _ λc ob l g=>cF _ (cF _ ?_)
 rw[i5 _ _ _ _ l]
 exact g
theorem uq:Slot "set_iterator" (fK "__iter__") "set_iterator.__iter__":=by
 refine Slot.of (owner:="set_iterator") (n:="__iter__") ?_ ?_ ?_ ?_ ?_ ?_
 ·rw[oz,lS];rfl
 ·decide +kernel
 ·decide +kernel
 ·decide +kernel
 ·exact Or.inl (by decide +kernel)
 ·rw[oX];rfl
theorem vS:entryFor table "set_iterator.__iter__"=some Builtin.«dict_keyiterator.__iter__»:=kh (id':="dict_keyiterator.__iter__") rfl rfl (by decide +kernel) rfl
theorem wA(a:cA):argsOk "set_iterator.__iter__" ⟨[a],[]⟩:=by
 show _=_;rw[pT (rows:=kq) rfl rfl];rfl
def II(w:dc)(a:cG)(ep:Nat)(es:Array (Int×cA)):Array (Int×cA):=if Eg w=true then es else pickOrder (w.params.setOrder a ep) es
theorem wD(w:dc)(a:cG)(ep:Nat)(es:Array (Int×cA)):(II w a ep es).toList.Perm es.toList:=by
 unfold II;split
 ·exact iM _
 ·exact vE _ _
theorem z4{prog:cT}{w:dc}{A:dw}{I a:cG}{o:Obj}{es:Array (Int×cA)}{ep:Nat}{b:Nat->Bool}(hA:A.handled=none)(hd:o.data = .set es ep (Es (D9 b) (Eg w)))(hes:es.size=(D9 b).length)(hne:a≠I):
  WalksS prog w A I [I,a] [I] (λx y=>y=x) es.size (λi v=>∃x,(II w a ep es)[i]?=some x/\v=x.2)
   (λi s=>s.heap.get? I=some (En a (if Eg w=true then Ey (D9 b) i else 0) i es.size ep)/\s.heap.get? a=some o):=by
 refine⟨λc m=>by rw[cK.mp m];exact cM,λ_=>rfl,λx y z h1 h2=>h2.trans h1,λi s f tk g _ hk=>⟨hk I cM _ g.1,hk a (cO _ cM) _ g.2⟩,λi s Q E r g h=>?_,λs Q E g h=>?_,λi s Q E g q=>?_⟩
 ·cases d:Eg w with
  | true=>
   obtain⟨e,k⟩:=g
   rw[if_pos d]at e
   refine BZ d e k hd hes r hne λf n p=>h _ _ ⟨es[i],?_,rfl⟩ ⟨?_,?_⟩ ?_
   ·unfold II;rw[if_pos d,ff r]
   ·rw[if_pos d];exact p
   ·show f.get? a=some o
    rw[n.2 a hne];exact k
   ·exact⟨λc l m j=>by show f.get? c=some l;rw[n.2 c λz=>m (by rw[z];exact cM)];exact j,rfl,rfl,rfl,cI _⟩
  | false=>
   obtain⟨e,k⟩:=g
   rw[if_neg (by rw[d];decide)]at e
   have u:=(vE (w.params.setOrder a ep) es).length_eq
   rw[el,el]at u
   have B:(pickOrder (w.params.setOrder a ep) es)[i]?=some (pickOrder (w.params.setOrder a ep) es)[i]:=ff (by omega)
   refine wG d e k hd hes r B λf n p=>h _ _ ⟨_,?_,rfl⟩ ⟨?_,?_⟩ ?_
   ·unfold II;rw[if_neg (by rw[d];decide)];exact B
   ·rw[if_neg (by rw[d];decide)];exact p
   ·show f.get? a=some o
    rw[n.2 a hne];exact k
   ·exact⟨λc l m j=>by show f.get? c=some l;rw[n.2 c λz=>m (by rw[z];exact cM)];exact j,rfl,rfl,rfl,cI _⟩
 ·obtain⟨e,k⟩:=g
  have fin:∀f,(∀c l,c≠I->s.heap.get? c=some l->f.get? c=some l)->Q none {s with heap:=f}:=λf hk=>h _ ⟨λc l m j=>hk c l (λz=>m (by rw[z];exact cM)) j,rfl,rfl,rfl,cI _⟩
  cases d:Eg w with
  | true=>rw[if_pos d]at e;exact xn hA d e k hd hes fin
  | false=>rw[if_neg (by rw[d];decide)]at e;exact xb hA d e k hd hes fin
 ·have t:s.TypeIs (.ref I) "set_iterator":=⟨_,g.1,rfl⟩
  refine jv t uq (dR uq t vS ?_ (wA _))
  exact cr (cv (cv ⟨_,rfl,"set_iterator",_,t,rX.lookup,q⟩))
theorem BD{prog:cT}{w:dc}{A:dw}{E:cA->cD->Prop}{s:cD}{a:cG}{Q:Bool->cD->Prop}(ht:s.TypeIs (.ref a) "set")(h:Q false s):wpAny (model prog w) A (iF (.ref a)) Q E s:=by
 have b:splitId "set.__len__"=some ("set","__len__"):=by decide +kernel
 unfold iF;refine cr (gd ht F.slot_set_len.lookup ?_);dsimp only;rw[b];dsimp only;refine cr (eF ht qi (cP rfl ?_));refine iS (by decide +kernel) ?_;refine cr (ii ht ?_);exact cv h
theorem wn:∀{l:List (Int×cA)},(∀x∈l,∃t,x.2=dX x.1 t)->IntsAre (l.map (·.2)) (l.map (·.1))
 | [],_=> .nil
 | x::r,h=>by
  obtain⟨t,e⟩:=h x cM
  rw[dN,dN,e]
  exact .cons _ _ (wn λy a=>h y (cO _ a))
theorem yj{prog:cT}{w:dc}{A:dw}{E:cA->cD->Prop}{s:cD}{a:cG}{b:Nat->Bool}{Q:List cA->cD->Prop}(hA:A.handled=none)(hS:SetIs s.heap a b (Eg w))
  (h:∀(h':Heap) (tk:Nat) (vs:List cA) (ns:List Int),s.heap.objs.size<h'.objs.size->(∀c ob,s.heap.get? c=some ob->h'.get? c=some ob)->IntsAre vs ns->ns.Perm ((D9 b).map hO)->Q vs {s with heap:=h',toks:=tk}):wpAny (model prog w) A (collect (.ref a)) Q E s:=by
 obtain⟨o,d,f,aa,L,l,S,K⟩:=hS
 have G:d.size=(D9 b).length:=by rw[<-el,K,cx]
 have hf:(Es (D9 b) (Eg w)).fits d.size=true:=by rw[G];exact s9 b _
 have n:(s.heap.push (seqObj "list" #[] 0)).get? a=some o:=cF _ L
 have J:(s.heap.push (seqObj "list" #[] 0)).get? s.heap.objs.size=some (seqObj "list" #[] 0):=cN _ rfl
 unfold collect
 refine cr (kd (eX lP ?_))
 change wpAny _ _ (do again (.builtin "list.__iadd__" ⟨[<-newList [],.ref a],[]⟩)) _ _ s
 refine cr (i9 (cv ⟨ig _ (by decide +kernel),eX ny ?_⟩))
 change wpAny _ _ (fY (.ref s.heap.objs.size) (.ref a) (.ref s.heap.objs.size)) _ _ {s with heap:=s.heap.push (seqObj "list" #[] 0)}
 unfold fY
 have t:s.heap.objs.size≠a:=λz=>by
  have:=cQ L
  rw[z]at this
  exact absurd this (dt _)
 refine cr (ii (T:="set") ⟨o,n,l.1⟩ (cP ?_ (cr (B2 n l S hf rfl (cr (dG (BD ⟨o,cF _ n,l.1⟩ ?_)))))))
 ·show decide ((kQ (.ref s.heap.objs.size) (.ref a)||_||_)=true)=false
  have:kQ (.ref s.heap.objs.size) (.ref a)=false:=by
   show(s.heap.objs.size==a)=false
   exact beq_false_of_ne t
  rw[this]
  rfl
 refine iS (by decide +kernel) (cr (iQ ?_))
 have M:(s.heap.push (seqObj "list" #[] 0)).objs.size=s.heap.objs.size+1:=lw ..
 have P:a≠s.heap.objs.size+1:=λz=>by
  have:=cQ L
  rw[z]at this
  exact absurd (gU this) (dt _)
 dsimp only
 have U:((s.heap.push (seqObj "list" #[] 0)).push (En a 0 0 d.size f)).get? (s.heap.push (seqObj "list" #[] 0)).objs.size=some (En a 0 0 d.size f):=cN _ rfl
 have D:((s.heap.push (seqObj "list" #[] 0)).push (En a 0 0 d.size f)).get? s.heap.objs.size=some (seqObj "list" #[] 0):=cF _ J
 have N:((s.heap.push (seqObj "list" #[] 0)).push (En a 0 0 d.size f)).get? a=some o:=cF _ n
 have r:∀c ob,s.heap.get? c=some ob->c≠s.heap.objs.size/\((s.heap.push (seqObj "list" #[] 0)).push (En a 0 0 d.size f)).get? c=some ob:=λc ob k=>⟨λz=>(by
  have:=cQ k
  rw[z]at this
  exact absurd this (dt _)),cF _ (cF _ k)⟩
 rw[M]at U ⊢
 generalize(s.heap.push (seqObj "list" #[] 0)).push (En a 0 0 d.size f)=g at *
 unfold lz
 have H:(g.update s.heap.objs.size (d2 λx=>x.push cA.none)).get? s.heap.objs.size=some (seqObj "list" #[cA.none] 1):=eH (o:=seqObj "list" #[] 0) _ D rfl
 have O:((g.update s.heap.objs.size (d2 λx=>x.push cA.none)).update s.heap.objs.size (d2 λx=>x.pop)).get? s.heap.objs.size=some (seqObj "list" #[] 2):=eH (o:=seqObj "list" #[cA.none] 1) _ H rfl
 have q:∀c ob,c≠s.heap.objs.size->g.get? c=some ob->((g.update s.heap.objs.size (d2 λx=>x.push cA.none)).update s.heap.objs.size (d2 λx=>x.pop)).get? c=some ob:=λc ob k Y=>by
  rw[i5 _ _ _ _ k,i5 _ _ _ _ k];exact Y
 refine cr (cr (iw D rfl (iw H rfl ?_ (by show 1<=sizeLine;decide +kernel) (du _)) (du _) (by show 1<=sizeLine+1;decide +kernel)))
 generalize(g.update s.heap.objs.size (d2 λx=>x.push cA.none)).update s.heap.objs.size (d2 λx=>x.pop)=g4 at *
 refine cv ⟨ig _ (by decide +kernel),?_⟩
 refine codeAny_extend_loopS (z4 (A:=A.in1) (I:=s.heap.objs.size+1) (a:=a) (o:=o) hA S G P) (by have:=um b;exact dB (D8 (by omega))) s.heap.objs.size (λz=>?_) _ d.size 0 _ #[] 2 rfl (du _) ⟨?_,q a o (λz=>t z.symm) N⟩ O ⟨rfl,λj v B=>?_⟩ λs' p c m y C=>?_
 ·rcases cZ.mp z with z|z
  ·exact absurd z (df (dH _))
  ·exact t (cK.mp z)
 ·have:(if Eg w=true then Ey (D9 b) 0 else 0)=0:=by split <;> rfl
  rw[this]
  exact q _ _ (λz=>absurd z.symm (df (dH _))) U
 ·simp at B
 ·obtain⟨h',g',X,Z,o'⟩:=s'
  have e1:g'=s.gens:=m.gens
  have W:X=s.drawn:=m.drawn
  have V:o'=s.os:=m.os
  subst e1 W V
  refine cr (wpAny_load' y (cv ?_))
  refine h h' Z p.toList ((II w a f d).toList.map (·.1)) (cQ y) (λc ob k=>m.heap c ob (λz=>?_) (q c ob (r c ob k).1 (r c ob k).2)) ?_ ?_
  ·rcases cZ.mp z with z|z
   ·exact(r c ob k).1 z
   ·have:=cQ k
    rw[cK.mp z]at this
    exact absurd (gU this) (dt _)
  ·have R:=(wD w a f d).length_eq
   rw[el,el]at R
   have e:p.toList=(II w a f d).toList.map (·.2):=by
    refine List.ext_getElem? λj=>?_
    rw[cH,gf,gf]
    cases B:p[j]? with
    | none=>
     have:p.size<=j:=Array.getElem?_eq_none_iff.mp B
     rw[gA (by have:=C.1;omega)];rfl
    | some v=>
     obtain⟨x,l,rfl⟩:=C.2 j v B
     rw[l];rfl
   rw[e]
   refine wn λx l=>?_
   have:=(wD w a f d).mem_iff.mp l
   rw[K]at this
   obtain⟨u,_,rfl⟩:=dv.mp this
   exact⟨_,rfl⟩
  ·refine((wD w a f d).map _).trans ?_
   rw[K,ij]
   exact iM _
theorem zl{prog:cT}{w:dc}{A:dw}{E:cA->cD->Prop}{s:cD}{a:cG}{b:Nat->Bool}{Q:cA->cD->Prop}(hA:A.handled=none)(hS:SetIs s.heap a b (Eg w))
  (h:∀(l:cG) (h':Heap) (tk:Nat) (out:Array cA) (ns:List Int),s.heap.objs.size<=l->(∀c ob,s.heap.get? c=some ob->h'.get? c=some ob)->(∃n,h'.get? l=some (seqObj "list" out n))->IntsAre out.toList ns->ns.Perm ((D9 b).map hO)->ns.Pairwise (· <= ·)->Q (.ref l) {s with heap:=h',toks:=tk}):
  wpAny (model prog w) A (call (.builtin "sorted") [.ref a]) Q E s:=by
 refine gN oo nA nB (nC _) ?_
 unfold Builtin.«sorted»
 refine cr (m:=checkCount "sorted" 1 1 _) (cv ?_)
 refine cr (yj (A:=A.in1) hA hS λh' tk vs ns k hk g hp=>cr (i9 ?_ (by have:=um b;have:=hp.length_eq;rw[cx]at this;have:=g.length;exact dB (D8 (by omega)))))
 have u:ns.length=(D9 b).length:=by rw[hp.length_eq,cx]
 have h6:=um b
 have v:vs.length=ns.length:=g.length
 have f:(h'.push (seqObj "list" vs.toArray 0)).get? h'.objs.size=some (seqObj "list" vs.toArray 0):=cN _ rfl
 refine cr (dG (dR l5 ⟨_,f,rfl⟩ lI (oQ f g (by omega) λout o r q p=>⟨_,rfl,?_⟩) (l8 _)))
 refine cv ⟨_,rfl,?_⟩
 refine h _ _ _ out o (dB k) (λc ob t=>?_) (sortedHeap_at f) r (q.trans hp) p
 have d:=hk c ob t
 have j:=cQ d
 have e:(h'.push (seqObj "list" vs.toArray 0)).get? c=some ob:=cF _ d
 exact(sortedHeap_old (df j) (cQ e)).trans e
theorem Bs:∀{vs:List cA} {ns:List Int},IntsAre vs ns->∀(i:Nat) (v:cA),vs[i]?=some v->i<ns.length/\∃t,v=dX (ns.getD i 0) t
 | _,_,.nil,i,v,h=>by simp at h
 | _,_,.cons n t hr,0,v,h=>by
  rw[List.getElem?_cons_zero]at h
  cases h
  exact⟨Nat.zero_lt_succ _,t,rfl⟩
 | _,_,.cons n t hr,i+1,v,h=>by
  rw[List.getElem?_cons_succ]at h
  obtain⟨h1,a,e⟩:=Bs hr i v h
  exact⟨Nat.succ_lt_succ h1,a,e⟩
theorem xR(b:Nat->Bool):((D9 b).map hO).Nodup:=by
 unfold D9;exact js.mpr ((n9.filter _).imp λh z=>h (hO.inj z))
section
variable{X:Cx}
def IT(K:cu)(te:TE):TE:=λσ H Q=>te σ H λx H1=>∃(p:cG) (ns:List Int),x = .ref p/\SqL K H1 p (ns.map V.int)/\(∀i∈ns,0<=i/\i<6)/\
 ∀(l:cG) (ns':List Int),H1 l=none->(∀i,i∈ns'↔i∈ns)->ns'.Nodup->ns'.Pairwise (· <= ·)->Q (.ref l) (upd H1 l (.lst (ns'.map V.int)))
theorem xM{e:Expr}{te:TE}{p p2 pos pos2:Pos}(hc:X.calm=true)(h1:Gl X "sorted")(m1:X.mg "sorted"=none)(h2:Gl X "set")(m2:X.mg "set"=none)(ha:PE X e te)
  (he:dh [e] X.env=(false,eval e X.env)::dh [] X.env:=by rfl):PE X (.Call (.Name "sorted" p) [.Call (.Name "set" p2) [e] [] pos2] [] pos) (IT X.K te):=by
 intro F s σ H Q I h
 refine fG (tI I h1 m1 Boot.sorted ?_)
 refine g7 ?_ rfl rfl
 show wpAny _ _ (spliced ((false,eval (.Call (.Name "set" p2) [e] [] pos2) X.env)::[])) _ _ s
 refine fF ?_
 refine fG (tI I h2 m2 Boot.set ?_)
 refine d7 ?_ he rfl
 rw[he]
 show wpAny _ _ (spliced ((false,eval e X.env)::[])) _ _ s
 refine fF (Ei (ha F s σ H _ I h) λu J ⟨x,H1,r,r1,q1⟩=>?_)
 obtain⟨l,a,rfl,hq,E,q⟩:=q1
 cases(show u=cR l from r1)
 obtain⟨z,rv,Z,hz⟩:=r.list hq
 have T:=uY rv
 have aa:z.length=a.length:=T.length
 have hA:X.A.handled=none:=r.ok.hd hc
 refine cv (vP hA Z.isList (λi=>(a.getD i 0).toNat) (λi v O=>?_) λh' tk k hk=>cv (zl hA k λL h2 Y U d R S g G b m=>?_))
 ·rw[<-gf]at O
  obtain⟨f,t,e⟩:=Bs T i v (by simpa using O)
  have n:a.getD i 0∈a:=by
   rw[cC,cz f]
   exact cW f
  have:=E _ n
  refine⟨by omega,t,?_⟩
  rw[e]
  congr 1
  omega
 ·have C:∀i,i∈d↔i∈a:=λi=>by
   rw[b.mem_iff,dv]
   constructor
   ·rintro⟨u,hu,rfl⟩
    obtain⟨_,W⟩:=sW.mp hu
    obtain⟨j,D,e⟩:=iZ.mp W
    have e':u=(a.getD j 0).toNat:=eq_of_beq e
    have B:j<a.length:=by
     have:=oB.mp D
     simp at this
     omega
    have n:a.getD j 0∈a:=by
     rw[cC,cz B]
     exact cW B
    have:=E _ n
    have:hO u=a.getD j 0:=by rw[e'];show((a.getD j 0).toNat:Int)=_;omega
    rw[this];exact n
   ·intro f
    have ab:=E i f
    obtain⟨j,D,e⟩:=eK.mp f
    refine⟨i.toNat,sW.mpr ⟨by omega,iZ.mpr ⟨j,?_,?_⟩⟩,by show((i.toNat:Nat):Int)=i;omega⟩
    ·rw[oB]
     exact⟨j,by simp;omega,by omega⟩
    ·rw[cC,cz D,Option.getD_some,e]
     exact beq_self_eq_true _
  obtain⟨n2,g⟩:=g
  have M:J.heap.objs.size<=h'.objs.size:=by
   obtain⟨o,_,_,_,ho,_⟩:=k
   exact dB (cQ ho)
  have y:J.heap.objs.size<=L:=dg M R
  have P:d.Nodup:=b.nodup_iff.mpr (xR _)
  refine⟨.ref L,_,r.laid (t':=Y) (λc N hc=>S c N (hk c N hc)) y (show ObjOk X.prog X.w _ _ _ (.lst (d.map V.int))from⟨?_,U.toList,n2,uy G,by rw[g]⟩),rfl,q _ d (r.hok.fresh y) C P m⟩
  have h6:=um (λx=>(kC 0 z.toArray.size).any λj=>x==(a.getD j 0).toNat)
  have:=b.length_eq
  rw[cx]at this ⊢
  exact dB (D8 (by omega))
end
section
variable{X:Cx}
theorem By:KF X "list.count" (λx vs H Q=>∃(l:cG) (ns:List Int) (k:Int),x = .ref l/\vs=[.int k]/\SqL X.K H l (ns.map V.int)/\Q (.int (ns.count k:Nat)) H):=by
 intro e s j H x vs v g Q I b c h;obtain⟨l,ns,k,rfl,rfl,d,q⟩:=h
 cases b;obtain⟨u,rfl,tk,rfl⟩:=c.one;obtain⟨f,r,a,m⟩:=I.list d;exact count_list_ints a.isList (uY r) ⟨.int _,H,I.tok _,⟨_,rfl⟩,q⟩
theorem xg{K:cu}(h:X.K=K):KF X "list.count" (λx vs H Q=>∃(l:cG) (ns:List Int) (k:Int),x = .ref l/\vs=[.int k]/\SqL K H l (ns.map V.int)/\Q (.int (ns.count k:Nat)) H):=by
 subst h;exact By
end
theorem uI(p q:Int×Int):gw (dF p) (dF q)=decide (p=q):=by
 obtain⟨a,b⟩:=p;obtain⟨c,d⟩:=q;unfold dF;by_cases h1:a=c <;> by_cases h2:b=d <;> simp[gw,ja,h1,h2]
theorem Dx(p:Int×Int):F8 1 (dF p)=true:=rfl
theorem sy(p:Int×Int):f8 (dF p)=true:=vc (Dx p) (by decide)
structure Wt(p:Int×Int)(a D:Int):Prop where
 w:p.1*D=a*p.2
 p2:p.2≠0
 d:D≠0
theorem uP{a D:Int}(hD:D≠0):Wt (FQ.red a D) a D:=⟨FQ.red_worth hD,by have:=(FQ.red_low (t:=a) hD).pos;omega,hD⟩
theorem Af{a D:Int}(hD:D≠0):Wt (a,D) a D:=⟨rfl,hD,hD⟩
theorem Dg{p q:Int×Int}{a D b E:Int}(h:Wt p a D)(k:Wt q b E):FK p q=FQ.red (a*E+b*D) (D*E):=by
 unfold FK;refine FQ.red_eq (dE h.p2 k.p2) (dE h.d k.d) ?_
 calc (p.1*q.2+q.1*p.2)*(D*E)=(p.1*D)*(q.2*E)+(q.1*E)*(p.2*D):=by rw[gR];ac_rfl
  _=(a*p.2)*(q.2*E)+(b*q.2)*(p.2*D):=by rw[h.w,k.w]
  _=(a*E+b*D)*(p.2*q.2):=by rw[gR];ac_rfl
theorem CP{p q:Int×Int}{a D b E:Int}(h:Wt p a D)(k:Wt q b E):IW p q=FQ.red (a*E-b*D) (D*E):=by
 unfold IW;refine FQ.red_eq (dE h.p2 k.p2) (dE h.d k.d) ?_
 calc (p.1*q.2-q.1*p.2)*(D*E)=(p.1*D)*(q.2*E)-(q.1*E)*(p.2*D):=by rw[jM];ac_rfl
  _=(a*p.2)*(q.2*E)-(b*q.2)*(p.2*D):=by rw[h.w,k.w]
  _=(a*E-b*D)*(p.2*q.2):=by rw[jM];ac_rfl
theorem zH{p q:Int×Int}{a D b E:Int}(h:Wt p a D)(k:Wt q b E):IF p q=FQ.red (a*b) (D*E):=by
 unfold IF;refine FQ.red_eq (dE h.p2 k.p2) (dE h.d k.d) ?_
 calc (p.1*q.1)*(D*E)=(p.1*D)*(q.1*E):=by ac_rfl
  _=(a*p.2)*(b*q.2):=by rw[h.w,k.w]
  _=(a*b)*(p.2*q.2):=by ac_rfl
theorem Aa{a D c:Int}(hD:D≠0)(hc:c≠0):FQ.red (a*c) (D*c)=FQ.red a D:=FQ.red_eq (dE hD hc) hD (by ac_rfl)
theorem AI{T D m c:Int}(hD:D≠0)(hc:c≠0):FK (FQ.red T D) (FQ.red m (D*c))=FQ.red (T*c+m) (D*c):=by
 rw[Dg (uP hD) (uP (dE hD hc))];refine FQ.red_eq (dE hD (dE hD hc)) (dE hD hc) ?_;rw[gR,gR]
 congr 1 <;> ac_rfl
theorem xj{a b D c:Int}(hD:D≠0)(hc:c≠0):IW (FQ.red a D) (FQ.red b (D*c))=FQ.red (a*c-b) (D*c):=by
 rw[CP (uP hD) (uP (dE hD hc))];refine FQ.red_eq (dE hD (dE hD hc)) (dE hD hc) ?_;rw[jM,jM]
 congr 1 <;> ac_rfl
theorem sk{m D:Int}(hD:D≠0):FQ.red m D=(0,1)↔m=0:=by
 constructor
 ·intro h;have:=FQ.red_worth (t:=m) hD;rw[h]at this;simp at this;omega
 ·rintro rfl;exact uZ hD
theorem z6{m D:Int}(hD:D≠0):FQ.red m D=(1,1)↔m=D:=by
 constructor
 ·intro h;have:=FQ.red_worth (t:=m) hD;rw[h]at this;simp at this;omega
 ·rintro rfl;exact x3 hD
theorem BX{p q:Int×Int}{a D b E:Int}(h:Wt p a D)(k:Wt q b E)(hp:0<p.2)(hq:0<q.2)(hD:0<D)(hE:0<E):Eu p q=decide (a*E<b*D):=by
 have c:(p.1*q.2)*(D*E)=(a*E)*(p.2*q.2)/\(q.1*p.2)*(D*E)=(b*D)*(p.2*q.2):=by
  constructor
  ·calc (p.1*q.2)*(D*E)=(p.1*D)*(q.2*E):=by ac_rfl
    _=(a*p.2)*(q.2*E):=by rw[h.w]
    _=_:=by ac_rfl
  ·calc (q.1*p.2)*(D*E)=(q.1*E)*(p.2*D):=by ac_rfl
    _=(b*q.2)*(p.2*D):=by rw[k.w]
    _=_:=by ac_rfl
 have h1:0<D*E:=gS hD hE;have h2:0<p.2*q.2:=gS hp hq;unfold Eu;refine decide_eq_decide.mpr ⟨λz=>?_,λz=>?_⟩
 ·have:=fZ z h1;rw[c.1,c.2]at this;exact gI this (fj h2)
 ·have:=fZ z h2;rw[<-c.1,<-c.2]at this;exact gI this (fj h1)
theorem xz{a D b E:Int}(hD:0<D)(hE:0<E):Eu (FQ.red a D) (FQ.red b E)=decide (a*E<b*D):=
 BX (uP (by omega)) (uP (by omega)) (FQ.red_low (by omega)).pos (FQ.red_low (by omega)).pos hD hE
theorem tQ{a D:Int}{n:Nat}(hD:D≠0)(h1:a.natAbs<2^n)(h2:D.natAbs<2^n):Sz n (FQ.red a D):=by
 have s:=FQ.red_small (t:=a) hD;have p:=(FQ.red_low (t:=a) hD).pos;exact⟨eP s.1 h1,eP s.2 h2,by omega⟩
def Fi(ps:List (Int×Int)):Int×Int:=ps.foldl FK (0,1)
theorem ut(ps:List (Int×Int))(p:Int×Int):Fi (ps++[p])=FK (Fi ps) p:=by unfold Fi;rw[nI];rfl
theorem w9{D:Int}(hD:D≠0):∀(ms:List Int) (a:Int),(fr D ms).foldl FK (FQ.red a D)=FQ.red (a+ms.sum) D
 | [],a=>by simp[fr]
 | m::ms,a=>by
  show(fr D ms).foldl FK (FK (FQ.red a D) (FQ.red m D))=_
  rw[wt hD,w9 hD ms,eQ,mB]
theorem CF{D:Int}(hD:D≠0)(ms:List Int):Fi (fr D ms)=FQ.red ms.sum D:=by
 have:=w9 hD ms 0;rw[uZ hD,d3]at this;exact this
theorem Bc{m n:Nat}{x y:Int×Int}(hx:Sz m x)(hy:Sz n y):Sz (m+n+1) (FK x y):=by
 obtain⟨c,b,d⟩:=hx;obtain⟨f,a,e⟩:=hy;refine tQ (dE d e) (BV (u4 c a) (by rw[Nat.add_comm];exact u4 f b)) (vH (u4 b a) (by omega))
theorem xm:∀(k:Nat) {ps:List (Int×Int)},ps.length=k->(∀p∈ps,Sz 30 p)->Sz (31*k+1) (Fi ps)
 | 0,ps,hl,_=>by rw[ia hl];exact⟨by decide,by decide,by decide⟩
 | k+1,ps,hl,h=>by
  have a:ps≠[]:=λz=>by rw[z]at hl;cases hl
  have e:=jV a
  rw[<-e,ut]
  have h1:=xm k (ps:=ps.dropLast) (by rw[gQ];omega) λp hp=>h p (jN _ hp)
  have h2:=h _ (List.getLast_mem a)
  exact(Bc h1 h2).up (by omega)
theorem C1{ps:List (Int×Int)}(hl:ps.length<=60)(h:∀p∈ps,Sz 30 p):Sz 4000 (Fi ps):=(xm _ rfl h).up (by omega)
def IK(K:cu):Sp:=λvs H Q _=>∃(a:cG) (gs:List V) (ps:List (Int×Int)),vs=[.ref a]/\SqL K H a gs/\dr (IsF K H) gs ps/\(∀p∈ps,Sz 30 p)/\ps.length<=60/\∀v H',Same H H'->IsF K H' v (Fi ps)->Q v H'
def Er(s:Int×Int)(ps:List (Int×Int)):Int×Int:=ps.foldl (λs p=>if Eu p s=true then p else s) s
def GF(ps:List (Int×Int)):Int×Int:=Er (ps.headD (0,1)) ps
def Hm(K:cu):Sp:=λvs H Q _=>∃(a:cG) (gs:List V) (ps:List (Int×Int)),vs=[.ref a]/\SqL K H a gs/\dr (IsF K H) gs ps/\ps≠[]/\ps.length<=60/\(∀p∈ps,Sz 4000 p)/\∀v,IsF K H v (GF ps)->Q v H
open EM in
def Ex(D:Int)(ds ms:List Int)(t:Int):Int×Int:=FQ.red (at0 ms t) (D*cnt ds t)
open EM in
theorem tU{D:Int}{ds ms:List Int}(hD:0<D):∀(r:List Int) (s:Int),s∈ds->(∀t∈r,t∈ds)->Er (Ex D ds ms s) (r.map (Ex D ds ms))=Ex D ds ms (EY ds ms s r)
 | [],s,_,_=>rfl
 | t::r,s,hs,hr=>by
  have b:=hr t cM
  have a:∀u∈r,u∈ds:=λu h=>hr u (cO _ h)
  have f:0<D*cnt ds s:=gS hD (cnt_pos hs)
  have j:0<D*cnt ds t:=gS hD (cnt_pos b)
  have e:Eu (Ex D ds ms t) (Ex D ds ms s)=decide (at0 ms t*cnt ds s<at0 ms s*cnt ds t):=by
   unfold Ex
   rw[xz j f]
   refine decide_eq_decide.mpr ?_
   have d:at0 ms t*(D*cnt ds s)=(at0 ms t*cnt ds s)*D:=by ac_rfl
   have g:at0 ms s*(D*cnt ds t)=(at0 ms s*cnt ds t)*D:=by ac_rfl
   rw[d,g]
   exact⟨λz=>gI z (fj hD),λz=>fZ z hD⟩
  show Er (if Eu (Ex D ds ms t) (Ex D ds ms s)=true then Ex D ds ms t else Ex D ds ms s) (r.map (Ex D ds ms))=Ex D ds ms (EY ds ms (if at0 ms t*cnt ds s<at0 ms s*cnt ds t then t else s) r)
  rw[e]
  by_cases c:at0 ms t*cnt ds s<at0 ms s*cnt ds t
  ·rw[if_pos (decide_eq_true c),if_pos c]
   exact tU hD r t b a
  ·rw[if_neg (by simpa using c),if_neg c]
   exact tU hD r s hs a
theorem zd{D:Int}{ds ms:List Int}(hD:0<D)(hne:ds≠[]):GF (ds.map (Ex D ds ms))=Ex D ds ms (EM.pick ds ms):=by
 cases ds with
 | nil=>exact absurd rfl hne
 | cons a r=>exact tU (ds:=a::r) hD (a::r) a cM λ_ h=>h
def Jc(K:cu):Sp:=λvs H Q _=>∃(w l:cG) (row ms:List Int) (D:Int) (gs:List V),vs=[.ref w,.ref l]/\SqT K H w (row.map V.int)/\SqL K H l gs/\dr (IsF K H) gs (fr D ms)/\0<D/\
 (∀t∈row,0<=t/\t<ms.length)/\row.length<=63/\(∃t∈row,EM.at0 ms t≠0)/\∀H',Same H H'->Q (.int (EM.best ms row)) H'
def Je(K:cu):Sp:=λvs H Q _=>∃(d l:cG) (ds ms:List Int) (D:Int) (gs:List V),vs=[.ref d,.ref l]/\SqL K H d (ds.map V.int)/\SqL K H l gs/\dr (IsF K H) gs (fr D ms)/\0<D/\D<=262144/\ds≠[]/\ds.length<=6/\
 (∀t∈ds,0<=t/\t<ms.length)/\(∀m∈ms,0<=m/\m<=D)/\∀v H',Same H H'->IsF K H' v (Ex D ds ms (EM.pick ds ms))->Q v H'
def Ja(K:cu):Sp:=λvs H Q _=>∃(d l p:cG) (ds ms:List Int) (D c m:Int) (gs:List V),vs=[.ref d,.ref l,.ref p]/\SqL K H d (ds.map V.int)/\SqL K H l gs/\dr (IsF K H) gs (fr D ms)/\IsF K H (.ref p) (FQ.red m (D*c))/\
 0<D/\D<=262144/\0<c/\c<=6/\0<=m/\m<=D/\ds.length<=6/\ms.length<=6/\(∀m∈ms,0<=m/\m<=D)/\
 ∀q gs' H',Same H H'->H q=none->H' q=some (.lst gs')->dr (IsF K H') gs' (fr (D*c) ((LM.rng ms.length).map λj=>EM.at0 ms j*c-EM.cnt ds j*m))->Q (.ref q) H'
def IsC(K:cu)(P:cG)(H:Hp)(v:V)(c:EM.Course):Prop:=∃a l d g,v = .ref a/\SqT K H a [.ref l,.ref d,.ref g]/\IsF K H (.ref l) (FQ.red c.m c.D)/\H d=some (.lst (c.ds.map V.int))/\SqT K H g (c.gone.map V.int)/\d≠P
theorem IsC.mono{K:cu}{P:cG}{H H':Hp}{v:V}{c:EM.Course}(e:Same H H')(h:IsC K P H v c):IsC K P H' v c:=by
 obtain⟨a,l,d,g,rfl,h1,h2,h3,h4,h5⟩:=h;exact⟨a,l,d,g,rfl,e.tup h1,h2.mono e,e _ _ h3,e.tup h4,h5⟩
theorem IsC.over{K:cu}{P:cG}{H:Hp}{v:V}{c:EM.Course}{ys zs:List V}(h:IsC K P H v c)(hp:H P=some (.lst ys)):IsC K P (upd H P (.lst zs)) v c:=by
 obtain⟨a,l,d,g,rfl,h1,h2,h3,h4,h5⟩:=h;exact⟨a,l,d,g,rfl,uw h1 hp,h2.over hp,by rw[rG h5];exact h3,uw h4 hp,h5⟩
def EK(W:List (List Int))(n N:Nat):List EM.Course:=(db N).map λi=>EM.cs W (EM.st W n i)
theorem zt{W:List (List Int)}{n N i:Nat}{c:EM.Course}(h:(EK W n N)[i]?=some c):i<N/\c=EM.cs W (EM.st W n i):=by
 unfold EK at h;rw[cH]at h;by_cases a:i<N
 ·rw[d9 a]at h;exact⟨a,(Option.some.inj h).symm⟩
 ·rw[gg (by rw[e9];omega)]at h
  cases h
def Hb(K:cu):Sp:=λvs H Q _=>∃(a:cG) (ws:List V) (W:List (List Int)) (n:Nat),vs=[.ref a]/\SqL K H a ws/\dr (IsR K H) ws W/\EM.Ws n W/\
 ∀p cs N H',Same H H'->H p=none->H' p=some (.lst cs)->EM.Stops W n N->dr (IsC K p H') cs (EK W n N)->Q (.ref p) H'
def Hg(K:cu):Sp:=λvs H Q _=>∃(c:cG) (cs:List V) (W:List (List Int)) (n N p:Nat) (t:Int),vs=[.ref c,.int p,.int t]/\H c=some (.lst cs)/\EM.Ws n W/\EM.Upto W n N/\dr (IsC K c H) cs (EK W n N)/\p<n/\
 ∀v H',Same H H'->IsF K H' v (FQ.red (EM.et W n N p t) (EM.st W n N).D)->Q v H'
def Fc(W:List (List Int))(n N p:Nat):List Int:=(LM.rng n).map (EM.et W n N p)
def Ez(W:List (List Int))(n N:Nat):List (List Int):=(db n).map (Fc W n N)
def Ha(K:cu):Sp:=λvs H Q _=>∃(c:cG) (cs:List V) (W:List (List Int)) (n N p:Nat),vs=[.ref c,.int p,.int n]/\H c=some (.lst cs)/\EM.Ws n W/\EM.Upto W n N/\dr (IsC K c H) cs (EK W n N)/\p<n/\
 ∀v H',Same H H'->RwFT K H' (EM.st W n N).D v (Fc W n N p)->Q v H'
def Hs(K:cu):Sp:=λvs H Q _=>∃(a:cG) (ws:List V) (W:List (List Int)) (n:Nat),vs=[.ref a]/\SqL K H a ws/\dr (IsR K H) ws W/\EM.Ws n W/\
 ∀p us N H',Same H H'->H p=none->H' p=some (.lst us)->EM.Stops W n N->dr (RwFT K H' (EM.st W n N).D) us (Ez W n N)->Q (.ref p) H'
theorem wM(t:Int):∀G:List Int,Ju (.int t) (G.map V.int)=decide (t∈G)
 | []=>by simp[Ju]
 | x::G=>by
  have a:=wM t G
  unfold Ju at a ⊢
  rw[dN,gW,a]
  by_cases h1:x=t
  ·subst h1;simp[Jt]
  ·by_cases h2:t∈G
   ·simp[h2]
   ·have h3:t≠x:=λz=>h1 z.symm
    simp[Jt,h1,h2,h3]
theorem vp(G:List Int):(G.map V.int).all FF=true:=by
 rw[dZ];intro v a;obtain⟨i,_,rfl⟩:=dv.mp a;rfl
theorem wg{α β:Type}{F:α->β->Prop}{x:α}{y:β}:∀{xs:List α} {ys:List β} {k:Nat},dr F xs ys->F x y->dr F (xs.set k x) (ys.set k y)
 | _,_,_,.nil,_=> .nil
 | _,_,0,.cons _ t,h=> .cons h t
 | _,_,k+1,.cons r t,h=> .cons r (wg t h)
theorem Ak{D:Int}{m:List Int}{k:Nat}(h:k<m.length):(fr D m)[k]?=some (FQ.red (m.getD k 0) D):=by
 unfold fr;rw[cH,cC,cz h];rfl
abbrev Jv:=Int×List Int
def cw(Ls:List Jv)(i:Nat):Int:=((Ls.take i).map Prod.fst).sum
theorem cw_succ{Ls:List Jv}{i:Nat}{l:Jv}(h:Ls[i]?=some l):cw Ls (i+1)=cw Ls i+l.1:=by
 unfold cw;rw[cY,h,cS,oC];simp
structure LotsOk(n:Nat)(Ls:List Jv)(T:Int):Prop where
 tot:cw Ls Ls.length=T
 w1:∀l∈Ls,1<=l.1
 w2:∀l∈Ls,l.1<=1000000000000
 ne:1<=Ls.length
 le:Ls.length<=40
 dl:∀l∈Ls,l.2.length=n
section
variable{n:Nat}{Ls:List Jv}{T:Int}
theorem LotsOk.up(h:LotsOk n Ls T){i:Nat}(hi:i<Ls.length):cw Ls i<cw Ls (i+1)/\cw Ls (i+1)=cw Ls i+(Ls[i]).1:=by
 have e:=cw_succ (cz hi);have:=h.w1 _ (cW hi);omega
theorem LotsOk.mono(h:LotsOk n Ls T){i:Nat}:∀k,i+k<=Ls.length->cw Ls i<=cw Ls (i+k)
 | 0,_=>fC _
 | k+1,hk=>by
  have h1:=h.mono (i:=i) k (by omega)
  have h2:=(h.up (i:=i+k) (by omega)).1
  rw[<-mC]
  omega
theorem LotsOk.mono'(h:LotsOk n Ls T){i j:Nat}(hij:i<=j)(hj:j<=Ls.length):cw Ls i<=cw Ls j:=by
 have:=h.mono (i:=i) (j-i) (by omega);rw[show i+(j-i)=j by omega]at this;exact this
theorem cw_zero(Ls:List Jv):cw Ls 0=0:=rfl
theorem LotsOk.bd(h:LotsOk n Ls T){i:Nat}(hi:i<=Ls.length):0<=cw Ls i/\cw Ls i<=T:=by
 have h1:=h.mono' (du i) hi;have h2:=h.mono' hi (cI _);rw[cw_zero]at h1;rw[h.tot]at h2;exact⟨h1,h2⟩
theorem LotsOk.cwle(h:LotsOk n Ls T):∀i,i<=Ls.length->cw Ls i<=i*1000000000000
 | 0,_=>by rw[cw_zero];simp
 | i+1,hi=>by
  have h1:=h.cwle i (by omega)
  have h2:=(h.up (i:=i) (by omega)).2
  have h3:=h.w2 _ (cW (show i<Ls.length by omega))
  rw[h2]
  push_cast
  omega
theorem LotsOk.T0(h:LotsOk n Ls T):0<T/\T<2^80:=by
 have h1:=(h.up (i:=0) (by have:=h.ne;omega)).1;have h2:=h.bd (i:=1) h.ne;rw[cw_zero,nJ]at h1;have h3:=h.cwle Ls.length (cI _);rw[h.tot]at h3;have h4:=h.le;have:(Ls.length:Int)*1000000000000<=40*1000000000000:=eZ (by omega) (by decide);constructor <;> omega
end
structure First(Ls:List Jv)(T:Int)(p:Int×Int)(i:Nat):Prop where
 lt:i<Ls.length
 yes:Eu p (FQ.red (cw Ls (i+1)) T)=true
 no:∀j,j<i->Eu p (FQ.red (cw Ls (j+1)) T)=false
theorem First.uniq{Ls:List Jv}{T:Int}{p:Int×Int}{i j:Nat}(h:First Ls T p i)(h':First Ls T p j):i=j:=by
 rcases iD i j with z|z|z
 ·have:=h'.no i z;rw[h.yes]at this;cases this
 ·exact z
 ·have:=h.no j z;rw[h'.yes]at this;cases this
def IsLot(K:cu)(H:Hp)(T:Int)(v:V)(l:Jv):Prop:=∃a f g,v = .ref a/\SqT K H a [.ref f,.ref g]/\IsF K H (.ref f) (FQ.red l.1 T)/\SqT K H g (l.2.map V.int)
theorem IsLot.mono{K:cu}{H H':Hp}{T:Int}{v:V}{l:Jv}(e:Same H H')(h:IsLot K H T v l):IsLot K H' T v l:=by
 obtain⟨a,f,g,rfl,h1,h2,h3⟩:=h;exact⟨a,f,g,rfl,e.tup h1,h2.mono e,e.tup h3⟩
def EL(p:Int×Int):Prop:=Eu p (0,1)=true\/Eu p (1,1)=false
def GH(K:cu)(x:Xs):Sp:=λvs H Q E=>∃(L m:cG) (ls:List V) (Ls:List Jv) (T:Int) (n:Nat) (p:Int×Int),vs=[.ref L,.ref m]/\SqL K H L ls/\dr (IsLot K H T) ls Ls/\LotsOk n Ls T/\IsF K H (.ref m) p/\Sz 2000 p/\0<p.2/\
 (EL p->E (.ref x.NoPick) none H)/\(¬EL p->∀i v H',First Ls T p i->Same H H'->IsR K H' v (Ls.getD i (0,[])).2->Q v H')
theorem uN{prog:cT}{w:dc}{A:dw}{E:cA->cD->Prop}{s:cD}{it l:cG}{i:Nat}{items:Array cA}{x:cA}{Q:cA->cD->Prop}(hit:s.heap.IsTupleIter it l i)(hl:s.heap.IsTuple l items)(hx:items[i]?=some x)
  (hQ:∀h':Heap,h'.IsTupleIter it l (i+1)->fI it s.heap h'->Q x {s with heap:=h'}):wpAny (model prog w) A (d4 (.ref it)) Q E s:=by
 obtain⟨o,b,e,a⟩:=id hit
 obtain⟨g,d,f,h,c⟩:=hl
 unfold d4
 refine cr (ef (h8 hit) gJ (dR gJ (h8 hit) j4 ?_ (jW _)))
 refine cr (cv ?_)
 refine cr (eB b a rfl ?_)
 refine cP rfl ?_
 refine cr (eB b a rfl ?_)
 refine cr (fP d c ?_)
 dsimp only
 rw[show items[((i:Nat):Int).toNat]?=some x from hx]
 refine cr (gq b a (by simp) ?_)
 refine cv ⟨x,rfl,cv (hQ _ ⟨_,eH _ b (Obj.isFreed_of_fields (mU a _)),(Obj.cls_mapFields o _).trans e,?_⟩ (eV _ _ _))⟩
 rw[mU a]
 rfl
theorem uW{prog:cT}{w:dc}{A:dw}{E:cA->cD->Prop}{s:cD}{it l:cG}{i:Nat}{items:Array cA}{Q:cA->cD->Prop}(hh:A.handled=none)(hit:s.heap.IsTupleIter it l i)(hl:s.heap.IsTuple l items)(hx:items[i]?=none)
  (hE:∀(h':Heap) (e:cG),qE it s.heap h'->(∃o,h'.get? e=some o/\o.cls = .type "StopIteration")->E (.ref e) {s with heap:=h'}):wpAny (model prog w) A (d4 (.ref it)) Q E s:=by
 obtain⟨o,a,g,b⟩:=id hit
 obtain⟨h,d,f,j,c⟩:=hl
 unfold d4
 refine cr (ef (h8 hit) gJ (dR gJ (h8 hit) j4 ?_ (jW _)))
 refine cr (cv ?_)
 refine cr (eB a b rfl ?_)
 refine cP rfl ?_
 refine cr (eB a b rfl ?_)
 refine cr (fP d c ?_)
 dsimp only
 rw[show items[((i:Nat):Int).toNat]?=none from hx]
 refine cr (iQ (cr (gq a b (by simp) ?_)))
 unfold nK newExc raiseNew
 refine cr (cr (iT ?_ (by show(0:Nat)<=sizeLine;decide)))
 refine cr (fM rfl (e7 ?_ ?_))
 ·refine cr (kP ?_)
  rw[show A.in1.handled=none from hh]
  refine md ?_
  exact hE _ _ (((eV _ _ _).extBut.push _).push _) ⟨_,cN _ rfl,rfl⟩
 ·exact lb _ _ _ _ _ _ _ _
theorem x4{prog:cT}{w:dc}{A:dw}(hh:A.handled=none)(it l:cG)(hl:l≠it)(items:Array cA):Draws prog w A it [it,l] items.size (λi v=>items[i]?=some v) (λi h=>h.IsTupleIter it l i/\h.IsTuple l items) where
 live:=λi h st=>by obtain⟨⟨o,f,_⟩,_⟩:=st;exact⟨o,f⟩
 frame:=λi h g st k=>by
  obtain⟨b,o,a,r⟩:=st
  exact⟨b.at λo q=>k it (by simp) o q,o,k l (by simp) o a,r⟩
 item:=λi s Q E c st h=>by
  obtain⟨b,a⟩:=st
  refine uN b a (x:=items[i]) (by simp[c]) λg e d=>h _ _ s.toks (by simp[c]) ⟨e,?_⟩ d
  obtain⟨o,q,r⟩:=a
  exact⟨o,(d.2 l hl).trans q,r⟩
 done:=λs Q E st h=>by
  obtain⟨b,a⟩:=st
  exact uW hh b a (by simp) h
structure JZ(z TI TO i1 i2:cG)(fp1 fp2:List cG):Prop where
 TIz:TI≠z
 TOz:TO≠z
 i1z:i1≠z
 i2z:i2≠z
 TITO:TI≠TO
 TIi1:TI≠i1
 TIi2:TI≠i2
 TOi1:TO≠i1
 TOi2:TO≠i2
 i12:i1≠i2
 z1:z∉fp1
 T1:TO∉fp1
 i21:i2∉fp1
 z2:z∉fp2
 T2:TO∉fp2
 i12':i1∉fp2
theorem yx{prog:cT}{w:dc}{A:dw}{E:cA->cD->Prop}{s:cD}{z TI TO i1 i2:cG}{fp1 fp2:List cG}{n1 n2 k1 k2:Nat}{P1 P2:Nat->cA->Prop}{St1 St2:Nat->Heap->Prop}{a b:cA}{Q:cA->cD->Prop}
  (D1:Draws prog w A i1 fp1 n1 P1 St1)(D2:Draws prog w A i2 fp2 n2 P2 St2)(ap:JZ z TI TO i1 i2 fp1 fp2)(hz:IsZip s.heap z TI TO .none)(hTI:IsPair s.heap TI (.ref i1) (.ref i2))(hTO:IsPair s.heap TO a b)
  (s1:St1 k1 s.heap)(s2:St2 k2 s.heap)(hk1:k1<n1)(hk2:k2<n2)
  (hQ:∀(x y:cA) (h':Heap) (tk:Nat),P1 k1 x->P2 k2 y->IsZip h' z TI TO (rawInt s.heap.objs.size)->IsPair h' TO x y->St1 (k1+1) h'->St2 (k2+1) h'->IsPair h' s.heap.objs.size x y->h'.objs.size=s.heap.objs.size+1->
   (∀c o,c≠z->c≠TO->c≠i1->c≠i2->s.heap.get? c=some o->h'.get? c=some o)->Q (.ref s.heap.objs.size) {s with heap:=h',toks:=tk}):
  wpAny (model prog w) A (Builtin.«zip.__next__» {pos:=[.ref z]}) (λfin s'=>∃v,fin=qF (qG v)/\Q v s') E s:=by
 unfold Builtin.«zip.__next__»
 refine cr (cv ?_)
 refine cr (eB hz rfl rfl ?_)
 refine cr (eB hz rfl rfl ?_)
 refine cr (fP hTI rfl ?_)
 refine cP rfl ?_
 unfold fQ
 refine cr (cr (eB hz rfl rfl (cv ?_)))
 refine cr (iQ (cr (eB hz rfl rfl ?_)))
 refine cr (eR hz (by simp) λh1 T h=>?_)
 rw[show #[cR i1,cR i2].toList.zipIdx=[(cR i1,0),(cR i2,1)]from rfl,eg,bind_assoc]
 have H:IsPair h1 TO a b:=(h.2 TO ap.TOz).trans hTO
 have X:St1 k1 h1:=D1.frame _ _ _ s1 λc d o q=>(h.2 c (λe=>ap.z1 (e▸d))).trans q
 have V:St2 k2 h1:=D2.frame _ _ _ s2 λc d o q=>(h.2 c (λe=>ap.z2 (e▸d))).trans q
 refine cr (cr (mE ?_))
 refine(show wpAny (model prog w) A (if(eo false==eo true)=true then fA (.ref i1)else do let x<-d4 (.ref i1);pure (some x)) _ _ _ from cP rfl (cr (D1.item k1 _ _ _ hk1 X λx h2 aa px W l=>cv ?_)))
 have n:IsPair h2 TO a b:=(l.2 TO ap.TOi1).trans H
 refine cr (fP n rfl ?_)
 refine cr (me n λh3 F k=>?_)
 refine cr (kD (cv ?_))
 dsimp only
 have B:IsPair h3 TO x b:=F
 have N:St1 (k1+1) h3:=D1.frame _ _ _ W λc d o q=>(k.2 c (λe=>ap.T1 (e▸d))).trans q
 have S:St2 k2 h3:=D2.frame _ _ _ V λc d o q=>(k.2 c (λe=>ap.T2 (e▸d))).trans ((l.2 c (λe=>ap.i12' (e▸d))).trans q)
 rw[eg,bind_assoc]
 refine cr (cr (mE ?_))
 refine(show wpAny (model prog w) A (if(eo false==eo true)=true then fA (.ref i2)else do let x<-d4 (.ref i2);pure (some x)) _ _ _ from cP rfl (cr (D2.item k2 _ _ _ hk2 S λy h4 Y Z O j=>cv ?_)))
 have r:IsPair h4 TO x b:=(j.2 TO ap.TOi2).trans B
 refine cr (fP r rfl ?_)
 refine cr (me r λh5 G g=>?_)
 refine cr (kD (cv ?_))
 dsimp only
 have m:IsPair h5 TO x y:=G
 rw[gp]
 refine cr (cv ?_)
 refine cr (fP m rfl ?_)
 refine cr (iT ?_ (by show 2<=sizeLine;decide))
 have C:h5.get? z=some {cls:=dL "zip",data:=lX #[Value.ellipsis,eo false,eo false,cR TI,cR TO]}:=
  (g.2 z (Ne.symm ap.TOz)).trans ((j.2 z (Ne.symm ap.i2z)).trans ((k.2 z (Ne.symm ap.TOz)).trans ((l.2 z (Ne.symm ap.i1z)).trans T)))
 unfold mq
 dsimp only
 have I:=cF (o:={cls:=dL "tuple",data:=iK [x,y].toArray}) C
 refine cr (cr (eR I (by simp) λh7 M t=>?_))
 refine eR M (by simp) λR U p=>?_
 have u:h5.objs.size=s.heap.objs.size:=by rw[g.1,j.1,k.1,l.1,h.1]
 have D:(h5.push {cls:=dL "tuple",data:=iK [x,y].toArray}).get? h5.objs.size=some {cls:=dL "tuple",data:=iK [x,y].toArray}:=cN _ rfl
 have nz:h5.objs.size≠z:=Ne.symm (df (cQ C))
 have L:St1 (k1+1) h5:=D1.frame _ _ _ N λc d o q=>(g.2 c (λe=>ap.T1 (e▸d))).trans ((j.2 c (λe=>ap.i21 (e▸d))).trans q)
 have J:St2 (k2+1) h5:=D2.frame _ _ _ O λc d o q=>(g.2 c (λe=>ap.T2 (e▸d))).trans q
 have f:∀c o,c≠z->h5.get? c=some o->R.get? c=some o:=λc o d q=>(p.2 c d).trans ((t.2 c d).trans (cF _ q))
 refine cv ⟨_,rfl,?_⟩
 dsimp only
 rw[u]
 refine hQ x y R Y px Z ?_ (f TO _ ap.TOz m) (D1.frame _ _ _ L λc d o q=>f c o (λe=>ap.z1 (e▸d)) q) (D2.frame _ _ _ J λc d o q=>f c o (λe=>ap.z2 (e▸d)) q) ?_ ?_ (λc o K P c3 c4 q=>?_)
 ·rw[<-u];exact U
 ·rw[<-u];exact(p.2 _ nz).trans ((t.2 _ nz).trans D)
 ·rw[p.1,t.1]
  show(h5.push _).objs.size=_
  unfold k9
  simp[u]
 ·exact f c o K ((g.2 c P).trans ((j.2 c c4).trans ((k.2 c P).trans ((l.2 c c3).trans ((h.2 c K).trans q)))))
theorem t7{prog:cT}{w:dc}{A:dw}{E:cA->cD->Prop}{s:cD}{z:cG}{Q:Option cA->cD->Prop}(ht:s.TypeIs (.ref z) "zip")
  (h:wpAny (model prog w) A.in1 (Builtin.«zip.__next__» {pos:=[.ref z]}) (λfin s'=>∃v,fin=qF (qG v)/\Q (some v) s') (λe s'=>(∃a o,e = .ref a/\s'.heap.get? a=some o/\o.cls = .type "StopIteration")/\Q none s') s):
  wpAny (model prog w) A (pyNext (.ref z)) Q E s:=by
 unfold pyNext
 refine cr (ix (ef ht oD (dR oD ht F.entry_zip_next ?_ (F.args_zip_next_1 _))))
 refine gh h (λfin s' b=>?_) (λe s' b=>?_)
 ·obtain⟨v,e,q⟩:=b
  exact⟨v,e,cv q⟩
 ·obtain⟨⟨a,o,rfl,d,c⟩,q⟩:=b
  refine cr (eF (T:="StopIteration") ⟨o,d,c⟩ ki ?_)
  exact cv q
theorem AU{prog:cT}{w:dc}{A:dw}{E:cA->cD->Prop}{s:cD}{z TI TO i1 i2:cG}{fp1:List cG}{n1:Nat}{P1:Nat->cA->Prop}{St1:Nat->Heap->Prop}{a b:cA}{Q:PySem.Fin->cD->Prop}
  (D1:Draws prog w A i1 fp1 n1 P1 St1)(i1z:i1≠z)(z1:z∉fp1)(hz:IsZip s.heap z TI TO .none)(hTI:IsPair s.heap TI (.ref i1) (.ref i2))(hTO:IsPair s.heap TO a b)(s1:St1 n1 s.heap)
  (hE:∀(h':Heap) (e:cG),(∀c o,c≠z->c≠i1->s.heap.get? c=some o->h'.get? c=some o)->(∃o,h'.get? e=some o/\o.cls = .type "StopIteration")->E (.ref e) {s with heap:=h'}):
  wpAny (model prog w) A (Builtin.«zip.__next__» {pos:=[.ref z]}) Q E s:=by
 unfold Builtin.«zip.__next__»
 refine cr (cv ?_)
 refine cr (eB hz rfl rfl ?_)
 refine cr (eB hz rfl rfl ?_)
 refine cr (fP hTI rfl ?_)
 refine cP rfl ?_
 unfold fQ
 refine cr (cr (eB hz rfl rfl (cv ?_)))
 refine cr (iQ (cr (eB hz rfl rfl ?_)))
 refine cr (eR hz (by simp) λh1 n g=>?_)
 rw[show #[cR i1,cR i2].toList.zipIdx=[(cR i1,0),(cR i2,1)]from rfl,eg,bind_assoc]
 have p:St1 n1 h1:=D1.frame _ _ _ s1 λc f o q=>(g.2 c (λe=>z1 (e▸f))).trans q
 refine cr (cr (mE ?_))
 refine(show wpAny (model prog w) A (if(eo false==eo true)=true then fA (.ref i1)else do let x<-d4 (.ref i1);pure (some x)) _ _ _ from cP rfl (cr (D1.done _ _ _ p λh2 e j d=>?_)))
 have h:h2.get? z=some _:=j z _ (Ne.symm i1z) n
 refine eR h (by simp) λh3 t k=>?_
 obtain⟨o,d,f⟩:=d
 have m:e≠z:=λq=>by
  rw[q,h]at d
  cases d
  exact absurd (dL.inj f) (by decide)
 exact hE h3 e (λc o l r q=>(k.2 c l).trans (j c o r ((g.2 c l).trans q))) ⟨o,(k.2 e m).trans d,f⟩
def Sqx(h:Heap)(tp:Bool)(l:cG)(items:Array cA):Prop:=if tp=true then h.IsTuple l items else h.IsList l items
def Itx(h:Heap)(tp:Bool)(it l:cG)(i:Nat):Prop:=if tp=true then h.IsTupleIter it l i else h.IsListIter it l i
def FW(tp:Bool)(l:cG):Obj:={cls:= .type (if tp=true then"tuple_iterator"else"list_iterator"),data:= .fields #[.ref l,.int 0 0]}
theorem v8{prog:cT}{w:dc}{A:dw}{E:cA->cD->Prop}{s:cD}{tp:Bool}{l:cG}{items:Array cA}{Q:cA->cD->Prop}(h:Sqx s.heap tp l items)(hQ:Q (.ref s.heap.objs.size) {s with heap:=s.heap.push (FW tp l)}):wpAny (model prog w) A (pyIter (.ref l)) Q E s:=by
 cases tp with
 | true=>exact mK h hQ
 | false=>exact iB h hQ
theorem Sqx.keep{h h':Heap}{tp:Bool}{l:cG}{items:Array cA}(q:Sqx h tp l items)(k:∀o,h.get? l=some o->h'.get? l=some o):Sqx h' tp l items:=by
 cases tp with
 | true=>obtain⟨o,a,r⟩:=(show h.IsTuple l items from q);exact⟨o,k o a,r⟩
 | false=>obtain⟨o,a,r⟩:=(show h.IsList l items from q);exact⟨o,k o a,r⟩
theorem Sqx.lt{h:Heap}{tp:Bool}{l:cG}{items:Array cA}(q:Sqx h tp l items):l<h.objs.size:=by
 cases tp with
 | true=>obtain⟨o,a,r⟩:=(show h.IsTuple l items from q);exact cQ a
 | false=>obtain⟨o,a,r⟩:=(show h.IsList l items from q);exact cQ a
theorem Itx.new{h:Heap}{tp:Bool}{it l:cG}(e:h.get? it=some (FW tp l)):Itx h tp it l 0:=by
 cases tp with
 | true=>exact⟨_,e,rfl,rfl⟩
 | false=>exact⟨_,e,rfl,rfl⟩
theorem Itx.keep{h h':Heap}{tp:Bool}{it l:cG}{i:Nat}(q:Itx h tp it l i)(k:∀o,h.get? it=some o->h'.get? it=some o):Itx h' tp it l i:=by
 cases tp with
 | true=>exact Heap.IsTupleIter.at q k
 | false=>exact Heap.IsListIter.at q k
theorem Itx.get{h:Heap}{tp:Bool}{it l:cG}{i:Nat}(q:Itx h tp it l i):∃vs n,h.get? it=some {cls:= .type n,data:= .fields vs}\/∃o,h.get? it=some o/\o.data = .fields vs:=by
 cases tp with
 | true=>obtain⟨o,e,c,d⟩:=(show h.IsTupleIter it l i from q);exact⟨_,"",.inr ⟨o,e,d⟩⟩
 | false=>obtain⟨o,e,c,d⟩:=(show h.IsListIter it l i from q);exact⟨_,"",.inr ⟨o,e,d⟩⟩
theorem tZ{prog:cT}{w:dc}{A:dw}(hh:A.handled=none)(tp:Bool)(it l:cG)(hl:l≠it)(items:Array cA):Draws prog w A it [it,l] items.size (λi v=>items[i]?=some v) (λi h=>Itx h tp it l i/\Sqx h tp l items):=by
 cases tp with
 | true=>exact x4 hh it l hl items
 | false=>exact Draws.list hh it l hl items
theorem zy(l1 l2:cG)(t1 t2:Bool)(xs ys:Array cA):Meets (Builtin.«zip.__new__» {pos:=[.type "zip",.ref l1,.ref l2]}) (λ_ R s=>Sqx s.heap t1 l1 xs/\Sqx s.heap t2 l2 ys/\
  R (.ok (.ret (.ref (s.heap.objs.size+4)))) {s with heap:=((((s.heap.push (FW t1 l1)).push (FW t2 l2)).push {cls:= .type "tuple",data:= .seq #[.ref s.heap.objs.size,.ref (s.heap.objs.size+1)]}).push {cls:= .type "tuple",data:= .seq #[.none,.none]}).push {cls:= .type "zip",data:= .fields #[.none,.bool false,.bool false,.ref (s.heap.objs.size+2),.ref (s.heap.objs.size+3)]}}):=by
 refine Meets.of_wp λe w A R s h=>?_
 obtain⟨h1,h2,d⟩:=h
 have a:=sub_zip
 unfold Builtin.«zip.__new__» oI
 refine cr (cr (cv ?_))
 refine cP rfl (cr (fM a (cP rfl (cv ?_))))
 refine cP rfl ?_
 unfold oY
 dsimp only
 rw[eg]
 refine cr (cr (cr (cr (dG (v8 h1 (cv ?_))))))
 dsimp only
 rw[eg]
 have b:Sqx (s.heap.push (FW t1 l1)) t2 l2 ys:=h2.keep λo q=>cF _ q
 refine cr (cr (dG (v8 (s:={s with heap:=s.heap.push (FW t1 l1)}) b (cv ?_))))
 dsimp only
 rw[gp]
 have c:∀(h:Heap) (o:Obj),(h.push o).objs.size=h.objs.size+1:=λh o=>by unfold k9;simp
 refine cv (cv ?_)
 refine cr (iT ?_ (by show 2<=sizeLine;decide))
 refine cr (iT ?_ (by show 2<=sizeLine;decide))
 unfold oE
 refine cr (e7 ?_ (by show(5:Nat)<=sizeLine+2;decide))
 refine cv ⟨_,rfl,?_⟩
 simp only[c]
 exact d
def Jf(K:cu)(H:Hp)(tp:Bool)(a:cG)(xs:List V):Prop:=if tp=true then SqT K H a xs else SqL K H a xs
structure ZipB(z TI TO i1 i2 l1 l2:cG):Prop where
 TIz:TI≠z
 TOz:TO≠z
 i1z:i1≠z
 i2z:i2≠z
 TITO:TI≠TO
 TIi1:TI≠i1
 TIi2:TI≠i2
 TOi1:TO≠i1
 TOi2:TO≠i2
 i12:i1≠i2
 l1z:l1≠z
 l1T:l1≠TO
 l1i:l1≠i1
 l1j:l1≠i2
 l2z:l2≠z
 l2T:l2≠TO
 l2i:l2≠i1
 l2j:l2≠i2
theorem ZipB.a{z TI TO i1 i2 l1 l2:cG}(b:ZipB z TI TO i1 i2 l1 l2):JZ z TI TO i1 i2 [i1,l1] [i2,l2]:=
 ⟨b.TIz,b.TOz,b.i1z,b.i2z,b.TITO,b.TIi1,b.TIi2,b.TOi1,b.TOi2,b.i12,by simp[Ne.symm b.i1z,Ne.symm b.l1z],by simp[b.TOi1,Ne.symm b.l1T],by simp[Ne.symm b.i12,Ne.symm b.l1j],by simp[Ne.symm b.i2z,Ne.symm b.l2z],by simp[b.TOi2,Ne.symm b.l2T],by simp[b.i12,Ne.symm b.l2i]⟩
section
variable{X:Cx}{pins:List (cG×Obj)}{σ:St}{H:Hp}{s:cD}
theorem Inv.sqx(I:Inv X pins σ H s){tp:Bool}{a:cG}{xs:List V}(h:Jf X.K H tp a xs):∃its:List cA,Vals xs its/\Sqx s.heap tp a its.toArray:=by
 cases tp with
 | true=>obtain⟨its,r,p,_⟩:=I.tuple h;exact⟨its,r,p⟩
 | false=>obtain⟨its,r,p,_⟩:=I.list h;exact⟨its,r,p.isList⟩
theorem Inv.sqb_inj(I:Inv X pins σ H s){tp:Bool}{a:cG}{xs ys:List V}(h:Jf X.K H tp a xs)(h':Jf X.K H tp a ys):xs=ys:=by
 cases tp with
 | true=>exact I.tuple_inj h h'
 | false=>exact I.list_inj h h'
end
def Mp(K:cu)(t1 t2:Bool)(a b:cG):It:=
 ⟨λi H=>∃xs ys x y,Jf K H t1 a xs/\Jf K H t2 b ys/\xs[i]?=some x/\ys[i]?=some y,
  λi H v H'=>∃x y t,(∀xs,Jf K H t1 a xs->xs[i]?=some x)/\(∀ys,Jf K H t2 b ys->ys[i]?=some y)/\v = .ref t/\H t=none/\H'=upd H t (.tup [x,y]),
  λi H=>∃xs,Jf K H t1 a xs/\xs.length=i⟩
theorem Bv{P:cT}{w:dc}{K:cu}{elts:List Expr}{x1:Nat}{pos:Pos}(t1 t2:Bool)(l1 l2 z TI TO i1 i2:cG)(ap:ZipB z TI TO i1 i2 l1 l2):
  Iz P w K (.Tuple elts x1 pos) (Mp K t1 t2 l1 l2) [z,TI,TO,i1,i2] z (λi h=>IsZip h z TI TO .none/\IsPair h TI (.ref i1) (.ref i2)/\(∃a b,IsPair h TO a b)/\Itx h t1 i1 l1 i/\Itx h t2 i2 l2 i) where
 mem:=by simp
 obj:=λi h st b f=>by
  obtain⟨j,p,⟨a,c,r⟩,m,t⟩:=st
  simp only[cZ,g9,or_false]at f
  rcases f with rfl|rfl|rfl|rfl|rfl
  ·exact⟨_,j,λv z=>by cases z⟩
  ·exact⟨_,p,λv z=>by cases z⟩
  ·exact⟨_,r,λv z=>by cases z⟩
  ·cases t1 with
   | true=>obtain⟨o,e,_,d⟩:=(show h.IsTupleIter _ _ _ from m);exact⟨o,e,λv z=>by rw[d]at z;cases z⟩
   | false=>obtain⟨o,e,_,d⟩:=(show h.IsListIter _ _ _ from m);exact⟨o,e,λv z=>by rw[d]at z;cases z⟩
  ·cases t2 with
   | true=>obtain⟨o,e,_,d⟩:=(show h.IsTupleIter _ _ _ from t);exact⟨o,e,λv z=>by rw[d]at z;cases z⟩
   | false=>obtain⟨o,e,_,d⟩:=(show h.IsListIter _ _ _ from t);exact⟨o,e,λv z=>by rw[d]at z;cases z⟩
 keep:=λi h F st k=>by
  obtain⟨j,p,⟨a,c,r⟩,m,t⟩:=st
  exact⟨k z (by simp) _ j,k TI (by simp) _ p,⟨a,c,k TO (by simp) _ r⟩,m.keep λo q=>k i1 (by simp) o q,t.keep λo q=>k i2 (by simp) o q⟩
 item:=by
  intro X U hw hK hc i l s R H E I hf st hg
  subst U hw hK
  obtain⟨xs,ys,x,y,D,S,hx,hy⟩:=hg
  obtain⟨g,G,V⟩:=I.sqx D
  obtain⟨C,ab,p2⟩:=I.sqx S
  obtain⟨u,hu,ru⟩:=G.get hx
  obtain⟨v,hv,rv⟩:=ab.get hy
  obtain⟨j,p,⟨a,c,r⟩,m,t⟩:=st
  have Q:=I.ok.hd hc
  have aj:i<g.toArray.size:=by rw[cX];exact(cL.mp hu).1
  have ai:i<C.toArray.size:=by rw[cX];exact(cL.mp hv).1
  refine t7 ⟨_,j,rfl⟩ (yx (tZ (A:=X.A.in1) Q t1 i1 l1 ap.l1i g.toArray) (tZ (A:=X.A.in1) Q t2 i2 l2 ap.l2j C.toArray) ap.a j p r ⟨m,V⟩ ⟨t,p2⟩ aj ai λM J F tk px py ad aa ae ag Y am O=>?_)
  have ex:M=u:=by
   have:g.toArray[i]?=some M:=px
   rw[jC,hu]at this
   exact(Option.some.inj this).symm
  have ey:J=v:=by
   have:C.toArray[i]?=some J:=py
   rw[jC,hv]at this
   exact(Option.some.inj this).symm
  subst ex ey
  have B:∀b o,s.heap.get? b=some o->b≠s.heap.objs.size:=λb o q=>df (cQ q)
  have hn:H s.heap.objs.size=none:=I.hok.fresh (cI _)
  have af:∀b∈[z,TI,TO,i1,i2],b≠s.heap.objs.size:=λb f=>by
   simp only[cZ,g9,or_false]at f
   rcases f with rfl|rfl|rfl|rfl|rfl
   ·exact B _ _ j
   ·exact B _ _ p
   ·exact B _ _ r
   ·obtain⟨vs,n,e|⟨o,e,_⟩⟩:=m.get
    ·exact B _ _ e
    ·exact B _ _ e
   ·obtain⟨vs,n,e|⟨o,e,_⟩⟩:=t.get
    ·exact B _ _ e
    ·exact B _ _ e
  have I0:Inv X l R (upd H s.heap.objs.size (.tup [x,y])) {s with heap:=s.heap.push {cls:= .type "tuple",data:= .seq #[M,J]},toks:=s.toks}:=
   I.laid (t':=s.toks) (λb o q=>cF _ q) (cI _) ⟨by show 2<=sizeLine;decide,[M,J],.cons ru (.cons rv .nil),⟨_,cN _ rfl,rfl,_,rfl⟩⟩
  have L:∀b∈[z,TI,TO,i1,i2],F9 X l (upd H s.heap.objs.size (.tup [x,y])) b:=λb f=>by
   have q:=hf b f
   exact⟨by rw[rG (af b f)];exact q.1,q.2⟩
  have I1:Inv X l R (upd H s.heap.objs.size (.tup [x,y])) {s with heap:=F,toks:=tk}:=
   Inv.turnedL (s:={s with heap:=s.heap.push {cls:= .type "tuple",data:= .seq #[M,J]},toks:=s.toks}) I0 (fp:=[z,TI,TO,i1,i2]) (t':=tk) (λb o f q=>by
    simp only[cZ,g9,or_false,not_or]at f
    rcases tq q rfl with q|⟨rfl,rfl⟩
    ·exact O b o f.1 f.2.2.1 f.2.2.2.1 f.2.2.2.2 q
    ·exact Y) L
  refine⟨_,rfl,wpAny_letOwnedTupleGo_zip (s:={s with heap:=F,toks:=tk}) ad λh2 ac N=>?_⟩
  have I2:Inv X l R (upd H s.heap.objs.size (.tup [x,y])) {s with heap:=h2,toks:=tk}:=
   Inv.turnedL (s:={s with heap:=F,toks:=tk}) I1 (fp:=[z,TI,TO,i1,i2]) (t':=tk) (λb o f q=>(N.2 b (λe=>f (by simp[e]))).trans q) L
  have T:IsPair F TI (.ref i1) (.ref i2):=O TI _ ap.TIz ap.TITO ap.TIi1 ap.TIi2 p
  refine⟨.ref s.heap.objs.size,_,I2,rfl,⟨x,y,_,λak h=>by rw[I.sqb_inj h D];exact hx,λal h=>by rw[I.sqb_inj h S];exact hy,rfl,hn,rfl⟩,⟨ac,(N.2 TI ap.TIz).trans T,⟨_,_,(N.2 TO ap.TOz).trans aa⟩,ae.1.keep λo q=>(N.2 i1 ap.i1z).trans q,ag.1.keep λo q=>(N.2 i2 ap.i2z).trans q⟩,λb f=>(L b f).1⟩
 done:=by
  intro X U hw hK hc i l s R H E I hf st hg
  subst U hw hK
  obtain⟨xs,D,an⟩:=hg
  obtain⟨g,G,V⟩:=I.sqx D
  obtain⟨j,p,⟨a,c,r⟩,m,t⟩:=st
  have Q:=I.ok.hd hc
  have hl:=G.length
  have en:i=g.toArray.size:=by rw[cX];omega
  subst en
  refine t7 ⟨_,j,rfl⟩ (AU (tZ (A:=X.A.in1) Q t1 i1 l1 ap.l1i g.toArray) ap.i1z (by simp[Ne.symm ap.i1z,Ne.symm ap.l1z]) j p r ⟨m,V⟩ λF e O Z=>?_)
  obtain⟨o,Z,ah⟩:=Z
  exact⟨⟨e,o,rfl,Z,ah⟩,rfl,I.turnedL (fp:=[z,TI,TO,i1,i2]) (t':=s.toks) (λb o f q=>O b o (λz=>f (by simp[z])) (λz=>f (by simp[z])) q) hf⟩
 self:=λ_ _ _ _ _ st h=>by
  obtain⟨j,_⟩:=st
  exact lc j h
theorem xG{prog:cT}{w:dc}{A:dw}{E:cA->cD->Prop}{s:cD}{l1 l2:cG}{t1 t2:Bool}{xs ys:Array cA}{Q:cA->cD->Prop}(h1:Sqx s.heap t1 l1 xs)(h2:Sqx s.heap t2 l2 ys)
  (h:∀h':Heap,IsZip h' (s.heap.objs.size+4) (s.heap.objs.size+2) (s.heap.objs.size+3) .none->IsPair h' (s.heap.objs.size+2) (.ref s.heap.objs.size) (.ref (s.heap.objs.size+1))->IsPair h' (s.heap.objs.size+3) .none .none->
   Itx h' t1 s.heap.objs.size l1 0->Itx h' t2 (s.heap.objs.size+1) l2 0->h'.objs.size=s.heap.objs.size+5->(∀c o,s.heap.get? c=some o->h'.get? c=some o)->Q (.ref (s.heap.objs.size+4)) {s with heap:=h'}):
  wpAny (model prog w) A (call (.type "zip") [.ref l1,.ref l2]) Q E s:=by
 refine callType_new F.called_zip (by decide) (F.typeCall_zip_2 _ _) (F.newCall_zip_2 _ _) (λx=>F.args_object_init_3 x _ _) F.entry_zip_new (zy l1 l2 t1 t2 xs ys) ⟨h1,h2,?_⟩
 have k:∀(h:Heap) (o:Obj),(h.push o).objs.size=h.objs.size+1:=λh o=>by unfold k9;simp
 have r:∀(h:Heap) (o:Obj) (n:Nat),h.objs.size=n->o.isFreed=false->(h.push o).get? n=some o:=λh o n e f=>by rw[<-e];exact cN _ f
 have fr:∀D l,(FW D l).isFreed=false:=λD l=>rfl
 generalize ho1:FW t1 l1=v
 generalize ho2:FW t2 l2=t
 have H:v.isFreed=false:=by rw[<-ho1];rfl
 have I:t.isFreed=false:=by rw[<-ho2];rfl
 generalize hq1:s.heap.push v=d
 have G:d.objs.size=s.heap.objs.size+1:=by rw[<-hq1];exact k _ _
 have g1:d.get? s.heap.objs.size=some v:=by rw[<-hq1];exact cN _ H
 have K:∀c o,s.heap.get? c=some o->d.get? c=some o:=λc o q=>by rw[<-hq1];exact cF _ q
 generalize hq2:d.push t=j
 have C:j.objs.size=s.heap.objs.size+2:=by rw[<-hq2,k,G]
 have g2:j.get? (s.heap.objs.size+1)=some t:=by rw[<-hq2];exact r _ _ _ G I
 have y:∀c o,d.get? c=some o->j.get? c=some o:=λc o q=>by rw[<-hq2];exact cF _ q
 generalize hq3:j.push {cls:=dL "tuple",data:=iK #[cR s.heap.objs.size,cR (s.heap.objs.size+1)]}=b
 have z:b.objs.size=s.heap.objs.size+3:=by rw[<-hq3,k,C]
 have g3:b.get? (s.heap.objs.size+2)=some {cls:=dL "tuple",data:=iK #[cR s.heap.objs.size,cR (s.heap.objs.size+1)]}:=by rw[<-hq3];exact r _ _ _ C rfl
 have u:∀c o,j.get? c=some o->b.get? c=some o:=λc o q=>by rw[<-hq3];exact cF _ q
 generalize hq4:b.push {cls:=dL "tuple",data:=iK #[cA.none,cA.none]}=g
 have B:g.objs.size=s.heap.objs.size+4:=by rw[<-hq4,k,z]
 have g4:g.get? (s.heap.objs.size+3)=some {cls:=dL "tuple",data:=iK #[cA.none,cA.none]}:=by rw[<-hq4];exact r _ _ _ z rfl
 have p:∀c o,b.get? c=some o->g.get? c=some o:=λc o q=>by rw[<-hq4];exact cF _ q
 generalize hq5:g.push {cls:=dL "zip",data:=lX #[cA.none,eo false,eo false,cR (s.heap.objs.size+2),cR (s.heap.objs.size+3)]}=m
 have J:m.objs.size=s.heap.objs.size+5:=by rw[<-hq5,k,B]
 have g5:m.get? (s.heap.objs.size+4)=some {cls:=dL "zip",data:=lX #[cA.none,eo false,eo false,cR (s.heap.objs.size+2),cR (s.heap.objs.size+3)]}:=by rw[<-hq5];exact r _ _ _ B rfl
 have a:∀c o,g.get? c=some o->m.get? c=some o:=λc o q=>by rw[<-hq5];exact cF _ q
 exact⟨⟨_,g5,rfl⟩,h m g5 (a _ _ (p _ _ g3)) (a _ _ g4) (Itx.new (by rw[ho1];exact a _ _ (p _ _ (u _ _ (y _ _ g1))))) (Itx.new (by rw[ho2];exact a _ _ (p _ _ (u _ _ g2)))) J λc o q=>a _ _ (p _ _ (u _ _ (y _ _ (K _ _ q))))⟩
theorem yn{n l1 l2:Nat}(h1:l1<n)(h2:l2<n):ZipB (n+4) (n+2) (n+3) n (n+1) l1 l2:=by
 have d:∀a b:Nat,a<b->a≠b:=λa b h=>df h
 exact⟨d _ _ (by omega),d _ _ (by omega),d _ _ (by omega),d _ _ (by omega),d _ _ (by omega),(d _ _ (by omega)).symm,(d _ _ (by omega)).symm,(d _ _ (by omega)).symm,(d _ _ (by omega)).symm,d _ _ (by omega),
  d _ _ (by omega),d _ _ (by omega),d _ _ (by omega),d _ _ (by omega),d _ _ (by omega),d _ _ (by omega),d _ _ (by omega),d _ _ (by omega)⟩
def L8(K:cu)(ta:TA):TI:=λσ H R=>ta σ H λvs H1=>∃(t1 t2:Bool) (a b:cG),vs=[.ref a,.ref b]/\(∃xs,Jf K H1 t1 a xs)/\(∃ys,Jf K H1 t2 b ys)/\R (Mp K t1 t2 a b) H1
section
variable{X:Cx}
theorem Cl{elts:List Expr}{x1:Nat}{tpos:Pos}{a b:Expr}{ta:TA}{p pos:Pos}(hg:Gl X "zip")(hm:X.mg "zip"=none)(ha:PA X [a,b] ta)(hs:dh [a,b] X.env=[(false,eval a X.env),(false,eval b X.env)]:=by rfl)(hs2:dh [b] X.env=[(false,eval b X.env)]:=by rfl):
  PI X (.Tuple elts x1 tpos) (.Call (.Name "zip" p) [a,b] [] pos) (L8 X.K ta):=by
 intro d s n H R I h
 refine rc (tI I hg hm lT (d7 (Ei (ha pos d s n H _ I h) λU c ⟨vs,j,f,M,B⟩=>?_) (by rw[hs,hs2]) (by rw[hs2];rfl)))
 obtain⟨G,J,N,C,e,⟨V,O⟩,⟨W,D⟩,q⟩:=B
 subst e
 obtain⟨u,v,rfl,A,E⟩:=Jg M
 cases A
 cases E
 obtain⟨z,T,w⟩:=f.sqx O
 obtain⟨P,Q,k⟩:=f.sqx D
 refine xG w k λx r y l o t S L=>?_
 refine lc (s:={c with heap:=x}) r ?_
 have F:Inv X d n j {c with heap:=x}:=f.kept (t':=c.toks) L
 refine⟨_,[c.heap.objs.size+4,c.heap.objs.size+2,c.heap.objs.size+3,c.heap.objs.size,c.heap.objs.size+1],_,_,j,rfl,F,Bv G J N C _ _ _ _ _ (yn w.lt k.lt),⟨r,y,⟨_,_,l⟩,o,t⟩,λb m=>?_,q⟩
 have g:c.heap.objs.size<=b:=by
  simp only[cZ,g9,or_false]at m
  rcases m with rfl|rfl|rfl|rfl|rfl <;> omega
 exact f.fpOk g (f.hok.fresh g)
end
theorem xC{K:cu}{t1 t2:Bool}{a b:cG}{xs ys:List V}{caps:List (Option Nat)}{g:TG}{te:TE}{σ:St}{QQ:List V->Hp->Prop}{H:Hp}(Pv:Nat->List V->Hp->Prop)(he:xs.length=ys.length)(h0:Pv 0 [] H)
  (hl:∀i zs H,i<=xs.length->Pv i zs H->Jf K H t1 a xs/\Jf K H t2 b ys)
  (hs:∀i x y zs H t,xs[i]?=some x->ys[i]?=some y->H t=none->Pv i zs H->g (.ref t) (EZ caps σ) (upd H t (.tup [x,y])) λσ2 H2=>te σ2 H2 λv H4=>zs.length<sizeLine/\Pv (i+1) (zs++[v]) H4)
  (hd:∀zs H,Pv xs.length zs H->QQ zs H):EB caps g FT te σ QQ (Mp K t1 t2 a b) H:=by
 refine⟨λi m zs H=>m=xs.length-i/\i<=xs.length/\Pv i zs H,⟨xs.length,by simp,du _,h0⟩,?_⟩
 rintro i m zs H ⟨rfl,h,p⟩
 obtain⟨d,f⟩:=hl i zs H h p
 by_cases c:i<xs.length
 ·refine .inr ⟨⟨xs,ys,xs[i],ys[i],d,f,by simp[c],by simp[show i<ys.length by omega]⟩,Pv (i+1),λo n k=>⟨xs.length-(i+1),by omega,rfl,c,k⟩,λx n y=>?_⟩
  obtain⟨l,j,t,h1,h2,rfl,h3,rfl⟩:=y
  simp only[tH]
  exact hs i l j zs H t (h1 xs d) (h2 ys f) h3 p
 ·have e:i=xs.length:=by omega
  subst e
  exact .inl ⟨⟨xs,d,rfl⟩,hd zs H p⟩
theorem BR{M:Model}{A:dw}{E:cA->cD->Prop}{s:cD}{a:cG}{Q:Option Obj->cD->Prop}(h:Q (s.heap.get? a) s):wpAny M A (loadIfAlive a) Q E s:=λb p hA=>by
 show Sem.wp M b (Sem.loadIfAlive a Sem.pure) _ _ p s;rw[Sem.wp_loadIfAlive];exact cv h b p hA
def ET(h:Heap)(z TI TO T:cG):Prop:=∃(f1:Bool) (o:Obj),h.get? z=some {cls:= .type "zip",data:= .fields #[rawInt T,.bool f1,.bool false,.ref TI,.ref TO]}/\h.get? T=some o
theorem uu{prog:cT}{w:dc}{A:dw}{E:cA->cD->Prop}{s:cD}{z TI TO T:cG}{Q:Bool->cD->Prop}(hz:ET s.heap z TI TO T)(hne:T≠z)(hQ:∀h':Heap,ET h' z TI TO T->fI z s.heap h'->Q false {s with heap:=h'}):
  wpAny (model prog w) A (fQ (.ref z)) Q E s:=by
 obtain⟨d,o,hz,a⟩:=hz
 unfold fQ
 refine cr (eB hz rfl rfl ?_)
 refine cr (BR ?_)
 rw[show s.heap.get? ((T:Int)).toNat=some o from a]
 refine cP rfl ?_
 refine cr (eB hz rfl rfl ?_)
 cases d with
 | false=>
  refine iS rfl (cr (eR hz (by simp) λh' b c=>cv (hQ h' ⟨true,o,b,(c.2 T hne).trans a⟩ c)))
 | true=>
  refine cP rfl (cv (hQ s.heap ⟨true,o,hz,a⟩ ⟨rfl,λ_ _=>rfl⟩))
theorem zR{prog:cT}{w:dc}{A:dw}{E:cA->cD->Prop}{s:cD}{z TI TO i1 i2 T:cG}{fp1 fp2:List cG}{n1 n2 k1 k2:Nat}{P1 P2:Nat->cA->Prop}{St1 St2:Nat->Heap->Prop}{Q:cA->cD->Prop}
  (D1:Draws prog w A i1 fp1 n1 P1 St1)(D2:Draws prog w A i2 fp2 n2 P2 St2)(ap:JZ z TI TO i1 i2 fp1 fp2)(hz:ET s.heap z TI TO T)(hne:T≠z)(hn1:T≠i1)(hn2:T≠i2)(hTI:IsPair s.heap TI (.ref i1) (.ref i2))
  (s1:St1 k1 s.heap)(s2:St2 k2 s.heap)(hk1:k1<n1)(hk2:k2<n2)
  (hQ:∀(x y:cA) (h':Heap) (tk:Nat),P1 k1 x->P2 k2 y->ET h' z TI TO T->St1 (k1+1) h'->St2 (k2+1) h'->IsPair h' s.heap.objs.size x y->h'.objs.size=s.heap.objs.size+1->
   (∀c o,c≠z->c≠i1->c≠i2->s.heap.get? c=some o->h'.get? c=some o)->Q (.ref s.heap.objs.size) {s with heap:=h',toks:=tk}):
  wpAny (model prog w) A (Builtin.«zip.__next__» {pos:=[.ref z]}) (λfin s'=>∃v,fin=qF (qG v)/\Q v s') E s:=by
 have p:=hz
 obtain⟨O,o,g,P⟩:=p
 unfold Builtin.«zip.__next__»
 refine cr (cv ?_)
 refine cr (eB g rfl rfl ?_)
 refine cr (eB g rfl rfl ?_)
 refine cr (fP hTI rfl ?_)
 refine cP rfl ?_
 refine cr (uu hz hne λh1 C f=>?_)
 refine cP rfl ?_
 dsimp only
 rw[<-il]
 rw[show #[cR i1,cR i2].toList=[cR i1,cR i2]from rfl,eg,bind_assoc]
 have H:St1 k1 h1:=D1.frame _ _ _ s1 λc d o q=>(f.2 c (λe=>ap.z1 (e▸d))).trans q
 have D:St2 k2 h1:=D2.frame _ _ _ s2 λc d o q=>(f.2 c (λe=>ap.z2 (e▸d))).trans q
 refine cr (cr (dG ?_))
 refine(show wpAny (model prog w) A (if(eo false==eo true)=true then fA (.ref i1)else do let x<-d4 (.ref i1);pure (some x)) _ _ _ from cP rfl (cr (D1.item k1 _ _ _ hk1 H λx h2 N L F b=>cv (cv ?_))))
 dsimp only
 have t:St2 k2 h2:=D2.frame _ _ _ D λc d o q=>(b.2 c (λe=>ap.i12' (e▸d))).trans q
 rw[eg,bind_assoc]
 refine cr (cr (dG ?_))
 refine(show wpAny (model prog w) A (if(eo false==eo true)=true then fA (.ref i2)else do let x<-d4 (.ref i2);pure (some x)) _ _ _ from cP rfl (cr (D2.item k2 _ _ _ hk2 t λy h3 r J B a=>cv (cv ?_))))
 dsimp only
 rw[gp]
 refine cr (cv ?_)
 dsimp only
 refine cr (iT ?_ (by show 2<=sizeLine;decide))
 refine cv ⟨_,rfl,?_⟩
 have h:h3.objs.size=s.heap.objs.size:=by rw[a.1,b.1,f.1]
 have u:St1 (k1+1) h3:=D1.frame _ _ _ F λc d o q=>(a.2 c (λe=>ap.i21 (e▸d))).trans q
 have M:∀c o,c≠z->c≠i1->c≠i2->s.heap.get? c=some o->h3.get? c=some o:=λc o j m k q=>(a.2 c k).trans ((b.2 c m).trans ((f.2 c j).trans q))
 obtain⟨g1,G,l,n⟩:=C
 have K:h3.get? z=some _:=(a.2 z (Ne.symm ap.i2z)).trans ((b.2 z (Ne.symm ap.i1z)).trans l)
 have I:h3.get? T=some G:=(a.2 T hn2).trans ((b.2 T hn1).trans n)
 dsimp only
 rw[h]
 refine hQ x y _ r L J ⟨g1,G,cF _ K,cF _ I⟩ (D1.frame _ _ _ u λc _ o q=>cF _ q) (D2.frame _ _ _ B λc _ o q=>cF _ q) ?_ ?_ (λc o j m k q=>cF _ (M c o j m k q))
 ·rw[<-h];exact cN _ rfl
 ·show(h3.push _).objs.size=_
  unfold k9
  simp[h]
theorem B6{prog:cT}{w:dc}{A:dw}{E:cA->cD->Prop}{s:cD}{z TI TO i1 i2 T:cG}{fp1:List cG}{n1:Nat}{P1:Nat->cA->Prop}{St1:Nat->Heap->Prop}{Q:PySem.Fin->cD->Prop}
  (D1:Draws prog w A i1 fp1 n1 P1 St1)(z1:z∉fp1)(hz:ET s.heap z TI TO T)(hne:T≠z)(hTI:IsPair s.heap TI (.ref i1) (.ref i2))(s1:St1 n1 s.heap)
  (hE:∀(h':Heap) (e:cG),(∀c o,c≠z->c≠i1->s.heap.get? c=some o->h'.get? c=some o)->(∃o,h'.get? e=some o/\o.cls = .type "StopIteration")->E (.ref e) {s with heap:=h'}):
  wpAny (model prog w) A (Builtin.«zip.__next__» {pos:=[.ref z]}) Q E s:=by
 have d:=hz
 obtain⟨n,o,a,p⟩:=d
 unfold Builtin.«zip.__next__»
 refine cr (cv ?_)
 refine cr (eB a rfl rfl ?_)
 refine cr (eB a rfl rfl ?_)
 refine cr (fP hTI rfl ?_)
 refine cP rfl ?_
 refine cr (uu hz hne λh1 m b=>?_)
 refine cP rfl ?_
 dsimp only
 rw[<-il]
 rw[show #[cR i1,cR i2].toList=[cR i1,cR i2]from rfl,eg,bind_assoc]
 have g:St1 n1 h1:=D1.frame _ _ _ s1 λc l o q=>(b.2 c (λe=>z1 (e▸l))).trans q
 refine cr (cr (dG ?_))
 exact(show wpAny (model prog w) A (if(eo false==eo true)=true then fA (.ref i1)else do let x<-d4 (.ref i1);pure (some x)) _ _ _ from cP rfl (cr (D1.done _ _ _ g λh2 e f j=>hE h2 e (λc o h k q=>f c o k ((b.2 c h).trans q)) j)))
def Lb(h:Heap)(z TI TO T:cG):Prop:=(IsZip h z TI TO .none/\∃a b,IsPair h TO a b)\/ET h z TI TO T
theorem sY{α β:Type}{R:α->β->Prop}:∀{l:List α} {m:List β},l.length=m.length->(∀(i:Nat) a b,l[i]?=some a->m[i]?=some b->R a b)->dr R l m
 | [],[],_,_=> .nil
 | a::l,b::m,hl,h=> .cons (h 0 a b rfl rfl) (sY (by simpa using hl) λi x y c d=>h (i+1) x y (by simpa using c) (by simpa using d))
def Kk(K:cu):R2:=λx y H Q=>∃(a b:cG) (xs ys:List V),x = .ref a/\y = .ref b/\SqT K H a xs/\SqT K H b ys/\xs.length+ys.length<=sizeLine/\
 ∀p H',Same H H'->SqT K H' p (xs++ys)->Q (.ref p) H'
theorem Ar{X:Cx}:Fs X (binaryOp .Add) (Kk X.K):=by
 intro l s R H x y v u Q I t w h;obtain⟨a,b,z,P,rfl,rfl,j,k,U,q⟩:=h;by_cases m:z=[]
 ·cases t
  cases w;obtain⟨d,S,V,_⟩:=I.tuple j;obtain⟨o,Y,O,_⟩:=I.tuple k;have N:d=[]:=S.nil_iff.mpr m;obtain⟨⟨W,G,T,M⟩,r,D,n,A⟩:=id V;obtain⟨⟨J,B,E,C⟩,c,f,L,g⟩:=id O;simp only at D A f g;subst D A f g;refine ng ⟨_,r,rfl⟩ ⟨_,c,rfl⟩ kW mw jq ji (i8 _ _)
   (tuple_addW0 a b d.toArray o.toArray n L G B M C (by simp[N])) ⟨r,c,?_⟩
  exact⟨.ref b,H,I,rfl,q b H (Same.refl _) (by rw[m];exact k)⟩
 ·refine Db l s R H (.ref a) (.ref b) v u Q I t w ⟨a,b,z,P,rfl,rfl,j,k,m,U,λe=>?_,λ_ p hp=>?_⟩
  ·exact q a H (Same.refl _) (by rw[e,fT];exact j)
  ·exact q p _ (rr hp _) (SqT.of rz)
def E4(w ts:List Int):List Int:=w.filter λt=>!decide (t∈ts)
def E6(w ts:List Int):Int:=(E4 w ts).getD 0 0
theorem IP:∀(row ts:List Int),row.Nodup->(∀t∈row,t∈ts)->row.length<=ts.length
 | [],_,_,_=>du _
 | a::r,ts,hn,h=>by
  have c:=h a cM
  have:=IP r (ts.erase a) (fu.mp hn).2 λt b=>(mf (show t≠a from λz=>(fu.mp hn).1 (z▸b))).mpr (h t (cO _ b))
  rw[kR c]at this
  have:=List.length_pos_of_mem c
  rw[dQ]
  omega
theorem Be{n:Nat}{w ts:List Int}(h:LN.Pm n w)(hl:ts.length<n):∃t∈w,t∉ts:=by
 refine dM λz=>?_
 have:=IP w ts h.nodup λt a=>dM λy=>z ⟨t,a,y⟩
 rw[h.len]at this;omega
theorem xO{w ts:List Int}(h:∃t∈w,t∉ts):(E4 w ts)[0]?=some (E6 w ts)/\E6 w ts∈w/\E6 w ts∉ts:=by
 obtain⟨t,h1,h2⟩:=h;have a:t∈E4 w ts:=d8.mpr ⟨h1,by simpa using h2⟩;unfold E6
 cases c:E4 w ts with
 | nil=>rw[c]at a;cases a
 | cons b r=>
  have d:b∈E4 w ts:=by rw[c];exact cM
  obtain⟨h3,h4⟩:=d8.mp d;exact⟨rfl,h3,by simpa using h4⟩
def tk(W:List (List Int))(o:List Int):Nat->List Int
 | 0=>[]
 | k+1=>tk W o k++[E6 (W.getD (o.getD k 0).toNat []) (tk W o k)]
def bt(W:List (List Int))(o:List Int)(k:Nat):Int:=E6 (W.getD (o.getD k 0).toNat []) (tk W o k)
theorem CT(W:List (List Int))(o:List Int):∀k,tk W o k=(db k).map (bt W o)
 | 0=>rfl
 | k+1=>by
  rw[gc,cS,<-CT W o k]
  rfl
theorem Aj(W:List (List Int))(o:List Int)(k:Nat):(tk W o k).length=k:=by rw[CT];simp
structure Fk(n:Nat)(W:List (List Int)):Prop where
 lo:1<=n
 hi:n<=6
 len:W.length=n
 pm:∀w∈W,LN.Pm n w
theorem DJ{K:cu}{H:Hp}{a b:cG}{l m:List Int}{Q:VK}(h1:SqT K H a (l.map V.int))(h2:SqT K H b (m.map V.int))(hl:l.length+m.length<=1000)(q:∀p H',Same H H'->SqT K H' p ((l++m).map V.int)->Q (.ref p) H'):Kk K (.ref a) (.ref b) H Q:=
 ⟨a,b,_,_,rfl,rfl,h1,h2,by rw[cx,cx];exact dg hl (by decide),λp H' S h=>q p H' S (by rw[cS];exact h)⟩
end L2
namespace HM
open LM LN
def cnt(n:Nat)(S:Nat->Bool):Nat:=(db n).countP S
theorem sS(n:Nat)(S:Nat->Bool):cnt (n+1) S=cnt n S+if S n=true then 1 else 0:=by
 unfold cnt;rw[gc,List.countP_append];simp[List.countP_cons]
theorem sU{S S':Nat->Bool}:∀{n:Nat},(∀i,i<n->S i=true->S' i=true)->cnt n S<=cnt n S'
 | 0,_=>cI _
 | n+1,h=>by
  have b:=sU (n:=n) λi a=>h i (dz a)
  rw[sS,sS]
  by_cases e:S n=true
  ·rw[if_pos e,if_pos (h n (dH n) e)];omega
  ·rw[if_neg e];omega
theorem vk(S S':Nat->Bool):∀n:Nat,cnt n (λi=>S i||S' i)<=cnt n S+cnt n S'
 | 0=>cI _
 | n+1=>by
  have a:=vk S S' n
  rw[sS,sS,sS]
  cases S n <;> cases S' n <;> simp <;> omega
theorem ux{S S':Nat->Bool}(hd:∀i,S i=true->S' i=true->False):∀n:Nat,cnt n (λi=>S i||S' i)=cnt n S+cnt n S'
 | 0=>rfl
 | n+1=>by
  have a:=ux hd n
  rw[sS,sS,sS,a]
  cases h1:S n <;> cases h2:S' n <;> simp <;> try omega
  exact(hd n h1 h2).elim
theorem cnt_pos{S:Nat->Bool}:∀{n:Nat},0<cnt n S->∃i,i<n/\S i=true
 | 0,h=>absurd h (dt _)
 | n+1,h=>by
  rw[sS]at h
  by_cases e:S n=true
  ·exact⟨n,dH n,e⟩
  ·rw[if_neg e]at h
   obtain⟨i,h1,h2⟩:=cnt_pos (n:=n) (by omega)
   exact⟨i,dz h1,h2⟩
theorem cnt_one(c:Nat):∀n:Nat,cnt n (λi=>i==c)=if c<n then 1 else 0
 | 0=>rfl
 | n+1=>by
  rw[sS,cnt_one c n]
  by_cases e:n=c
  ·subst e;simp
  ·by_cases h:c<n
   ·simp[e,h,show c<n+1 by omega]
   ·simp[e,h,show ¬c<n+1 by omega]
theorem xu(n:Nat)(A S:Nat->Bool)(h:∀i,S i=true->A i=true):cnt n A=cnt n S+cnt n (λi=>A i && !S i):=by
 rw[<-ux (S:=S) (S':=λi=>A i && !S i) (λi h1 h2=>by simp[h1]at h2)]
 congr 1
 funext i
 cases h1:S i with
 | true=>simp[h i h1]
 | false=>simp
def nb(n:Nat)(E:Nat->Nat->Bool)(S:Nat->Bool)(c:Nat):Bool:=(db n).any λr=>S r&&E r c
theorem uQ{n:Nat}{E:Nat->Nat->Bool}{S:Nat->Bool}{c:Nat}:nb n E S c=true↔∃r,r<n/\S r=true/\E r c=true:=by
 unfold nb;rw[iZ];constructor
 ·rintro⟨r,h1,h2⟩;rw[dn]at h2;exact⟨r,dY.mp h1,h2⟩
 ·rintro⟨r,h1,h2,h3⟩;exact⟨r,dY.mpr h1,by rw[h2,h3];rfl⟩
theorem hall(n:Nat):∀(m:Nat) (A:Nat->Bool) (E:Nat->Nat->Bool),cnt n A=m->(∀S:Nat->Bool,(∀i,S i=true->A i=true)->cnt n S<=cnt n (nb n E S))->
  ∃f:Nat->Nat,(∀r,r<n->A r=true->f r<n/\E r (f r)=true)/\∀r r',r<n->r'<n->A r=true->A r'=true->f r=f r'->r=r':=by
 intro m
 induction m using Nat.strongRecOn with
 | _ m H=>
  intro A E hA D
  by_cases h0:m=0
  ·have N:∀r,r<n->A r=true->False:=λr b h=>by
    have:cnt n (λi=>i==r)<=cnt n A:=sU λi _ e=>by rw[eq_of_beq e];exact h
    rw[cnt_one,if_pos b,hA,h0]at this
    omega
   exact⟨λ_=>0,λr b h=>(N r b h).elim,λr _ b _ h=>(N r b h).elim⟩
  by_cases p:∃a:Nat->Bool,(∀i,a i=true->A i=true)/\0<cnt n a/\cnt n a<m/\cnt n (nb n E a)<=cnt n a
  ·obtain⟨a,L,hp,U,Y⟩:=p
   obtain⟨M,g1,g2⟩:=H _ U a E rfl λS h=>D S λi j=>L i (h i j)
   have y:=xu n A a L
   obtain⟨P,q,G⟩:=H (cnt n λi=>A i && !a i) (by omega) (λi=>A i && !a i) (λr c=>E r c && !nb n E a c) rfl λS h=>by
    have J:∀i,S i=true->a i=true->False:=λi h1 h2=>by
     have:=h i h1
     simp[h2]at this
    have V:=D (λi=>S i||a i) λi j=>by
     rcases j3.mp j with z|z
     ·have:=h i z
      rw[dn]at this
      exact this.1
     ·exact L i z
    rw[ux J]at V
    have h2:cnt n (nb n E λi=>S i||a i)<=cnt n (λc=>nb n (λr c=>E r c && !nb n E a c) S c||nb n E a c):=sU λc _ p=>by
     obtain⟨r,b,I,v⟩:=uQ.mp p
     cases u:nb n E a c with
     | true=>simp
     | false=>
      rw[kI]
      rcases j3.mp I with z|z
      ·exact uQ.mpr ⟨r,b,z,by simp[v,u]⟩
      ·exact absurd (uQ.mpr ⟨r,b,z,v⟩) (by rw[u];exact de)
    have h3:=vk (nb n (λr c=>E r c && !nb n E a c) S) (nb n E a) n
    omega
   have x:∀r r',r<n->a r=true->r'<n->A r'=true->¬a r'=true->M r=P r'->False:=λr r' b h1 g h2 h3 e=>by
    have t:=(g1 r b h1).2
    have k:=(q r' g (by simp[h2,h3])).2
    rw[<-e,dn]at k
    have:=uQ.mpr ⟨r,b,h1,t⟩
    rw[this]at k
    exact absurd k.2 (by decide)
   refine⟨λr=>if a r=true then M r else P r,λr b h=>?_,λr r' b g h s e=>?_⟩
   ·dsimp only
    by_cases z:a r=true
    ·rw[if_pos z];exact g1 r b z
    ·rw[if_neg z]
     obtain⟨t,k⟩:=q r b (by simp[h,z])
     rw[dn]at k
     exact⟨t,k.1⟩
   ·dsimp only at e
    by_cases z:a r=true
    ·rw[if_pos z]at e
     by_cases d:a r'=true
     ·rw[if_pos d]at e;exact g2 r r' b g z d e
     ·rw[if_neg d]at e;exact(x r r' b z g s d e).elim
    ·rw[if_neg z]at e
     by_cases d:a r'=true
     ·rw[if_pos d]at e;exact(x r' r g d b h z e.symm).elim
     ·rw[if_neg d]at e;exact G r r' b g (by simp[h,z]) (by simp[s,d]) e
  ·obtain⟨F,w,C⟩:=cnt_pos (n:=n) (S:=A) (by omega)
   have h1:=D (λi=>i==F) λi j=>by rw[eq_of_beq j];exact C
   rw[cnt_one,if_pos w]at h1
   obtain⟨o,B,R⟩:=cnt_pos (n:=n) (S:=nb n E λi=>i==F) (by omega)
   obtain⟨l,X,K,Q⟩:=uQ.mp R
   have K:l=F:=eq_of_beq K
   subst K
   have y:=xu n A (λi=>i==l) λi j=>by rw[eq_of_beq j];exact C
   rw[cnt_one,if_pos w]at y
   obtain⟨f,q,G⟩:=H (cnt n λi=>A i && !(i==l)) (by omega) (λi=>A i && !(i==l)) (λr c=>E r c && !(c==o)) rfl λS h=>by
    by_cases Z:cnt n S=0
    ·omega
    have T:∀i,S i=true->A i=true:=λi j=>by
     have:=h i j
     rw[dn]at this
     exact this.1
    have O:cnt n S<m:=by
     have:=sU (n:=n) λi _=>h i
     omega
    have W:cnt n S<cnt n (nb n E S):=dM λz=>p ⟨S,T,by omega,O,by omega⟩
    have h2:cnt n (nb n E S)<=cnt n (λc=>nb n (λr c=>E r c && !(c==o)) S c||c==o):=sU λc _ p=>by
     obtain⟨r,b,I,v⟩:=uQ.mp p
     cases u:c==o with
     | true=>simp
     | false=>rw[kI];exact uQ.mpr ⟨r,b,I,by simp[v,u]⟩
    have h3:=vk (nb n (λr c=>E r c && !(c==o)) S) (λc=>c==o) n
    have h4:=cnt_one o n
    rw[if_pos B]at h4
    omega
   refine⟨λr=>if r=l then o else f r,λr b h=>?_,λr r' b g h s e=>?_⟩
   ·dsimp only
    by_cases z:r=l
    ·rw[if_pos z,z];exact⟨B,Q⟩
    ·rw[if_neg z]
     obtain⟨t,k⟩:=q r b (by simp[h,z])
     rw[dn]at k
     exact⟨t,k.1⟩
   ·dsimp only at e
    by_cases z:r=l
    ·by_cases d:r'=l
     ·rw[z,d]
     ·rw[if_pos z,if_neg d]at e
      have:=(q r' g (by simp[s,d])).2
      rw[<-e]at this
      simp at this
    ·by_cases d:r'=l
     ·rw[if_neg z,if_pos d]at e
      have:=(q r b (by simp[h,z])).2
      rw[e]at this
      simp at this
     ·rw[if_neg z,if_neg d]at e
      exact G r r' b g (by simp[h,z]) (by simp[s,d]) e
def sm:Nat->(Nat->Int)->Int
 | 0,_=>0
 | n+1,f=>sm n f+f n
theorem sm_congr{f g:Nat->Int}:∀{n:Nat},(∀i,i<n->f i=g i)->sm n f=sm n g
 | 0,_=>rfl
 | n+1,h=>by
  show sm n f+f n=sm n g+g n
  rw[sm_congr λi a=>h i (dz a),h n (dH n)]
theorem sm_le{f g:Nat->Int}:∀{n:Nat},(∀i,i<n->f i<=g i)->sm n f<=sm n g
 | 0,_=>fC _
 | n+1,h=>by
  have h1:=sm_le λi a=>h i (dz a)
  have h2:=h n (dH n)
  show sm n f+f n<=sm n g+g n
  omega
theorem sm_add(f g:Nat->Int):∀n:Nat,sm n (λi=>f i+g i)=sm n f+sm n g
 | 0=>rfl
 | n+1=>by
  show sm n (λi=>f i+g i)+(f n+g n)=(sm n f+f n)+(sm n g+g n)
  rw[sm_add f g n]
  omega
theorem sm_zero:∀n:Nat,sm n (λ_=>0)=0
 | 0=>rfl
 | n+1=>by show sm n (λ_=>0)+0=0;rw[sm_zero n];rfl
theorem sm_swap(a:Nat->Nat->Int)(m:Nat):∀n:Nat,sm n (λi=>sm m (a i))=sm m (λj=>sm n λi=>a i j)
 | 0=>(sm_zero m).symm
 | n+1=>by
  show sm n (λi=>sm m (a i))+sm m (a n)=sm m (λj=>(sm n λi=>a i j)+a n j)
  rw[sm_swap a m n,sm_add]
theorem sm_cnt(S:Nat->Bool)(R:Int):∀n:Nat,sm n (λi=>if S i=true then R else 0)=R*cnt n S
 | 0=>by show(0:Int)=R*0;simp
 | n+1=>by
  show sm n _+(if S n=true then R else 0)=_
  rw[sm_cnt S R n,sS]
  by_cases e:S n=true
  ·rw[if_pos e,if_pos e];push_cast;rw[jk,h9]
  ·rw[if_neg e,if_neg e];simp
structure Lf(n:Nat)(M:Nat->Nat->Int)(R:Int):Prop where
 pos:0<R
 nn:∀i j,0<=M i j
 row:∀i,i<n->sm n (M i)=R
 col:∀j,j<n->sm n (λi=>M i j)=R
theorem Dj{n:Nat}{M:Nat->Nat->Int}{R:Int}(h:Lf n M R):∃f:Nat->Nat,(∀r,r<n->f r<n/\M r (f r)≠0)/\∀r r',r<n->r'<n->f r=f r'->r=r':=by
 obtain⟨f,h1,h2⟩:=hall n _ (λ_=>true) (λr c=>decide (M r c≠0)) rfl λS _=>by
  have l:sm n (λi=>if S i=true then R else 0)=sm n (λi=>sm n λj=>if S i=true then M i j else 0):=sm_congr λi b=>by
   by_cases e:S i=true
   ·rw[if_pos e,<-h.row i b];exact sm_congr λj _=>by rw[if_pos e]
   ·rw[if_neg e];exact(sm_zero n).symm.trans (sm_congr λj _=>by rw[if_neg e])
  have d:sm n (λj=>sm n λi=>if S i=true then M i j else 0)<=sm n (λj=>if nb n (λr c=>decide (M r c≠0)) S j=true then R else 0):=sm_le λj k=>by
   by_cases e:nb n (λr c=>decide (M r c≠0)) S j=true
   ·rw[if_pos e,<-h.col j k];exact sm_le λi _=>by
     by_cases z:S i=true
     ·rw[if_pos z];exact fC _
     ·rw[if_neg z];exact h.nn i j
   ·rw[if_neg e];exact Int.le_of_eq ((sm_congr λi b=>by
     by_cases z:S i=true
     ·rw[if_pos z];exact dM λy=>e (uQ.mpr ⟨i,b,z,decide_eq_true y⟩)
     ·rw[if_neg z]).trans (sm_zero n))
  rw[<-sm_swap,<-l,sm_cnt,sm_cnt]at d;have:=Int.le_of_mul_le_mul_left d h.pos;omega
 exact⟨f,λr a=>⟨(h1 r a rfl).1,by simpa using(h1 r a rfl).2⟩,λr r' a g e=>h2 r r' a g rfl rfl e⟩
end HM
namespace HM
open LM LN
def ent(M:List (List Int))(p t:Nat):Int:=(M.getD p []).getD t 0
structure Reg(n:Nat)(M:List (List Int))(R:Int):Prop where
 len:M.length=n
 cols:∀r∈M,r.length=n
 nn:∀p t,0<=ent M p t
 row:∀i,i<n->sm n (ent M i)=R
 col:∀j,j<n->sm n (λi=>ent M i j)=R
theorem getD_lt{α:Type}{l:List α}{i:Nat}{d:α}(h:i<l.length):l.getD i d=l[i]:=by rw[cC,cz h];rfl
theorem addDeal_len{M:List (List Int)}{d:List Int}{w:Int}(h:M.length=d.length):(addDeal M d w).length=M.length:=by simp[addDeal,h]
theorem addDeal_get{M:List (List Int)}{d:List Int}{w:Int}{p:Nat}(h:M.length=d.length)(hp:p<M.length):(addDeal M d w)[p]?=some (addOne (M.getD p []) (d.getD p 0) w):=by
 unfold addDeal;rw[lU,cz hp,cz (show p<d.length by omega),getD_lt hp,getD_lt (show p<d.length by omega)]
theorem Au{n:Nat}{M:List (List Int)}{R:Int}{d:List Int}{w:Int}(h:Reg n M R)(hd:d.length=n)(hb:∀t∈d,0<=t/\t<n){p:Nat}(hp:p<n)(t:Nat):
  ent (addDeal M d w) p t=ent M p t+if(d.getD p 0).toNat=t then w else 0:=by
 have f:M.length=d.length:=by rw[h.len,hd]
 have a:p<M.length:=by rw[h.len];exact hp
 have b:(M.getD p []).length=n:=by rw[getD_lt a];exact h.cols _ (cW a)
 have c:=hb (d.getD p 0) (by rw[getD_lt (show p<d.length by omega)];exact cW _)
 unfold ent
 rw[show(addDeal M d w).getD p []=addOne (M.getD p []) (d.getD p 0) w by rw[cC,addDeal_get f a];rfl]
 generalize M.getD p []=r at b
 generalize d.getD p 0=x at c
 unfold addOne
 rw[cC,jw]
 by_cases e:x.toNat=t
 ·subst e
  rw[if_pos rfl,if_pos rfl,if_pos (by omega)]
  rfl
 ·rw[if_neg e,if_neg e,<-cC]
  omega
theorem Ab{S S':Nat->Bool}{n:Nat}(h:∀i,i<n->S i=S' i):cnt n S=cnt n S':=
 Nat.le_antisymm (sU λi a e=>by rw[<-h i a];exact e) (sU λi a e=>by rw[h i a];exact e)
theorem pm_at{n:Nat}{d:List Int}(h:Pm n d){t:Nat}(ht:t<n):∃p,p<n/\d.getD p 0=(t:Int)/\∀q,q<n->(d.getD q 0).toNat=t->q=p:=by
 obtain⟨p,hp,e⟩:=eK.mp (h.mem.mpr (show(0:Int)<=(t:Int)/\(t:Int)<n by omega));have g:=h.len;refine⟨p,by omega,by rw[getD_lt hp,e],λq f c=>?_⟩;have a:q<d.length:=by omega
 have b:=h.mem.mp (cW a);rw[getD_lt a]at c;have:d[q]=d[p]:=by rw[e];omega
 exact(nL a h.nodup).mp (by rw[cz a,cz hp,this])
theorem uR{n:Nat}{p:Nat}(hp:p<n){S:Nat->Bool}(hS:∀q,q<n->(S q=true↔q=p))(w:Int):sm n (λq=>if S q=true then w else 0)=w:=by
 rw[sm_cnt,Ab (S':=λq=>q==p) λi a=>by
  rw[gv,hS i a];exact⟨λe=>by rw[e];exact beq_self_eq_true _,λe=>eq_of_beq e⟩,cnt_one,if_pos hp]
 simp
theorem Dp{n:Nat}{M:List (List Int)}{r:List Int}(hl:M.length=n)(hr:r∈M):∃p,p<n/\M.getD p []=r:=by
 obtain⟨p,hp,e⟩:=eK.mp hr;exact⟨p,by omega,by rw[getD_lt hp,e]⟩
theorem Reg.add{n:Nat}{M:List (List Int)}{R:Int}{d:List Int}{w:Int}(h:Reg n M R)(hd:Pm n d)(hw:∀p,p<n->0<=ent M p (d.getD p 0).toNat+w):Reg n (addDeal M d w) (R+w):=by
 have c:=hd.len;have s:M.length=d.length:=by rw[h.len,c]
 have o:∀t∈d,0<=t/\t<n:=λt k=>hd.mem.mp k
 have l:=λ {p} (hp:p<n) t=>Au (w:=w) h c o hp t
 have a:(addDeal M d w).length=n:=by rw[addDeal_len s,h.len]
 have bd:∀p,p<n->0<=d.getD p 0/\d.getD p 0<n:=λp hp=>o _ (by rw[getD_lt (show p<d.length by omega)];exact cW _)
 refine⟨a,λr u=>?_,λp t=>?_,λi f=>?_,λj m=>?_⟩
 ·obtain⟨p,hp,e⟩:=Dp a u;rw[<-e,cC,addDeal_get s (by rw[h.len];exact hp)];show(addOne _ _ _).length=n;rw[zE];have b:p<M.length:=by rw[h.len];exact hp
  rw[getD_lt b];exact h.cols _ (cW b)
 ·by_cases hp:p<n
  ·rw[l hp];by_cases e:(d.getD p 0).toNat=t
   ·rw[if_pos e,<-e];exact hw p hp
   ·rw[if_neg e,gB];exact h.nn p t
  ·unfold ent;rw[show(addDeal M d w).getD p []=[]by rw[cC,gg (by omega)];rfl];exact fC 0
 ·rw[sm_congr (g:=λt=>ent M i t+if decide ((d.getD i 0).toNat=t)=true then w else 0) λt _=>by rw[l f];simp,sm_add,h.row i f,uR (p:=(d.getD i 0).toNat) (by have:=bd i f;omega) (λq _=>by rw[decide_eq_true_iff];exact eq_comm)]
 ·obtain⟨p,hp,e,x⟩:=pm_at hd m;rw[sm_congr (g:=λi=>ent M i j+if decide ((d.getD i 0).toNat=j)=true then w else 0) λt k=>by rw[l k];simp,sm_add,h.col j m,uR (p:=p) hp (λq v=>by
   rw[decide_eq_true_iff];exact⟨x q v,λz=>by rw[z,e];rfl⟩)]
theorem Reg.regF{n:Nat}{M:List (List Int)}{R:Int}(h:Reg n M R)(hR:0<R):Lf n (ent M) R:=⟨hR,h.nn,h.row,h.col⟩
def within(M:List (List Int)):Nat->List Int->Option (List Int)
 | 0,b=>some b
 | k+1,b=>(db M.length).findSome? λt=>if ent M b.length t≠0/\(t:Int)∉b then within M k (b++[(t:Int)])else none
theorem uS{M:List (List Int)}:∀{k:Nat} {b d:List Int},within M k b=some d->b.Nodup->d.Nodup/\d.length=b.length+k/\(∀j,j<b.length->d.getD j 0=b.getD j 0)/\∀j,b.length<=j->j<b.length+k->∃t:Nat,t<M.length/\d.getD j 0=(t:Int)/\ent M j t≠0
 | 0,b,d,h,hb=>by
  cases h
  exact⟨hb,rfl,λ_ _=>rfl,λj h1 h2=>by omega⟩
 | k+1,b,d,h,hb=>by
  obtain⟨t,m,e⟩:=List.exists_of_findSome?_eq_some h
  split at e
  ·rename_i hc
   have c:(b++[(t:Int)]).Nodup:=gt.mpr ⟨hb,by simp,λx n y l=>by rw[cK.mp l];intro z;exact hc.2 (z▸n)⟩
   obtain⟨h1,h2,h3,h4⟩:=uS e c
   rw[dq,eT]at h2 h3 h4
   have a:d.getD b.length 0=(t:Int):=by
    rw[h3 b.length (by omega),cC,eY (cI _),ik]
    rfl
   refine⟨h1,by omega,λj g=>?_,λj p o=>?_⟩
   ·rw[h3 j (by omega),cC,gM g,<-cC]
   ·by_cases f:j=b.length
    ·subst f
     exact⟨t,dY.mp m,a,hc.1⟩
    ·exact h4 j (by omega) (by omega)
  ·cases e
theorem vz{M:List (List Int)}{f:Nat->Nat}(hf:∀j,j<M.length->f j<M.length/\ent M j (f j)≠0)(hi:∀j j',j<M.length->j'<M.length->f j=f j'->j=j'):∀{k:Nat} {b:List Int},b.length+k<=M.length->(∀j,b.length<=j->j<b.length+k->(f j:Int)∉b)->(within M k b).isSome=true
 | 0,b,_,_=>rfl
 | k+1,b,hl,hb=>by
  unfold within
  rw[List.findSome?_isSome_iff]
  obtain⟨h1,h2⟩:=hf b.length (by omega)
  refine⟨f b.length,dY.mpr h1,?_⟩
  rw[if_pos ⟨h2,hb b.length (cI _) (by omega)⟩]
  refine vz hf hi (by rw[dq,eT];omega) λj c a z=>?_
  rw[dq,eT]at c a
  rcases dJ.mp z with z|z
  ·exact hb j (by omega) (by omega) z
  ·have:=cK.mp z
   have:=hi j b.length (by omega) (by omega) (by omega)
   omega
theorem D3{n:Nat}{d:List Int}(hl:d.length=n)(hn:d.Nodup)(hb:∀t∈d,0<=t/\t<n):Pm n d:=by
 unfold Pm;have e:∀(m:Nat) (l:List Int) (r:List Int),l.length=m->r.length=m->l.Nodup->(∀t∈l,t∈r)->l.Perm r:=by
  intro m
  induction m with
  | zero=>intro l r h1 h2 _ _;rw[jj.mp h1,jj.mp h2]
  | succ m f=>
   intro l r h1 h2 hn h
   cases l with
   | nil=>cases h1
   | cons a l=>
    have c:=h a cM;refine(p7.cons a (f l (r.erase a) (by simpa using h1) (by rw[kR c,h2];rfl) (fu.mp hn).2 λt b=>?_)).trans (List.perm_cons_erase c).symm;exact(mf (show t≠a from λz=>(fu.mp hn).1 (z▸b))).mpr (h t (cO _ b))
 exact e n d (rng n) hl (rng_len n) hn λt b=>mem_rng.mpr (hb t b)
def valsM(M:List (List Int))(d:List Int):List Int:=qd (λr t=>r.getD t.toNat 0) M d
def minGo(s:Int)(l:List Int):Int:=l.foldl (λs p=>if p<s then p else s) s
def minL(l:List Int):Int:=minGo (l.headD 0) l
theorem y0:∀(l:List Int) (s:Int),minGo s l<=s/\(∀x∈l,minGo s l<=x)/\(minGo s l=s\/minGo s l∈l)
 | [],s=>⟨fC _,(λ_ h=>nomatch h),.inl rfl⟩
 | a::l,s=>by
  obtain⟨h1,h2,h3⟩:=y0 l (if a<s then a else s)
  have e:minGo s (a::l)=minGo (if a<s then a else s) l:=rfl
  rw[e]
  by_cases c:a<s
  ·rw[if_pos c]at h1 h2 h3 ⊢
   refine⟨by omega,λx b=>?_,.inr ?_⟩
   ·rcases cZ.mp b with z|z
    ·rw[z];exact h1
    ·exact h2 x z
   ·rcases h3 with z|z
    ·rw[z];exact cM
    ·exact cO _ z
  ·rw[if_neg c]at h1 h2 h3 ⊢
   refine⟨h1,λx b=>?_,?_⟩
   ·rcases cZ.mp b with z|z
    ·rw[z];omega
    ·exact h2 x z
   ·rcases h3 with z|z
    ·exact .inl z
    ·exact .inr (cO _ z)
theorem Dq{l:List Int}(h:l≠[]):minL l∈l/\∀x∈l,minL l<=x:=by
 cases l with
 | nil=>exact absurd rfl h
 | cons a l=>
  obtain⟨h1,h2,h3⟩:=y0 (a::l) a;refine⟨?_,h2⟩;rcases h3 with z|z
  ·show minGo a (a::l)∈_;rw[z];exact cM
  ·exact z
def dealOf(M:List (List Int)):List Int:=(within M M.length []).getD []
def wOf(M:List (List Int)):Int:=minL (valsM M (dealOf M))
theorem sm_one_le{n:Nat}{f:Nat->Int}(hf:∀i,0<=f i):∀{i:Nat},i<n->f i<=sm n f:=by
 have b:∀m,0<=sm m f:=λm=>by
  have:=sm_le (n:=m) (f:=λ_=>0) (g:=f) λi _=>hf i
  rw[sm_zero]at this;exact this
 induction n with
 | zero=>intro i h;exact absurd h (gx _)
 | succ n a=>
  intro i h;show f i<=sm n f+f n;by_cases e:i=n
  ·subst e;have:=b i;omega
  ·have:=a (i:=i) (by omega);have:=hf n;omega
structure JD(n:Nat)(M:List (List Int))(R:Int):Prop where
 some:within M n []=some (dealOf M)
 pm:Pm n (dealOf M)
 ne:∀p,p<n->ent M p ((dealOf M).getD p 0).toNat≠0
 le:∀p,p<n->wOf M<=ent M p ((dealOf M).getD p 0).toNat
 eq:∃p,p<n/\ent M p ((dealOf M).getD p 0).toNat=wOf M
 w1:1<=wOf M
 wR:wOf M<=R
 reg:Reg n (addDeal M (dealOf M) (-wOf M)) (R-wOf M)
theorem valsM_get{n:Nat}{M:List (List Int)}{d:List Int}(hM:M.length=n)(hd:d.length=n){p:Nat}(hp:p<n):(valsM M d)[p]?=some (ent M p (d.getD p 0).toNat):=by
 unfold valsM ent;rw[lU,cz (show p<M.length by omega),cz (show p<d.length by omega),getD_lt (show p<M.length by omega),getD_lt (show p<d.length by omega)]
theorem Reg.step{n:Nat}{M:List (List Int)}{R:Int}(h:Reg n M R)(hR:0<R)(hn:1<=n):JD n M R:=by
 have a:=h.len;obtain⟨f,D,G⟩:=Dj (h.regF hR);have N:=vz (M:=M) (f:=f) (by rw[a];exact D) (by rw[a];exact G) (k:=n) (b:=[]) (by simp[a]) λj _ _=>g9
 obtain⟨d,v⟩:=kH.mp N;have r:dealOf M=d:=by unfold dealOf;rw[a,v];rfl
 obtain⟨F,l,Q,o⟩:=uS v hU;rw[jT,nJ]at l o;have B:∀t∈d,0<=t/\t<n:=λt J=>by
  obtain⟨j,E,e⟩:=eK.mp J;obtain⟨I,h1,h2,_⟩:=o j (du _) (by omega);rw[getD_lt E,e]at h2;omega
 have q:=D3 l F B;have u:∀p,p<n->ent M p (d.getD p 0).toNat≠0:=λp hp=>by
  obtain⟨I,h1,h2,h3⟩:=o p (du _) hp;rw[h2];exact h3
 have x:valsM M d≠[]:=λz=>by
  have:=valsM_get a l (p:=0) (by omega);rw[z]at this
  cases this
 have P:(valsM M d).length=n:=by unfold valsM;simp[a,l]
 obtain⟨L,O⟩:=Dq x;have y:wOf M=minL (valsM M d):=by unfold wOf;rw[r]
 obtain⟨c,A,C⟩:=eK.mp L;have g:c<n:=by omega
 have m:ent M c (d.getD c 0).toNat=wOf M:=by
  have:=valsM_get a l g;rw[cz A,C]at this;rw[y];exact(Option.some.inj this).symm
 have s:∀p,p<n->wOf M<=ent M p (d.getD p 0).toNat:=λp hp=>by
  rw[y];exact O _ (da (valsM_get a l hp))
 have H:1<=wOf M:=by
  have:=u c g;have:=h.nn c (d.getD c 0).toNat;omega
 have K:wOf M<=R:=by
  rw[<-m,<-h.row c g];refine sm_one_le (λi=>h.nn c i) ?_;have:=B (d.getD c 0) (by rw[getD_lt (show c<d.length by omega)];exact cW _);omega
 rw[<-r]at q u s m;refine⟨by rw[v,r],q,u,s,⟨c,g,m⟩,H,K,?_⟩;have:=h.add (w:= -wOf M) q λp hp=>by have:=s p hp;omega
 rw[mV];exact this
def it(Z:List (List Int))(T:Int):Nat->List (List Int)×Int
 | 0=>(Z,T)
 | k+1=>(addDeal (it Z T k).1 (dealOf (it Z T k).1) (-wOf (it Z T k).1),(it Z T k).2-wOf (it Z T k).1)
def lotAt(Z:List (List Int))(T:Int)(k:Nat):Int×List Int:=(wOf (it Z T k).1,dealOf (it Z T k).1)
def lotsL(Z:List (List Int))(T:Int)(k:Nat):List (Int×List Int):=(db k).map (lotAt Z T)
def pn(n:Nat)(M:List (List Int)):Int:=sm n λp=>(cnt n λt=>decide (ent M p t≠0):Nat)
structure L3(n:Nat)(Z:List (List Int))(T:Int)(k:Nat):Prop where
 reg:Reg n (it Z T k).1 (it Z T k).2
 r0:0<=(it Z T k).2
 rT:(it Z T k).2<=T
 lots:∀j,j<k->JD n (it Z T j).1 (it Z T j).2
 ent:∀p,p<n->∀t,ent Z p t=ent (it Z T k).1 p t+sm k λj=>if((lotAt Z T j).2.getD p 0).toNat=t then(lotAt Z T j).1 else 0
 wts:sm k (λj=>(lotAt Z T j).1)=T-(it Z T k).2
 kill:∀j,j<k->∃p,p<n/\HM.ent (it Z T k).1 p ((lotAt Z T j).2.getD p 0).toNat=0
 few:(it Z T k).2≠0->pn n (it Z T k).1+k<=pn n Z
 last:(it Z T k).2=0->(k:Int)+n<=pn n Z+1
 ap:∀i j,i<j->j<k->(lotAt Z T i).2≠(lotAt Z T j).2
theorem DR{S S':Nat->Bool}{c:Nat}:∀{n:Nat},(∀i,i<n->S i=true->S' i=true)->c<n->S' c=true->S c=false->cnt n S+1<=cnt n S':=by
 intro n h d h1 h2;have:cnt n (λi=>S i||i==c)=cnt n S+cnt n (λi=>i==c):=ux (λi a b=>by rw[eq_of_beq b,h2]at a;cases a) n;have h3:cnt n (λi=>S i||i==c)<=cnt n S':=sU λi e z=>by
  rcases j3.mp z with z|z
  ·exact h i e z
  ·rw[eq_of_beq z];exact h1
 have h4:=cnt_one c n;rw[if_pos d]at h4;omega
theorem D0{f g:Nat->Int}{c:Nat}:∀{n:Nat},(∀i,i<n->f i<=g i)->c<n->f c+1<=g c->sm n f+1<=sm n g:=by
 intro n
 induction n with
 | zero=>intro _ h _;exact absurd h (gx _)
 | succ n b=>
  intro h d h1;show sm n f+f n+1<=sm n g+g n;by_cases e:c=n
  ·subst e;have:=sm_le (n:=c) λi a=>h i (dz a)
   omega
  ·have:=b (λi a=>h i (dz a)) (by omega) h1;have:=h n (dH n);omega
theorem it_ok{n:Nat}{Z:List (List Int)}{T:Int}(hZ:Reg n Z T)(hT:0<T)(hn:1<=n):∀k,(∀j,j<k->(it Z T j).2≠0)->L3 n Z T k
 | 0,_=>by
  refine⟨hZ,fj hT,fC _,(λj h=>absurd h (gx _)),(λp _ t=>?_),?_,(λj h=>absurd h (gx _)),(λ_=>?_),(λh=>?_),(λi j _ h=>absurd h (gx _))⟩
  ·show ent Z p t=ent Z p t+0
   omega
  ·show(0:Int)=T-T
   omega
  ·show pn n Z+0<=pn n Z
   omega
  ·exact absurd h (by show T≠0;omega)
 | k+1,hk=>by
  have I:=it_ok hZ hT hn k λj d=>hk j (dz d)
  have v:=hk k (dH k)
  have S:=I.reg.step (by have:=I.r0;omega) hn
  have o:=λ {p} (hp:p<n) t=>Au (w:= -wOf (it Z T k).1) I.reg S.pm.len (λt m=>S.pm.mem.mp m) hp t
  have bd:∀p,p<n->((dealOf (it Z T k).1).getD p 0).toNat<n:=λp hp=>by
   have y:=S.pm.len
   have:=S.pm.mem.mp (show(dealOf (it Z T k).1).getD p 0∈_ by rw[getD_lt (show p<_ by omega)];exact cW _)
   omega
  have s:∀p,p<n->∀t,ent (it Z T (k+1)).1 p t<=ent (it Z T k).1 p t:=λp hp t=>by
   show ent (addDeal (it Z T k).1 (dealOf (it Z T k).1) (-wOf (it Z T k).1)) p t<=_
   rw[o hp]
   have:=S.w1
   split <;> omega
  have u:=S.reg.nn
  have x:pn n (it Z T (k+1)).1+1<=pn n (it Z T k).1:=by
   have r:∀p,p<n->∀t,t<n->decide (ent (it Z T (k+1)).1 p t≠0)=true->decide (ent (it Z T k).1 p t≠0)=true:=λp hp t _ h=>by
    have h1:=s p hp t
    have h2:0<=ent (it Z T (k+1)).1 p t:=u p t
    have h3:=of_decide_eq_true h
    exact decide_eq_true (by omega)
   obtain⟨b,a,l⟩:=S.eq
   refine D0 (c:=b) (λp hp=>?_) a ?_
   ·have:=sU (n:=n) λt m=>r p hp t m
    exact ql.mpr this
   ·have:=DR (n:=n) (c:=((dealOf (it Z T k).1).getD b 0).toNat) (λt m=>r b a t m) (bd b a) (decide_eq_true (S.ne b a)) (by
     refine decide_eq_false λz=>z ?_
     show ent (addDeal (it Z T k).1 (dealOf (it Z T k).1) (-wOf (it Z T k).1)) b _=0
     rw[o a,if_pos rfl,l]
     omega)
    omega
  refine⟨S.reg,?_,?_,λj d=>?_,λp hp t=>?_,?_,λj d=>?_,λh=>?_,λh=>?_,λi j q d=>?_⟩
  ·show 0<=(it Z T k).2-wOf (it Z T k).1
   have:=S.wR
   omega
  ·show(it Z T k).2-wOf (it Z T k).1<=T
   have:=S.w1
   have:=I.rT
   omega
  ·rcases fN.mp d with z|z
   ·exact I.lots j z
   ·rw[z];exact S
  ·rw[I.ent p hp t]
   show _=ent (addDeal (it Z T k).1 (dealOf (it Z T k).1) (-wOf (it Z T k).1)) p t+(sm k _+if((dealOf (it Z T k).1).getD p 0).toNat=t then wOf (it Z T k).1 else 0)
   rw[o hp]
   split <;> omega
  ·show sm k _+wOf (it Z T k).1=T-((it Z T k).2-wOf (it Z T k).1)
   have:=I.wts
   omega
  ·rcases fN.mp d with z|z
   ·obtain⟨p,hp,e⟩:=I.kill j z
    refine⟨p,hp,?_⟩
    have h1:=s p hp ((lotAt Z T j).2.getD p 0).toNat
    have h2:0<=HM.ent (it Z T (k+1)).1 p ((lotAt Z T j).2.getD p 0).toNat:=u _ _
    omega
   ·subst z
    obtain⟨b,a,l⟩:=S.eq
    refine⟨b,a,?_⟩
    show HM.ent (addDeal (it Z T j).1 (dealOf (it Z T j).1) (-wOf (it Z T j).1)) b ((dealOf (it Z T j).1).getD b 0).toNat=0
    rw[o a,if_pos rfl,l]
    omega
  ·have:=I.few v
   push_cast
   omega
  ·have h1:=I.few v
   have h2:(n:Int)<=pn n (it Z T k).1:=by
    have:=sm_le (n:=n) (f:=λ_=>if(true:Bool)=true then 1 else 0) (g:=λp=>(cnt n λt=>decide (HM.ent (it Z T k).1 p t≠0):Nat)) λp hp=>by
     have h3:cnt n (λi=>i==((dealOf (it Z T k).1).getD p 0).toNat)<=cnt n λt=>decide (HM.ent (it Z T k).1 p t≠0):=sU λi _ e=>by
      rw[eq_of_beq e]
      exact decide_eq_true (S.ne p hp)
     rw[cnt_one,if_pos (bd p hp)]at h3
     rw[if_pos rfl]
     omega
    rw[sm_cnt (λ_=>true) 1 n]at this
    have e:cnt n (λ_=>true)=n:=by unfold cnt;simp
    rw[e]at this
    show(n:Int)<=sm n _
    omega
   push_cast
   omega
  ·rcases fN.mp d with z|z
   ·exact I.ap i j q z
   ·subst z
    intro e
    obtain⟨p,hp,l⟩:=I.kill i q
    rw[e]at l
    exact S.ne p hp l
def Fin(Z:List (List Int))(T:Int)(k:Nat):Prop:=(it Z T k).2=0/\∀j,j<k->(it Z T j).2≠0
theorem Fin.uniq{Z:List (List Int)}{T:Int}{k k':Nat}(h:Fin Z T k)(h':Fin Z T k'):k=k':=by
 rcases iD k k' with z|z|z
 ·exact absurd h.1 (h'.2 k z)
 ·exact z
 ·exact absurd h'.1 (h.2 k' z)
theorem pn_le{n:Nat}(hn:n<=6)(M:List (List Int)):pn n M<=36:=by
 have cn:∀S:Nat->Bool,cnt n S<=n:=λS=>by
  have:=sU (n:=n) (S:=S) (S':=λ_=>true) λ_ _ _=>rfl
  have e:cnt n (λ_=>true)=n:=by unfold cnt;simp
  omega
 have:=sm_le (n:=n) (f:=λp=>(cnt n λt=>decide (ent M p t≠0):Nat)) (g:=λ_=>if(true:Bool)=true then 6 else 0) λp _=>by
  have:=cn λt=>decide (ent M p t≠0)
  rw[if_pos rfl];omega
 rw[sm_cnt (λ_=>true) 6 n]at this;have:=cn λ_=>true
 show sm n _<=36;omega
end HM
namespace L2
open PySem PySem.Spec PyProof.Rows
section
variable{prog:cT}{w:dc}{A:dw}{E:cA->cD->Prop}{s:cD}
def Mg(prog:cT)(w:dc)(h:Heap)(k:List Int)(v:cA):Prop:=∃b,v = .ref b/\IsTupleKey (intKind prog w) h k b
end
theorem wF:entryFor table "set.__len__"=some Builtin.«frozenset.__len__»:=kh (id':="frozenset.__len__") rfl rfl (by decide +kernel) rfl
theorem uA{prog:cT}{w:dc}:∀{r:List Int} {its:List cA},Vals (r.map V.int) its->ItemsAre (intKind prog w) r its
 | [],[],_=> .nil
 | i::r,v::its,h=>by
  cases h with
  | cons h1 h2=>
   obtain⟨t,rfl⟩:=h1
   exact .cons (beq_self_eq_true _) (uA h2)
theorem Inv.tupV{X:Cx}{pins:List (cG×Obj)}{σ:St}{H:Hp}{s:cD}(I:Inv X pins σ H s){v:V}{u:cA}{r:List Int}(h:IsR X.K H v r)(rv:RelV v u):Mg X.prog X.w s.heap r u:=by
 obtain⟨a,rfl,c⟩:=h
 cases(show u=cR a from rv);obtain⟨b,d,⟨o,h1,h2,n,h3⟩,_⟩:=I.tuple c;exact⟨a,rfl,o,b.toArray,n,h1,h2,h3,uA d⟩
def RwFL(K:cu)(H:Hp)(T:Int)(v:V)(m:List Int):Prop:=∃a gs,v = .ref a/\SqL K H a gs/\dr (IsF K H) gs (fr T m)
theorem RwFL.mono{K:cu}{H H':Hp}{T:Int}{v:V}{m:List Int}(e:Same H H')(h:RwFL K H T v m):RwFL K H' T v m:=by
 obtain⟨a,b,rfl,h1,h2⟩:=h;exact⟨a,b,rfl,e.seq h1,rP e h2⟩
def RwFX(K:cu)(H:Hp)(T:Int)(lo:cG)(v:V)(m:List Int):Prop:=∃a gs,v = .ref a/\a≠lo/\H a=some (.lst gs)/\dr (IsF K H) gs (fr T m)
theorem RwFX.fl{K:cu}{H:Hp}{T:Int}{lo:cG}{v:V}{m:List Int}(h:RwFX K H T lo v m):RwFL K H T v m:=by
 obtain⟨a,b,rfl,_,h1,h2⟩:=h;exact⟨a,b,rfl,SqL.of h1,h2⟩
theorem RwFX.mono{K:cu}{H H':Hp}{T:Int}{lo:cG}{v:V}{m:List Int}(e:Same H H')(h:RwFX K H T lo v m):RwFX K H' T lo v m:=by
 obtain⟨a,b,rfl,h0,h1,h2⟩:=h;exact⟨a,b,rfl,h0,e _ _ h1,rP e h2⟩
theorem RwFX.over{K:cu}{H:Hp}{T:Int}{lo:cG}{ys zs:List V}{v:V}{m:List Int}(h:RwFX K H T lo v m)(hp:H lo=some (.lst ys)):RwFX K (upd H lo (.lst zs)) T lo v m:=by
 obtain⟨a,b,rfl,h0,h1,h2⟩:=h;exact⟨a,b,rfl,h0,by rw[rG h0];exact h1,Paired.mapP h2 λ_ _ q=>q.over hp⟩
theorem IsLot.over{K:cu}{H:Hp}{T:Int}{v:V}{l:Jv}{p:cG}{ys zs:List V}(h:IsLot K H T v l)(hp:H p=some (.lst ys)):IsLot K (upd H p (.lst zs)) T v l:=by
 obtain⟨a,f,g,rfl,h1,h2,h3⟩:=h;exact⟨a,f,g,rfl,uw h1 hp,h2.over hp,uw h3 hp⟩
theorem B0{a b T:Int}(hT:T≠0):IW (FQ.red a T) (FQ.red b T)=FQ.red (a-b) T:=by
 have:=xj (a:=a) (b:=b) (c:=1) hT (by decide);rw[h9,h9]at this;exact this
theorem yt(T:Int)(m:List Int):(fr T m).length=m.length:=by unfold fr;rw[cx]
structure LE(n:Nat)(T:Int)(M:List (List Int)):Prop where
 lo:1<=n
 hi:n<=6
 t0:0<T
 t1:T<2^80
 len:M.length=n
 cols:∀r∈M,r.length=n
def GV(K:cu)(m:Nat):Sp:=λvs H Q _=>∃(l b:cG) (rs:List V) (M:List (List Int)) (T:Int) (n k:Nat) (bs:List Int),vs=[.ref l,.ref b]/\SqL K H l rs/\dr (RwFL K H T) rs M/\LE n T M/\SqT K H b (bs.map V.int)/\bs.length+k=n/\k<=m/\
 (HM.within M k bs=none->∀H',Same H H'->Q .non H')/\(∀d,HM.within M k bs=some d->∀p H',Same H H'->SqT K H' p (d.map V.int)->Q (.ref p) H')
def JI(K:cu):Sp:=λvs H Q _=>∃(r w:cG) (gs:List V) (m:List Int) (t T x:Int),vs=[.ref r,.int t,.ref w]/\SqL K H r gs/\dr (IsF K H) gs (fr T m)/\IsF K H (.ref w) (FQ.red x T)/\(0<T/\T<2^80)/\(0<=t/\t<m.length)/\m.length<=6/\(0<=m.getD t.toNat 0/\m.getD t.toNat 0<=T)/\(0<=x/\x<=T)/\
 ∀p gs' H',Same H H'->H p=none->H' p=some (.lst gs')->dr (IsF K H') gs' (fr T (LM.addOne m t (-x)))->Q (.ref p) H'
structure Jl(n:Nat)(T:Int)(Z:List (List Int)):Prop where
 lo:1<=n
 hi:n<=6
 t0:0<T
 t1:T<2^80
 reg:HM.Reg n Z T
def GW(K:cu):Sp:=λvs H Q _=>∃(a:cG) (us:List V) (Z:List (List Int)) (T:Int) (n:Nat),vs=[.ref a]/\SqL K H a us/\dr (RwFT K H T) us Z/\Jl n T Z/\
 ∀k p ls H',HM.Fin Z T k->Same H H'->H p=none->H' p=some (.lst ls)->dr (IsLot K H' T) ls (HM.lotsL Z T k)->Q (.ref p) H'
theorem uk{T:Int}(hT:0<T):∀(l:List Int) (s:Int),Er (FQ.red s T) (l.map λx=>FQ.red x T)=FQ.red (HM.minGo s l) T
 | [],s=>rfl
 | a::l,s=>by
  show Er (if Eu (FQ.red a T) (FQ.red s T)=true then FQ.red a T else FQ.red s T) (l.map λx=>FQ.red x T)=FQ.red (HM.minGo (if a<s then a else s) l) T
  rw[xz hT hT]
  by_cases h:a<s
  ·rw[if_pos (decide_eq_true (fZ h hT)),if_pos h]
   exact uk hT l a
  ·rw[if_neg (by rw[decide_eq_true_iff];exact λz=>h (gI z (fj hT))),if_neg h]
   exact uk hT l s
theorem zw{T:Int}(hT:0<T){l:List Int}(h:l≠[]):GF (l.map λx=>FQ.red x T)=FQ.red (HM.minL l) T:=by
 cases l with
 | nil=>exact absurd rfl h
 | cons a l=>exact uk hT (a::l) a
abbrev Ev:=List Int×List Int
def IsPK(prog:cT)(w:dc)(h:Heap)(k:Ev)(a:cG):Prop:=
 ∃o n x y,h.get? a=some o/\o.cls = .type "tuple"/\o.data = .seq #[.ref x,.ref y] n/\IsTupleKey (intKind prog w) h k.1 x/\IsTupleKey (intKind prog w) h k.2 y
section
variable{prog:cT}{w:dc}{A:dw}{E:cA->cD->Prop}{s:cD}
theorem IsPK.typeIs{k:Ev}{a:cG}(x:IsPK prog w s.heap k a):s.TypeIs (.ref a) "tuple":=let⟨o,_,_,_,c,b,_⟩:=x;⟨o,c,b⟩
def IJ(prog:cT)(w:dc)(k:Ev):Int:=reduceHash (i4 [tupleKeyHash (intKind prog w) k.1,tupleKeyHash (intKind prog w) k.2])
theorem zI{k:Ev}{a:cG}{Q:Int->cD->Prop}(hu:A.units+2<cLine)(hk:IsPK prog w s.heap k a)(h:Q (IJ prog w k) {s with toks:=s.toks+((k.1.length+1)+(k.2.length+1)+1)}):wpAny (model prog w) A (pyHash (.ref a)) Q E s:=by
 have b:=hk.typeIs;obtain⟨o,n,x,y,c,_,d,h1,h2⟩:=hk;unfold pyHash pyHashByItsType;refine cr (wpAny_cRoomFor_or (.inr (by omega)) ?_);refine cr (gd b jx.lookup ?_);show wpAny _ _ (if(some (Value.builtin "tuple.__hash__")==some cA.none)=true then _ else _) Q E s;rw[if_neg (by rw[beq_builtin_none];exact de)];refine cr (gd b jx.lookup ?_);show wpAny _ _ (callSpecialIfBoundUnlessNone? (.ref a) "__hash__" _ >>= _) Q E s;refine cr (wpAny_callSpecialIfBoundUnlessNone?_slot b jx (dR jx b F.entry_tuple_hash ?_ (F.args_tuple_hash_1 _)));show wpAny _ _ (oZ (.ref a) >>= _) _ _ s;refine cr (kj c d ?_);rw[<-il,show #[cR x,cR y].toList=[cR x,cR y]from rfl];rw[eg,bind_assoc];refine cr (cr (mW (show A.units+1<cLine by omega) h1 ?_));refine cv ?_;dsimp only;rw[eg,bind_assoc];refine cr (cr (mW (s:={s with toks:=s.toks+(k.1.length+1)}) (show A.units+1<cLine by omega) h2 ?_));refine cv ?_;dsimp only;rw[gp];refine cr (cv ?_);refine wpAny_ret_mkInt ?_;show wpAny _ _ (if(decide (-(2:Int)^63<=i4 [tupleKeyHash (intKind prog w) k.1,tupleKeyHash (intKind prog w) k.2])&&decide (i4 [tupleKeyHash (intKind prog w) k.1,tupleKeyHash (intKind prog w) k.2]<2^63))=true then _ else _) Q E _;unfold IJ reduceHash at h;split at h
 ·rename_i hr
  rw[if_pos hr];exact cv (by simpa [mC]using h)
 ·rename_i hr
  rw[if_neg hr];exact cr (iQ (cv (by simpa [mC]using h)))
theorem IsPK.inj{h:Heap}{a:cG}{k k':Ev}(hx:IsPK prog w h k a)(hy:IsPK prog w h k' a):k=k':=by
 obtain⟨o,n,x,y,j,_,m,h1,h2⟩:=hx;obtain⟨s,r,t,q,b,_,c,f,g⟩:=hy;rw[j]at b
 cases b;rw[m]at c;injection c with e _
 have d:=congrArg m5 e;simp only[List.cons.injEq,cR.injEq,and_true]at d;obtain⟨p,l⟩:=d;subst p l;exact Prod.ext (h1.inj f) (h2.inj g)
theorem IsPK.keeps{h h':Heap}{k:Ev}{a d:cG}{o:Obj}{es ep}(hx:IsPK prog w h k a)(ho:h.get? d=some o)(hd:o.data = .dict es ep)(hs:fI d h h'):IsPK prog w h' k a:=by
 obtain⟨f,n,x,y,h0,e,b,h1,h2⟩:=hx;have c:a≠d:=by
  rintro rfl;rw[ho]at h0
  cases h0;rw[hd]at b
  cases b
 exact⟨f,n,x,y,(hs.2 a c).trans h0,e,b,h1.keeps ho hd hs,h2.keeps ho hd hs⟩
theorem zZ{k k':Ev}{a b:cG}{Q:Bool->cD->Prop}(hu:A.units+2<cLine)(hx:IsPK prog w s.heap k a)(hy:IsPK prog w s.heap k' b)(h:Q (decide (k=k')) s):wpAny (model prog w) A (eqBool (.ref a) (.ref b)) Q E s:=by
 unfold eqBool
 try with_reducible refine dG ?_
 show wpAny _ _ (if(cR a==cR b)=true then _ else _) Q E s;by_cases c:(cR a==cR b)=true
 ·rw[if_pos c];have e:a=b:=by have:=eq_of_beq c;injection this
  subst e;have e:=hx.inj hy;subst e;exact cr (iQ (cv (by simpa using h)))
 ·rw[if_neg c];have j:=hx.typeIs;have g:=hy.typeIs;obtain⟨o,n,x,y,u,_,v,h1,h2⟩:=hx;obtain⟨C,B,r,l,p,_,t,m,q⟩:=hy;refine cr (wpAny_richCompare_same_room (op:= .Eq) j g jX (dR jX j F.entry_tuple_eq ?_ (F.args_tuple_eq_2 _ _)) (by omega));show wpAny _ _ (isInstance (.ref b) (.type "tuple") >>= _) _ _ s;refine cr (eF g jD ?_);simp only[gY,fV,if_false];refine cr (kj u v ?_);refine cr (kj p t ?_);rw[show List.zip #[cR x,cR y].toList #[cR r,cR l].toList=[(cR x,cR r),(cR y,cR l)]from rfl];rw[eg,bind_assoc];refine cr (cr (mX (show A.units+1<cLine by omega) h1 m ?_));by_cases f:k.1=k'.1
  ·rw[decide_eq_true f];simp only[gY,fV,if_false];refine cv ?_;dsimp only;rw[eg,bind_assoc];refine cr (cr (mX (show A.units+1<cLine by omega) h2 q ?_));by_cases d:k.2=k'.2
   ·rw[decide_eq_true d];simp only[gY,fV,if_false];refine cv ?_;dsimp only;rw[gp];refine cr (cv (cv ⟨_,rfl,(λe=>nomatch e),eI ?_⟩));rw[decide_eq_true (Prod.ext f d)]at h;exact h
   ·rw[decide_eq_false d];simp only[o0,if_true];rw[decide_eq_false (λz=>d (by rw[z]))]at h;exact cr (cv (cv (cr (cv (cv ⟨_,rfl,(λe=>nomatch e),eI h⟩)))))
  ·rw[decide_eq_false f];simp only[o0,if_true];rw[decide_eq_false (λz=>f (by rw[z]))]at h;exact cr (cv (cv (cr (cv (cv ⟨_,rfl,(λe=>nomatch e),eI h⟩)))))
theorem yp{f:Nat}{ks:List Int}{a:cG}{Q:Bool->cD->Prop}(hk:IsTupleKey (intKind prog w) s.heap ks a)(h:Q true s):wpAny (model prog w) A (eqIsQuiet (f+1) (.ref a)) Q E s:=by
 have g:=hk.typeIs;obtain⟨o,b,n,l,_,m,k⟩:=hk;unfold eqIsQuiet;refine cr (gd g jX.lookup ?_);show wpAny _ _ (isInstance (.ref a) (.type "tuple") >>= _) _ _ s;refine cr (eF g jD ?_);simp only[gY,fV,if_false];refine cr (fP l m ?_);refine cr ?_;show wpAny _ _ (forIn b _ _) _ _ s;rw[<-il];refine ld _ (λrest r c=>r.1=none/\c=s/\∀v∈rest,carriedByValue v=true) _ ?_ ?_ _ _ ⟨rfl,rfl,k.byValue⟩
 ·rintro v rest r c ⟨_,rfl,d⟩;rw[eqIsQuiet_byValue _ (d v cM)];refine cr (cv ?_);simp only[gY,fV,if_false];exact cv ⟨rfl,rfl,λu j=>d u (cO _ j)⟩
 ·rintro⟨q,p⟩ c ⟨e,rfl,_⟩;simp only at e;subst e;exact cv h
theorem BY{k:Ev}{a:cG}{Q:Bool->cD->Prop}(hk:IsPK prog w s.heap k a)(h:Q true s):wpAny (model prog w) A (eqIsQuiet 8 (.ref a)) Q E s:=by
 have b:=hk.typeIs;obtain⟨o,n,x,y,c,_,d,h1,h2⟩:=hk;unfold eqIsQuiet;refine cr (gd b jX.lookup ?_);show wpAny _ _ (isInstance (.ref a) (.type "tuple") >>= _) _ _ s;refine cr (eF b jD ?_);simp only[gY,fV,if_false];refine cr (fP c d ?_);show wpAny _ _ (forIn #[cR x,cR y] _ _ >>= _) _ _ s;rw[<-il,show #[cR x,cR y].toList=[cR x,cR y]from rfl,eg,bind_assoc];refine cr (cr (yp h1 ?_));simp only[gY,fV,if_false];refine cv ?_;dsimp only;rw[eg,bind_assoc];refine cr (cr (yp h2 ?_));simp only[gY,fV,if_false];refine cv ?_;dsimp only;rw[gp];exact cr (cv (cv h))
end
def Jw(prog:cT)(w:dc):HeapKind prog w Ev where
 is:=IsPK prog w
 hash:=IJ prog w
 draws:=λk=>(k.1.length+1)+(k.2.length+1)+1
 room:=λA=>A.units+2<cLine
 inj:=λhx hy=>hx.inj hy
 keeps:=λx ho hd hs=>x.keeps ho hd hs
 pyHash:=λhu hk h=>zI hu hk h
 eqBool:=λhu hx hy h=>zZ hu hx hy h
 quiet:=λhk h=>BY hk h
structure KW(κ:Type)[DecidableEq κ] where
 knd:(prog:cT)->(w:dc)->HeapKind prog w κ
 at':cu->Hp->κ->cG->Prop
 ok:∀{X:Cx} {pins:List (cG×Obj)} {σ:St} {H:Hp} {s:cD} {k:κ} {a:cG},Inv X pins σ H s->at' X.K H k a->(knd X.prog X.w).is s.heap k a
 map:∀{K:cu} {H H':Hp} {k:κ} {a:cG},(∀b xs,SqT K H b xs->SqT K H' b xs)->at' K H k a->at' K H' k a
 room:∀{prog:cT} {w:dc} {A:dw},A.units+3<cLine->(knd prog w).room A.in1
 room':∀{prog:cT} {w:dc} {A:dw},A.units+3<cLine->(knd prog w).room A
def DXe{P:cT}{w:dc}{κ:Type}[DecidableEq κ](knd:HeapKind P w κ)(xs:List (κ×cG×cA))(ep:Nat)(d:cG)(h:Heap):Prop:=
 (d==sysModules)=false/\∃o es,h.get? d=some o/\o.ExactDict/\o.data = .dict es ep/\es.toList=xs.map (entryOfKey knd)/\(xs.map (·.1)).Nodup
def DictE{κ:Type}[DecidableEq κ](W:KW κ)(P:cT)(w:dc)(K:cu)(H:Hp)(d:cG)(ep:Nat)(kvs:List (κ×Int)):Prop:=
 ∃xs,H d=some (.ext (DXe (W.knd P w) xs ep d))/\dr (λ(p:κ×Int) (q:κ×cG×cA)=>p.1=q.1/\(∃t,q.2.2=dX p.2 t)/\W.at' K H p.1 q.2.1) kvs xs
def DictI{κ:Type}[DecidableEq κ](W:KW κ)(P:cT)(w:dc)(K:cu)(H:Hp)(d:cG)(kvs:List (κ×Int)):Prop:=∃ep,DictE W P w K H d ep kvs
section
variable{κ:Type}[DecidableEq κ]{W:KW κ}{P:cT}{w:dc}{K:cu}{H H':Hp}{d:cG}{ep:Nat}{kvs:List (κ×Int)}
theorem DictE.mono(e:Same H H')(h:DictE W P w K H d ep kvs):DictE W P w K H' d ep kvs:=by
 obtain⟨f,h1,h2⟩:=h;exact⟨f,e _ _ h1,Paired.mapP h2 λ_ _ ⟨a,b,c⟩=>⟨a,b,W.map (λ_ _ q=>e.tup q) c⟩⟩
theorem DictI.mono(e:Same H H')(h:DictI W P w K H d kvs):DictI W P w K H' d kvs:=by
 obtain⟨a,h⟩:=h;exact⟨a,h.mono e⟩
theorem vF{p a:cG}{φ:Heap->Prop}{o:HO}{xs:List V}(h:SqT K H a xs)(hp:H p=some (.ext φ)):SqT K (upd H p o) a xs:=by
 rcases h with(h|⟨u,h⟩)|h
 ·exact .inl (.inl (by rw[rG (λz=>by rw[z,hp]at h;cases h)];exact h))
 ·exact .inl (.inr ⟨u,by rw[rG (λz=>by rw[z,hp]at h;cases h)];exact h⟩)
 ·exact .inr h
theorem DictE.overX{p:cG}{φ:Heap->Prop}{o:HO}(h:DictE W P w K H d ep kvs)(hp:H p=some (.ext φ))(hne:d≠p):DictE W P w K (upd H p o) d ep kvs:=by
 obtain⟨e,h1,h2⟩:=h;exact⟨e,by rw[rG hne];exact h1,Paired.mapP h2 λ_ _ ⟨a,b,c⟩=>⟨a,b,W.map (λ_ _ q=>vF q hp) c⟩⟩
theorem DXe.frame{knd:HeapKind P w κ}{xs:List (κ×cG×cA)}{h1 h2:Heap}(h:DXe knd xs ep d h1)(k:∀o,h1.get? d=some o->h2.get? d=some o):DXe knd xs ep d h2:=by
 obtain⟨a,o,e,b,c⟩:=h;exact⟨a,o,e,k o b,c⟩
theorem wW{knd:HeapKind P w κ}{xs:List (κ×cG×cA)}{h:Heap}(hx:DXe knd xs ep d h):ObjOk P w H h d (.ext (DXe knd xs ep d)):=
 ⟨hx,let⟨_,o,_,b,_⟩:=hx;⟨o,b⟩,λ_ _ a b=>a.frame b⟩
end
section
variable{κ:Type}[DecidableEq κ]{W:KW κ}{X:Cx}{pins:List (cG×Obj)}{σ:St}{H:Hp}{s:cD}{d:cG}{ep:Nat}{kvs:List (κ×Int)}{A:dw}{E:cA->cD->Prop}
theorem Inv.dx(I:Inv X pins σ H s)(h:DictE W X.prog X.w X.K H d ep kvs):∃xs,DXe (W.knd X.prog X.w) xs ep d s.heap/\s.heap.DictOfH (W.knd X.prog X.w) d xs/\dr (λ(p:κ×Int) (q:κ×cG×cA)=>p.1=q.1/\(∃t,q.2.2=dX p.2 t)/\W.at' X.K H p.1 q.2.1) kvs xs:=by
 obtain⟨xs,h1,h2⟩:=h;obtain⟨j,_,_⟩:=I.hok d _ h1;obtain⟨h3,o,m,a,b,c,e,f⟩:=id j;refine⟨xs,j,⟨o,m,ep,a,b,c,e,λq n=>?_,f⟩,h2⟩;obtain⟨i,l,r⟩:=eK.mp n;obtain⟨p,hp,k,_,g⟩:=Paired.get h2 (cz l);rw[r]at k g;rw[<-k];exact W.ok I g
theorem vC{xs:List (κ×cG×cA)}{K:cu}{H:Hp}(k:κ):∀{kvs:List (κ×Int)},dr (λ(p:κ×Int) (q:κ×cG×cA)=>p.1=q.1/\(∃t,q.2.2=dX p.2 t)/\W.at' K H p.1 q.2.1) kvs xs->(kvs.lookup k=none/\atKey xs k=none)\/∃n a t,kvs.lookup k=some n/\atKey xs k=some (a,dX n t):=by
 induction xs with
 | nil=>
  intro kvs h
  cases h;exact .inl ⟨rfl,rfl⟩
 | cons q xs f=>
  intro kvs h
  cases h with
  | @cons p _ ps _ hp hr=>
   obtain⟨b,⟨t,d⟩,_⟩:=hp;obtain⟨pk,pn⟩:=p;obtain⟨g,c,j⟩:=q;dsimp only at b d;subst b d;by_cases e:pk=k
   ·subst e;refine .inr ⟨pn,c,t,?_,?_⟩
    ·simp[gP]
    ·simp[atKey]
   ·have h1:((pk,pn)::ps).lookup k=ps.lookup k:=by
     rw[dW,show(k==pk)=false from beq_false_of_ne (Ne.symm e)]
    have h2:atKey ((pk,c,dX pn t)::xs) k=atKey xs k:=by
     unfold atKey;rw[List.find?_cons_of_neg (by simpa using e)]
    rw[h1,h2];exact f hr
def Lj(W:KW κ)(P:cT)(w:dc)(K:cu)(td ty tx:TE):TE:=λσ H Q=>td σ H λx H1=>∃(d:cG),x = .ref d/\(∃kvs,DictI W P w K H1 d kvs)/\ty σ H1 λy H2=>tx σ H2 λz H3=>∃(a:cG) (k:κ) (n:Int) (kvs:List (κ×Int)),y = .ref a/\z = .int n/\DictI W P w K H3 d kvs/\W.at' K H3 k a/\Q (.int ((kvs.lookup k).getD n)) H3
theorem x8{P:cT}{w:dc}{K:cu}{o e f:Expr}{apos cpos:Pos}{td ty tx:TE}{j:Nat}(hP:X.prog=P)(hw:X.w=w)(hK:X.K=K)(hr:Room j X.A)(ho:PE X o td)(he:PE X e ty)(hf:PE X f tx)(hbase:attributeBase o "get" X.env (eval o X.env)=eval o X.env:=by rfl)
  (hfew:((backTo cpos (dh [e,f] X.env)).all (λx=>!x.1)&&(backToKw cpos (keywordEach [] X.env)).all (λx=>x.1.isSome)&&decide (([e,f]:List Expr).length+([]:List Keyword).length+(if([]:List Keyword).isEmpty then 0 else 1)<30))=true:=by rfl)
  (hline:(apos.endLine==cpos.line)=true:=by rfl)(htrees:backTo cpos (dh [e,f] X.env)=[(false,eval e X.env),(false,eval f X.env)]:=by rfl):PE X (.Call (.Attribute o "get" apos) [e,f] [] cpos) (Lj W P w K td ty tx):=by
 subst hP hw hK
 intro c s r H Q I h
 refine nM hbase hfew hline lg lV PySem.F.type_dict_get (Ei (ho c s r H _ I h) λu V ⟨x,L,G,T,d,ex,⟨aa,ae,C⟩,S⟩=>?_)
 subst ex
 obtain rfl:u=cR d:=T
 obtain⟨ac,⟨ab,o1,ag,g1,g2,_⟩,E,_⟩:=G.dx C
 refine⟨E.typeIs,λb z=>?_,?_⟩
 ·cases z
  exact⟨o1,g1,g2.2.1⟩
 rw[htrees]
 refine gz rfl (iJ (fF (Ei (he c V r L _ G S) λM J ⟨y,H2,I2,Y,q2⟩=>fF (Ei (hf c J r H2 _ I2 q2) λfv s3 ⟨z,H3,q,U,a,k,n,af,Z,R,⟨ad,D⟩,hk,O⟩=>kA ?_))))
 subst Z R
 cases(show M=cR a from Y)
 obtain⟨N,rfl⟩:=U
 obtain⟨xs,⟨g,_⟩,l,B⟩:=q.dx D
 refine qm lV l.typeIs PySem.F.entry_dict_get (PySem.F.args_dict_get_3 _ _ _) (meetsH_dict_get_default (W.knd X.prog X.w) d a g (.int n N)) ⟨W.room (by have:=hr.units;omega),k,xs,W.ok q hk,l,?_⟩
 refine⟨_,H3,q.tok _,?_,O⟩
 rcases vC k B with⟨v,p⟩|⟨m,b,t,v,p⟩
 ·rw[v,p];exact⟨_,rfl⟩
 ·rw[v,p];exact⟨_,rfl⟩
def Gu(kvs:List (κ×Int))(k:κ)(n:Int):List (κ×Int):=if(kvs.lookup k).isSome=true then kvs.map (λp=>if p.1=k then(p.1,n)else p)else kvs++[(k,n)]
theorem zD{K:cu}{H H':Hp}{xs:List (κ×cG×cA)}{kvs:List (κ×Int)}{k:κ}{a:cG}{n:Int}{t:Tok}(rel:dr (λ(p:κ×Int) (q:κ×cG×cA)=>p.1=q.1/\(∃t,q.2.2=dX p.2 t)/\W.at' K H p.1 q.2.1) kvs xs)
  (up:∀(k':κ) (b:cG),W.at' K H k' b->W.at' K H' k' b)(hk:W.at' K H k a):dr (λ(p:κ×Int) (q:κ×cG×cA)=>p.1=q.1/\(∃t,q.2.2=dX p.2 t)/\W.at' K H' p.1 q.2.1) (Gu kvs k n) (storedH xs k a (.int n t)):=by
 unfold Gu
 rcases vC k rel with⟨d,g⟩|⟨m,b,l,d,g⟩
 ·rw[d,storedH_new g]
  exact Paired.app (Paired.mapP rel λ_ _ ⟨c,j,f⟩=>⟨c,j,up _ _ f⟩) (.cons ⟨rfl,⟨t,rfl⟩,up _ _ hk⟩ .nil)
 ·rw[d,storedH_old g]
  show dr _ (kvs.map λp=>if p.1=k then(p.1,n)else p) (xs.map (putAt k (.int n t)))
  clear d g
  induction rel with
  | nil=>exact .nil
  | @cons p q ps qs h _ ih=>
   obtain⟨c,j,f⟩:=h
   refine .cons ?_ ih
   unfold putAt
   dsimp only
   by_cases e:p.1=k
   ·rw[if_pos e,if_pos (c▸e)]
    exact⟨c,⟨t,rfl⟩,up _ _ f⟩
   ·rw[if_neg e,if_neg (λz=>e (c.trans z))]
    exact⟨c,j,up _ _ f⟩
def Lq(W:KW κ)(P:cT)(w:dc)(K:cu):V->V->V->Hp->(Hp->Prop)->Prop:=λo i v H Q=>∃(d a:cG) (k:κ) (n:Int) (kvs:List (κ×Int)),o = .ref d/\i = .ref a/\v = .int n/\DictI W P w K H d kvs/\W.at' K H k a/\kvs.length<=1000000/\
 ∀H',(∃φ φ',H d=some (.ext φ)/\H'=upd H d (.ext φ'))->DictI W P w K H' d (Gu kvs k n)->Q H'
theorem Dt{P:cT}{w:dc}{K:cu}{j:Nat}(hP:X.prog=P)(hw:X.w=w)(hK:X.K=K)(hr:Room j X.A):JT X (Lq W P w K):=by
 subst hP hw hK;intro U s σ H o i v ov iv u Q I F Y N h;obtain⟨d,a,k,n,aa,rfl,rfl,rfl,⟨ep,y⟩,hk,hl,q⟩:=h
 cases F
 cases Y;obtain⟨t,rfl⟩:=N;obtain⟨f,⟨r,o1,ab,g1,g2,g3,_⟩,T,g⟩:=I.dx y;have ac:=Paired.len g;refine wpAny_setItem_heap (W.room (by have:=hr.units;omega)) (W.ok I hk) T (λS E V=>?_) (dg (show f.length<=1000000 by omega) (by decide));obtain⟨z,D,c,C,R,M,G,a5,L⟩:=E;obtain⟨Z,h1,h2⟩:=y;have J:DXe (W.knd X.prog X.w) (storedH f k a (.int n t)) c d S:=⟨r,z,D,C,R,M,G,L⟩;have O:=I.write (t':=s.toks+(W.knd X.prog X.w).draws k) (x:=d) (e:=d) (o:= .ext (DXe (W.knd X.prog X.w) (storedH f k a (.int n t)) c d)) (by rw[h1];trivial) (.inl rfl) (λb ob p l=>(V.2 b p).trans l) ⟨z,C⟩ (wW J);refine⟨_,O,q _ ⟨_,_,h1,rfl⟩ ⟨c,storedH f k a (.int n t),rz,?_⟩⟩;have B:∀(m:κ) (b:cG),W.at' X.K H m b->W.at' X.K (upd H d (.ext (DXe (W.knd X.prog X.w) (storedH f k a (.int n t)) c d))) m b:=λm b p=>W.map (λ_ _ l=>vF l h1) p
 generalize upd H d (.ext (DXe (W.knd X.prog X.w) (storedH f k a (.int n t)) c d))=Hn at B;exact zD g B hk
end
section
variable{κ:Type}[DecidableEq κ]{W:KW κ}{X:Cx}
theorem Inv.bigS{pins:List (cG×Obj)}{σ:St}{H:Hp}{s:cD}(I:Inv X pins σ H s):sysModules<s.heap.objs.size:=lA (by decide) ((I.mod.glob.keeps I.bk).lt)
theorem AX{P:cT}{w:dc}(knd:HeapKind P w κ)(h:Heap)(hb:sysModules<h.objs.size):DXe knd [] 0 h.objs.size (h.push {cls:= .type "dict",data:= .dict #[]}):=
 ⟨beq_eq_false_iff_ne.mpr (Ne.symm (df hb)),_,#[],cN _ rfl,⟨rfl,rfl,rfl⟩,rfl,rfl,hU⟩
def LB(W:KW κ)(P:cT)(w:dc)(K:cu):TE:=λ_ H Q=>∀d H',H d=none->(∃φ,H'=upd H d (.ext φ))->DictI W P w K H' d []->Q (.ref d) H'
theorem zK{P:cT}{w:dc}{K:cu}{pos:Pos}(hP:X.prog=P)(hw:X.w=w)(hK:X.K=K):PE X (.Dict [] [] pos) (LB W P w K):=by
 subst hP hw hK;exact λb s c H Q I h=>oa ⟨.ref s.heap.objs.size,_,I.laid (a:=s.heap.objs.size) (o:= .ext (DXe (W.knd X.prog X.w) [] 0 s.heap.objs.size)) (t':=s.toks) (λ_ _ q=>cF _ q) (cI _) (wW (AX _ s.heap I.bigS)),rfl,
  h _ _ (I.hok.fresh (cI _)) ⟨_,rfl⟩ ⟨0,[],rz,.nil⟩⟩
def KQ(W:KW κ)(P:cT)(w:dc)(K:cu)(tk tv:TE):TE:=λσ H Q=>∀d H1,H d=none->(∃φ,H1=upd H d (.ext φ))->DictI W P w K H1 d []->tk σ H1 λx H2=>tv σ H2 λy H3=>∃(a:cG) (k:κ) (n:Int),x = .ref a/\y = .int n/\W.at' K H3 k a/\DictI W P w K H3 d []/\
 ∀H',(∃φ φ',H3 d=some (.ext φ)/\H'=upd H3 d (.ext φ'))->DictI W P w K H' d [(k,n)]->Q (.ref d) H'
theorem B8{P:cT}{w:dc}{K:cu}{j:Nat}{ke ve:Expr}{pos:Pos}{tk tv:TE}(hP:X.prog=P)(hw:X.w=w)(hK:X.K=K)(hr:Room j X.A)(hk:PE X ke tk)(hv:PE X ve tv):PE X (.Dict [some ke] [ve] pos) (KQ W P w K tk tv):=by
 subst hP hw hK;intro d s B H Q I h;have I1:=I.laid (a:=s.heap.objs.size) (o:= .ext (DXe (W.knd X.prog X.w) [] 0 s.heap.objs.size)) (t':=s.toks) (h':=s.heap.push {cls:= .type "dict",data:= .dict #[]}) (λ_ _ q=>cF _ q) (cI _) (wW (AX _ s.heap I.bigS));have U:=h s.heap.objs.size _ (I.hok.fresh (cI _)) ⟨_,rfl⟩ ⟨0,[],rz,.nil⟩;refine wpAny_Dict_any rfl rfl (by simp) (by show 1<=15;decide) ?_;refine pairTrees_cons_walk (Ei (hk d _ B _ _ I1 U) λu N ⟨x,H2,Z,M,V⟩=>Ei (hv d N B H2 _ Z V) λv F ⟨y,H3,g,O,a,k,n,ex,R,m,⟨ep,r⟩,G⟩=>pairTrees_nil_walk ?_);subst ex R
 cases(show u=cR a from M);obtain⟨t,rfl⟩:=O;obtain⟨xs,⟨l,_⟩,hd,p⟩:=g.dx r
 cases p;unfold storeAll;rw[eg];refine cr (cr (wpAny_dictSet_heap (hsz:=du _) (W.room' (by have:=hr.units;omega)) (W.ok g m) hd λh' E sb=>cv ?_));dsimp only;rw[gp];refine cv ?_;obtain⟨z,D,c,C,a2,T,J,a5,S⟩:=E;obtain⟨aa,h1,h2⟩:=r;have L:DXe (W.knd X.prog X.w) (storedH [] k a (.int n t)) c s.heap.objs.size h':=⟨l,z,D,C,a2,T,J,S⟩;have I4:=g.write (t':=F.toks+(W.knd X.prog X.w).draws k) (x:=s.heap.objs.size) (e:=s.heap.objs.size) (o:= .ext (DXe (W.knd X.prog X.w) (storedH [] k a (.int n t)) c s.heap.objs.size)) (by rw[h1];trivial) (.inl rfl) (λb ob Y f=>(sb.2 b Y).trans f) ⟨z,C⟩ (wW L);refine⟨.ref s.heap.objs.size,_,I4,rfl,G _ ⟨_,_,h1,rfl⟩ ⟨c,storedH [] k a (.int n t),rz,?_⟩⟩;exact .cons ⟨rfl,⟨t,rfl⟩,W.map (λ_ _ f=>vF f h1) m⟩ .nil
end
def RawD(h:Heap)(d:cG)(es:Array DictEntry)(ep:Nat):Prop:=∃o,h.get? d=some o/\o.ExactDict/\o.data = .dict es ep
section
variable{prog:cT}{w:dc}{A:dw}{E:cA->cD->Prop}{s:cD}
theorem RawD.ty{d:cG}{es:Array DictEntry}{ep:Nat}(r:RawD s.heap d es ep):s.TypeIs (.ref d) "dict":=let⟨o,a,b,_⟩:=r;⟨o,a,b.1⟩
theorem w4(d:cG)(hs:(d==sysModules)=false):MeetsIn prog w (Builtin.«dict.items» ⟨[.ref d],[]⟩) (λ_ R s=>(∃es ep,RawD s.heap d es ep)/\R (.ok (.ret (.ref s.heap.objs.size))) {s with heap:=s.heap.push {cls:= .type "dict_items",data:= .fields #[.ref d]}}):=
 .of_wp λA R s ⟨⟨es,ep,r⟩,h⟩=>by
  unfold Builtin.«dict.items» qX qw
  refine cr (cr (wpAny_notOrdered_dict r.ty (cv ?_)))
  rw[if_neg (by rw[hs];exact de)]
  exact cr (cv (cr (e7 (cv ⟨_,rfl,h⟩))))
theorem yf{v d:cG}{es:Array DictEntry}{ep:Nat}{Q:cA->cD->Prop}(hv:s.heap.IsItemsView v d)(r:RawD s.heap d es ep)
  (hQ:Q (.ref s.heap.objs.size) {s with heap:=s.heap.push {cls:= .type "dict_itemiterator",data:= .fields #[.none,.bool false,.ref d,.int 0 0,.int es.size 0,.int ep 0,.none,.none]}}):wpAny (model prog w) A (pyIter (.ref v)) Q E s:=by
 obtain⟨j,f,h,e⟩:=id hv
 obtain⟨o,b,g,c⟩:=id r
 refine jv hv.typeIs lB (dR lB hv.typeIs F.entry_dict_items_iter ?_ (F.args_dict_items_iter_1 _))
 unfold Builtin.«dict_items.__iter__» pq og
 refine cr (cv (cr (cr (eB f e (x:= .ref d) rfl (cv ?_)))))
 refine cr (cr (kE b c (cr (lL b c ?_))))
 have a:ir "dict_itemiterator"=true:=by decide
 simp only[a,if_true]
 refine e7 (cv ⟨_,rfl,"dict_itemiterator",_,⟨_,cN _ rfl,rfl⟩,fb.lookup,?_⟩) (by simp only[sizeOk,jb,cX,dq,dQ,jT,lY];omega)
 simpa [rawInt,jb]using hQ
theorem ye{it d:cG}{i ep:Nat}{es:Array DictEntry}{ok ov:cA}{Q:Option cA->cD->Prop}(hit:IsItemIter s.heap it d i es.size ep ok ov)(r:RawD s.heap d es ep)(hlt:i<es.size)
  (hQ:∀h',IsItemIterOut h' it d (i+1) es.size ep es[i].key es[i].val s.heap.objs.size->h'.get? s.heap.objs.size=some {cls:= .type "tuple",data:= .seq #[es[i].key,es[i].val]}->h'.objs.size=s.heap.objs.size+1->
   (∀b o,b≠it->s.heap.get? b=some o->h'.get? b=some o)->Q (some (.ref s.heap.objs.size)) {s with heap:=h'}):wpAny (model prog w) A (pyNext (.ref it)) Q E s:=by
 obtain⟨hp,g,n,tk,j⟩:=s
 obtain⟨o,M,O,H⟩:=id r
 have h:kN ⟨hp,g,n,tk,j⟩ (.ref it) "dict_itemiterator":=⟨_,hit,rfl⟩
 unfold pyNext
 refine cr (ix (ef (name:=fK "__next__") h fb (dR fb h jH ?_ (jB _))))
 refine cr (cv (cr (cr ?_)))
 first|refine cr (gi h (cv ?_))|refine cr (wpAny_typeNameOf_itemiter h (cv ?_))
 refine cr (iR hit rfl ?_)
 have B:ir "dict_itemiterator"=true:=by decide
 simp only[B,if_true]
 show wpAny _ _ (if(cR d==cA.none)=true then _ else _) _ _ _
 rw[if_neg (show ¬((cR d==cA.none)=true)from de)]
 refine cr (cv (cr (kE M H ?_)))
 rw[if_neg (by simp)]
 refine cr (cv (cr (lL M H ?_)))
 rw[if_neg (by simp)]
 refine cv ?_
 simp only[show ¬((i:Int)<0)from by omega,if_false,f9,ff hlt]
 refine cr ?_
 first|refine cr (gi h (cv ?_))|refine cr (wpAny_typeNameOf_itemiter h (cv ?_))
 refine cr (jy h ?_)
 show wpAny _ _ (setField (.ref it) 3 (rawInt ((i:Int)+1)) >>= _) _ _ ⟨hp,g,n,tk,j⟩
 refine cr (eR hit (by simp) λh1 p l=>?_)
 replace l:fI it hp h1:=l
 replace p:IsItemIter h1 it d (i+1) es.size ep ok ov:=by
  have e:((i+1:Nat):Int)=(i:Int)+1:=by omega
  unfold IsItemIter;rw[e];simpa [rawInt]using p
 have m:kN ⟨h1,g,n,tk,j⟩ (.ref it) "dict_itemiterator":=⟨_,p,rfl⟩
 refine cr (dG (cr (jy m (cr (jy m ?_)))))
 show wpAny _ _ (jz (.ref it) 6 es[i].key es[i].val) _ _ ⟨h1,g,n,tk,j⟩
 generalize es[i].key=a at *
 generalize es[i].val=c at *
 unfold jz mF
 refine cr (iT ?_)
 have k:IsItemIter (h1.push {cls:= .type "tuple",data:= .seq #[a,c]}) it d (i+1) es.size ep ok ov:=cF _ p
 have y:h1.objs.size=hp.objs.size:=l.1
 have J:(h1.push {cls:= .type "tuple",data:= .seq #[a,c]}).get? hp.objs.size=some {cls:= .type "tuple",data:= .seq #[a,c]}:=by rw[<-y];exact cN _ rfl
 have K:(h1.push {cls:= .type "tuple",data:= .seq #[a,c]}).objs.size=hp.objs.size+1:=by rw[gn,y]
 have I:∀b o,b≠it->hp.get? b=some o->(h1.push {cls:= .type "tuple",data:= .seq #[a,c]}).get? b=some o:=λb o f e=>cF _ (l.extBut b o f e)
 have N:it≠hp.objs.size:=df (cQ hit)
 show wpAny _ _ _ _ _ ⟨h1.push {cls:= .type "tuple",data:= .seq #[a,c]},g,n,tk,j⟩
 rw[y]
 generalize h1.push {cls:= .type "tuple",data:= .seq #[a,c]}=h2 at k J K I
 clear p l m y
 refine cr (cr (eB k rfl (x:= .none) rfl (cv ?_)))
 simp only[if_true]
 refine cr (eB k rfl (x:=ok) rfl (cr (eB k rfl (x:=ov) rfl ?_)))
 refine cr (eR k (by simp) λh3 z u=>?_)
 replace u:fI it h2 h3:=u
 replace z:IsItemIter h3 it d (i+1) es.size ep a ov:=z
 refine cr (eR z (by simp) λh4 C q=>?_)
 replace q:fI it h3 h4:=q
 replace C:IsItemIter h4 it d (i+1) es.size ep a c:=C
 refine cr (eR C (by simp) λh5 D v=>?_)
 replace v:fI it h4 h5:=v
 replace D:IsItemIterOut h5 it d (i+1) es.size ep a c hp.objs.size:=D
 refine cr (eR D (by simp) λh6 G t=>?_)
 replace t:fI it h5 h6:=t
 replace G:IsItemIterOut h6 it d (i+1) es.size ep a c hp.objs.size:=G
 have L:∀b o,b≠it->h2.get? b=some o->h6.get? b=some o:=λb o f e=>t.extBut b o f (v.extBut b o f (q.extBut b o f (u.extBut b o f e)))
 refine cr (kD (cv (cv ⟨_,rfl,cv (hQ h6 G (L _ _ (Ne.symm N) J) ?_ λb o f e=>L b o f (I b o f e))⟩)))
 show h6.objs.size=hp.objs.size+1
 rw[t.1,v.1,q.1,u.1,K]
theorem ze{it d:cG}{i ep:Nat}{es:Array DictEntry}{ok ov:cA}{Q:Option cA->cD->Prop}(hh:A.handled=none)(hit:IsItemIter s.heap it d i es.size ep ok ov)(r:RawD s.heap d es ep)(hge:es.size<=i)
  (hQ:∀h',qE it s.heap h'->Q none {s with heap:=h'}):wpAny (model prog w) A (pyNext (.ref it)) Q E s:=by
 obtain⟨o,f,h,g⟩:=id r
 have c:s.TypeIs (.ref it) "dict_itemiterator":=⟨_,hit,rfl⟩
 unfold pyNext
 refine cr (ix (ef (name:=fK "__next__") c fb (dR fb c jH ?_ (jB _))))
 refine cr (cv (cr (cr ?_)))
 first|refine cr (gi c (cv ?_))|refine cr (wpAny_typeNameOf_itemiter c (cv ?_))
 refine cr (iR hit rfl ?_)
 have e:ir "dict_itemiterator"=true:=by decide
 simp only[e,if_true]
 show wpAny _ _ (if(cR d==cA.none)=true then _ else _) _ _ s
 rw[if_neg (show ¬((cR d==cA.none)=true)from de)]
 refine cr (cv (cr (kE f g ?_)))
 rw[if_neg (by simp)]
 refine cr (cv (cr (lL f g ?_)))
 rw[if_neg (by simp)]
 refine cv ?_
 simp only[show ¬((i:Int)<0)from by omega,if_false,f9,gA hge]
 refine cr ?_
 first|refine cr (gi c (cv ?_))|refine cr (wpAny_typeNameOf_itemiter c (cv ?_))
 show wpAny _ _ (setField (.ref it) 2 .none >>= _) _ _ s
 refine cr (gq hit rfl (by simp) ?_)
 show wpAny _ _ (newExc (.type "StopIteration") [] >>= _) _ _ _
 refine cr ?_
 simp only[newExc,newTuple]
 refine cr (e7 ?_ (by size_fits))
 refine cr (m:=firstArgMember _ _) (fM (a:=cA.none) (by first|rfl|(simp only[firstArgMember];rfl)) ?_)
 refine e7 ?_ (by size_fits)
 simp only[raiseNew]
 refine cr (kP ?_)
 rw[show A.in1.handled=none from hh]
 refine cr (cv (md ?_))
 refine cr (eF (T:="StopIteration") (b:=true) ⟨_,cN _ rfl,rfl⟩ ki ?_)
 exact cv (hQ _ (((eV ..).extBut.push _).push _))
end
section
variable{κ:Type}[DecidableEq κ]
def K2(W:KW κ)(P:cT)(w:dc)(K:cu)(d:cG)(ep n:Nat):It:=
 ⟨λi H=>∃kvs k m,DictE W P w K H d ep kvs/\kvs.length=n/\kvs[i]?=some (k,m),
  λi H v H'=>∃a k m t,(∀kvs,DictE W P w K H d ep kvs->kvs[i]?=some (k,m))/\W.at' K H k a/\v = .ref t/\H t=none/\H'=upd H t (.tup [.ref a,.int m]),
  λi H=>∃kvs,DictE W P w K H d ep kvs/\kvs.length=n/\n<=i⟩
theorem Inv.dx_inj{W:KW κ}{X:Cx}{pins:List (cG×Obj)}{σ:St}{H:Hp}{s:cD}{d:cG}{ep:Nat}{kvs kvs':List (κ×Int)}(I:Inv X pins σ H s)(h:DictE W X.prog X.w X.K H d ep kvs)(h':DictE W X.prog X.w X.K H d ep kvs'):kvs=kvs':=by
 obtain⟨N,⟨_,o,L,A,P,x,v,_⟩,R,b⟩:=I.dx h;obtain⟨D,⟨_,O,C,k,G,g,c,_⟩,F,a⟩:=I.dx h';rw[A]at k
 cases k;rw[x]at g;injection g with e1 _
 subst e1;rw[v]at c;have S:=Paired.len b;have J:=Paired.len a;have p:=congrArg jh c;rw[cx,cx]at p;refine k8 (by omega) λi h1 h2=>?_
 obtain⟨q,z,T,⟨Q,y⟩,r⟩:=Paired.get' (i:=i) b (cz h1);obtain⟨M,f,E,⟨B,m⟩,j⟩:=Paired.get' (i:=i) a (cz h2);have e:=congrArg (λl:List DictEntry=>l[i]?) c;simp only[cH,z,f,oF]at e;have e:=Option.some.inj e;unfold entryOfKey at e;injection e with _ e2 e3
 injection e2 with e2
 have n:=W.ok I r;have u:=W.ok I j;rw[e2]at n;have t:=(W.knd X.prog X.w).inj n u;rw[y,m]at e3;injection e3 with e4 _
 exact Prod.ext t e4
theorem uV:entryFor table "dict_itemiterator.__iter__"=some Builtin.«dict_keyiterator.__iter__»:=kh (id':="dict_keyiterator.__iter__") rfl rfl (by decide +kernel) rfl
theorem zp{P:cT}{w:dc}{A:dw}{E:cA->cD->Prop}{s:cD}{it d:cG}{i n ep:Nat}{ok ov:cA}{Q:cA->cD->Prop}(hit:IsItemIter s.heap it d i n ep ok ov)(h:Q (.ref it) s):wpAny (model P w) A (pyIter (.ref it)) Q E s:=by
 have a:s.TypeIs (.ref it) "dict_itemiterator":=⟨_,hit,rfl⟩;refine jv a jO (dR jO a uV ?_ (F.args_dict_itemiterator_iter_1 _));exact cr (cv (cv ⟨_,rfl,"dict_itemiterator",_,a,fb.lookup,h⟩))
theorem zG{W:KW κ}{P:cT}{w:dc}{K:cu}{elts:List Expr}{x1:Nat}{pos:Pos}(d it:cG)(ep n:Nat):Iz P w K (.Tuple elts x1 pos) (K2 W P w K d ep n) [it] it (λi h=>∃ok ov,IsItemIter h it d i n ep ok ov) where
 mem:=by simp
 obj:=λi h st b a=>by
  obtain⟨ok,ov,q⟩:=st
  rw[cK.mp a]
  exact⟨_,q,λv z=>by cases z⟩
 keep:=λi h u st k=>by
  obtain⟨ok,ov,q⟩:=st
  exact⟨ok,ov,k it (by simp) _ q⟩
 item:=by
  intro X C F B hc i c s A H E I Q st D
  subst C F B
  obtain⟨V,k,m,x,T,hk⟩:=D
  obtain⟨xs,⟨_,o,r,M,J,G,y,_⟩,hd,j⟩:=I.dx x
  obtain⟨ok,ov,f⟩:=st
  have t:r.size=n:=by
   have:=congrArg jh y
   have:=Paired.len j
   simp at *
   omega
  subst t
  have R:i<r.size:=by have:=(cL.mp hk).1;omega
  obtain⟨q,hq,Z,⟨L,Y⟩,S⟩:=Paired.get' j hk
  have ee:r[i]=entryOfKey (W.knd X.prog X.w) q:=by
   have e:=congrArg (λl:List DictEntry=>l[i]?) y
   simp only[cH,hq,oF,gf,ff R]at e
   exact Option.some.inj e
  refine ye f ⟨o,M,J,G⟩ R λu O N ab kk=>?_
  rw[ee]at O N
  obtain⟨qk,g,qv⟩:=q
  dsimp only at Z Y S
  subst Z Y
  dsimp only[entryOfKey]at O N
  have li:it≠s.heap.objs.size:=df (cQ f)
  have hn:H s.heap.objs.size=none:=I.hok.fresh (cI _)
  have I0:Inv X c A (upd H s.heap.objs.size (.tup [.ref g,.int m])) {s with heap:=s.heap.push {cls:= .type "tuple",data:= .seq #[.ref g,.int m L]},toks:=s.toks}:=
   I.laid (t':=s.toks) (λb o q=>cF _ q) (cI _) ⟨by show 2<=sizeLine;decide,[.ref g,.int m L],.cons rfl (.cons ⟨_,rfl⟩ .nil),⟨_,cN _ rfl,rfl,_,rfl⟩⟩
  have p:∀b∈[it],F9 X c (upd H s.heap.objs.size (.tup [.ref g,.int m])) b:=λb a=>by
   have q:=Q b a
   refine⟨?_,q.2⟩
   rw[rG (by rw[cK.mp a];exact li)]
   exact q.1
  have I1:Inv X c A (upd H s.heap.objs.size (.tup [.ref g,.int m])) {s with heap:=u,toks:=s.toks}:=
   Inv.turnedL (s:={s with heap:=s.heap.push {cls:= .type "tuple",data:= .seq #[.ref g,.int m L]},toks:=s.toks}) I0 (fp:=[it]) (t':=s.toks) (λb o a q=>by
    rcases tq q rfl with q|⟨rfl,rfl⟩
    ·exact kk b o (λz=>a (by simp[z])) q
    ·exact N) p
  refine⟨_,rfl,wpAny_letOwnedTupleGo_items (s:={s with heap:=u}) O λh2 se sb=>?_⟩
  have I2:Inv X c A (upd H s.heap.objs.size (.tup [.ref g,.int m])) {s with heap:=h2,toks:=s.toks}:=
   Inv.turnedL (s:={s with heap:=u,toks:=s.toks}) I1 (fp:=[it]) (t':=s.toks) (λb o a q=>(sb.2 b (λz=>a (by simp[z]))).trans q) p
  exact⟨.ref s.heap.objs.size,_,I2,rfl,⟨g,k,m,_,λaa h=>by rw[I.dx_inj h x];exact hk,S,rfl,hn,rfl⟩,⟨_,_,se⟩,λb a=>(p b a).1⟩
 done:=by
  intro X C F B hc i c s A H E I Q st D
  subst C F B
  obtain⟨V,x,T,U⟩:=D
  obtain⟨xs,⟨_,o,r,M,J,G,y,_⟩,hd,j⟩:=I.dx x
  obtain⟨ok,ov,f⟩:=st
  have t:r.size=n:=by
   have:=congrArg jh y
   have:=Paired.len j
   simp at *
   omega
  subst t
  exact ze (I.ok.hd hc) f ⟨o,M,J,G⟩ U λu eb=>⟨rfl,I.turnedL (fp:=[it]) (t':=s.toks) (λb o a q=>eb b o (λz=>a (by simp[z])) q) Q⟩
 self:=λ_ _ _ _ _ st h=>by
  obtain⟨ok,ov,f⟩:=st
  exact zp f h
def Kx(W:KW κ)(P:cT)(w:dc)(K:cu)(td:TE):TI:=λσ H R=>td σ H λx H1=>∃(d:cG) (ep:Nat) (kvs:List (κ×Int)),x = .ref d/\DictE W P w K H1 d ep kvs/\R (K2 W P w K d ep kvs.length) H1
theorem BK{W:KW κ}{X:Cx}{P:cT}{w:dc}{K:cu}{elts:List Expr}{x1:Nat}{tpos apos cpos:Pos}{o:Expr}{td:TE}(hP:X.prog=P)(hw:X.w=w)(hK:X.K=K)(ho:PE X o td)(hbase:attributeBase o "items" X.env (eval o X.env)=eval o X.env:=by rfl)(hline:(apos.endLine==cpos.line)=true:=by rfl):
  PI X (.Tuple elts x1 tpos) (.Call (.Attribute o "items" apos) [] [] cpos) (Kx W P w K td):=by
 subst hP hw hK
 intro e s y H R I h
 refine kY hbase hline (Ei (ho e s y H _ I h) λv a ⟨x,n,C,L,d,k,c,M,D,q⟩=>?_)
 subst M
 obtain rfl:v=cR d:=L
 obtain⟨N,⟨m,f,r,l,j,t,E,_⟩,B,p⟩:=C.dx D
 have u:r.size=c.length:=by
  have:=congrArg jh E
  have:=Paired.len p
  simp at *
  omega
 refine⟨"dict",_,lg,lh,PySem.F.type_dict_items,B.typeIs,λb z=>by cases z;exact⟨f,l,j.2.1⟩,gz rfl (ml ?_)⟩
 refine qm lh B.typeIs PySem.F.entry_dict_items (PySem.F.args_dict_items_1 _) (w4 d m) ⟨⟨r,k,f,l,j,t⟩,?_⟩
 have A:∀b o,a.heap.get? b=some o->(a.heap.push {cls:= .type "dict_items",data:= .fields #[.ref d]}).get? b=some o:=λb o z=>cF _ z
 have g:Inv X e y n {a with heap:=a.heap.push {cls:= .type "dict_items",data:= .fields #[.ref d]}}:=C.kept (t':=a.toks) A
 refine yf (s:={a with heap:=a.heap.push {cls:= .type "dict_items",data:= .fields #[.ref d]}}) ⟨_,cN _ rfl,rfl,rfl⟩ ⟨f,A _ _ l,j,t⟩ ?_
 rw[u]
 have G:=g.kept (t':=a.toks) (h':=(a.heap.push {cls:= .type "dict_items",data:= .fields #[.ref d]}).push {cls:= .type "dict_itemiterator",data:= .fields #[.none,.bool false,.ref d,.int 0 0,.int c.length 0,.int k 0,.none,.none]}) λb o z=>cF _ z
 refine⟨_,[(a.heap.push {cls:= .type "dict_items",data:= .fields #[.ref d]}).objs.size],_,_,n,rfl,G,zG d _ k c.length,⟨_,_,cN _ rfl⟩,λb J=>?_,q⟩
 rw[cK.mp J]
 exact g.fpOk (cI _) (g.hok.fresh (cI _))
theorem A2{W:KW κ}{P:cT}{w:dc}{K:cu}{d:cG}{ep:Nat}{kvs:List (κ×Int)}{g:TG}{tb:TS}{D:Gp}{σ:St}{H:Hp}(Pv:Nat->St->Hp->Prop)(h0:Pv 0 σ H)(hl:∀i σ H,i<=kvs.length->Pv i σ H->DictE W P w K H d ep kvs)
  (hs:∀i k m a σ H t,kvs[i]?=some (k,m)->W.at' K H k a->H t=none->Pv i σ H->g (.ref t) σ (upd H t (.tup [.ref a,.int m])) λσ2 H2=>tb {D with nx:=Pv (i+1),ct:=Pv (i+1),bk:=D.nx} σ2 H2)(hd:∀σ H,Pv kvs.length σ H->D.nx σ H):
  ∃Wv:Nat->Nat->St->Hp->Prop,(∃m,Wv 0 m σ H)/\∀i m σ H,Wv i m σ H->((K2 W P w K d ep kvs.length).stop i H/\D.nx σ H)\/
   ((K2 W P w K d ep kvs.length).go i H/\∃N:St->Hp->Prop,(∀σ' H',N σ' H'->∃m',m'<m/\Wv (i+1) m' σ' H')/\∀x H',(K2 W P w K d ep kvs.length).yld i H x H'->g x σ H' λσ2 H2=>tb {D with nx:=N,ct:=N,bk:=D.nx} σ2 H2):=by
 refine⟨λi m σ H=>m=kvs.length-i/\i<=kvs.length/\Pv i σ H,⟨kvs.length,by simp,du _,h0⟩,?_⟩
 rintro i m σ H ⟨rfl,c,p⟩
 have q:=hl i σ H c p
 by_cases b:i<kvs.length
 ·refine .inr ⟨⟨kvs,_,_,q,rfl,cz b⟩,Pv (i+1),λσ' H' f=>⟨kvs.length-(i+1),by omega,rfl,b,f⟩,λx H' y=>?_⟩
  obtain⟨a,k,m,t,h1,h2,rfl,h3,rfl⟩:=y
  exact hs i k m a σ H t (h1 kvs q) h2 h3 p
 ·have e:i=kvs.length:=by omega
  subst e
  exact .inl ⟨⟨kvs,q,rfl,cI _⟩,hd σ H p⟩
end
def Gq:KW (List Int) where
 knd:=λprog w=>tupleKind (intKind prog w)
 at':=λK H k a=>SqT K H a (k.map V.int)
 ok:=λ {X pins σ H s k a} I h=>by
  obtain⟨b,e,hb⟩:=I.tupV (v:= .ref a) (u:= .ref a) ⟨a,rfl,h⟩ rfl
  cases e
  exact hb
 map:=λf h=>f _ _ h
 room:=λh=>by show _+1<cLine;omega
 room':=λh=>by show _<cLine;omega
def Gn:KW Ev where
 knd:=Jw
 at':=λK H k a=>∃x y,SqT K H a [.ref x,.ref y]/\SqT K H x (k.1.map V.int)/\SqT K H y (k.2.map V.int)
 ok:=λ {X pins σ H s k a} I h=>by
  obtain⟨x,y,h1,h2,h3⟩:=h
  obtain⟨b1,e1,k1⟩:=I.tupV (v:= .ref x) (u:= .ref x) ⟨x,rfl,h2⟩ rfl
  obtain⟨b2,e2,k2⟩:=I.tupV (v:= .ref y) (u:= .ref y) ⟨y,rfl,h3⟩ rfl
  cases e1
  cases e2
  obtain⟨its,rs,⟨o,q1,q2,n,q3⟩,_⟩:=I.tuple h1
  cases rs with
  | cons r1 rs=>
   cases rs with
   | cons r2 rs=>
    cases rs
    cases r1
    cases r2
    exact⟨o,n,x,y,q1,q2,q3,k1,k2⟩
 map:=λf h=>by
  obtain⟨x,y,h1,h2,h3⟩:=h
  exact⟨x,y,f _ _ h1,f _ _ h2,f _ _ h3⟩
 room:=λh=>by show _+1+2<cLine;omega
 room':=λh=>by show _+2<cLine;omega
end L2
namespace TM
open LM LN
def KS(l:List Int):Prop:=l.Pairwise (· <= ·)
theorem yR:∀{l m:List Int},l.Perm m->KS l->KS m->l=m
 | [],m,h,_,_=>(List.nil_perm.mp h).symm
 | a::l,[],h,_,_=>by have:=h.length_eq;simp at this
 | a::l,b::m,h,h1,h2=>by
  have e:a=b:=by
   have f:=cZ.mp (h.mem_iff.mp (cM (a:=a)))
   have g:=cZ.mp (h.mem_iff.mpr (cM (a:=b)))
   obtain⟨c,_⟩:=fq.mp h1
   obtain⟨d,_⟩:=fq.mp h2
   rcases f with z|z
   ·exact z
   ·rcases g with y|y
    ·exact y.symm
    ·have:=c b y
     have:=d a z
     omega
  subst e
  rw[yR (List.perm_cons a |>.mp h) (fq.mp h1).2 (fq.mp h2).2]
def Jk(x:Int):List Int->List Int
 | []=>[x]
 | a::l=>if x<=a then x::a::l else a::Jk x l
def srt:List Int->List Int
 | []=>[]
 | a::l=>Jk a (srt l)
theorem vd(x:Int):∀l,(Jk x l).Perm (x::l)
 | []=>iM _
 | a::l=>by
  unfold Jk
  split
  ·exact iM _
  ·exact((vd x l).cons a).trans (p7.swap x a l)
theorem yD(x:Int):∀{l},KS l->KS (Jk x l)
 | [],_=>fq.mpr ⟨(λ_ h=>nomatch h),my.nil⟩
 | a::l,h=>by
  unfold Jk
  obtain⟨h1,h2⟩:=fq.mp h
  split
  ·rename_i c
   exact fq.mpr ⟨λb d=>by
    rcases cZ.mp d with z|z
    ·omega
    ·have:=h1 b z;omega,h⟩
  ·rename_i c
   refine fq.mpr ⟨λb d=>?_,yD x h2⟩
   rcases cZ.mp ((vd x l).mem_iff.mp d)with z|z
   ·omega
   ·exact h1 b z
theorem srt_perm:∀l,(srt l).Perm l
 | []=>iM _
 | a::l=>(vd a (srt l)).trans ((srt_perm l).cons a)
theorem x9:∀l,KS (srt l)
 | []=>my.nil
 | a::l=>yD a (x9 l)
theorem srt_eq{l m:List Int}(h:m.Perm l)(hs:KS m):m=srt l:=yR (h.trans (srt_perm l).symm) hs (x9 l)
theorem yM(l:List Int)(x:Int):srt (srt l++[x])=srt (l++[x]):=srt_eq ((srt_perm _).trans ((srt_perm l).append_right [x])) (x9 _)
theorem zU{l:List Int}{x:Int}:x∈srt l↔x∈l:=(srt_perm l).mem_iff
def freeP(n:Nat)(π:List Int):List Int:=(rng n).filter λp=>!decide (p∈π)
def exts(n:Nat)(π:List Int):List (List Int):=(freeP n π).map λp=>π++[p]
def pre(n:Nat):Nat->List (List Int)
 | 0=>[[]]
 | k+1=>(pre n k).flatMap (exts n)
structure Kb(n k:Nat)(π:List Int):Prop where
 len:π.length=k
 nd:π.Nodup
 bd:∀p∈π,0<=p/\p<n
theorem pre_ok{n:Nat}:∀{k:Nat} {π:List Int},π∈pre n k->Kb n k π
 | 0,π,h=>by
  rw[cK.mp h]
  exact⟨rfl,hU,λ_ h=>nomatch h⟩
 | k+1,π,h=>by
  obtain⟨b,h1,h2⟩:=oh.mp h
  obtain⟨p,h3,rfl⟩:=dv.mp h2
  obtain⟨h4,h5⟩:=d8.mp h3
  have I:=pre_ok h1
  have h6:p∉b:=by simpa using h5
  refine⟨by rw[dq,I.len];rfl,gt.mpr ⟨I.nd,by simp,λx d y a z=>h6 (by rw[cK.mp a]at z;rw[<-z];exact d)⟩,λq c=>?_⟩
  rcases dJ.mp c with z|z
  ·exact I.bd q z
  ·rw[cK.mp z];exact mem_rng.mp h4
theorem free_len{n k:Nat}{π:List Int}(h:Kb n k π):(freeP n π).length+k=n:=by
 have b:∀(l m:List Int),l.Nodup->m.Nodup->(∀x∈m,x∈l)->(l.filter λp=>!decide (p∈m)).length+m.length=l.length:=by
  intro l m f d g;have hp:(l.filter λp=>decide (p∈m)).Perm m:=by
   refine(ga (f.filter _) d).mpr λx=>?_
   rw[d8];exact⟨λz=>of_decide_eq_true z.2,λz=>⟨g x z,decide_eq_true z⟩⟩
  have h1:=List.length_eq_countP_add_countP (p:=λp=>decide (p∈m)) (l:=l);rw[jY,jY,hp.length_eq]at h1;have e:(l.filter λa=>decide (¬decide (a∈m)=true))=l.filter λp=>!decide (p∈m):=gT λx _=>by by_cases z:x∈m <;> simp[z]
  rw[e]at h1;omega
 have:=b (rng n) π (rng_nodup n) h.nd λx c=>mem_rng.mpr (h.bd x c)
 rw[rng_len,h.len]at this;exact this
def smL{α:Type}(l:List α)(f:α->Int):Int:=(l.map f).sum
theorem sJ{α:Type}(f:α->Int):smL [] f=0:=rfl
theorem sg{α:Type}(a:α)(l:List α)(f:α->Int):smL (a::l) f=f a+smL l f:=by unfold smL;simp
theorem uH{α:Type}(l m:List α)(f:α->Int):smL (l++m) f=smL l f+smL m f:=by unfold smL;simp
theorem smL_congr{α:Type}{l:List α}{f g:α->Int}(h:∀x∈l,f x=g x):smL l f=smL l g:=by unfold smL;rw[fD h]
theorem u7{α β:Type}(g:α->List β)(f:β->Int):∀l:List α,smL (l.flatMap g) f=smL l λx=>smL (g x) f
 | []=>rfl
 | a::l=>by rw[List.flatMap_cons,uH,sg,u7 g f l]
theorem vy{α β:Type}(g:α->β)(f:β->Int)(l:List α):smL (l.map g) f=smL l λx=>f (g x):=by unfold smL;rw[ij];rfl
theorem A4{α:Type}(f g:α->Int):∀l:List α,smL l (λx=>f x+g x)=smL l f+smL l g
 | []=>rfl
 | a::l=>by rw[sg,sg,sg,A4 f g l];omega
theorem AW{α:Type}(c:Int)(f:α->Int):∀l:List α,smL l (λx=>c*f x)=c*smL l f
 | []=>by show(0:Int)=c*0;rw[gC]
 | a::l=>by rw[sg,sg,AW c f l,jk]
theorem tJ{α:Type}(c:Int):∀l:List α,smL l (λ_=>c)=c*l.length
 | []=>by show(0:Int)=c*0;rw[gC]
 | a::l=>by rw[sg,tJ c l,dQ];push_cast;rw[jk,h9,qo]
theorem yw{α:Type}(l:List α):smL l (λ_=>0)=0:=by rw[tJ,jt]
def fct:Nat->Int
 | 0=>1
 | k+1=>fct k*((k:Int)+1)
theorem yS{n:Nat}(g:List Int->Int){j:Nat}:∀d,j+d<=n->fct (n-(j+d))*smL (pre n (j+d)) (λo=>g (o.take j))=fct (n-j)*smL (pre n j) λo=>g (o.take j)
 | 0,_=>rfl
 | d+1,h=>by
  have f:=yS (n:=n) g (j:=j) d (by omega)
  rw[<-f]
  have e:smL (pre n (j+(d+1))) (λo=>g (o.take j))=((n-(j+d):Nat):Int)*smL (pre n (j+d)) λo=>g (o.take j):=by
   show smL ((pre n (j+d)).flatMap (exts n)) _=_
   rw[u7,<-AW]
   refine smL_congr λa b=>?_
   have I:=pre_ok b
   have k:=free_len I
   unfold exts
   rw[vy,smL_congr (g:=λ_=>g (a.take j)) λp _=>by rw[ib (by rw[I.len];omega)],tJ,gl,show((freeP n a).length:Int)=((n-(j+d):Nat):Int)by omega]
  rw[e,<-pO]
  congr 1
  obtain⟨m,c⟩:∃m,n-(j+d)=m+1:=⟨n-(j+d)-1,by omega⟩
  rw[c,show n-(j+(d+1))=m by omega]
  show fct m*((m+1:Nat):Int)=fct m*((m:Int)+1)
  push_cast
  rfl
theorem zO{n:Nat}(g:List Int->Int){j:Nat}(hj:j<=n):smL (pre n n) (λo=>g (o.take j))=fct (n-j)*smL (pre n j) g:=by
 have:=yS (n:=n) g (j:=j) (n-j) (by omega);rw[show j+(n-j)=n by omega,ik]at this;rw[show fct 0=1 from rfl,jP]at this;rw[this,smL_congr (g:=g) λo a=>by rw[eJ (by rw[(pre_ok a).len];exact cI _)]]
theorem Ad(n:Nat):((pre n n).length:Int)=fct n:=by
 have:=zO (n:=n) (λ_=>1) (j:=0) (du _);rw[tJ,tJ]at this;rw[jP,Nat.sub_zero]at this;rw[this];show fct n*(1*(([[]]:List (List Int)).length:Int))=fct n;simp
end TM
namespace L2
open PySem PySem.Spec PyProof.Rows
open TM
theorem yh{w ts us:List Int}(h:∀t,t∈ts↔t∈us):E6 w ts=E6 w us:=by
 unfold E6 E4;rw[gT (q:=λt=>!decide (t∈us)) λt _=>by simp only[decide_eq_decide.mpr (h t)]]
theorem wN(W:List (List Int))(o:List Int){j:Nat}:∀k,k<=j->tk W (o.take j) k=tk W o k
 | 0,_=>rfl
 | k+1,h=>by
  show tk W (o.take j) k++[_]=tk W o k++[_]
  rw[wN W o k (by omega),show(o.take j).getD k 0=o.getD k 0 by rw[cC,cC,gV (by omega)]]
theorem C2(W:List (List Int))(o:List Int){j k:Nat}(h:k<j):bt W (o.take j) k=bt W o k:=by
 unfold bt;rw[wN W o k (by omega),show(o.take j).getD k 0=o.getD k 0 by rw[cC,cC,gV h]]
def Jh(W:List (List Int))(π:List Int):List Int:=tk W π π.length
def Fb(W:List (List Int))(p:Int)(ts:List Int):Int:=E6 (W.getD p.toNat []) ts
theorem Bw(W:List (List Int))(π:List Int)(p:Int):Jh W (π++[p])=Jh W π++[Fb W p (Jh W π)]:=by
 unfold Jh Fb;rw[dq,show π.length+([p]:List Int).length=π.length+1 from rfl];have e:tk W (π++[p]) π.length=tk W π π.length:=by
  have:=wN W (π++[p]) (j:=π.length) π.length (cI _);rw[ib (cI _),dj]at this;exact this.symm
 show tk W (π++[p]) π.length++[E6 (W.getD ((π++[p]).getD π.length 0).toNat []) (tk W (π++[p]) π.length)]=_;rw[e,show(π++[p]).getD π.length 0=p by rw[cC,eY (cI _),ik];rfl]
def ED(W:List (List Int))(π:List Int):Ev:=(srt π,srt (Jh W π))
def Et(n:Nat)(W:List (List Int))(k:Ev):List (Int×Int):=(freeP n k.1).map λp=>(p,Fb W p k.2)
def Fq(k:Ev)(pt:Int×Int):Ev:=(srt (k.1++[pt.1]),srt (k.2++[pt.2]))
theorem uL(n:Nat)(W:List (List Int))(π:List Int):Et n W (ED W π)=(freeP n π).map λp=>(p,Fb W p (Jh W π)):=by
 unfold Et ED freeP;rw[gT (q:=λp=>!decide (p∈π)) λp _=>by simp only[decide_eq_decide.mpr (zU (l:=π) (x:=p))]];exact fD λp _=>by unfold Fb;rw[yh λt=>zU]
theorem w6(W:List (List Int))(π:List Int)(p:Int):Fq (ED W π) (p,Fb W p (Jh W π))=ED W (π++[p]):=by
 unfold Fq ED;rw[yM,yM,Bw]
section
variable{κ:Type}[DecidableEq κ]
def Fv(F:κ->Int)(kvs:List (κ×Int)):Int:=smL kvs λp=>p.2*F p.1
def KN(kvs:List (κ×Int)):Prop:=(kvs.map Prod.fst).Nodup
theorem vj{k:κ}:∀{kvs:List (κ×Int)},kvs.lookup k=none↔k∉kvs.map Prod.fst
 | []=>by simp[gP]
 | (a,m)::kvs=>by
  rw[dW]
  by_cases e:k=a
  ·subst e;simp
  ·rw[show(k==a)=false from beq_false_of_ne e]
   show kvs.lookup k=none↔_
   rw[vj,dN,cZ]
   simp[e]
theorem AQ{kvs:List (κ×Int)}{k:κ}(h:kvs.lookup k=none)(x:Int):Gu kvs k x=kvs++[(k,x)]:=by unfold Gu;rw[h];rfl
theorem zJ{kvs:List (κ×Int)}{k:κ}{m:Int}(h:kvs.lookup k=some m)(x:Int):Gu kvs k x=kvs.map λp=>if p.1=k then(p.1,x)else p:=by unfold Gu;rw[h];rfl
theorem Cs{kvs:List (κ×Int)}(h:KN kvs)(k:κ)(x:Int):KN (Gu kvs k x):=by
 cases e:kvs.lookup k with
 | none=>
  rw[AQ e];unfold KN;rw[cS];exact gt.mpr ⟨h,by simp,λa d b f z=>vj.mp e (by have c:b=k:=cK.mp f;rw[<-c,<-z];exact d)⟩
 | some m=>
  rw[zJ e];unfold KN;rw[ij,show(Prod.fst∘λp:κ×Int=>if p.1=k then(p.1,x)else p)=Prod.fst from funext λp=>by show(if p.1=k then(p.1,x)else p).1=p.1;split <;> rfl];exact h
theorem Br(kvs:List (κ×Int))(k:κ)(x:Int):(Gu kvs k x).length<=kvs.length+1:=by
 unfold Gu;split
 ·rw[cx];omega
 ·rw[dq];exact cI _
theorem yP(F:κ->Int){k:κ}{m x:Int}:∀{kvs:List (κ×Int)},KN kvs->kvs.lookup k=some m->Fv F (kvs.map λp=>if p.1=k then(p.1,x)else p)=Fv F kvs+(x-m)*F k
 | [],_,h=>by simp[gP]at h
 | (a,y)::kvs,hn,h=>by
  have b:=fu.mp (show((a::kvs.map Prod.fst):List κ).Nodup from hn)
  rw[dW]at h
  unfold Fv
  rw[dN,sg,sg]
  by_cases e:k=a
  ·subst e
   rw[beq_self_eq_true]at h
   have h:y=m:=Option.some.inj h
   subst h
   have c:kvs.map (λp:κ×Int=>if p.1=k then(p.1,x)else p)=kvs:=by
    have:∀p∈kvs,(if p.1=k then(p.1,x)else p)=p:=λp hp=>if_neg (show ¬p.1=k from λz=>b.1 (z▸dv.mpr ⟨p,hp,rfl⟩))
    rw[fD this]
    simp
   rw[c]
   show(if k=k then(k,x)else(k,y)).2*F (if k=k then(k,x)else(k,y)).1+_=_
   rw[if_pos rfl]
   show x*F k+_=y*F k+_+_
   rw[jM]
   omega
  ·rw[show(k==a)=false from beq_false_of_ne e]at h
   have d:=yP F (x:=x) b.2 h
   unfold Fv at d
   rw[d]
   show(if a=k then(a,x)else(a,y)).2*F (if a=k then(a,x)else(a,y)).1+_=_
   rw[if_neg (Ne.symm e)]
   omega
def IA(kvs:List (κ×Int))(k:κ)(x:Int):List (κ×Int):=Gu kvs k ((kvs.lookup k).getD 0+x)
theorem yL(F:κ->Int){kvs:List (κ×Int)}(h:KN kvs)(k:κ)(x:Int):Fv F (IA kvs k x)=Fv F kvs+x*F k:=by
 unfold IA
 cases e:kvs.lookup k with
 | none=>
  rw[AQ e];unfold Fv;rw[uH,sg,sJ];show _+((0+x)*F k+0)=_;rw[d3];omega
 | some m=>
  rw[zJ e,yP F h e];show Fv F kvs+(m+x-m)*F k=_;rw[show m+x-m=x by omega]
theorem CD{kvs:List (κ×Int)}(h:KN kvs)(k:κ):(kvs.lookup k).getD 0=Fv (λa=>if a=k then 1 else 0) kvs:=by
 induction kvs with
 | nil=>rfl
 | cons p kvs c=>
  obtain⟨a,m⟩:=p;have b:=fu.mp (show((a::kvs.map Prod.fst):List κ).Nodup from h);unfold Fv at c ⊢;rw[sg,dW];by_cases e:k=a
  ·subst e;rw[beq_self_eq_true];have z:smL kvs (λp=>p.2*if p.1=k then 1 else 0)=0:=(smL_congr (g:=λ_=>0) λp hp=>by rw[if_neg (show ¬p.1=k from λz=>b.1 (z▸dv.mpr ⟨p,hp,rfl⟩)),gC]).trans (yw _);rw[z];show m=m*(if k=k then 1 else 0)+0;rw[if_pos rfl];omega
  ·rw[show(k==a)=false from beq_false_of_ne e];show(kvs.lookup k).getD 0=m*(if a=k then 1 else 0)+_;rw[if_neg (Ne.symm e),c b.2];omega
end
def Gy(p t:Int)(q u:Int):Int:=if q=p/\u=t then 1 else 0
def EG(n:Nat)(W:List (List Int))(F:List Int->Int):Nat->Int
 | 0=>0
 | k+1=>EG n W F k+fct (n-(k+1))*smL (pre n k) λπ=>smL (freeP n π) λp=>F [p,Fb W p (Jh W π)]
def FR(W:List (List Int))(n:Nat)(o:List Int)(p t:Int):Int:=HM.sm n λj=>Gy p t (o.getD j 0) (bt W o j)
theorem yC{α:Type}(f:α->Nat->Int)(l:List α):∀n,smL l (λx=>HM.sm n (f x))=HM.sm n λj=>smL l λx=>f x j
 | 0=>yw l
 | n+1=>by
  show smL l (λx=>HM.sm n (f x)+f x n)=HM.sm n _+_
  rw[A4,yC f l n]
theorem xv{n:Nat}(W:List (List Int))(p t:Int):∀k,k<=n->EG n W (λl=>Gy p t (l.getD 0 0) (l.getD 1 0)) k=HM.sm k λj=>smL (pre n n) λo=>Gy p t (o.getD j 0) (bt W o j)
 | 0,_=>rfl
 | k+1,hk=>by
  show EG n W _ k+_=HM.sm k _+_
  rw[xv W p t k (by omega)]
  congr 1
  have e:smL (pre n n) (λo=>Gy p t (o.getD k 0) (bt W o k))=smL (pre n n) λo=>(λo=>Gy p t (o.getD k 0) (bt W o k)) (o.take (k+1)):=smL_congr λo _=>by
   show _=Gy p t ((o.take (k+1)).getD k 0) (bt W (o.take (k+1)) k)
   rw[C2 W o (dH k),show(o.take (k+1)).getD k 0=o.getD k 0 by rw[cC,cC,gV (dH k)]]
  show _=smL (pre n n) λo=>Gy p t (o.getD k 0) (bt W o k)
  rw[e,zO (λo=>Gy p t (o.getD k 0) (bt W o k)) hk]
  congr 1
  show _=smL ((pre n k).flatMap (exts n)) _
  rw[u7]
  refine smL_congr λa c=>?_
  have I:=pre_ok c
  unfold exts
  rw[vy]
  refine smL_congr λq _=>?_
  have b:(a++[q]).getD k 0=q:=by rw[<-I.len,cC,eY (cI _),ik];rfl
  have d:bt W (a++[q]) k=Fb W q (Jh W a):=by
   unfold bt Fb Jh
   rw[b,<-I.len]
   have:=wN W (a++[q]) (j:=a.length) a.length (cI _)
   rw[ib (cI _),dj]at this
   rw[this]
  rw[b,d]
  rfl
theorem Bj{n:Nat}(W:List (List Int))(p t:Int):EG n W (λl=>Gy p t (l.getD 0 0) (l.getD 1 0)) n=smL (pre n n) λo=>FR W n o p t:=by
 rw[xv W p t n (cI _)];unfold FR;rw[yC]
theorem C7(W:List (List Int))(n:Nat)(o:List Int)(p t:Int):0<=FR W n o p t/\FR W n o p t<=n:=by
 unfold FR;have h:∀j,0<=Gy p t (o.getD j 0) (bt W o j)/\Gy p t (o.getD j 0) (bt W o j)<=1:=λj=>by unfold Gy;split <;> omega
 constructor
 ·have:=HM.sm_le (n:=n) (f:=λ_=>0) (g:=λj=>Gy p t (o.getD j 0) (bt W o j)) λj _=>(h j).1
  rw[HM.sm_zero]at this;exact this
 ·have:=HM.sm_le (n:=n) (f:=λj=>Gy p t (o.getD j 0) (bt W o j)) (g:=λ_=>if(true:Bool)=true then 1 else 0) λj _=>by rw[if_pos rfl];exact(h j).2
  rw[HM.sm_cnt (λ_=>true) 1 n]at this;have e:HM.cnt n (λ_=>true)=n:=by unfold HM.cnt;simp
  rw[e]at this;omega
structure CI(n:Nat)(W:List (List Int))(k:Nat)(C:List (List Int×Int)):Prop where
 kn:KN C
 sum:∀F,Fv F C=EG n W F k
 len:C.length<=k*46656
structure BI(n:Nat)(W:List (List Int))(k:Nat)(B:List (Ev×Int)):Prop where
 kn:KN B
 sum:∀F,Fv F B=smL (pre n k) λπ=>F (ED W π)
 len:B.length<=6^k
 key:∀p∈B,∃π∈pre n k,p.1=ED W π
def KB(n:Nat)(W:List (List Int))(F:List Int->Int)(key:Ev):Int:=smL (Et n W key) λpt=>F [pt.1,pt.2]
def KJ(n:Nat)(W:List (List Int))(G:Ev->Int)(key:Ev):Int:=smL (Et n W key) λpt=>G (Fq key pt)
structure TJ(n:Nat)(W:List (List Int))(k:Nat)(B:List (Ev×Int))(i:Nat)(key:Ev)(num:Int)(j:Nat)(C:List (List Int×Int))(L:List (Ev×Int)):Prop where
 ck:KN C
 lk:KN L
 cs:∀F,Fv F C=EG n W F k+fct (n-(k+1))*(smL (B.take i) (λe=>e.2*KB n W F e.1)+num*smL ((Et n W key).take j) λpt=>F [pt.1,pt.2])
 ls:∀G,Fv G L=smL (B.take i) (λe=>e.2*KJ n W G e.1)+num*smL ((Et n W key).take j) λpt=>G (Fq key pt)
 cl:C.length<=k*46656+i*6+j
 ll:L.length<=i*6+j
 lv:∀p∈L,∃π∈pre n (k+1),p.1=ED W π
abbrev TI0(n:Nat)(W:List (List Int))(k:Nat)(B:List (Ev×Int))(i:Nat)(C:List (List Int×Int))(L:List (Ev×Int)):Prop:=∀key num,TJ n W k B i key num 0 C L
section
variable{n:Nat}{W:List (List Int)}{k:Nat}{B:List (Ev×Int)}{C:List (List Int×Int)}{L:List (Ev×Int)}
theorem CI.zero:CI n W 0 []:=⟨hU,λ_=>rfl,du _⟩
theorem BI.zero:BI n W 0 [(([],[]),1)]:=⟨by unfold KN;simp,λF=>by
  show smL [(([],[]),1)] (λp:Ev×Int=>p.2*F p.1)=smL [[]] _;rw[sg,sJ,sg,sJ];show 1*F ([],[])+0=F (ED W [])+0;rw[jP];rfl,cI _,λp hp=>⟨[],cK.mpr rfl,by rw[cK.mp hp];rfl⟩⟩
theorem TI0.start(h:CI n W k C):TI0 n W k B 0 C []:=λb a=>⟨h.kn,hU,λF=>by
  rw[h.sum F,eO,eO,sJ,sJ,gC];omega,λG=>by
  rw[eO,eO,sJ,sJ,gC];rfl,by have:=h.len;omega,du _,λ_ h=>nomatch h⟩
theorem TJ.step{i j:Nat}{key:Ev}{num:Int}{pt:Int×Int}(h:TJ n W k B i key num j C L)(hp:(Et n W key)[j]?=some pt)(hv:∃π∈pre n (k+1),Fq key pt=ED W π):
  TJ n W k B i key num (j+1) (IA C [pt.1,pt.2] (num*fct (n-(k+1)))) (IA L (Fq key pt) num):=by
 refine⟨Cs h.ck _ _,Cs h.lk _ _,λF=>?_,λG=>?_,?_,?_,λp a=>?_⟩
 ·rw[yL F h.ck,h.cs F,cY,hp,uH]
  show _+num*fct (n-(k+1))*F [pt.1,pt.2]=_+_*(_+num*(_+smL [pt] _))
  rw[sg,sJ,gB,show num*fct (n-(k+1))*F [pt.1,pt.2]=fct (n-(k+1))*(num*F [pt.1,pt.2])by ac_rfl,mB,<-jk,mB,<-jk]
 ·rw[yL G h.lk,h.ls G,cY,hp,uH]
  show _+num*G (Fq key pt)=_+num*(_+smL [pt] _)
  rw[sg,sJ,jk,jk,gC,gB]
  omega
 ·unfold IA
  exact dg (Br _ _ _) (by have:=h.cl;omega)
 ·unfold IA
  exact dg (Br _ _ _) (by have:=h.ll;omega)
 ·unfold IA Gu at a
  split at a
  ·obtain⟨q,b,e⟩:=dv.mp a
   obtain⟨π,h1,h2⟩:=h.lv q b
   refine⟨π,h1,?_⟩
   rw[<-e,<-h2]
   split <;> rfl
  ·rcases dJ.mp a with z|z
   ·exact h.lv p z
   ·rw[cK.mp z]
    exact hv
theorem TJ.done{i:Nat}{key:Ev}{num:Int}(hB:B[i]?=some (key,num))(hl:(Et n W key).length<=6)(h:TJ n W k B i key num (Et n W key).length C L):TI0 n W k B (i+1) C L:=λb a=>by
 refine⟨h.ck,h.lk,λF=>?_,λG=>?_,?_,?_,h.lv⟩
 ·rw[h.cs F,dj,eO,sJ,gC,gB,cY,hB,uH];show _+_*(_+_)=_+_*(_+smL [(key,num)] _);rw[sg,sJ,gB];rfl
 ·rw[h.ls G,dj,eO,sJ,gC,gB,cY,hB,uH];show _+_=_+smL [(key,num)] _;rw[sg,sJ,gB];rfl
 ·have:=h.cl;omega
 ·have:=h.ll;omega
theorem TI0.finish(hB:BI n W k B)(hk:k<6)(h:TI0 n W k B B.length C L):CI n W (k+1) C/\BI n W (k+1) L:=by
 have h0:=h ([],[]) 0;have b:B.length<=7776:=dg hB.len (by
  have:6^k<=6^5:=eA (by decide) (by omega);simpa using this)
 refine⟨⟨h0.ck,λF=>?_,by have:=h0.cl;omega⟩,⟨h0.lk,λG=>?_,?_,h0.lv⟩⟩
 ·rw[h0.cs F,dj,eO,sJ,gC,gB];show _+_*Fv (KB n W F) B=EG n W F k+_;rw[hB.sum]
  congr 2
  refine smL_congr λa _=>?_
  unfold KB;rw[uL,vy]
 ·rw[h0.ls G,dj,eO,sJ,gC,gB];show Fv (KJ n W G) B=smL ((pre n k).flatMap (exts n)) _;rw[hB.sum,u7];refine smL_congr λa _=>?_
  unfold KJ exts;rw[uL,vy,vy];exact smL_congr λp _=>by rw[w6]
 ·have:=h0.ll;have:=hB.len;rw[qe];omega
end
def HY(K:cu):Sp:=λvs H Q _=>∃(w l:cG) (row ts:List Int),vs=[.ref w,.ref l]/\SqT K H w (row.map V.int)/\(SqL K H l (ts.map V.int)\/SqT K H l (ts.map V.int))/\row.length<=63/\(∃t∈row,t∉ts)/\∀H',Same H H'->Q (.int (E6 row ts)) H'
def Hh(K:cu):Sp:=λvs H Q _=>∃(a:cG) (ns:List Int) (x:Int),vs=[.ref a,.int x]/\SqT K H a (ns.map V.int)/\ns.length<=60/\∀p H',Same H H'->SqT K H' p ((srt (ns++[x])).map V.int)->Q (.ref p) H'
def Ic(K:cu):Sp:=λvs H Q _=>∃(a g t:cG) (ws:List V) (W:List (List Int)) (n:Nat) (key:Ev),vs=[.ref a,.ref g,.ref t]/\SqL K H a ws/\dr (IsR K H) ws W/\Fk n W/\SqT K H g (key.1.map V.int)/\SqT K H t (key.2.map V.int)/\key.2.length<n/\
 ∀p ls H',Same H H'->H p=none->H' p=some (.lst ls)->dr (IsF K H') ls (Et n W key)->Q (.ref p) H'
def FL:Sp:=λvs H Q _=>∃k:Nat,vs=[.int k]/\k<=6/\Q (.int (fct k)) H
def Iv(P:cT)(w:dc)(K:cu):Sp:=λvs H Q _=>∃(a:cG) (ws:List V) (W:List (List Int)) (n:Nat),vs=[.ref a]/\SqL K H a ws/\dr (IsR K H) ws W/\Fk n W/\
 ∀d C H',Same H H'->DictI Gq P w K H' d C->CI n W n C->Q (.ref d) H'
def E5(n:Nat)(W:List (List Int))(p:Int):List (Int×Int):=(db n).map λ(t:Nat)=>FQ.red (EG n W (λl=>Gy p t (l.getD 0 0) (l.getD 1 0)) n) (fct n)
def Ip(P:cT)(w:dc)(K:cu):Sp:=λvs H Q _=>∃(d:cG) (C:List (List Int×Int)) (W:List (List Int)) (n:Nat) (p:Int),vs=[.ref d,.int p,.int n]/\DictI Gq P w K H d C/\CI n W n C/\n<=6/\
 ∀q gs H',Same H H'->H q=none->H' q=some (.tup gs)->dr (IsF K H') gs (E5 n W p)->Q (.ref q) H'
def RwG(K:cu)(H:Hp)(v:V)(r:List (Int×Int)):Prop:=∃a gs,v = .ref a/\SqT K H a gs/\dr (IsF K H) gs r
theorem RwG.mono{K:cu}{H H':Hp}{v:V}{r:List (Int×Int)}(e:Same H H')(h:RwG K H v r):RwG K H' v r:=by
 obtain⟨a,b,rfl,h1,h2⟩:=h;exact⟨a,b,rfl,e.tup h1,rP e h2⟩
def Ia(n:Nat)(W:List (List Int)):List (List (Int×Int)):=(db n).map λ(p:Nat)=>E5 n W p
def Gb(K:cu):Sp:=λvs H Q _=>∃(a:cG) (ws:List V) (W:List (List Int)) (n:Nat),vs=[.ref a]/\SqL K H a ws/\dr (IsR K H) ws W/\Fk n W/\
 ∀q us H',Same H H'->H q=none->H' q=some (.lst us)->dr (RwG K H') us (Ia n W)->Q (.ref q) H'
structure KX(bad:List cG)(H H':Hp):Prop where
 keep:∀b o,b∉bad->H b=some o->H' b=some o
 was:∀b∈bad,∃φ,H b=some (.ext φ)
 is:∀b∈bad,∃φ,H' b=some (.ext φ)
section
variable{bad:List cG}{H H' H'':Hp}{K:cu}
theorem KX.refl(h:∀b∈bad,∃φ,H b=some (.ext φ)):KX bad H H:=⟨λ_ _ _ e=>e,h,h⟩
theorem KX.trans(a:KX bad H H')(b:KX bad H' H''):KX bad H H'':=⟨λc o d e=>b.keep c o d (a.keep c o d e),a.was,b.is⟩
theorem KX.of(e:Same H H')(h:∀b∈bad,∃φ,H b=some (.ext φ)):KX bad H H':=⟨λ_ _ _ q=>e _ _ q,h,λb a=>by obtain⟨φ,q⟩:=h b a;exact⟨φ,e _ _ q⟩⟩
theorem KX.put{d:cG}(h:∀b∈bad,∃φ,H b=some (.ext φ))(hd:d∈bad)(e:∃φ φ',H d=some (.ext φ)/\H'=upd H d (.ext φ')):KX bad H H':=by
 obtain⟨φ,φ',h1,rfl⟩:=e;refine⟨λb o a q=>by rw[rG (show b≠d from λz=>a (by rw[z];exact hd))];exact q,h,λb a=>?_⟩;by_cases z:b=d
 ·subst z;exact⟨φ',rz⟩
 ·rw[rG z];exact h b a
theorem KX.get(a:KX bad H H'){b:cG}{o:HO}(h:H b=some o)(hn:∀φ,o≠ .ext φ):H' b=some o:=a.keep b o (λz=>by obtain⟨φ,q⟩:=a.was b z;rw[h]at q;exact hn φ (Option.some.inj q)) h
theorem KX.tup(a:KX bad H H'){b:cG}{xs:List V}(h:SqT K H b xs):SqT K H' b xs:=by
 rcases h with(h|⟨u,h⟩)|h
 ·exact .inl (.inl (a.get h λ_ z=>by cases z))
 ·exact .inl (.inr ⟨u,a.get h λ_ z=>by cases z⟩)
 ·exact .inr h
theorem KX.lst(a:KX bad H H'){b:cG}{xs:List V}(h:H b=some (.lst xs)):H' b=some (.lst xs):=a.get h λ_ z=>by cases z
theorem KX.same{H0:Hp}(a:KX bad H H')(e:Same H0 H)(hf:∀b∈bad,H0 b=none):Same H0 H':=λb o q=>a.keep b o (λz=>by rw[hf b z]at q;cases q) (e b o q)
theorem KX.dict{κ:Type}[DecidableEq κ]{W:KW κ}{P:cT}{w:dc}{d:cG}{ep:Nat}{kvs:List (κ×Int)}(a:KX bad H H')(h:DictE W P w K H d ep kvs)(hd:d∉bad):DictE W P w K H' d ep kvs:=by
 obtain⟨f,h1,h2⟩:=h;exact⟨f,a.keep _ _ hd h1,Paired.mapP h2 λ_ _ ⟨c,e,b⟩=>⟨c,e,W.map (λ_ _ q=>a.tup q) b⟩⟩
theorem DictI.ext{κ:Type}[DecidableEq κ]{W:KW κ}{P:cT}{w:dc}{d:cG}{kvs:List (κ×Int)}(h:DictI W P w K H d kvs):∃φ,H d=some (.ext φ):=by
 obtain⟨b,a,h1,_⟩:=h;exact⟨_,h1⟩
end
theorem ym{m:Nat}(h:m<=6):0<TM.fct m/\TM.fct m<=720:=
 (show ∀m∈db 7,0<TM.fct m/\TM.fct m<=720 by decide) m (dY.mpr (by omega))
theorem Bm(l:List Int):(TM.srt l).length=l.length:=(TM.srt_perm l).length_eq
theorem BN{n k:Nat}{W:List (List Int)}{π:List Int}{pt:Int×Int}(hπ:π∈TM.pre n k)(hp:pt∈Et n W (ED W π)):∃ρ∈TM.pre n (k+1),Fq (ED W π) pt=ED W ρ:=by
 rw[uL]at hp;obtain⟨p,h1,rfl⟩:=dv.mp hp;exact⟨π++[p],oh.mpr ⟨π,hπ,dv.mpr ⟨p,h1,rfl⟩⟩,w6 W π p⟩
def Gs(n:Nat)(f:Nat->Nat->Int):List (List Int):=(db n).map λp=>(db n).map λt=>f p t
theorem yI(n:Nat)(f:Nat->Nat->Int):(Gs n f).length=n:=by unfold Gs;simp
theorem yX{n:Nat}{f:Nat->Nat->Int}{p:Nat}(hp:p<n):(Gs n f)[p]?=some ((db n).map λt=>f p t):=by unfold Gs;rw[cH,d9 hp];rfl
theorem DN{n:Nat}{g:Nat->Int}{t:Nat}(ht:t<n):((db n).map g)[t]?=some (g t):=by rw[cH,d9 ht];rfl
theorem Bu(n:Nat)(W:List (List Int)):(Ia n W).length=n:=by unfold Ia;simp
theorem zr(n:Nat)(W:List (List Int))(p:Int):(E5 n W p).length=n:=by unfold E5;simp
def Fz(n:Nat)(W:List (List Int))(p t:Nat):Int:=TM.smL (TM.pre n n) λo=>FR W n o p t
theorem AS{n:Nat}{W:List (List Int)}{p:Nat}:E5 n W p=(db n).map λ(t:Nat)=>FQ.red (Fz n W p t) (TM.fct n):=by
 unfold E5 Fz;exact fD λt _=>by rw[Bj]
def Kc{κ:Type}[DecidableEq κ](kvs:List (κ×Int))(k:κ):Int:=(kvs.lookup k).getD 0
theorem BG(C:List (List Int×Int))(h:KN C)(n:Nat)(W:List (List Int))(hs:∀F,Fv F C=EG n W F n)(p t:Int):Kc C [p,t]=EG n W (λl=>Gy p t (l.getD 0 0) (l.getD 1 0)) n:=by
 have d:=CD h [p,t];have e:EG n W (λa=>if a=[p,t]then 1 else 0) n=EG n W (λl=>Gy p t (l.getD 0 0) (l.getD 1 0)) n:=by
  have c:∀k,EG n W (λa=>if a=[p,t]then 1 else 0) k=EG n W (λl=>Gy p t (l.getD 0 0) (l.getD 1 0)) k:=by
   intro k
   induction k with
   | zero=>rfl
   | succ k f=>
    show EG n W _ k+_=EG n W _ k+_;rw[f]
    congr 2
    exact TM.smL_congr λb _=>TM.smL_congr λq _=>by
     show(if[q,Fb W q (Jh W b)]=[p,t]then(1:Int)else 0)=Gy p t q (Fb W q (Jh W b));unfold Gy;simp
  exact c n
 rw[<-e,<-hs];exact d
theorem Co{n:Nat}{o:List Int}(h:o∈TM.pre n n):LN.Pm n o:=by
 have I:=TM.pre_ok h;have c:=TM.free_len I;have b:TM.freeP n o=[]:=ia (by omega);refine(ga I.nd (LM.rng_nodup n)).mpr λx=>⟨λa=>LM.mem_rng.mpr (I.bd x a),λa=>?_⟩
 refine dM λz=>?_
 have:x∈TM.freeP n o:=d8.mpr ⟨a,by simpa using z⟩;rw[b]at this
 cases this
end L2
namespace L2
open TM
theorem uR{n c:Nat}(hc:c<n)(x:Int):HM.sm n (λi=>if i=c then x else 0)=x:=by
 have h:=HM.sm_cnt (λi=>i==c) x n;rw[HM.cnt_one,if_pos hc]at h;rw[HM.sm_congr (g:=λi=>if(i==c)=true then x else 0) λi _=>by by_cases e:i=c <;> simp[e],h];simp
theorem Cn{α:Type}(l:List α):smL l (λ_=>(1:Int))=l.length:=by rw[tJ,jP]
theorem Dv{n:Nat}{W:List (List Int)}{o:List Int}(ok:Fk n W)(ho:LN.Pm n o){k:Nat}(hk:k<n):0<=bt W o k/\bt W o k<n/\bt W o k∉tk W o k:=by
 have e:=ho.len;have d:=ho.mem.mp (show o.getD k 0∈o by rw[HM.getD_lt (by omega)];exact cW _);have a:(o.getD k 0).toNat<W.length:=by have:=ok.len;omega
 have b:=ok.pm _ (cW a);unfold bt;rw[HM.getD_lt a];have c:=xO (Be (ts:=tk W o k) b (by rw[Aj];exact hk));have:=b.mem.mp c.2.1;exact⟨this.1,this.2,c.2.2⟩
theorem DW{n:Nat}{W:List (List Int)}{o:List Int}(ok:Fk n W)(ho:LN.Pm n o):LN.Pm n (tk W o n):=by
 have d:∀k,k<=n->(tk W o k).Nodup/\∀t∈tk W o k,0<=t/\t<n:=by
  intro k
  induction k with
  | zero=>exact λ_=>⟨hU,λ_ h=>nomatch h⟩
  | succ k g=>
   intro hk;obtain⟨h1,h2⟩:=g (by omega);obtain⟨l,m,f⟩:=Dv ok ho (k:=k) (by omega);have e:tk W o (k+1)=tk W o k++[bt W o k]:=rfl;rw[e];refine⟨gt.mpr ⟨h1,by simp,λx a y j z=>f (by rw[cK.mp j]at z;rw[<-z];exact a)⟩,λt b=>?_⟩;rcases dJ.mp b with z|z
   ·exact h2 t z
   ·rw[cK.mp z];exact⟨l,m⟩
 obtain⟨h1,h2⟩:=d n (cI _);refine(ga h1 (LM.rng_nodup n)).mpr λx=>⟨λa=>LM.mem_rng.mpr (h2 x a),λa=>?_⟩
 refine dM λz=>?_
 have c:=LM.mem_rng.mp a;have:=IP (x::tk W o n) (LM.rng n) (fu.mpr ⟨z,h1⟩) λt b=>LM.mem_rng.mpr (by
  rcases cZ.mp b with e|e
  ·rw[e];exact c
  ·exact h2 t e)
 rw[dQ,Aj,LM.rng_len]at this;omega
theorem DV(W:List (List Int))(o:List Int){n j:Nat}(hj:j<n):(tk W o n).getD j 0=bt W o j:=by
 rw[CT,cC,cH,d9 hj];rfl
theorem Dr{n:Nat}(W:List (List Int)){o:List Int}(ho:LN.Pm n o){p:Nat}(hp:p<n):∃j,j<n/\o.getD j 0=(p:Int)/\(∀i,i<n->o.getD i 0=(p:Int)->i=j)/\∀V t,FR V n o p t=if bt V o j=t then 1 else 0:=by
 obtain⟨j,f,e,d⟩:=HM.pm_at ho hp;refine⟨j,f,e,λi b h=>d i b (by rw[h];rfl),λV t=>?_⟩;unfold FR;rw[HM.sm_congr (g:=λi=>if i=j then(if bt V o j=t then 1 else 0)else 0) λi b=>?_,uR f];unfold Gy;by_cases c:i=j
 ·subst c;rw[if_pos rfl];by_cases a:bt V o i=t
  ·rw[if_pos a,if_pos ⟨e,a⟩]
  ·rw[if_neg a,if_neg λz=>a z.2]
 ·rw[if_neg c,if_neg λz=>c (d i b (by rw[z.1];rfl))]
theorem Ca{n:Nat}{W:List (List Int)}{o:List Int}(ok:Fk n W)(ho:LN.Pm n o){p:Nat}(hp:p<n):HM.sm n (λt=>FR W n o p t)=1:=by
 obtain⟨j,a,_,_,h⟩:=Dr W ho hp;obtain⟨b,d,_⟩:=Dv ok ho a;rw[HM.sm_congr (g:=λt=>if t=(bt W o j).toNat then 1 else 0) λt _=>?_,uR (by omega)];show FR W n o p t=_;rw[h];by_cases c:bt W o j=t
 ·rw[if_pos c,if_pos (by omega)]
 ·rw[if_neg c,if_neg (by omega)]
theorem BU{n:Nat}{W:List (List Int)}{o:List Int}(ok:Fk n W)(ho:LN.Pm n o){t:Nat}(ht:t<n):HM.sm n (λp=>FR W n o p t)=1:=by
 unfold FR;rw[HM.sm_swap];obtain⟨j,d,e,f⟩:=HM.pm_at (DW ok ho) ht;rw[HM.sm_congr (g:=λi=>if i=j then 1 else 0) λi b=>?_,uR d];have k:=ho.len;have h:=ho.mem.mp (show o.getD i 0∈o by rw[HM.getD_lt (by omega)];exact cW _);rw[DV W o d]at e;by_cases c:i=j
 ·subst c;rw[if_pos rfl,HM.sm_congr (g:=λp=>if p=(o.getD i 0).toNat then 1 else 0) λp _=>?_,uR (by omega)];unfold Gy;by_cases a:p=(o.getD i 0).toNat
  ·rw[if_pos a,if_pos ⟨by omega,e⟩]
  ·rw[if_neg a,if_neg λz=>a (by omega)]
 ·rw[if_neg c,HM.sm_congr (g:=λ_=>0) λp _=>?_,HM.sm_zero];unfold Gy;rw[if_neg λz=>c (f i b (by rw[DV W o b,z.2];rfl))]
theorem B3{n:Nat}{W:List (List Int)}(ok:Fk n W){p:Nat}(hp:p<n):HM.sm n (λt=>Fz n W p t)=fct n:=by
 unfold Fz;rw[<-yC (λo t=>FR W n o p t),smL_congr (g:=λ_=>1) λo a=>Ca ok (Co a) hp,Cn,Ad]
theorem BQ{n:Nat}{W:List (List Int)}(ok:Fk n W){t:Nat}(ht:t<n):HM.sm n (λp=>Fz n W p t)=fct n:=by
 unfold Fz;rw[<-yC (λo p=>FR W n o p t),smL_congr (g:=λ_=>1) λo a=>BU ok (Co a) ht,Cn,Ad]
theorem Du{α:Type}{l:List α}{f:α->Int}(h:∀x∈l,0<=f x):0<=smL l f:=by
 induction l with
 | nil=>exact fC _
 | cons a l c=>
  rw[sg];have:=h a cM;have:=c λx b=>h x (cO _ b)
  omega
theorem Di(n:Nat)(W:List (List Int))(p t:Nat):0<=Fz n W p t:=Du λo _=>(C7 W n o p t).1
theorem wQ{n:Nat}{f:Nat->Nat->Int}{p t:Nat}(hp:p<n)(ht:t<n):HM.ent (Gs n f) p t=f p t:=by
 unfold HM.ent;rw[cC,cC,yX hp];show(((db n).map λt=>f p t)[t]?).getD 0=_;rw[DN ht];rfl
theorem Cf{n:Nat}{W:List (List Int)}(ok:Fk n W):HM.Reg n (Gs n (Fz n W)) (fct n):=by
 refine⟨yI _ _,λr b=>?_,λp t=>?_,λi c=>?_,λj d=>?_⟩
 ·unfold Gs at b;obtain⟨q,_,rfl⟩:=dv.mp b;simp
 ·by_cases hp:p<n
  ·by_cases a:t<n
   ·rw[wQ hp a];exact Di n W p t
   ·unfold HM.ent;rw[cC,cC,yX hp];show 0<=(((db n).map λt=>Fz n W p t)[t]?).getD 0;rw[gg (by simpa using a)];exact fC _
  ·unfold HM.ent;have e:(Gs n (Fz n W))[p]?=none:=gg (by rw[yI];omega);rw[cC,cC,e];exact fC _
 ·rw[HM.sm_congr (g:=λt=>Fz n W i t) λt a=>wQ c a];exact B3 ok c
 ·rw[HM.sm_congr (g:=λp=>Fz n W p j) λp hp=>wQ hp d];exact BQ ok d
end L2
namespace L2
open TM
section
variable{n:Nat}{W V:List (List Int)}{P X:List Int}
theorem DQ{n:Nat}{t:Int}(h0:0<=t)(h1:t<n):EM.at0 (fw n (1:Int)) t=1:=by
 unfold EM.at0;rw[HM.getD_lt (by rw[eS];omega),List.getElem_replicate]
end
end L2
namespace L2
open PySem PySem.Spec PyProof.Rows
section
variable{X:Cx}
theorem At:∀{vs:List cA} {ns:List Int} (hi:IntsAre vs ns) {i:Nat} (h:i<vs.length),∃t,vs[i]=dX (ns[i]'(by rw[<-hi.length];exact h)) t
 | _,_,.cons n t r,0,_=>⟨t,rfl⟩
 | _,_,.cons n t r,i+1,h=>At r (i:=i) (by simpa using h)
theorem index_tup_ints{prog:cT}{w:dc}{A:dw}{E:cA->cD->Prop}{s:cD}{a:cG}{vs:List cA}{ns:List Int}{k:Int}{t:Tok}{Q:cA->cD->Prop}(ht:IsTup s.heap a vs.toArray)(hi:IntsAre vs ns)
  (hk:k∈ns)(h:Q (.int (ns.idxOf k:Nat) s.toks) {s with toks:=s.toks+1}):wpAny (model prog w) A (call (.builtin "tuple.index") [.ref a,.int k t]) Q E s:=by
 have u:=hi.length
 have q:ns.idxOf k<ns.length:=gZ.mpr hk
 refine gX jc ht.typeIs kr (kl _ _) (S:=λA R s=>IsTup s.heap a vs.toArray/\R (.ok (.ret (.int (ns.idxOf k:Nat) s.toks))) {s with toks:=s.toks+1}) ?_ ⟨ht,h⟩
 intro prog w A R s ⟨ht,h⟩
 show wpAny _ _ _ _ _ _
 unfold Builtin.«tuple.index»
 simp only[iU]
 wp_walk using pV ht
 have p:([:min vs.toArray.size vs.toArray.size]:oi).size=vs.length:=by simp[lW]
 rw[p]
 refine ld (M:=model prog w) (A:=A.in1) _ (λl b g=>b=((none:Option PySem.Fin),())/\g=s/\∃i,l=kC i (vs.length-i)/\i<=ns.idxOf k) _ (λx rest b g n=>?_) (λb g n=>?_) _ _ ⟨rfl,rfl,0,rfl,du _⟩
 ·obtain⟨rfl,rfl,i,e,d⟩:=n
  have f:i<vs.length:=by omega
  rw[show vs.length-i=(vs.length-(i+1))+1 by omega,la]at e
  injection e with m hrest
  subst m
  obtain⟨o,r⟩:∃o,vs[x]=dX (ns[x]'(by omega)) o:=At hi f
  have j:vs.toArray[x]?=some (dX (ns[x]'(by omega)) o):=by simp[f,r]
  rw[j]
  refine cr (nP ?_)
  by_cases c:ns[x]'(by omega)=k
  ·have m:ns.idxOf k=x:=by
    have h1:ns.idxOf k<=x:=by
     refine kZ λz=>?_
     exact absurd c (by simpa using lC z)
    omega
   rw[show(ns[x]'(by omega)==k)=true by simp[c],if_pos rfl]
   wp_walk
   rw[m]at h
   exact h
  ·rw[show(ns[x]'(by omega)==k)=false by simp[c],if_neg (by decide)]
   refine cv ⟨rfl,rfl,x+1,hrest,?_⟩
   refine mY d λz=>c ?_
   have:=jg q
   simp only[<-z]at this
   exact this
 ·obtain⟨_,_,i,e,d⟩:=n
  have:=congrArg jh e
  simp at this
  omega
theorem SqT.frz{K:cu}{H:Hp}{a:cG}{o:Obj}{xs:List V}(h:H a=some (.frz o (.tup xs))):SqT K H a xs:= .inl (.inr ⟨o,h⟩)
theorem ug:EJ X (.type "tuple") (λxs H Q=>∃p ys,xs=[.ref p]/\SqL X.K H p ys/\∀l o,H l=none->o.dict=none->Q (.ref l) (upd H l (.frz o (.tup ys)))):=by
 intro c s f H xs z Q I r h;obtain⟨p,ys,rfl,t,q⟩:=h;obtain⟨u,rfl,m⟩:=EX r
 cases m;obtain⟨a,g,k,y⟩:=I.list t;have x:=g.length;refine ou k.isList (λd v=>?_) (by simp only[cX] <;> omega);have j:Inv X c f H {s with heap:=d}:=I.kept (t':=s.toks) v;have n:Inv X c f (upd H d.objs.size (.frz {cls:= .type "tuple",data:= .seq a.toArray} (.tup ys))) {s with heap:=d.push {cls:= .type "tuple",data:= .seq a.toArray}}:=
  j.laid (t':=s.toks) (λb o e=>cF _ e) (cI _) (show ObjOk X.prog X.w _ _ _ (.frz _ (.tup ys))from⟨cN _ rfl,y,a,g,p6 _ _⟩)
 exact⟨.ref d.objs.size,_,n,rfl,q _ _ (j.hok.fresh (cI _)) rfl⟩
end
theorem tL{K:cu}{H:Hp}{T:Int}:∀{Z:List (List Int)} {us:List V},dr (RwG K H) us (Z.map (fr T))->dr (RwFT K H T) us Z
 | [],_,.nil=> .nil
 | _::_,_,.cons h t=> .cons h (tL t)
theorem AR(n:Nat)(W:List (List Int)):Ia n W=(Gs n (Fz n W)).map (fr (TM.fct n)):=by
 unfold Ia Gs;rw[ij];refine fD λp _=>?_
 rw[AS];show _=fr (TM.fct n) ((db n).map λt=>Fz n W p t);unfold fr;rw[ij];rfl
theorem Dk{n:Nat}{W:List (List Int)}(ok:Fk n W):Jl n (TM.fct n) (Gs n (Fz n W)):=by
 have h:=ym ok.hi;exact⟨ok.lo,ok.hi,h.1,by omega,Cf ok⟩
end L2
namespace L2
open TM
section
variable{n:Nat}{W:List (List Int)}
theorem yK(h:EM.Ws n W)(ms:List Int):(EM.dishes W ms).length=n:=by unfold EM.dishes;rw[cx];exact h.len
theorem CL(h:EM.Ws n W){i:Nat}(hu:EM.Upto W n (i+1)){p:Nat}(hp:p<n):0<=(EM.dishes W (EM.st W n i).ms).getD p 0/\(EM.dishes W (EM.st W n i).ms).getD p 0<n/\EM.at0 (EM.st W n i).ms ((EM.dishes W (EM.st W n i).ms).getD p 0)≠0:=by
 have S:=(EM.st_ok h i (hu.mono (ec i))).1;have a:p<(EM.dishes W (EM.st W n i).ms).length:=by rw[yK h];exact hp
 rw[HM.getD_lt a];have:=EM.dish_ok S h.pm (hu i (dH i)) (cW a);exact⟨this.1.1,this.1.2,this.2⟩
theorem Ae(c:Int)(f:Nat->Int):∀n,HM.sm n (λi=>f i*c)=HM.sm n f*c
 | 0=>by show(0:Int)=0*c;rw[jt]
 | n+1=>by
  show HM.sm n (λi=>f i*c)+f n*c=(HM.sm n f+f n)*c
  rw[Ae c f n,gR]
theorem Cv(h:EM.Ws n W){p:Nat}(hp:p<n):∀i,EM.Upto W n i->HM.sm n (λt=>EM.et W n i p t)=(EM.st W n i).T
 | 0,_=>HM.sm_zero n
 | i+1,hu=>by
  have a:=Cv h hp i (hu.mono (ec i))
  obtain⟨b,d,_⟩:=CL h hu hp
  show HM.sm n (λt=>EM.et W n i p t*EM.cn W (EM.st W n i)+if(EM.dishes W (EM.st W n i).ms).getD p 0=(t:Int)then(EM.cs W (EM.st W n i)).m else 0)=(EM.st W n i).T*EM.cn W (EM.st W n i)+(EM.cs W (EM.st W n i)).m
  rw[HM.sm_add (λt=>EM.et W n i p t*EM.cn W (EM.st W n i)),Ae _ (λt=>EM.et W n i p t),a]
  congr 1
  rw[HM.sm_congr (g:=λt=>if t=((EM.dishes W (EM.st W n i).ms).getD p 0).toNat then(EM.cs W (EM.st W n i)).m else 0) λt _=>?_,uR (by omega)]
  by_cases c:(EM.dishes W (EM.st W n i).ms).getD p 0=(t:Int)
  ·rw[if_pos c,if_pos (by omega)]
  ·rw[if_neg c,if_neg (by omega)]
theorem B5{l:List Int}{t m:Int}:∀{n:Nat},l.length=n->HM.sm n (λp=>if l.getD p 0=t then m else 0)=EM.cnt l t*m:=by
 intro n
 induction n generalizing l with
 | zero=>
  intro b;rw[ia b];show(0:Int)=EM.cnt [] t*m;unfold EM.cnt;simp
 | succ n j=>
  intro b;have a:l≠[]:=λz=>by rw[z]at b;cases b
  have e:l.dropLast++[l.getLast a]=l:=jV a;have d:l.dropLast.length=n:=by rw[gQ,b];rfl
  show HM.sm n (λp=>if l.getD p 0=t then m else 0)+(if l.getD n 0=t then m else 0)=_;rw[HM.sm_congr (g:=λp=>if l.dropLast.getD p 0=t then m else 0) λp hp=>?_,j d]
  ·have h:l.getD n 0=l.getLast a:=by
    conv=>lhs;rw[<-e]
    rw[cC,eY (by omega),d,ik];simp
   rw[h];have f:EM.cnt l t=EM.cnt l.dropLast t+if l.getLast a=t then 1 else 0:=by
    unfold EM.cnt
    conv=>lhs;rw[<-e]
    rw[List.count_append];by_cases c:l.getLast a=t
    ·rw[if_pos c,c];simp
    ·rw[if_neg c,mQ.mpr (λz=>c (cK.mp z).symm)];simp
   rw[f,gR];by_cases c:l.getLast a=t
   ·rw[if_pos c,if_pos c,jP]
   ·rw[if_neg c,if_neg c,jt]
  ·show(if l.getD p 0=t then m else 0)=if l.dropLast.getD p 0=t then m else 0
   have:l.getD p 0=l.dropLast.getD p 0:=by
    conv=>lhs;rw[<-e]
    rw[cC,gM (by omega),cC]
   rw[this]
theorem Cu(h:EM.Ws n W){t:Int}(h0:0<=t)(h1:t<n):∀i,EM.Upto W n i->HM.sm n (λp=>EM.et W n i p t)=(EM.st W n i).D-EM.at0 (EM.st W n i).ms t
 | 0,_=>by
  show HM.sm n (λ_=>0)=1-EM.at0 (fw n 1) t
  rw[HM.sm_zero,DQ h0 h1]
  rfl
 | i+1,hu=>by
  have a:=Cu h h0 h1 i (hu.mono (ec i))
  have S:=(EM.st_ok h i (hu.mono (ec i))).1
  show HM.sm n (λp=>EM.et W n i p t*EM.cn W (EM.st W n i)+if(EM.dishes W (EM.st W n i).ms).getD p 0=t then(EM.cs W (EM.st W n i)).m else 0)=(EM.st W n i).D*EM.cn W (EM.st W n i)-EM.at0 (EM.nextMs (EM.dishes W (EM.st W n i).ms) (EM.st W n i).ms) t
  rw[HM.sm_add (λp=>EM.et W n i p t*EM.cn W (EM.st W n i)),Ae _ (λp=>EM.et W n i p t),a,B5 (yK h _),EM.at0_next h0 (by rw[S.len];exact h1)]
  show((EM.st W n i).D-EM.at0 (EM.st W n i).ms t)*EM.cn W (EM.st W n i)+EM.cnt (EM.dishes W (EM.st W n i).ms) t*(EM.cs W (EM.st W n i)).m=(EM.st W n i).D*EM.cn W (EM.st W n i)-(EM.at0 (EM.st W n i).ms t*EM.cn W (EM.st W n i)-EM.cnt (EM.dishes W (EM.st W n i).ms) t*(EM.cs W (EM.st W n i)).m)
  grind
theorem DZ(h:EM.Ws n W){i:Nat}(hu:EM.Upto W n i)(p:Nat)(t:Int):0<=EM.et W n i p t:=(EM.et_bd h p t i hu).1
end
end L2
namespace L2
open PySem PySem.Spec PyProof.Rows TM
section
variable{n N:Nat}{W:List (List Int)}
theorem zS:(Ez W n N).length=n:=by unfold Ez;simp
theorem CJ{p:Nat}(hp:p<n):(Ez W n N)[p]?=some (Fc W n N p):=by
 unfold Ez;rw[cH,d9 hp];rfl
theorem yu{p:Nat}(hp:p<n):(Ez W n N).getD p []=Fc W n N p:=by
 rw[cC,CJ hp];rfl
theorem v6(p:Nat):(Fc W n N p).length=n:=by unfold Fc;rw[cx,LM.rng_len]
theorem A6{p t:Nat}(ht:t<n):(Fc W n N p).getD t 0=EM.et W n N p t:=by
 unfold Fc;rw[cC,cH,EM.rng_get ht];rfl
theorem xX{p t:Nat}(hp:p<n)(ht:t<n):HM.ent (Ez W n N) p t=EM.et W n N p t:=by
 unfold HM.ent;rw[yu hp,A6 ht]
theorem DL(h:EM.Ws n W)(hN:EM.Stops W n N):Jl n (EM.st W n N).D (Ez W n N):=by
 have S:=(EM.st_ok h N hN.up).1;have f:=EM.D_le S h.n6;have d:=(EM.all_gone h hN).1;have z:=EM.sum_zero S.nn hN.last;refine⟨h.n1,h.n6,S.pos,by omega,⟨zS,λr b=>?_,λp t=>?_,λi c=>?_,λj e=>?_⟩⟩
 ·unfold Ez at b;obtain⟨p,_,rfl⟩:=dv.mp b;exact v6 p
 ·by_cases hp:p<n
  ·by_cases a:t<n
   ·rw[xX hp a];exact DZ h hN.up p t
   ·unfold HM.ent;rw[yu hp,cC,gg (by rw[v6];omega)];exact fC 0
  ·unfold HM.ent;rw[cC (l:=Ez W n N),gg (by rw[zS];omega)];exact fC 0
 ·rw[HM.sm_congr (g:=λt=>EM.et W n N i t) λt a=>xX c a,Cv h c N hN.up,d]
 ·rw[HM.sm_congr (g:=λp=>EM.et W n N p j) λp hp=>xX hp e,Cu h (by omega) (by omega) N hN.up,z _ (EM.at0_mem (by omega) (by rw[S.len];omega))];omega
end
theorem Ax{n k j:Nat}{T:Int}{Z:List (List Int)}(tb:Jl n T Z)(hf:HM.Fin Z T k)(hj:j<k):LN.Pm n (HM.lotAt Z T j).2/\∀p,p<n->0<HM.ent Z p ((HM.lotAt Z T j).2.getD p 0).toNat:=by
 have I:=HM.it_ok tb.reg tb.t0 tb.lo k hf.2;have S:=I.lots j hj;have J:=HM.it_ok tb.reg tb.t0 tb.lo j λi a=>hf.2 i (by omega)
 refine⟨S.pm,λp hp=>?_⟩;have h1:=S.le p hp;have h2:=S.w1;have h3:0<=HM.sm j λi=>if((HM.lotAt Z T i).2.getD p 0).toNat=((HM.lotAt Z T j).2.getD p 0).toNat then(HM.lotAt Z T i).1 else 0:=by
  have:=HM.sm_le (n:=j) (f:=λ_=>0) (g:=λi=>if((HM.lotAt Z T i).2.getD p 0).toNat=((HM.lotAt Z T j).2.getD p 0).toNat then(HM.lotAt Z T i).1 else 0) λi a=>by
   have:=(J.lots i a).w1;show(0:Int)<=if _ then HM.wOf (HM.it Z T i).1 else 0
   split <;> omega
  rwa[HM.sm_zero]at this
 rw[J.ent p hp];show 0<HM.ent (HM.it Z T j).1 p ((HM.dealOf (HM.it Z T j).1).getD p 0).toNat+_;omega
def JE(K:cu):Sp:=λvs H Q _=>∃(a:cG) (gs:List V) (ps:List (Int×Int)),vs=[.ref a]/\(SqL K H a gs\/SqT K H a gs)/\dr (IsF K H) gs ps/\(∀i,Sz 4000 (Fi (ps.take i)))/\(∀p∈ps,Sz 4000 p)/\∀v H',Same H H'->IsF K H' v (Fi ps)->Q v H'
theorem DA{K:cu}{vs:List V}{H:Hp}{Q:VK}{E:XK}(h:IK K vs H Q E):JE K vs H Q E:=by
 obtain⟨a,f,d,rfl,c,e,b,g,q⟩:=h;exact⟨a,f,d,rfl,.inl c,e,λi=>C1 (by rw[cV];omega) λp hp=>b p (gr hp),λp hp=>(b p hp).up (by decide),q⟩
end L2
namespace L2
open PySem PySem.Spec PyProof.Rows
section
variable{X:Cx}
def LZ:V->Option Int->Option Int->Hp->VK->Prop:=λx lo hi H Q=>∃z,x = .str z/\z.length<=sizeLine/\Q (.str (j5 z lo hi)) H
def Fu:cA->Option (Int×Tok)
 | .int i t=>some (i,t)
 | _=>none
theorem AE:Mt X LZ:=by
 intro r s A H x v c d b a n Q I m y f g h;obtain⟨z,rfl,w,q⟩:=h;obtain⟨t,rfl⟩:=m;refine⟨"str",_,nS.lookup,mL s z t,?_⟩;have j:s.heap.IsSlice n (Fu c) (Fu d) none:=by
  obtain⟨o,h1,h2,h3⟩:=y;refine⟨o,h1,h2,?_⟩;rw[h3]
  cases f <;> cases g <;> rfl
 have u:(Fu c).map (·.1)=b:=by cases f <;> rfl
 have l:(Fu d).map (·.1)=a:=by cases g <;> rfl
 refine wpAny_getItem_str_slice j (by rfl) ?_;have p:(sliceMade z t (Fu c) (Fu d) none) = .val (.str z t)/\j5 z b a=z\/sliceMade z t (Fu c) (Fu d) none = .str (j5 z b a):=by
  unfold sliceMade j5 slicePicked;rw[u,l];simp only[Option.map_none,kX];split
  ·exact .inl ⟨rfl,rfl⟩
  ·exact .inr rfl
 rcases p with⟨e,k⟩|e
 ·rw[e];exact⟨.str z,H,I,⟨_,rfl⟩,by rw[k]at q;exact q⟩
 ·rw[e];exact⟨dg (Txt.slice_le z b a) w,.str (j5 z b a),H,I.tok _,⟨_,rfl⟩,q⟩
theorem xK:Fs X (compareOp .LtE) (λx y H Q=>∃i j,x = .str i/\y = .str j/\Q (.bl (!decide (j.cps.toList<i.cps.toList))) H):=by
 intro c s e H x y v u Q I a b h;obtain⟨i,j,rfl,rfl,q⟩:=h;obtain⟨t,rfl⟩:=a;obtain⟨d,rfl⟩:=b;exact P.le_str ⟨.bl _,H,I,rfl,q⟩
def KZ:V->List V->Hp->VK->Prop:=λx vs H Q=>∃z y,x = .str z/\vs=[.str y]/\Q (.int (qH z y)) H
theorem CU:KT X "str.find" KZ:=by
 intro b s g H x e v f Q I a c h;obtain⟨z,y,rfl,rfl,q⟩:=h;obtain⟨t,rfl⟩:=a;obtain⟨u,rfl,d,rfl⟩:=EX c;exact SC.find ⟨.int _,H,I.tok _,⟨_,rfl⟩,q⟩
theorem uc:∀{ys:List Str} {its:List cA},Vals (ys.map V.str) its->StrsAre its ys
 | [],_,.nil=> .nil
 | y::_,_,.cons ⟨t,e⟩ r=>e▸ .cons y t (uc r)
theorem xx:∀{its:List cA} {ys:List Str},StrsAre its ys->Vals (ys.map V.str) its
 | _,_,.nil=> .nil
 | _,_,.cons _ _ r=> .cons ⟨_,rfl⟩ (xx r)
def LG(K:cu):V->List V->Hp->VK->Prop:=λx vs H Q=>∃z p ys,x = .str z/\vs=[.ref p]/\SqL K H p (ys.map V.str)/\z.length<=16/\(ys.map fH).sum+ys.length<=1048576/\Q (.str (fe z ys)) H
theorem yi:KT X "str.join" (LG X.K):=by
 intro e s o H x l v m Q I c f h;obtain⟨z,p,n,rfl,rfl,hp,h1,h2,q⟩:=h;obtain⟨t,rfl⟩:=c;obtain⟨u,rfl,b⟩:=EX f
 cases(show u=cR p from b);obtain⟨g,d,a,r⟩:=I.list hp;exact join_listW a.isList (by simpa using uc d) h1 h2 λj k=>⟨.str _,H,I.tok _,⟨_,rfl⟩,q⟩
def KD:V->List V->Hp->VK->Prop:=λx vs H Q=>∃z y,x = .str z/\vs=[.str y]/\y.length≠0/\z.length+2<=sizeLine/\∀p,H p=none->Q (.ref p) (upd H p (.lst ((Txt.split z y).map V.str)))
theorem xE:∀(l:List Str) (k:Nat),Vals (l.map V.str) (strsFrom k l)
 | [],_=> .nil
 | _::l,k=> .cons ⟨_,rfl⟩ (xE l (k+1))
theorem Cj:KT X "str.split" KD:=by
 intro k s B H x J v K Q I m D h;obtain⟨z,y,rfl,rfl,o,L,q⟩:=h;obtain⟨t,rfl⟩:=m;obtain⟨u,rfl,t',rfl⟩:=EX D;have g:(y.length==0)=false:=beq_eq_false_iff_ne.mpr o;have j:s.TypeIs (.str z t) "str":=mL s z t;have f:∀(e:Txt.split z y=[z]),EP X k B Q (.ref s.heap.objs.size) {s with heap:=s.heap.push {cls:= .type "list",data:= .seq #[.str z t]}}:=λe=>by
  have b:=q _ (I.hok.fresh (cI _));rw[e]at b;exact⟨.ref s.heap.objs.size,_,I.lnew (ys:=[.str z]) (its:=[.str z t]) (t':=s.toks) (.cons ⟨_,rfl⟩ .nil) (show 1<=sizeLine by decide),rfl,b⟩
 have G:=fact_split z y;by_cases a:(decide (z.length<y.length)||decide (i6 z<i6 y))=true
 ·have e:Txt.split z y=[z]:=by unfold Txt.split;rw[if_pos a]
  have r:Meets (Builtin.«str.split» {pos:=[.str z t,.str y t']}) (listOfItself z t):=by
   intro p w A R E C;obtain⟨M,n⟩:=split_sep_tree z y t t';rw[n,if_pos a];refine cr (iQ ?_);refine cr (i9 ?_);exact cv C
  exact gX lj j kF (km _ _) r (f e)
 ·have d:(decide (z.length<y.length)||decide (i6 z<i6 y))=false:=by simpa using a
  by_cases c:(jl z y 0 z.length (z.length+1)).isEmpty=true
  ·have e:Txt.split z y=[z]:=by unfold Txt.split;rw[if_neg a,if_pos c]
   exact gX lj j kF (km _ _) (meets_str_split_not_found z y t t' d g c) (f e)
  ·have e:Txt.split z y=kS z (jl z y 0 z.length (z.length+1)) y.length:=by unfold Txt.split;rw[if_neg a,if_neg c]
   have l:(kS z (jl z y 0 z.length (z.length+1)) y.length).length<=sizeLine:=by rw[<-e];omega
   refine gX lj j kF (km _ _) (meets_str_split_sep z y t t' d g (by simpa using c) (by omega) l) ?_;have b:=q _ (I.hok.fresh (cI _));rw[e]at b;exact⟨.ref s.heap.objs.size,_,I.lnew (xE _ _) (by rw[cx];exact l),rfl,b⟩
end
def Ln(a b:Str):Prop:=a.cps.toList<=b.cps.toList
theorem xp:∀(x y:List Nat),ltCps x y=true↔x<y
 | [],[]=>by unfold ltCps;simp
 | [],_::_=>by unfold ltCps;simp
 | _::_,[]=>by unfold ltCps;simp
 | a::r,b::t=>by
  unfold ltCps
  rw[gL,<-xp r t]
  simp
theorem BC{a b:Str}:ltCps b.cps.toList a.cps.toList=false↔Ln a b:=by
 unfold Ln;rw[<-List.not_lt,<-Bool.not_eq_true];exact not_congr (xp _ _)
theorem wC{a b:Str}(h:a.cps.toList=b.cps.toList):a=b:=by
 cases a;cases b;exact congrArg Str.mk (Array.toList_inj.mp h)
theorem vV:∀{l:List Str} {x:Str},risingS x l=true->(x::l).Pairwise Ln
 | [],_,_=>List.pairwise_singleton _ _
 | y::l,x,h=>by
  rw[risingS.eq_2,dn]at h
  have b:=vV h.2
  have h1:Ln x y:=BC.mp (by simpa using h.1)
  refine fq.mpr ⟨λz a=>?_,b⟩
  rcases cZ.mp a with rfl|a
  ·exact h1
  ·exact List.le_trans h1 ((fq.mp b).1 z a)
theorem wm{l:List Str}(h:sortedS l=true):l.Pairwise Ln:=by
 cases l with
 | nil=>exact .nil
 | cons x l=>exact vV h
theorem xo{a b:List Str}(ha:sortedS a=true)(hb:sortedS b=true)(h:a.Perm b):a=b:=
 kM (λ_ _ _ _ h1 h2=>wC (List.le_antisymm h1 h2)) (wm ha) (wm hb) h
section
variable{X:Cx}
theorem yk{prog:cT}{w:dc}{A:dw}{E:cA->cD->Prop}{s:cD}{l:cG}{vs:List cA}{ss:List Str}{Q:cA->cD->Prop}(ht:IsTup s.heap l vs.toArray)(hI:StrsAre vs ss)(h64:vs.length<64)
  (h:∀(out:Array cA) (ss':List Str),StrsAre out.toList ss'->ss'.Perm ss->sortedS ss'=true->Q (.ref (s.heap.objs.size+1)) {s with heap:=sortedAll s.heap vs out}):
  wpAny (model prog w) A (call (.builtin "sorted") [.ref l]) Q E s:=by
 have a:((s.heap.push (seqObj "list" #[] 0)).update s.heap.objs.size (d2 (· ++ vs.toArray))).objs.size=s.heap.objs.size+1:=by rw[nX,lw]
 have b:(((s.heap.push (seqObj "list" #[] 0)).update s.heap.objs.size (d2 (· ++ vs.toArray))).push (seqObj "list" vs.toArray 0)).get? (s.heap.objs.size+1)=some (seqObj "list" vs.toArray 0):=by
  rw[<-a];exact cN _ rfl
 refine gN oo nA nB (nC _) ?_
 unfold Builtin.«sorted»
 refine cr (m:=checkCount "sorted" 1 1 _) (cv ?_)
 have k:vs.length<=sizeLine:=dB (D8 (by omega))
 refine cr (vv ht k (cr (i9 ?_)))
 change wpAny _ _ _ _ _ {s with heap:=((s.heap.push (seqObj "list" #[] 0)).update s.heap.objs.size (d2 (· ++ vs.toArray))).push (seqObj "list" vs.toArray 0)}
 rw[a]
 refine cr (dG (dR l5 ⟨_,b,rfl⟩ lI (list_sort_treeK strKind_oneLt b (StrsAre.keysOf hI) (λn d rest e=>keyKind_strs (by rw[<-e];exact hI)) h64 λo hp g=>⟨_,rfl,?_⟩) (l8 _)))
 obtain⟨ss',j,c,f⟩:=sorted_out_str hI hp g
 exact cv ⟨_,rfl,h _ ss' j c f⟩
theorem uO:EJ X (.builtin "sorted") (λxs H Q=>∃(p:cG) (ss:List Str),xs=[.ref p]/\(SqL X.K H p (ss.map V.str)\/SqT X.K H p (ss.map V.str))/\ss.length<64/\∀(l:cG) (ss':List Str),H l=none->ss'.Perm ss->sortedS ss'=true->Q (.ref l) (upd H l (.lst (ss'.map V.str)))):=by
 intro j s y H xs C Q I r h;obtain⟨p,ss,rfl,f,B,q⟩:=h;obtain⟨u,rfl,v⟩:=EX r
 cases(show u=cR p from v);have fin:∀(a:List cA),Vals (ss.map V.str) a->∀(d:Array cA) (ss':List Str),StrsAre d.toList ss'->ss'.Perm ss->sortedS ss'=true->EP X j y Q (.ref (s.heap.objs.size+1)) {s with heap:=sortedAll s.heap a d}:=λa c d ss' z m x=>by
  obtain⟨e,n⟩:=qg s.heap a d;refine⟨.ref (s.heap.objs.size+1),_,I.laid (t':=s.toks) (λb o t=>pN t) (ec _) (show ObjOk X.prog X.w _ _ _ (.lst (ss'.map V.str))from⟨?_,d.toList,e,xx z,by rw[n]⟩),rfl,q _ ss' (I.hok.fresh (ec _)) m x⟩;rw[cx,m.length_eq];exact dB (D8 (by omega))
 rcases f with f|f
 ·obtain⟨a,c,g,A⟩:=I.list f;have k:=c.length;rw[cx]at k;exact sorted_strs g.isList (uc c) (by omega) (fin a c)
 ·obtain⟨a,c,g,A⟩:=I.tuple f;have k:=c.length;rw[cx]at k;exact yk g (uc c) (by omega) (fin a c)
end
def Mf(z:Str):It:=⟨λi _=>i<z.cps.size,λi H x H'=>H'=H/\∃c,z.cps[i]?=some c/\x = .str ⟨#[c]⟩,λi _=>z.cps.size<=i⟩
theorem Ce{P:cT}{w:dc}{K:cu}{tg:Expr}(it:cG)(z:Str)(t:Tok):Iz P w K tg (Mf z) [it] it (λi h=>h.IsStrIter it "str_ascii_iterator" z t i) where
 mem:=by simp
 obj:=λi h st b a=>by
  have e:b=it:=by simpa using a
  subst e
  obtain⟨o,e,c,d⟩:=st
  exact⟨o,e,λv z=>by rw[d]at z;cases z⟩
 keep:=λi h j st k=>by
  obtain⟨o,e,c,d⟩:=st
  exact⟨o,k it (by simp) o e,c,d⟩
 item:=by
  intro X r y p D i f s C H E I l st x
  subst r y p
  have g:i<z.cps.size:=x
  obtain⟨q,n,F,u,B,A⟩:=l it (by simp)
  refine wpAny_pyNext_ascii_item st (c:=z.cps[i]) (ff g) λj m J=>?_
  have L:Inv X f C H {s with heap:=j,toks:=s.toks+1}:=I.turned (λb o a e=>(J.2 b a).trans e) q n u B A
  obtain⟨o,e,c,d⟩:=id m
  exact⟨_,rfl,BT (s:={s with heap:=j,toks:=s.toks+1}) e c d (by decide) ⟨.str ⟨#[z.cps[i]]⟩,H,L,⟨_,rfl⟩,⟨rfl,_,ff g,rfl⟩,m,λb a=>(l b a).1⟩⟩
 done:=by
  intro X r y p D i f s C H E I l st x
  subst r y p
  have g:z.cps.size<=i:=x
  obtain⟨q,n,F,u,B,A⟩:=l it (by simp)
  exact wpAny_pyNext_ascii_end (I.ok.hd D) st (gA g) λj G=>⟨rfl,I.turned (t':=s.toks) (λb o a e=>G b o a e) q n u B A⟩
 self:=λ_ _ _ _ _ st h=>wpAny_pyIter_striter_ascii st h
theorem Ds{X:Cx}{tg l:Expr}{tl:TE}(hl:PE X l tl):PI X tg l (λσ H R=>tl σ H λx H1=>∃z:Str,x = .str z/\(∀c∈z.cps.toList,c<128)/\R (Mf z) H1):=by
 intro d s σ H R I h;refine Ei (hl d s σ H _ I h) λv a ⟨x,H1,f,m,j⟩=>?_
 obtain⟨z,e,g,q⟩:=j;subst e;obtain⟨t,rfl⟩:=m;refine wpAny_pyIter_ascii (by rw[Array.all_eq_true'];exact λc n=>decide_eq_true (g c (by simpa using n))) ?_;refine⟨a.heap.objs.size,[a.heap.objs.size],_,_,H1,rfl,f.kept (t':=a.toks) λb o e=>cF _ e,Ce _ z t,⟨_,cN _ rfl,rfl,rfl⟩,λb k=>?_,q⟩;have e:b=a.heap.objs.size:=by simpa using k
 subst e;exact f.fpOk (cI _) (f.hok.fresh (cI _))
theorem Ac{z:Str}{caps:List (Option Nat)}{g:TG}{te:TE}{σ:St}{QQ:List V->Hp->Prop}{H:Hp}(Pv:Nat->List V->Hp->Prop)(h0:Pv 0 [] H)
  (hs:∀i c ys H,z.cps[i]?=some c->Pv i ys H->g (.str ⟨#[c]⟩) (EZ caps σ) H λσ2 H2=>te σ2 H2 λy H4=>ys.length<sizeLine/\Pv (i+1) (ys++[y]) H4)
  (hd:∀ys H,Pv z.cps.size ys H->QQ ys H):EB caps g FT te σ QQ (Mf z) H:=by
 refine⟨λi m ys H=>m=z.cps.size-i/\i<=z.cps.size/\Pv i ys H,⟨z.cps.size,by simp,du _,h0⟩,?_⟩
 rintro i m ys H ⟨rfl,j,p⟩
 by_cases a:i<z.cps.size
 ·refine .inr ⟨a,Pv (i+1),λh f d=>⟨z.cps.size-(i+1),by omega,rfl,a,d⟩,λx f y=>?_⟩
  obtain⟨e,c,b,rfl⟩:=y
  subst e
  simp only[tH]
  exact hs i c ys _ b p
 ·have e:i=z.cps.size:=by omega
  subst e
  exact .inl ⟨cI _,hd ys H p⟩
def E9(ws:List Str):Nat->Nat
 | 0=>0
 | i+1=>if ws.getD i ea∈ws.take i then E9 ws i else E9 ws i+1
theorem x6(ws:List Str):∀i,E9 ws i<=i
 | 0=>cI _
 | i+1=>by
  have:=x6 ws i
  unfold E9
  split <;> omega
theorem v9{ws:List Str}(h:ws.Nodup):∀i,i<=ws.length->E9 ws i=i
 | 0,_=>rfl
 | i+1,hi=>by
  have b:=v9 h i (by omega)
  unfold E9
  rw[if_neg,b]
  intro z
  obtain⟨j,a,e⟩:=eK.mp z
  rw[cV]at a
  rw[List.getElem_take,HM.getD_lt (show i<ws.length by omega)]at e
  have:=(nL (j:=i) (show j<ws.length by omega) h).mp (by rw[cz (show j<ws.length by omega),e];exact(cz _).symm)
  omega
theorem zN{ws:List Str}:∀{i:Nat},i<=ws.length->¬(ws.take i).Nodup->E9 ws i<i
 | 0,_,h=>absurd (by simp) h
 | i+1,hi,h=>by
  have d:i<ws.length:=by omega
  have e:ws.take (i+1)=ws.take i++[ws.getD i ea]:=by rw[cY,cz d,HM.getD_lt d];rfl
  have h1:=x6 ws i
  unfold E9
  split
  ·omega
  ·next c=>
   have:=zN (ws:=ws) (i:=i) (by omega) λz=>h (by
    rw[e]
    refine gt.mpr ⟨z,by simp,λa f b g=>?_⟩
    rw[cK.mp g]
    exact λq=>c (q▸f))
   omega
theorem Bg{prog:cT}{w:dc}{A:dw}{R:Result->cD->Prop}{I:cG}{fp wr:List cG}{G:Array GenState->Array GenState->Prop}{n:Nat}{P:Nat->cA->Prop}{St:Nat->cD->Prop}
  (W:WalksS prog w A.in1 I fp wr G n P St)(S:cG)(hS:S∉fp)(ws:List Str)(hw:ws.length=n)(hv:∀i v,P i v->∃t,v=iu (ws.getD i ea) t)(hn:n+1<scanBound):
  ∀(k i:Nat) (s:cD),n-i=k->i<=n->St i s->lD (strKind prog w) s.heap S (λx=>decide (x∈ws.take i)) (E9 ws i)->
   (∀s',Moved (S::wr) G s s'->lD (strKind prog w) s'.heap S (λx=>decide (x∈ws.take n)) (E9 ws n)->R (.ok (.ret .none)) s')->
   codeAny (model prog w) A (.builtin "set.update.loop" ⟨[.ref S,.ref I],[]⟩) R s:=by
 have u:S∉wr:=λz=>hS (W.sub S z)
 intro k
 induction k with
 | zero=>
  intro i s hk K f d h
  have e:i=n:=by omega
  subst e
  refine eX hV ?_
  rw[fW fX _]
  unfold Builtin.«set.update.loop»
  refine cr (W.done s _ _ f λs' m=>?_)
  obtain⟨o,y,C,t,b,r⟩:=d
  exact cv (h s' ⟨λc o a=>m.heap c o λz=>a (cO _ z),m.gens,m.drawn,m.os,m.toks⟩ ⟨o,y,C,t,m.heap S o u b,r⟩)
 | succ k N=>
  intro i s hk K f d h
  refine eX hV ?_
  rw[fW fX _]
  unfold Builtin.«set.update.loop»
  refine cr (W.item i s _ _ (by omega) f λv s' L B m=>?_)
  have l:lD (strKind prog w) s'.heap S (λx=>decide (x∈ws.take i)) (E9 ws i):=by
   obtain⟨o,y,C,t,b,r⟩:=d
   exact⟨o,y,C,t,m.heap S o u b,r⟩
  obtain⟨t,rfl⟩:=hv i v L
  have p:i<ws.length:=by omega
  have et:ws.take (i+1)=ws.take i++[ws.getD i ea]:=by rw[cY,cz p,HM.getD_lt p];rfl
  dsimp only
  refine cr (dG ?_)
  unfold setAdd
  refine dG (cr (nO ?_))
  have a:=x6 ws i
  refine wpAny_setAddHashed_of (knd:=strKind prog w) (k:=ws.getD i ea) (show(ws.getD i ea==ws.getD i ea)=true from beq_self_eq_true _) rfl l (by omega) λJ H q=>?_
  have O:(λD=>decide (D∈ws.take i)||decide (D=ws.getD i ea))=λx=>decide (x∈ws.take (i+1)):=by
   funext x
   rw[et]
   simp[dJ,Bool.decide_or]
  have M:(if decide (ws.getD i ea∈ws.take i)=true then E9 ws i else E9 ws i+1)=E9 ws (i+1):=by
   conv=>rhs;unfold E9
   simp
  rw[O,M]at q
  refine cv ⟨jJ fX _,N (i+1) _ (by omega) (by omega) (W.frame (i+1) s' J (s'.toks+1) B (gE _ _) λc a o b=>by rw[H.2 c λz=>hS (z▸a)];exact b) q λE g j=>h E ?_ j⟩
  refine⟨λc o a b=>g.heap c o a ?_,W.gtrans _ _ _ m.gens g.gens,g.drawn.trans m.drawn,g.os.trans m.os,dg m.toks (dg (gE _ _) g.toks)⟩
  show J.get? c=some o
  rw[H.2 c λz=>a (by rw[z];exact cM)]
  exact m.heap c o (λz=>a (cO _ z)) b
theorem vR{prog:cT}{w:dc}{A:dw}{E:cA->cD->Prop}{s:cD}{l:cG}{items:Array cA}{Q:cA->cD->Prop}(hh:A.handled=none)(hl:s.heap.IsList l items)(ws:List Str)(hw:StrsAre items.toList ws)(hn:items.size<=60)
  (h:∀(h':Heap) (tk:Nat),lD (pW prog w) h' s.heap.objs.size (λx=>decide (x∈ws.take ws.length)) (E9 ws ws.length)->(∀b o,s.heap.get? b=some o->h'.get? b=some o)->Q (.ref s.heap.objs.size) {s with heap:=h',toks:=tk}):
  wpAny (model prog w) A (call (.type "set") [.ref l]) Q E s:=by
 obtain⟨c,tl,G⟩:=fk.mro
 have j:=fk.made
 have H:=fk.sub
 have p:ws.length=items.size:=by
  have:∀{vs:List cA} {ss:List Str},StrsAre vs ss->ss.length=vs.length:=λh=>by
   induction h with
   | nil=>rfl
   | cons _ _ _ C=>simp[C]
  simpa using this hw
 have J:∀{vs:List cA} {ss:List Str},StrsAre vs ss->∀(i:Nat) (v:cA),vs[i]?=some v->∃t,v=iu (ss.getD i ea) t:=λh=>by
  induction h with
  | nil=>intro i v g;simp at g
  | cons y t _ C=>
   intro i v g
   cases i with
   | zero=>exact⟨t,by simpa using g.symm⟩
   | succ i=>
    obtain⟨u,e⟩:=C i v (by simpa using g)
    exact⟨u,by simpa using e⟩
 refine iI (lK (cv ⟨ig _ (by decide +kernel),eX nH ?_⟩))
 rw[mT (lR "set" [.ref l] []) rfl]
 have h1:=fk.notType
 have h2:=fk.canCreate
 have M:=nZ (.ref l)
 unfold Builtin.«type.__call__»
 refine cP (by rw[h1];rfl) (cP (by rw[h2];rfl) (cr (fM M (cr (fM G (cP rfl (cr (fM j (cr (cv ?_))))))))))
 refine cr (dG (iI (iW (Ah (E:=E) (.ref l) (Q₁:=λv V=>v = .ref s.heap.objs.size/\V=_) ⟨rfl,rfl⟩) λr B D=>?_)))
 cases r with
 | error e=>exact D
 | ok fl=>
  cases fl with
  | ret v=>
   obtain⟨rfl,rfl⟩:=(show v=_/\B=_ from D)
   have a:(s.heap.push {cls:=dL "set",data:=Data.set #[] 0 (fO 0 0 (Eg w))}).get? s.heap.objs.size=some {cls:=dL "set",data:=Data.set #[] 0 (fO 0 0 (Eg w))}:=cN _ rfl
   refine cr (eF (T:="set") ⟨_,a,rfl⟩ H (cP rfl (cr (dG ?_))))
   unfold callSpecial?
   refine cr (gd (T:="set") ⟨_,a,rfl⟩ fk.init.lookup ?_)
   refine dG (cr (fM (fk.init.bind _) (cr (iI (l9 fk.init.plain n5 (n7 ⟨_,a,rfl⟩ ?_))))))
   unfold Builtin.«set.__init__»
   refine cr (cv ?_)
   dsimp only[n8,oy]
   unfold typeNameOfCut
   unfold shownTypeOf
   refine cr (cr ?_)
   refine cr (ii (T:="set") ⟨_,a,rfl⟩ (cP rfl (cv (cv (cr (cv (cr (cv ?_))))))))
   unfold setUsed
   refine cr (cr (dU a rfl (by cases Eg w <;> rfl) (cv (cP rfl ?_))))
   have f:=hl.push {cls:=dL "set",data:=Data.set #[] 0 (fO 0 0 (Eg w))}
   have I:kN {s with heap:=s.heap.push {cls:=dL "set",data:=Data.set #[] 0 (fO 0 0 (Eg w))}} (.ref l) "list":=by
    obtain⟨o,h1,h2,_⟩:=f
    exact⟨o,h1,h2⟩
   unfold jU kg orM
   refine cr (cr (cr (eF I oW (eF I ma ?_))))
   refine cP rfl (cr (ii I (cP rfl (cr (iB f ?_)))))
   refine cr (kd ?_)
   have n:s.heap.get? s.heap.objs.size=none:=by
    cases e:s.heap.get? s.heap.objs.size with
    | none=>rfl
    | some o=>exact absurd (cQ e) (dt _)
   have K:l≠s.heap.objs.size:=λz=>by
    obtain⟨o,h1,_⟩:=hl
    rw[z,n]at h1;cases h1
   have q:(s.heap.push {cls:=dL "set",data:=Data.set #[] 0 (fO 0 0 (Eg w))}).objs.size=s.heap.objs.size+1:=lw ..
   have L:l≠s.heap.objs.size+1:=λz=>by
    obtain⟨o,h1,_⟩:=hl
    rw[z]at h1
    exact absurd (gU (cQ h1)) (dt _)
   dsimp only
   rw[q]
   refine Bg (ri (oP (A:=A.in1.in1.in1) hh (s.heap.objs.size+1) l L items)) s.heap.objs.size (λz=>?_) ws p (λi v P=>?_) (by show items.size+1<4096;omega) items.size 0 _ rfl (du _) ?_ ?_ (λX m N=>?_)
   ·rcases cZ.mp z with z|z
    ·exact absurd z (df (dH _))
    ·exact K (cK.mp z).symm
   ·exact J hw i v (by simpa using P)
   ·exact⟨⟨_,(by rw[<-q];exact cN _ rfl),rfl,rfl⟩,(f.push _)⟩
   ·refine⟨_,#[],0,_,cF _ a,⟨rfl,rfl,rfl⟩,rfl,?_,λk=>?_,by decide,by cases Eg w <;> rfl,rfl⟩
    ·exact λe R=>(nomatch (show e∈([]:List (Int×cA))from R))
    ·simp
   ·refine cv (cv (cv (cP rfl (cv ?_))))
    obtain⟨h',g',U,W,Y⟩:=X
    have Z:g'=s.gens:=m.gens
    have S:U=s.drawn:=m.drawn
    have O:Y=s.os:=m.os
    subst Z S O
    rw[<-p]at N
    refine h h' W N λb o d=>m.heap b o (λz=>?_) (cF _ (cF _ d))
    rcases cZ.mp z with z|z
    ·rw[z,n]at d;cases d
    ·rw[cK.mp z]at d
     exact absurd (gU (cQ d)) (dt _)
  | _=>exact D.elim
theorem BB{prog:cT}{w:dc}{A:dw}{E:cA->cD->Prop}{s:cD}{a:cG}{S:Str->Bool}{n:Nat}{Q:cA->cD->Prop}(hS:lD (pW prog w) s.heap a S n)(h:Q (.int n (s.toks+1)) {s with toks:=s.toks+1+1}):
  wpAny (model prog w) A (call (.builtin "len") [.ref a]) Q E s:=by
 obtain⟨o,k,l,t,d,f,j,_,_,g,b,c⟩:=hS
 have p:n<4096:=by rw[<-c];exact g
 have e:s.TypeIs (.ref a) "set":=⟨o,d,f.1⟩
 refine gN kind_len plain_len entry_len (args_len1 _) ?_
 unfold Builtin.«len»
 refine cr (m:=oneArg "len" _) (cv ?_)
 refine cr (m:=callSpecial? (.ref a) (fK "__len__")) (ef (name:=fK "__len__") e mh (dR mh e wF ?_ (PySem.F.args_set_len_1 _)))
 unfold Builtin.«frozenset.__len__» kO setEntries
 refine cr (cv ?_)
 refine cr (cr (cr (dU d j b (cv (cv ?_)))))
 refine cr (wpAny_mkInt (cv ⟨_,rfl,?_⟩))
 refine cr (dG (cv ?_))
 refine cr (kD ?_)
 rw[c]
 show wpAny _ _ (if((n:Nat):Int)<0 then _ else _) _ _ _
 rw[if_neg (by omega)]
 show wpAny _ _ (if((n:Nat):Int)>=2^63 then _ else _) _ _ _
 rw[if_neg (by omega)]
 exact cr (wpAny_mkInt (cv ⟨_,rfl,h⟩))
def JF(K:cu)(te:TE):TE:=λσ H Q=>te σ H λx H1=>∃(l:cG) (ws:List Str),x = .ref l/\SqL K H1 l (ws.map V.str)/\ws.length<=60/\Q (.int (E9 ws ws.length:Nat)) H1
theorem zi{X:Cx}{e:Expr}{te:TE}{p p2 pos pos2:Pos}(hc:X.calm=true)(h1:Gl X "len")(m1:X.mg "len"=none)(h2:Gl X "set")(m2:X.mg "set"=none)(ha:PE X e te)
  (he:dh [e] X.env=(false,eval e X.env)::dh [] X.env:=by rfl):PE X (.Call (.Name "len" p) [.Call (.Name "set" p2) [e] [] pos2] [] pos) (JF X.K te):=by
 intro b s r H Q I h
 refine fG (tI I h1 m1 dD ?_)
 refine g7 ?_ rfl rfl
 show wpAny _ _ (spliced ((false,eval (.Call (.Name "set" p2) [e] [] pos2) X.env)::[])) _ _ s
 refine fF ?_
 refine fG (tI I h2 m2 Boot.set ?_)
 refine d7 ?_ he rfl
 rw[he]
 show wpAny _ _ (spliced ((false,eval e X.env)::[])) _ _ s
 refine fF (Ei (ha b s r H _ I h) λu n ⟨x,j,c,t,m⟩=>?_)
 obtain⟨l,d,rfl,o,y,q⟩:=m
 cases(show u=cR l from t)
 obtain⟨w,f,k,z⟩:=c.list o
 have g:=f.length
 rw[cx]at g
 refine cv (vR (c.ok.hd hc) k.isList d (by simpa using uc f) (by simp;omega) λv tk a hk=>cv (BB (s:={n with heap:=v,toks:=tk}) a ?_))
 exact⟨.int (E9 d d.length:Nat),j,c.kept hk,⟨_,rfl⟩,q⟩
section
variable{X:Cx}
theorem StrsAre.len:∀{vs:List cA} {ss:List Str},StrsAre vs ss->vs.length=ss.length
 | _,_,.nil=>rfl
 | _,_,.cons _ _ r=>by rw[dQ,dQ,StrsAre.len r]
theorem Bk:∀{vs:List cA} {ss:List Str} (hi:StrsAre vs ss) {i:Nat} (h:i<vs.length),∃t,vs[i]=iu (ss[i]'(by rw[<-StrsAre.len hi];exact h)) t
 | _,_,.cons n t r,0,_=>⟨t,rfl⟩
 | _,_,.cons n t r,i+1,h=>Bk r (i:=i) (by simpa using h)
theorem vQ{prog:cT}{w:dc}{A:dw}{E:cA->cD->Prop}{s:cD}{a:cG}{vs:List cA}{ns:List Str}{k:Str}{t:Tok}{Q:cA->cD->Prop}(ht:IsTup s.heap a vs.toArray)(hi:StrsAre vs ns)
  (hk:k∈ns)(h:Q (.int (ns.idxOf k:Nat) s.toks) {s with toks:=s.toks+1}):wpAny (model prog w) A (call (.builtin "tuple.index") [.ref a,.str k t]) Q E s:=by
 have u:=StrsAre.len hi
 have q:ns.idxOf k<ns.length:=gZ.mpr hk
 refine gX jc ht.typeIs kr (kl _ _) (S:=λA R s=>IsTup s.heap a vs.toArray/\R (.ok (.ret (.int (ns.idxOf k:Nat) s.toks))) {s with toks:=s.toks+1}) ?_ ⟨ht,h⟩
 intro prog w A R s ⟨ht,h⟩
 show wpAny _ _ _ _ _ _
 unfold Builtin.«tuple.index»
 simp only[iU]
 wp_walk using pV ht
 have p:([:min vs.toArray.size vs.toArray.size]:oi).size=vs.length:=by simp[lW]
 rw[p]
 refine ld (M:=model prog w) (A:=A.in1) _ (λl b g=>b=((none:Option PySem.Fin),())/\g=s/\∃i,l=kC i (vs.length-i)/\i<=ns.idxOf k) _ (λx rest b g n=>?_) (λb g n=>?_) _ _ ⟨rfl,rfl,0,rfl,du _⟩
 ·obtain⟨rfl,rfl,i,e,d⟩:=n
  have f:i<vs.length:=by omega
  rw[show vs.length-i=(vs.length-(i+1))+1 by omega,la]at e
  injection e with m hrest
  subst m
  obtain⟨o,r⟩:∃o,vs[x]=iu (ns[x]'(by omega)) o:=Bk hi f
  have j:vs.toArray[x]?=some (iu (ns[x]'(by omega)) o):=by simp[f,r]
  rw[j]
  refine cr (nQ ?_)
  by_cases c:ns[x]'(by omega)=k
  ·have m:ns.idxOf k=x:=by
    have h1:ns.idxOf k<=x:=by
     refine kZ λz=>?_
     exact absurd c (by simpa using lC z)
    omega
   rw[decide_eq_true c,if_pos rfl]
   wp_walk
   rw[m]at h
   exact h
  ·rw[decide_eq_false c,if_neg (by decide)]
   refine cv ⟨rfl,rfl,x+1,hrest,?_⟩
   refine mY d λz=>c ?_
   have:=jg q
   simp only[<-z]at this
   exact this
 ·obtain⟨_,_,i,e,d⟩:=n
  have:=congrArg jh e
  simp at this
  omega
def Ll(K:cu)(to te:TE):TE:=λσ H Q=>to σ H λx H1=>∃(l:cG) (o:Obj) (xs:List V),x = .ref l/\H1 l=some (.frz o (.tup xs))/\o.dict=none/\te σ H1 λy H2=>∃(ns:List Str) (k:Str),y = .str k/\SqT K H2 l (ns.map V.str)/\k∈ns/\Q (.int (ns.idxOf k:Nat)) H2
theorem As{K:cu}{o e:Expr}{apos cpos:Pos}{to te:TE}(hK:X.K=K)(ho:PE X o to)(he:PE X e te)(hbase:attributeBase o "index" X.env (eval o X.env)=eval o X.env:=by rfl)
  (hfew:((backTo cpos (dh [e] X.env)).all (λx=>!x.1)&&(backToKw cpos (keywordEach [] X.env)).all (λx=>x.1.isSome)&&decide (([e]:List Expr).length+([]:List Keyword).length+(if([]:List Keyword).isEmpty then 0 else 1)<30))=true:=by rfl)
  (hline:(apos.endLine==cpos.line)=true:=by rfl)(htrees:backTo cpos (dh [e] X.env)=[(false,eval e X.env)]:=by rfl):PE X (.Call (.Attribute o "index" apos) [e] [] cpos) (Ll K to te):=by
 subst hK
 intro a s m H Q I h
 refine nM hbase hfew hline PySem.F.plainAttrs_tuple jc PySem.F.type_tuple_index (Ei (ho a s m H _ I h) λu f ⟨x,c,n,t,l,g,C,M,J,G,q⟩=>?_)
 subst M
 obtain rfl:u=cR l:=t
 obtain⟨g1,T,O,r,p⟩:=(show ObjOk X.prog X.w c f.heap l (.frz g (.tup C))from n.hok l _ J)
 refine⟨p.typeIs,λb z=>?_,?_⟩
 ·cases z
  exact⟨g,g1,G⟩
 rw[htrees]
 refine gz rfl (iJ (fF (Ei (he a f m c _ n q) λR P ⟨y,L,j,v,S,k,A,E,hk,B⟩=>kA ?_)))
 subst A
 obtain⟨tk,rfl⟩:=v
 obtain⟨N,D,d,_⟩:=j.tuple E
 exact vQ d (uc D) hk ⟨.int _,L,j.tok _,⟨_,rfl⟩,B⟩
end
def wK(R:List (Str×V)):List (F7×V):=R.map λp=>(Sum.inr p.1,p.2)
def Ek(R:List (Str×V))(x:Str):Option V:=(R.find? λp=>decide (p.1=x)).map (·.2)
def G5(R:List (Str×V))(x:Str)(v:V):List (Str×V):=if R.any (λp=>decide (p.1=x))=true then R.map (λp=>if p.1=x then(p.1,v)else p)else R++[(x,v)]
theorem vg:∀{R:List (Str×V)} {vs:List (F7×cA)} (_:KV (wK R) vs) (x:Str),RelO (Ek R x) (valueAt vs (Sum.inr x))
 | [],[],_,_=>trivial
 | [],_::_,h,_=>nomatch h
 | _::_,[],h,_=>nomatch h
 | (a,v)::R,(k,u)::vs,h,x=>by
  obtain⟨h1,h2⟩:((Sum.inr a:F7)=k/\RelV v u)/\KV (wK R) vs:=by cases h with|cons p q=>exact⟨p,q⟩
  obtain⟨rfl,f⟩:=h1
  have b:=vg h2 x
  unfold Ek valueAt at b ⊢
  rw[jZ,jZ]
  by_cases c:a=x
  ·subst c
   simp
   exact f
  ·have d:decide (a=x)=false:=decide_eq_false c
   have e:decide ((Sum.inr a:F7)=Sum.inr x)=false:=decide_eq_false λz=>c (Sum.inr.inj z)
   simp only[d,e]
   exact b
theorem Am:∀{R:List (Str×V)} {vs:List (F7×cA)} (_:KV (wK R) vs) (x:Str),(vs.any λkv=>decide (kv.1=Sum.inr x))=R.any λp=>decide (p.1=x)
 | [],[],_,_=>rfl
 | [],_::_,h,_=>nomatch h
 | _::_,[],h,_=>nomatch h
 | (a,v)::R,(k,u)::vs,h,x=>by
  obtain⟨h1,h2⟩:((Sum.inr a:F7)=k/\RelV v u)/\KV (wK R) vs:=by cases h with|cons p q=>exact⟨p,q⟩
  obtain⟨rfl,_⟩:=h1
  rw[gW,gW,Am h2 x]
  congr 1
  exact decide_eq_decide.mpr ⟨λz=>Sum.inr.inj z,λz=>congrArg Sum.inr z⟩
theorem Ao{v:V}{u:cA}(hv:RelV v u)(x:Str):∀{R:List (Str×V)} {vs:List (F7×cA)} (_:KV (wK R) vs),KV (wK (R.map λp=>if p.1=x then(p.1,v)else p)) (vs.map λkv=>if kv.1=Sum.inr x then(kv.1,u)else kv)
 | [],[],_=> .nil
 | [],_::_,h=>nomatch h
 | _::_,[],h=>nomatch h
 | (a,v0)::R,(k,u0)::vs,h=>by
  obtain⟨h1,h2⟩:((Sum.inr a:F7)=k/\RelV v0 u0)/\KV (wK R) vs:=by cases h with|cons p q=>exact⟨p,q⟩
  obtain⟨rfl,h0⟩:=h1
  refine .cons ?_ (Ao hv x h2)
  by_cases c:a=x
  ·subst c
   simp
   exact hv
  ·have b:¬(Sum.inr a:F7)=Sum.inr x:=λz=>c (Sum.inr.inj z)
   simp only[if_neg c,if_neg b,true_and]
   exact h0
theorem CZ{R:List (Str×V)}{vs:List (F7×cA)}{x:Str}{v:V}{u:cA}(h:KV (wK R) vs)(hv:RelV v u):KV (wK (G5 R x v)) (stored vs (Sum.inr x) u):=by
 unfold G5 stored;rw[Am h x];split
 ·exact Ao hv x h
 ·unfold wK;rw[cS];exact Paired.app h (.cons ⟨rfl,hv⟩ .nil)
theorem yJ(R:List (Str×V))(x:Str)(v:V):(G5 R x v).length<=R.length+1:=by
 unfold G5;split
 ·rw[cx];omega
 ·rw[dq];exact cI _
theorem xJ(R:List (Str×V))(x y:Str)(v:V):Ek (G5 R x v) y=if y=x then some v else Ek R y:=by
 unfold G5;split
 ·next c=>
  induction R with
  | nil=>simp at c
  | cons p R f=>
   unfold Ek at f ⊢;rw[dN,jZ,jZ];by_cases e:p.1=x
   ·rw[if_pos e];by_cases d:y=x
    ·subst d;simp[e]
    ·have g:decide (p.1=y)=false:=decide_eq_false λz=>d (z.symm.trans e)
     simp only[g,if_neg d];by_cases a:R.any (λp=>decide (p.1=x))=true
     ·rw[f a,if_neg d]
     ·have:(R.map λp=>if p.1=x then(p.1,v)else p)=R:=by
       refine(fD λq b=>?_).trans (List.map_id R);rw[if_neg (λz=>a (iZ.mpr ⟨q,b,decide_eq_true z⟩))];rfl
      rw[this]
   ·rw[if_neg e];have a:R.any (λp=>decide (p.1=x))=true:=by
     rw[gW,decide_eq_false e,pS]at c;exact c
    by_cases d:p.1=y
    ·have:¬y=x:=λz=>e (d.trans z)
     simp only[decide_eq_true d,if_neg this]
    ·simp only[decide_eq_false d];exact f a
 ·next c=>
  unfold Ek;rw[List.find?_append];by_cases d:y=x
  ·subst d;have:R.find? (λp=>decide (p.1=y))=none:=List.find?_eq_none.mpr λq b z=>c (iZ.mpr ⟨q,b,z⟩)
   rw[this];simp
  ·rw[if_neg d]
   cases h:R.find? (λp=>decide (p.1=y))with
   | some q=>simp
   | none=>simp[Ne.symm d]
section
variable{X:Cx}
def Lg:TE:=λ_ H Q=>∀p,H p=none->Q (.ref p) (upd H p (.dK (wK [])))
theorem CQ{pos:Pos}:PE X (.Dict [] [] pos) Lg:=λb s c H Q I h=>
 oa ⟨.ref s.heap.objs.size,_,I.laid (a:=s.heap.objs.size) (o:= .dK []) (t':=s.toks) (λ_ _ q=>cF _ q) (cI _)
  (show ObjOk X.prog X.w _ _ _ (.dK [])from⟨du _,beq_eq_false_iff_ne.mpr (Ne.symm (df I.bigS)),[],.nil,rk s.heap⟩),rfl,h _ (I.hok.fresh (cI _))⟩
theorem ya(P:cT)(w:dc)(x:Str)(t:Tok):(Gz P w).is (Sum.inr x) (.str x t)=true:=show(x==x)=true from beq_self_eq_true _
def JV:R2:=λx y H Q=>∃(d:cG) (R:List (Str×V)) (z:Str),x = .str z/\y = .ref d/\H d=some (.dK (wK R))/\Q (.bl (!(Ek R z).isSome)) H
theorem Al{a:Option V}{b:Option cA}(h:RelO a b):b.isSome=a.isSome:=by
 cases a <;> cases b <;> first|rfl|cases h
theorem Bo:Fs X (compareOp .NotIn) JV:=by
 intro j s k H x y v u Q I e f h;obtain⟨d,R,z,rfl,rfl,g,q⟩:=h;obtain⟨t,rfl⟩:=e
 cases f;obtain⟨_,a,vs,b,c⟩:=(show ObjOk X.prog X.w H s.heap d (.dK (wK R))from I.hok d _ g);refine wpAny_notIn_of (ya X.prog X.w z t) a c.mapOf ?_;rw[Al (vg b z)];exact⟨.bl _,H,I.tok _,rfl,q⟩
def Mi:R2:=λx y H Q=>∃(d:cG) (R:List (Str×V)) (z:Str) (v:V),x = .ref d/\y = .str z/\H d=some (.dK (wK R))/\Ek R z=some v/\Q v H
theorem D6:IxR X Mi:=by
 intro e f n s B H x y v u Q I j k h A;obtain⟨d,R,z,r,rfl,rfl,m,p,q⟩:=h
 cases j;obtain⟨t,rfl⟩:=k;obtain⟨_,o,vs,a,b⟩:=(show ObjOk X.prog X.w H s.heap d (.dK (wK R))from I.hok d _ m);obtain⟨g,l,c⟩:=RelO.some_of (v:=r) (by rw[<-p];exact vg a z);refine jr (x:=g) b.typeIs PySem.F.slot_dict_getitem.lookup ?_ A;exact wpAny_getItem_of (ya X.prog X.w z t) b.mapOf l ⟨rfl,r,H,I.tok _,c,q⟩
def Li:V->V->V->Hp->(Hp->Prop)->Prop:=λo i v H Q=>∃(d:cG) (R:List (Str×V)) (x:Str),o = .ref d/\i = .str x/\H d=some (.dK (wK R))/\R.length<1000/\Q (upd H d (.dK (wK (G5 R x v))))
theorem D5:JT X Li:=by
 intro A s G H o i v J F u Q I m B p h;obtain⟨d,R,x,rfl,rfl,j,L,q⟩:=h
 cases m;obtain⟨t,rfl⟩:=B;obtain⟨K,g,vs,c,k⟩:=(show ObjOk X.prog X.w H s.heap d (.dK (wK R))from I.hok d _ j);have D:=Paired.len c;have E:(wK R).length=R.length:=by unfold wK;rw[cx]
 refine wpAny_setItem_pairs (hsz:=by omega) (ya X.prog X.w x t) k λy f C=>?_
 have l:∃a,y.get? d=some a:=let⟨a,_,_,r,_⟩:=f;⟨a,r⟩;refine⟨_,I.write (x:=d) (e:=d) (by rw[j];trivial) (.inl rfl) (λb a n z=>(C.2 b n).trans z) l (show ObjOk X.prog X.w _ _ _ (.dK (wK (G5 R x v)))from⟨?_,g,_,CZ c p,f⟩),q⟩;unfold wK;rw[cx];have:=yJ R x v;exact dB (D8 (by omega))
end
structure Mn(P:cT)(w:dc)(K:cu)(mg:Str->Option cA)(base:Heap)(CX:Hl)(k:Nat)(C:cG)(m:Str)(ps:List Str)(sp:Sp):Prop where
 ex:∃f fd,FnOk P w K mg base CX k f fd ps sp/\Jr K C m f/\Binds K fd ps []
def MDef(K:cu)(C:cG)(m q:Str)(st:Stmt):Prop:=∃f fd,Fun K m q st f fd/\Jr K C m f
section
variable{X:Cx}{CX:Hl}{k j:Nat}{C:cG}{m:Str}{ps:List Str}{sp:Sp}{E:XK}{pos apos p:Pos}{o e:Expr}{es:List Expr}{ta:TE}{t:TA}
theorem vI{pl:Sem Bool}(he:PE X o ta)(c:Cls X.K C)(D:Mn X.prog X.w X.K X.mg X.base CX k C m ps sp)(hr:Room j X.A)(hk:k<=j)(hx:EC CX X E)(ha:PA X (e::es) t)
  (hst:dh (e::es) X.env=(false,eval e X.env)::dh es X.env:=by rfl)(hpl:(backTo pos (dh es X.env)).any (·.1)=false:=by rfl)
  (ht:eval (.Call (.Attribute o m apos) (e::es) [] pos) X.env=(do
   let ov<-eval o X.env
   standAt apos.atName
   let(f,first)<-holding [ov] (getMethod ov m pl)
   callWith pos f first (backTo pos (dh (e::es) X.env)) (backToKw pos (keywordEach [] X.env))):=by rfl):
  PE X (.Call (.Attribute o m apos) (e::es) [] pos) (Ib C m sp [] E ta t):=by
 obtain⟨f,d,F,a,b⟩:=D.ex
 exact C8 (pl:=pl) he c a F (hr.mono hk) b .nil hx ha hst hpl ht
theorem Df{pl:Sem Bool}(he:PE X o ta)(c:Cls X.K C)(D:Mn X.prog X.w X.K X.mg X.base CX k C m ps sp)(hr:Room j X.A)(hk:k<=j)(hx:EC CX X E)
  (ht:eval (.Call (.Attribute o m apos) [] [] pos) X.env=(do
   let ov<-eval o X.env
   standAt apos.atName
   let(f,first)<-holding [ov] (getMethod ov m pl)
   callWith pos f first (backTo pos (dh [] X.env)) (backToKw pos (keywordEach [] X.env))):=by rfl):
  PE X (.Call (.Attribute o m apos) [] [] pos) (Ib C m sp [] E ta Ks):=by
 obtain⟨f,d,F,a,b⟩:=D.ex
 exact BA (pl:=pl) he c a F (hr.mono hk) b .nil hx ht
theorem DT{pl:Sem Bool}(he:PE X.nox o ta)(c:Cls X.K C)(D:Mn X.prog X.w X.K X.mg X.base (FJ X.prog X.w) k C m ps sp)(hr:Room j X.A)(hk:k<=j)(ha:PA X.nox (e::es) t)
  (hst:dh (e::es) X.env=(false,eval e X.env)::dh es X.env:=by rfl)(hpl:(backTo pos (dh es X.env)).any (·.1)=false:=by rfl)
  (ht:eval (.Call (.Attribute o m apos) (e::es) [] pos) X.env=(do
   let ov<-eval o X.env
   standAt apos.atName
   let(f,first)<-holding [ov] (getMethod ov m pl)
   callWith pos f first (backTo pos (dh (e::es) X.env)) (backToKw pos (keywordEach [] X.env))):=by rfl):
  MB X (.Call (.Attribute o m apos) (e::es) [] pos) (λE=>Ib C m sp [] E ta t):=by
 intro g s L H Q E xe I Z h
 obtain⟨f,fd,F,M,Y⟩:=D.ex
 refine iy (pl:=pl) (gh (he g s L H _ (I.wish _) h) (λu T h1=>?_) λ_ _ z=>fh z) ht
 obtain⟨x,O,N,S,a,dx,fs,V,P,l,q⟩:=h1
 have J:=N.unwish
 subst V
 obtain rfl:u=cR a:=S
 refine t6 J P c M l ?_
 refine je (first:=[.ref a]) (h₀:=X.base) I.ok.mod.kin M.kp (gh (ha pos g T L O _ N q) (λn v h2=>?_) λ_ _ z=>fh z) hst hpl
 obtain⟨vs,y,b,r,G⟩:=h2
 have b:=b.unwish
 refine⟨b.kIn,?_⟩
 have B:sp (.ref a::vs) y Q E:=by rw[fT]at G;exact G
 have R:(cR a::n).length=ps.length:=by
  have:=F.len _ _ _ _ B
  rw[dQ]at this ⊢
  rw[<-r.length]
  exact this
 have p:=Y v (.ref a::n) b.kIn (by rw[fT];exact R)
 rw[fT]at p
 refine iI (iW (F.run X.A X.stack v y ⟨.ref a::n,[]⟩ (.ref a::n) (.ref a::vs) Q E (hr.mono hk) b.env0 p (.cons rfl r) B) λr U d=>?_)
 cases r with
 | error e=>exact Z y v e U b d
 | ok fl=>
  cases fl with
  | ret u=>exact b.after d
  | next=>exact fh d
  | brk=>exact fh d
  | cont=>exact fh d
end
section
variable{P:cT}{w:dc}{K:cu}{mg:Str->Option cA}{base:Heap}
theorem MDef.ok{C:cG}{x q:Str}{st:Stmt}{N ps:List Str}{k:Nat}{sp:Sp}(F:MDef K C x q st)(S:Ea N ps (D7 st))(len:∀vs H Q E,sp vs H Q E->vs.length=ps.length)
  (hb:∀(kV doc pm:cA) (an:Option cG) (cdv ct:cA) (us:List cA),us.length=ps.length->bindArgs (f7 x q (Ej st) (Ef st) (D7 st) .none kV doc pm an cdv ct) ⟨us,[]⟩=pure (ps.zip us))
  (hbody:∀(f:cG) (cdv:cA) (A:dw) (outer:List Env) (s:cD) (H:Hp) (vs:List V) (Q:VK) (E:XK),Room k (A.deeper (envOfC q (D7 st) s.heap.objs.size f cdv))->sp vs H Q E->
   ∃t,PSs (Hx Eh P w K mg base N q (D7 st) f cdv A outer s H E).nox (Ef st) t/\t {nx:=λ_ H'=>Q .non H',rt:=Q} (start N vs) H):Mn P w K mg base Eh (k+1) C x ps sp:=by
 obtain⟨f,a,F,m⟩:=F
 exact⟨f,a,F.ok S len (hbody f),m,F.binds hb⟩
theorem MDef.okE{C:cG}{x q:Str}{st:Stmt}{N ps:List Str}{k:Nat}{sp:Sp}(F:MDef K C x q st)(S:Ea N ps (D7 st))(len:∀vs H Q E,sp vs H Q E->vs.length=ps.length)
  (hb:∀(kV doc pm:cA) (an:Option cG) (cdv ct:cA) (us:List cA),us.length=ps.length->bindArgs (f7 x q (Ej st) (Ef st) (D7 st) .none kV doc pm an cdv ct) ⟨us,[]⟩=pure (ps.zip us))
  (hbody:∀(f:cG) (cdv:cA) (A:dw) (outer:List Env) (s:cD) (H:Hp) (vs:List V) (Q:VK) (E:XK),Room k (A.deeper (envOfC q (D7 st) s.heap.objs.size f cdv))->sp vs H Q E->
   ∃t,PSs (Il P w K mg base N q (D7 st) f cdv A outer s H E) (Ef st) t/\t {nx:=λ_ H'=>Q .non H',rt:=Q} (start N vs) H):Mn P w K mg base (FJ P w) (k+1) C x ps sp:=by
 obtain⟨f,j,F,m⟩:=F
 have a:=F.binds hb
 obtain⟨h,g,kV,doc,pm,an,cdv,ct,e,rfl,lk,c⟩:=F.ex
 exact⟨f,_,BS lk c S len λA outer s H vs Q E d b=>hbody f cdv A outer s H vs Q E d b,m,a⟩
end
section
variable{X:Cx}{K:cu}
theorem vb{e:Expr}{f:Str}{pos:Pos}{ta:TE}(h:X.K=K)(he:PE X e ta)(hb:attributeBase e f X.env (eval e X.env)=eval e X.env):PE X (.Attribute e f pos) (K4 K ta f):=by subst h;exact uG he hb
end
structure Bn(P:cT)(w:dc)(K:cu)(mg:Str->Option cA)(base:Heap)(CX:Hl)(k:Nat)(C:cG)(x:Str)(ps:List Str)(sp:Sp):Prop where
 ex:∃f fd,FnOk P w K mg base CX k f fd ps sp/\Mk K C f/\Binds K fd ps []/\mg x=some (.ref C)
def BDef(K:cu)(mg:Str->Option cA)(C:cG)(x q:Str)(st:Stmt):Prop:=∃f fd,Fun K "__init__" q st f fd/\Mk K C f/\mg x=some (.ref C)
section
variable{X:Cx}{CX:Hl}{k j:Nat}{C:cG}{x:Str}{ps:List Str}{sp:Sp}{E:XK}{pos p:Pos}{e:Expr}{es:List Expr}{t:TA}
theorem DH(D:Bn X.prog X.w X.K X.mg X.base CX k C x ps sp)(hr:Room j X.A)(hk:k+1<=j)(hg:Gl X x)(hx:EC CX X E)(ha:PA X (e::es) t)
  (hdb:(x==("__debug__":Str))=false:=by decide)(he:dh (e::es) X.env=(false,eval e X.env)::dh es X.env:=by rfl)(hpl:(backTo pos (dh es X.env)).any (·.1)=false:=by rfl):
  PE X (.Call (.Name x p) (e::es) [] pos) (Km C sp [] E t):=by
 obtain⟨f,a,F,M,b,m⟩:=D.ex
 exact Dl M F (hr.mono hk) hg m b .nil hx ha hdb he hpl
end
section
variable{P:cT}{w:dc}{K:cu}{mg:Str->Option cA}{base:Heap}
theorem BDef.okE{C:cG}{x q:Str}{st:Stmt}{N ps:List Str}{k:Nat}{sp:Sp}(F:BDef K mg C x q st)(S:Ea N ps (D7 st))(len:∀vs H Q E,sp vs H Q E->vs.length=ps.length)
  (hb:∀(kV doc pm:cA) (an:Option cG) (cdv ct:cA) (us:List cA),us.length=ps.length->bindArgs (f7 "__init__" q (Ej st) (Ef st) (D7 st) .none kV doc pm an cdv ct) ⟨us,[]⟩=pure (ps.zip us))
  (hbody:∀(f:cG) (cdv:cA) (A:dw) (outer:List Env) (s:cD) (H:Hp) (vs:List V) (Q:VK) (E:XK),Room k (A.deeper (envOfC q (D7 st) s.heap.objs.size f cdv))->sp vs H Q E->
   ∃t,PSs (Il P w K mg base N q (D7 st) f cdv A outer s H E) (Ef st) t/\t {nx:=λ_ H'=>Q .non H',rt:=Q} (start N vs) H):Bn P w K mg base (FJ P w) (k+1) C x ps sp:=by
 obtain⟨f,j,F,M,m⟩:=F
 have a:=F.binds hb
 obtain⟨h,g,kV,doc,pm,an,cdv,ct,e,rfl,lk,c⟩:=F.ex
 exact⟨f,_,BS lk c S len λA outer s H vs Q E d b=>hbody f cdv A outer s H vs Q E d b,M,a,m⟩
end
theorem zu:typeLookup (.type "zip") (fK "__len__")=pure none:=by kernel_rfl
theorem xZ:typeLookup (.type "zip") (fK "__length_hint__")=pure none:=by kernel_rfl
theorem wJ{prog:cT}{w:dc}{A:dw}{R:Result->cD->Prop}{z TI TO i1 i2 d:cG}{fp1 fp2:List cG}{n:Nat}{P1 P2:Nat->cA->Prop}{St1 St2:Nat->Heap->Prop}{res:cA}{J:Nat->List cG->cD->Prop}
  (D1:Draws prog w A.in1.in1 i1 fp1 n P1 St1)(D2:Draws prog w A.in1.in1 i2 fp2 n P2 St2)(ap:JZ z TI TO i1 i2 fp1 fp2)(hdz:d≠z)(hdTI:d≠TI)(hdTO:d≠TO)(hd1:d≠i1)(hd2:d≠i2)(hdf1:d∉fp1)(hdf2:d∉fp2)(hn:n<=1000)
  (hJ:∀i bs (s:cD) (h':Heap) tk x y,J i bs s->P1 i x->P2 i y->IsPair h' s.heap.objs.size x y->(∀c o,c≠z->c≠TO->c≠i1->c≠i2->c≠d->s.heap.get? c=some o->h'.get? c=some o)->J (i+1) (bs++[s.heap.objs.size]) {s with heap:=h',toks:=tk})
  (hE:∀bs (s:cD) (h':Heap),J n bs s->(∀c o,c≠z->c≠i1->s.heap.get? c=some o->h'.get? c=some o)->J n bs {s with heap:=h'}):
  ∀(k i:Nat) (s:cD) (T:cG) (bs:List cG) (c:Nat),n-i=k->i<=n->Lb s.heap z TI TO T->T≠z->T≠i1->T≠i2->(IsZip s.heap z TI TO .none\/T≠d)->IsPair s.heap TI (.ref i1) (.ref i2)->St1 i s.heap->St2 i s.heap->
   s.heap.get? d=some {cls:= .type "list",data:= .seq (bs.map cR).toArray c}->bs.length=i->J i bs s->
   (∀(s':cD) (bs':List cG) (c':Nat),J n bs' s'->s'.heap.get? d=some {cls:= .type "list",data:= .seq (bs'.map cR).toArray c'}->bs'.length=n->R (.ok (.ret res)) s')->
   codeAny (model prog w) A (Code.builtin "list.extend.loop" {pos:=[.ref d,.ref z,res],kw:=[]}) R s:=by
 intro k
 induction k with
 | zero=>
  intro i s T bs c hk hi U Y N W aa p I Z L V K hR
  have e:i=n:=by omega
  subst e
  have ht:s.TypeIs (.ref z) "zip":=by
   rcases U with⟨q,_⟩|⟨X,o,q,_⟩
   ·exact⟨_,q,rfl⟩
   ·exact⟨_,q,rfl⟩
  refine eX mr ?_
  rw[fW i7]
  unfold Builtin.«list.extend.loop»
  have M:wpAny (model prog w) A.in1 (pyNext (.ref z)) (λr s'=>r=none/\∃h',s'={s with heap:=h'}/\∀c o,c≠z->c≠i1->s.heap.get? c=some o->h'.get? c=some o) (λ_ _=>False) s:=by
   refine t7 ht ?_
   rcases U with⟨q,a,b,S⟩|q
   ·refine AU D1 ap.i1z ap.z1 q p S I λh' e g D=>⟨?_,rfl,h',rfl,g⟩
    obtain⟨o,D,G⟩:=D
    exact⟨e,o,rfl,D,G⟩
   ·refine B6 D1 ap.z1 q Y p I λh' e g D=>⟨?_,rfl,h',rfl,g⟩
    obtain⟨o,D,G⟩:=D
    exact⟨e,o,rfl,D,G⟩
  refine cr (gh M (λr s' q=>?_) (λ_ _ z=>z.elim))
  obtain⟨rfl,h',rfl,g⟩:=q
  dsimp only
  exact cv (hR _ bs c (hE bs s h' K g) (g d _ hdz hd1 L) V)
 | succ k ih=>
  intro i s T bs c hk hi U Y N W aa p I Z L V K hR
  have H:i<n:=by omega
  have ht:s.TypeIs (.ref z) "zip":=by
   rcases U with⟨q,_⟩|⟨X,o,q,_⟩
   ·exact⟨_,q,rfl⟩
   ·exact⟨_,q,rfl⟩
  have P:∀b o,s.heap.get? b=some o->b≠s.heap.objs.size:=λb o q=>df (cQ q)
  refine eX mr ?_
  rw[fW i7]
  unfold Builtin.«list.extend.loop»
  have M:wpAny (model prog w) A.in1 (pyNext (.ref z)) (λr s'=>r=some (.ref s.heap.objs.size)/\∃h' tk C x y,s'={s with heap:=h',toks:=tk}/\P1 i x/\P2 i y/\ET h' z TI TO C/\C≠z/\C≠i1/\C≠i2/\C≠d/\St1 (i+1) h'/\St2 (i+1) h'/\IsPair h' s.heap.objs.size x y/\
    ∀c o,c≠z->c≠TO->c≠i1->c≠i2->s.heap.get? c=some o->h'.get? c=some o) (λ_ _=>False) s:=by
   refine t7 ht ?_
   rcases U with⟨q,a,b,S⟩|q
   ·refine gh (yx D1 D2 ap q p S I Z H H (E:=λ_ _=>False) (Q:=λv s'=>v = .ref s.heap.objs.size/\∃h' tk x y,s'={s with heap:=h',toks:=tk}/\P1 i x/\P2 i y/\IsZip h' z TI TO (rawInt s.heap.objs.size)/\St1 (i+1) h'/\St2 (i+1) h'/\IsPair h' s.heap.objs.size x y/\∀c o,c≠z->c≠TO->c≠i1->c≠i2->s.heap.get? c=some o->h'.get? c=some o) λx y h' tk t u h ai j l f ag g=>⟨rfl,h',tk,x,y,rfl,t,u,h,j,l,f,g⟩) (λfin s' hq=>?_) (λ_ _ z=>z.elim)
    obtain⟨v,e,rfl,h',tk,x,y,rfl,t,u,h,j,l,f,g⟩:=hq
    obtain⟨o1,O⟩:=D1.live _ _ I
    obtain⟨o2,af⟩:=D2.live _ _ Z
    exact⟨_,e,rfl,h',tk,s.heap.objs.size,x,y,rfl,t,u,⟨false,_,h,f⟩,Ne.symm (P _ _ q),Ne.symm (P _ _ O),Ne.symm (P _ _ af),Ne.symm (P _ _ L),j,l,f,g⟩
   ·have ad:T≠d:=by
     rcases aa with z0|z0
     ·obtain⟨X,o,O,_⟩:=q
      have z1:=O.symm.trans z0
      have:=congrArg (λo=>o.map Obj.data) z1
      simp[rawInt]at this
     ·exact z0
    refine gh (zR D1 D2 ap q Y N W p I Z H H (E:=λ_ _=>False) (Q:=λv s'=>v = .ref s.heap.objs.size/\∃h' tk x y,s'={s with heap:=h',toks:=tk}/\P1 i x/\P2 i y/\ET h' z TI TO T/\St1 (i+1) h'/\St2 (i+1) h'/\IsPair h' s.heap.objs.size x y/\∀c o,c≠z->c≠i1->c≠i2->s.heap.get? c=some o->h'.get? c=some o) λx y h' tk t u h j l f ag g=>⟨rfl,h',tk,x,y,rfl,t,u,h,j,l,f,g⟩) (λfin s' hq=>?_) (λ_ _ z=>z.elim)
    obtain⟨v,e,rfl,h',tk,x,y,rfl,t,u,h,j,l,f,g⟩:=hq
    exact⟨_,e,rfl,h',tk,T,x,y,rfl,t,u,h,Y,N,W,ad,j,l,f,λc o c1 _ c3 c4 q=>g c o c1 c3 c4 q⟩
  refine cr (gh M (λr s' q=>?_) (λ_ _ z=>z.elim))
  obtain⟨rfl,h',tk,C,x,y,rfl,t,u,h,t1,t2,t3,t4,j,l,f,g⟩:=q
  dsimp only
  have ab:h'.get? d=some {cls:= .type "list",data:= .seq (bs.map cR).toArray c}:=g d _ hdz hdTO hd1 hd2 L
  have ae:s.heap.objs.size≠d:=Ne.symm (P _ _ L)
  refine cr (iw (s:={s with heap:=h',toks:=tk}) ab rfl ?_ (by simp;exact dB (D8 (by omega))) (by simp;have:=D8 (n:=bs.length) (by omega);omega))
  refine cv ⟨jJ i7 _,?_⟩
  have up:=g8 (show IsL h' d (bs.map cR).toArray c from ab) (λB=>B.push (.ref s.heap.objs.size))
  have m:∀b,b≠d->(h'.update d (d2 λB=>B.push (.ref s.heap.objs.size))).get? b=h'.get? b:=λb hb=>fi h' _ (Ne.symm hb)
  have ac:IsPair (h'.update d (d2 λB=>B.push (.ref s.heap.objs.size))) TI (.ref i1) (.ref i2):=(m TI (Ne.symm hdTI)).trans (g TI _ ap.TIz ap.TITO ap.TIi1 ap.TIi2 p)
  obtain⟨X,oT,O,S⟩:=h
  obtain⟨c',ah⟩:∃c',(h'.update d (d2 λB=>B.push (.ref s.heap.objs.size))).get? d=some {cls:= .type "list",data:= .seq ((bs++[s.heap.objs.size]).map cR).toArray c'}:=⟨_,up.trans (by rw[cS];simp only[List.push_toArray];rfl)⟩
  refine ih (i+1) {s with heap:=h'.update d (d2 λB=>B.push (.ref s.heap.objs.size)),toks:=tk} C (bs++[s.heap.objs.size]) c' (by omega) (by omega) (.inr ⟨X,oT,(m z (Ne.symm hdz)).trans O,(m C t4).trans S⟩) t1 t2 t3 (.inr t4) ac (D1.frame _ _ _ j λc G o q=>(m c (λe=>hdf1 (e▸G))).trans q) (D2.frame _ _ _ l λc G o q=>(m c (λe=>hdf2 (e▸G))).trans q) ?_ (by rw[dq,V];rfl) ?_ hR
  ·exact ah
  ·exact hJ i bs s _ tk x y K t u ((m _ ae).trans f) λc o c1 c2 c3 c4 c5 q=>(m c c5).trans (g c o c1 c2 c3 c4 q)
theorem wP{prog:cT}{w:dc}{A:dw}{E:cA->cD->Prop}{s:cD}{z TI TO i1 i2 l1 l2:cG}{t1 t2:Bool}{xs ys:Array cA}{Q:cA->cD->Prop}{J:Nat->List cG->cD->Prop}(hh:A.handled=none)
  (ap:ZipB z TI TO i1 i2 l1 l2)(hz:IsZip s.heap z TI TO .none)(hTI:IsPair s.heap TI (.ref i1) (.ref i2))(hTO:IsPair s.heap TO .none .none)(s1:Itx s.heap t1 i1 l1 0)(s2:Itx s.heap t2 i2 l2 0)(h1:Sqx s.heap t1 l1 xs)(h2:Sqx s.heap t2 l2 ys)(hsz:xs.size=ys.size)(hn:xs.size<=1000)
  (hJ:∀i bs (s':cD) (h':Heap) tk x y,J i bs s'->xs[i]?=some x->ys[i]?=some y->IsPair h' s'.heap.objs.size x y->(∀c o,c≠z->c≠TO->c≠i1->c≠i2->c≠s.heap.objs.size->s'.heap.get? c=some o->h'.get? c=some o)->J (i+1) (bs++[s'.heap.objs.size]) {s' with heap:=h',toks:=tk})
  (hE:∀bs (s':cD) (h':Heap),J xs.size bs s'->(∀c o,c≠z->c≠i1->s'.heap.get? c=some o->h'.get? c=some o)->J xs.size bs {s' with heap:=h'})
  (hJ0:∀(h':Heap) (tk:Nat),(∀c o,c≠s.heap.objs.size->s.heap.get? c=some o->h'.get? c=some o)->s.heap.objs.size<h'.objs.size->J 0 [] {s with heap:=h',toks:=tk})
  (hQ:∀(s':cD) (bs:List cG) (c:Nat),J xs.size bs s'->s'.heap.get? s.heap.objs.size=some {cls:= .type "list",data:= .seq (bs.map cR).toArray c}->bs.length=xs.size->Q (.ref s.heap.objs.size) s'):
  wpAny (model prog w) A (call (.type "list") [.ref z]) Q E s:=by
 refine callType_codes F.called_list (F.typeCall_list_1 _) F.entry_list_init (code_list_new (.ref z) (Q₁:=λv s1=>v = .ref s.heap.objs.size/\s1=_) ⟨rfl,rfl⟩) λM D a=>?_
 obtain⟨rfl,rfl⟩:=a
 have f:(s.heap.push {cls:=dL "list",data:=iK #[]}).get? s.heap.objs.size=some {cls:=dL "list",data:=iK #[]}:=cN _ rfl
 have d:∀b o,s.heap.get? b=some o->b≠s.heap.objs.size:=λb o q=>df (cQ q)
 have K:∀b o,s.heap.get? b=some o->(s.heap.push {cls:=dL "list",data:=iK #[]}).get? b=some o:=λb o q=>cF _ q
 refine⟨⟨_,f,rfl⟩,F.args_list_init_2 _ _,?_⟩
 unfold Builtin.«list.__init__»
 dsimp only
 refine cP rfl (cP (by simp) ?_)
 refine cr (wpAny_listItems f rfl ?_)
 refine cr (iw f rfl ?_ (by simp) (by simp))
 have l:=g8 (show IsL _ s.heap.objs.size #[] 0 from f) (λ_=> #[])
 generalize hh1:(s.heap.push {cls:=dL "list",data:=iK #[]}).update s.heap.objs.size (d2 λ_=> #[])=g1 at l
 have j:∀b o,s.heap.get? b=some o->g1.get? b=some o:=λb o q=>by rw[<-hh1];exact(fi _ _ (Ne.symm (d b o q))).trans (K b o q)
 refine cr (kD ?_)
 unfold fY
 refine cr (ii (T:="zip") ⟨_,j _ _ hz,rfl⟩ ?_)
 refine cP (by
  refine decide_eq_false ?_
  show ¬((s.heap.objs.size==z)||_||_)=true
  rw[beq_eq_false_iff_ne.mpr (Ne.symm (d _ _ hz))]
  decide) ?_
 refine cr (lc (j _ _ hz) ?_)
 refine cr (dG ?_)
 unfold iF
 refine cr (gd (T:="zip") ⟨_,j _ _ hz,rfl⟩ zu ?_)
 dsimp only
 refine cP rfl (cP rfl ?_)
 refine cr (gd (T:="zip") ⟨_,j _ _ hz,rfl⟩ xZ ?_)
 refine cv ?_
 refine iS rfl (cr (iQ ?_))
 unfold lz
 refine cr (cr (iw (s:={s with heap:=g1}) l rfl ?_ (by simp) (by simp)))
 have p:=g8 l (λx=>x.push cA.none)
 generalize hh2:g1.update s.heap.objs.size (d2 λx=>x.push cA.none)=g2 at p
 have C:∀b o,s.heap.get? b=some o->g2.get? b=some o:=λb o q=>by rw[<-hh2];exact(fi _ _ (Ne.symm (d b o q))).trans (j b o q)
 refine iw (s:={s with heap:=g2}) p rfl ?_ (by show 1<=sizeLine;decide) (by simp)
 have r:=g8 p (λx=>x.pop)
 generalize hh3:g2.update s.heap.objs.size (d2 λx=>x.pop)=g3 at r
 have g:∀b o,s.heap.get? b=some o->g3.get? b=some o:=λb o q=>by rw[<-hh3];exact(fi _ _ (Ne.symm (d b o q))).trans (C b o q)
 refine cv ⟨jJ i7 _,?_⟩
 have u:∃o,s.heap.get? i1=some o:=by obtain⟨vs,n,e|⟨o,e,_⟩⟩:=s1.get <;> exact⟨_,e⟩
 have B:∃o,s.heap.get? i2=some o:=by obtain⟨vs,n,e|⟨o,e,_⟩⟩:=s2.get <;> exact⟨_,e⟩
 obtain⟨O,t⟩:=u
 obtain⟨N,m⟩:=B
 have k:∀b,b<s.heap.objs.size->s.heap.objs.size≠b:=λb h=>Ne.symm (df h)
 have H:Draws prog w A.in1.in1.in1 i2 [i2,l2] xs.size (λi v=>ys[i]?=some v) (λi h=>Itx h t2 i2 l2 i/\Sqx h t2 l2 ys):=by
  rw[hsz]
  exact tZ (A:=A.in1.in1.in1) hh t2 i2 l2 ap.l2j ys
 refine wJ (A:=A.in1) (J:=J) (tZ (A:=A.in1.in1.in1) hh t1 i1 l1 ap.l1i xs) H ap.a (Ne.symm (d _ _ hz)) (Ne.symm (d _ _ hTI)) (Ne.symm (d _ _ hTO)) (Ne.symm (d _ _ t)) (Ne.symm (d _ _ m)) (by simp[Ne.symm (d _ _ t),k _ h1.lt]) (by simp[Ne.symm (d _ _ m),k _ h2.lt]) hn hJ hE
  xs.size 0 {s with heap:=g3} (s.heap.objs.size+1) [] _ (by simp) (du _) (.inl ⟨g _ _ hz,_,_,g _ _ hTO⟩) ?_ ?_ ?_ (.inl (g _ _ hz)) (g _ _ hTI) ⟨s1.keep λo q=>g _ _ q,h1.keep λo q=>g _ _ q⟩ ⟨s2.keep λo q=>g _ _ q,h2.keep λo q=>g _ _ q⟩ r rfl (hJ0 g3 s.toks (λc o _ q=>g c o q) (cQ r)) λs' bs c L I G=>⟨rfl,hQ s' bs c L I G⟩
 ·exact Ne.symm (df (dz (cQ hz)))
 ·exact Ne.symm (df (dz (cQ t)))
 ·exact Ne.symm (df (dz (cQ m)))
structure ZJ(xs ys:Array cA)(s1:cD)(d N:Nat)(z TO i1 i2:cG)(i:Nat)(bs:List cG)(s':cD):Prop where
 at':∀(j:Nat) (t:cG),bs[j]?=some t->∃x y,xs[j]?=some x/\ys[j]?=some y/\IsPair s'.heap t x y
 keep:∀b o,s1.heap.get? b=some o->s'.heap.get? b=some o
 ge:∀t∈bs,s1.heap.objs.size<=t
 ne:∀t∈bs,t≠z/\t≠TO/\t≠i1/\t≠i2/\t≠d
 nd:bs.Nodup
 sz:i<xs.size->N<s'.heap.objs.size
 gens:s'.gens=s1.gens
 drawn:s'.drawn=s1.drawn
 os:s'.os=s1.os
 len:bs.length=i
def G6(H:Hp)(d:cG)(bs:List cG)(xs ys:List V):Hp:=λa=>if a=d then some (.lst (bs.map V.ref))else
 if a∈bs then some (.tup [xs.getD (bs.idxOf a) .non,ys.getD (bs.idxOf a) .non])else H a
def JS(K:cu)(ta:TA):TE:=λσ H Q=>ta σ H λvs H1=>∃(t1 t2:Bool) (a b:cG) (xs ys:List V),vs=[.ref a,.ref b]/\Jf K H1 t1 a xs/\Jf K H1 t2 b ys/\xs.length=ys.length/\xs.length<=1000/\
 ∀(l:cG) (ts:List cG) (H':Hp),Same H1 H'->H1 l=none->H' l=some (.lst (ts.map V.ref))->ts.length=xs.length->(∀(i:Nat) (t:cG) (x y:V),ts[i]?=some t->xs[i]?=some x->ys[i]?=some y->H' t=some (.tup [x,y]))->Q (.ref l) H'
theorem za{X:Cx}{a b:Expr}{ta:TA}{p p2 pos pos2:Pos}(hc:X.calm=true)(h1:Gl X "list")(m1:X.mg "list"=none)(h2:Gl X "zip")(m2:X.mg "zip"=none)(ha:PA X [a,b] ta)
  (hs:dh [a,b] X.env=[(false,eval a X.env),(false,eval b X.env)]:=by rfl)(hs2:dh [b] X.env=[(false,eval b X.env)]:=by rfl):PE X (.Call (.Name "list" p) [.Call (.Name "zip" p2) [a,b] [] pos2] [] pos) (JS X.K ta):=by
 intro ac s σ H Q I h
 refine fG (tI I h1 m1 Boot.list ?_)
 refine d7 ?_ rfl rfl
 show wpAny _ _ (spliced ((false,eval (.Call (.Name "zip" p2) [a,b] [] pos2) X.env)::[])) _ _ s
 refine fF ?_
 refine rc (tI I h2 m2 lT (d7 (Ei (ha pos2 ac s σ H _ I h) λus z ⟨vs,M,U,r1,q1⟩=>?_) (by rw[hs,hs2]) (by rw[hs2];rfl)))
 obtain⟨t1,t2,l1,l2,D,E,e,hx,hy,aD,aF,q⟩:=q1
 subst e
 obtain⟨u,v,rfl,ru,rv⟩:=Jg r1
 cases ru
 cases rv
 obtain⟨C,aj,p1⟩:=U.sqx hx
 obtain⟨N,ae,p2⟩:=U.sqx hy
 have hA:X.A.handled=none:=U.ok.hd hc
 have ao:D.length=C.length:=aj.length
 have aE:E.length=N.length:=ae.length
 refine xG p1 p2 λm hz ap aB au ay L kk=>?_
 refine cv ?_
 refine wP (s:={z with heap:=m}) (J:=ZJ C.toArray N.toArray z m.objs.size m.objs.size (z.heap.objs.size+4) (z.heap.objs.size+3) z.heap.objs.size (z.heap.objs.size+1)) hA (yn p1.lt p2.lt) hz ap aB au ay (p1.keep λo q=>kk _ _ q) (p2.keep λo q=>kk _ _ q) (by simp;omega) (by simp;omega)
  (λi f S h2 tk x y J px py ab r=>?_) (λf S h2 J r=>?_) (λh2 tk r aA=>?_) (λS f c J hd aw=>?_)
 ·have ax:∀t∈f,t<S.heap.objs.size:=λt d=>by
   obtain⟨j,g⟩:=iz.mp d
   obtain⟨_,_,_,_,e⟩:=J.at' j t g
   exact cQ e
  have aq:i<C.toArray.size:=(ko.mp px).1
  have B:=J.sz aq
  have am:S.heap.objs.size<h2.objs.size:=cQ ab
  have W:∀k,k<=5->S.heap.objs.size≠z.heap.objs.size+k:=λk hk=>ic (eP (by rw[L];exact Nat.add_le_add_left hk _) B)
  refine⟨λj t g=>?_,λb o e=>?_,λt d=>?_,λt d=>?_,?_,λ_=>lA B am,J.gens,J.drawn,J.os,by rw[dq,J.len];rfl⟩
  ·by_cases ad:j<f.length
   ·rw[gM ad]at g
    obtain⟨Z,Y,P,R,O⟩:=J.at' j t g
    have F:=J.ne t (da g)
    exact⟨Z,Y,P,R,r t _ F.1 F.2.1 F.2.2.1 F.2.2.2.1 F.2.2.2.2 O⟩
   ·have aa:j=f.length:=by
     have:=(cL.mp g).1
     rw[dq,eT]at this
     omega
    rw[aa,eY (cI _),ik]at g
    have e0:S.heap.objs.size=t:=Option.some.inj g
    rw[aa,J.len,<-e0]
    exact⟨x,y,px,py,ab⟩
  ·have hb:=cQ e
   have G:∀k,b≠z.heap.objs.size+k:=λk=>df (cU hb (gE _ _))
   exact r b o (G 4) (G 3) (G 0) (G 1) (by show b≠m.objs.size;rw[L];exact G 5) (J.keep b o e)
  ·rcases dJ.mp d with d|d
   ·exact J.ge t d
   ·rw[cK.mp d]
    exact dB (eP (by rw[L];exact gE _ _) B)
  ·rcases dJ.mp d with d|d
   ·exact J.ne t d
   ·rw[cK.mp d]
    exact⟨W 4 (by decide),W 3 (by decide),W 0 (by decide),W 1 (by decide),ic B⟩
  ·refine gt.mpr ⟨J.nd,by simp,λa ha b hb e=>?_⟩
   rw[cK.mp hb]at e
   exact absurd e (df (ax a ha))
 ·refine⟨λj t g=>?_,λb o e=>?_,J.ge,J.ne,J.nd,λT=>absurd T (dt _),J.gens,J.drawn,J.os,J.len⟩
  ·obtain⟨Z,Y,P,R,O⟩:=J.at' j t g
   have F:=J.ne t (da g)
   exact⟨Z,Y,P,R,r t _ F.1 F.2.2.1 O⟩
  ·have hb:=cQ e
   have G:∀k,b≠z.heap.objs.size+k:=λk=>df (cU hb (gE _ _))
   exact r b o (G 4) (G 0) (J.keep b o e)
 ·refine⟨λj t g=>by simp at g,λb o e=>r b o ?_ (kk b o e),(λt d=>nomatch d),(λt d=>nomatch d),.nil,(λ_=>aA),rfl,rfl,rfl,rfl⟩
  show b≠m.objs.size
  rw[L]
  exact df (cU (cQ e) (gE _ _))
 ·obtain⟨ag,g2,aC,az,av⟩:=S
  have P:g2=z.gens:=J.gens
  have R:aC=z.drawn:=J.drawn
  have O:av=z.os:=J.os
  subst P R O
  have af:z.heap.objs.size<=m.objs.size:=by rw[L];exact gE _ _
  have ai:∀a,a<z.heap.objs.size->G6 M m.objs.size f D E a=M a:=λa ha=>by
   unfold G6
   rw[if_neg (df (cU ha af)),if_neg (λT=>absurd (cU ha (J.ge a T)) (dt _))]
  have trk:∀a o,M a=some o->G6 M m.objs.size f D E a=some o:=λa o e=>by rw[ai a (U.hok.lt e)];exact e
  have al:f.length=C.length:=by rw[aw];simp
  have ar:m.objs.size∉f:=λT=>(J.ne _ T).2.2.2.2 rfl
  have tp:∀(i:Nat) (t:cG) (x y:V),f[i]?=some t->D[i]?=some x->E[i]?=some y->G6 M m.objs.size f D E t=some (.tup [x,y]):=λi t x y d hx hy=>by
   have hm:=da d
   have hi:i<f.length:=(cL.mp d).1
   have ei:f.idxOf t=i:=by
    have h3:=(cL.mp d).2
    rw[<-h3]
    exact J.nd.idxOf_getElem i hi
   unfold G6
   rw[if_neg (λ(T:t=m.objs.size)=>ar (by rw[<-T];exact hm)),if_pos hm,ei,cC,cC,hx,hy]
   rfl
  have vr:∀l:List cG,Vals (l.map V.ref) (l.map cR):=λl=>by
   induction l with
   | nil=>exact .nil
   | cons a l ih=>exact .cons rfl ih
  have an:HOk X.prog X.w (G6 M m.objs.size f D E) ag:=λa o e=>by
   by_cases c1:a=m.objs.size
   ·subst c1
    unfold G6 at e
    rw[if_pos rfl]at e
    cases e
    exact⟨by rw[cx];exact dB (D8 (by omega)),_,c,vr f,hd⟩
   ·by_cases c2:a∈f
    ·obtain⟨j,g⟩:=iz.mp c2
     obtain⟨Z,Y,P,R,O⟩:=J.at' j a g
     have ad:j<f.length:=(cL.mp g).1
     have ah:D[j]?=some D[j]:=cz (by omega)
     have ak:E[j]?=some E[j]:=cz (by omega)
     rw[tp j a _ _ g ah ak]at e
     cases e
     obtain⟨u,hu,ru⟩:=aj.get ah
     obtain⟨v,hv,rv⟩:=ae.get ak
     have eu:u=Z:=by
      have:C[j]?=some Z:=by simpa using P
      rw[hu]at this
      exact Option.some.inj this
     have ev:v=Y:=by
      have:N[j]?=some Y:=by simpa using R
      rw[hv]at this
      exact Option.some.inj this
     subst eu ev
     exact⟨by show 2<=sizeLine;decide,[u,v],.cons ru (.cons rv .nil),⟨_,O,rfl,_,rfl⟩⟩
    ·have e':M a=some o:=by
      unfold G6 at e
      rw[if_neg c1,if_neg c2]at e
      exact e
     exact(U.hok a o e').stay (λb u _ q=>J.keep b u q) (λb q=>trk b _ q) λb D q=>trk b _ q
  have I2:Inv X ac σ (G6 M m.objs.size f D E) {z with heap:=ag,toks:=az}:=U.un ⟨λb o e n _ _=>J.keep b o e,λb o e n _ _=>⟨o.slots,J.keep b o e⟩,λb o e n _=>by rw[ai b (cQ e)];exact n,λb o e _=>⟨o,J.keep b o e⟩,λb D e=>trk b _ e,λb o u e=>trk b _ e,λb ps e=>⟨#[],by rw[trk b _ e];simp⟩⟩ an
  refine⟨.ref m.objs.size,_,I2,rfl,q m.objs.size f _ (λb o e=>trk b o e) (U.hok.fresh af) ?_ (by rw[al,ao]) tp⟩
  unfold G6
  rw[if_pos rfl]
structure Wd(z:Str):Prop where
 lo:1<=z.length
 hi:z.length<=12
 cs:∀c∈z.cps.toList,97<=c/\c<=122
structure Roll(ws:List Str):Prop where
 lo:1<=ws.length
 hi:ws.length<=6
 wd:∀w∈ws,Wd w
 nd:ws.Nodup
def GU(z:Str):Prop:=∀c∈z.cps.toList,c<128
def Ep(z:Str):Bool:=decide (1<=z.length/\z.length<=12)&&z.cps.toList.all λc=>decide (97<=c)&&decide (c<=122)
def ER(ws:List Str):Bool:=decide (1<=ws.length/\ws.length<=6)&&ws.all Ep&&decide ws.Nodup
theorem wj{z:Str}:Ep z=true↔Wd z:=by
 unfold Ep;rw[dn,decide_eq_true_iff,dZ];exact⟨λ⟨⟨a,b⟩,c⟩=>⟨a,b,λx d=>by simpa using c x d⟩,λw=>⟨⟨w.lo,w.hi⟩,λx d=>by have:=w.cs x d;simp[this]⟩⟩
theorem ud{ws:List Str}:ER ws=true↔Roll ws:=by
 unfold ER;rw[dn,dn,decide_eq_true_iff,decide_eq_true_iff,dZ];exact⟨λ⟨⟨⟨a,b⟩,c⟩,d⟩=>⟨a,b,λx e=>wj.mp (c x e),d⟩,λr=>⟨⟨⟨r.lo,r.hi⟩,λx e=>wj.mpr (r.wd x e)⟩,r.nd⟩⟩
def Im:Sp:=λvs H Q _=>∃z:Str,vs=[.str z]/\z.length<=1000/\GU z/\∀H',Same H H'->Q (.bl (Ep z)) H'
def Iq(K:cu):Sp:=λvs H Q _=>∃(a:cG) (ws:List Str),vs=[.ref a]/\SqL K H a (ws.map V.str)/\ws.length<=60/\(∀w∈ws,w.length<=1000/\GU w)/\∀H',Same H H'->Q (.bl (ER ws)) H'
theorem vY{z:Str}(h:¬(1<=z.length/\z.length<=12)):Ep z=false:=by
 unfold Ep;rw[decide_eq_false h,jp]
theorem zb{z:Str}(h:1<=z.length/\z.length<=12):Ep z=z.cps.toList.all λc=>decide (97<=c)&&decide (c<=122):=by
 unfold Ep;rw[decide_eq_true h,pX]
theorem zx{ws:List Str}(h:¬(1<=ws.length/\ws.length<=6)):ER ws=false:=by
 unfold ER;rw[decide_eq_false h,jp,jp]
theorem xw{ws:List Str}(h:ws.all Ep=false):ER ws=false:=by
 unfold ER;rw[h,o3,jp]
theorem zk{ws:List Str}(h1:1<=ws.length/\ws.length<=6)(h:ws.all Ep=true):ER ws=decide (V.int (E9 ws ws.length:Nat)=V.int (ws.length:Nat)):=by
 unfold ER;rw[h,decide_eq_true h1,Bool.and_true,pX,decide_eq_decide];constructor
 ·intro r;rw[v9 r _ (cI _)]
 ·intro e;have a:E9 ws ws.length=ws.length:=by injection e with e1;omega
  refine dM λz=>?_
  have:=zN (ws:=ws) (i:=ws.length) (cI _) (by rw[dj];exact z);omega
theorem AF(t:Str):∀G:List Str,Ju (.str t) (G.map V.str)=decide (t∈G)
 | []=>by simp[Ju]
 | x::G=>by
  have a:=AF t G
  unfold Ju at a ⊢
  rw[dN,gW,a]
  by_cases h1:x=t
  ·subst h1
   simp[Jt]
  ·have:Jt (.str x) (.str t)=false:=beq_eq_false_iff_ne.mpr h1
   simp[Jt,h1,Ne.symm h1]
theorem AG(G:List Str):(G.map V.str).all FF=true:=by
 rw[dZ];intro v a;obtain⟨i,_,rfl⟩:=dv.mp a;rfl
theorem Reps.strs{K:cu}{H:Hp}:∀ns:List Str,Reps K H (ns.map V.str) (ns.map gK)
 | []=> .nil
 | n::ns=> .cons (.str n) (Reps.strs ns)
theorem vo:∀a b:List Str,ja (a.map gK) (b.map gK)=decide (a=b)
 | [],[]=>by simp[ja]
 | [],_::_=>by simp[ja]
 | _::_,[]=>by simp[ja]
 | x::a,y::b=>by
  simp only[dN,ja,gw,vo a b]
  by_cases h1:x=y <;> by_cases h2:a=b <;> simp[h1,h2]
theorem Cg(a b:List Str):gw (.list (a.map gK)) (.list (b.map gK))=decide (a=b):=by
 rw[gw,vo]
theorem yN{x:Str}(h:GU x)(n:Nat):F8 n (.str x)=true:=by
 have h2:f8 (.str x)=true:=by
  unfold f8 iO;simp[iY,PyData.strOk];intro i a;have:=h x.cps[i] (by simp);omega
 cases n <;> simpa [F8]using h2
theorem yV{l:List Str}(h:∀w∈l,GU w):F8 1 (.list (l.map gK))=true:=by
 show(l.map gK).all (F8 0)=true;rw[dZ];intro d b;obtain⟨i,a,rfl⟩:=dv.mp b;exact yN (h i a) 0
theorem AJ{t y:Str}(h:GU t):∀w∈Txt.split t y,GU w:=λw a c b=>h c (by
 rw[<-mZ t y];exact(o4 y c _).mpr (.inl ⟨w,a,b⟩))
structure BookAt(C:cG)(H:Hp)(x d:cG)(ps ts:List Str)(R:List (Str×V)):Prop where
 ex:∃(dx pp pt:cG) (op ot:Obj),H x=some (.ins C dx [("people",.ref pp),("things",.ref pt),("wishes_told",.ref d)])/\H pp=some (.frz op (.tup (ps.map V.str)))/\op.dict=none/\
  H pt=some (.frz ot (.tup (ts.map V.str)))/\ot.dict=none/\H d=some (.dK (wK R))
theorem BookAt.mono{C:cG}{H H':Hp}{x d:cG}{ps ts:List Str}{R:List (Str×V)}(e:Same H H')(h:BookAt C H x d ps ts R):BookAt C H' x d ps ts R:=by
 obtain⟨c,b,f,g,a,h1,h2,h3,h4,h5,h6⟩:=h.ex;exact⟨c,b,f,g,a,e _ _ h1,e _ _ h2,h3,e _ _ h4,h5,e _ _ h6⟩
def SameBut1(x:cG)(H H':Hp):Prop:=∀b o,b≠x->H b=some o->H' b=some o
theorem SqL.overI{K:cu}{H:Hp}{a p C dx:cG}{fs:List (Str×V)}{o:HO}{xs:List V}(h:SqL K H a xs)(hp:H p=some (.ins C dx fs)):SqL K (upd H p o) a xs:=by
 rcases h with(h|⟨u,h⟩)|h
 ·exact .inl (.inl (by rw[rG (λz=>by rw[z,hp]at h;cases h)];exact h))
 ·exact .inl (.inr ⟨u,by rw[rG (λz=>by rw[z,hp]at h;cases h)];exact h⟩)
 ·exact .inr h
theorem Lv{c A B:Prop}[Decidable c](hc:¬c)(h:A):if(!decide c)=true then A else B:=by
 rw[decide_eq_false hc];exact EN h
theorem SameBut1.of{x:cG}{H H':Hp}(h:Same H H'):SameBut1 x H H':=λb o _ e=>h b o e
theorem SameBut1.trans{x:cG}{H H1 H2:Hp}(h:SameBut1 x H H1)(h':SameBut1 x H1 H2):SameBut1 x H H2:=λb o a e=>h' b o a (h b o a e)
theorem SameBut1.upd{x:cG}{H:Hp}{o:HO}:SameBut1 x H (upd H x o):=λb u a e=>by rw[rG a];exact e
def JL(K:cu)(C:cG)(x:Xs):Sp:=λvs H Q E=>∃(s a b dx:cG) (ps ts:List Str),vs=[.ref s,.ref a,.ref b]/\H s=some (.ins C dx [])/\SqL K H a (ps.map V.str)/\SqL K H b (ts.map V.str)/\ps.length<=60/\ts.length<=60/\
 (∀w∈ps,w.length<=1000/\GU w)/\(∀w∈ts,w.length<=1000/\GU w)/\(¬(Roll ps/\Roll ts/\ps.length=ts.length)->∀H',Same H H'->E (.ref x.NoRoll) none H')/\
 (Roll ps->Roll ts->ps.length=ts.length->∀d H',SameBut1 s H H'->H d=none->BookAt C H' s d ps ts []->Q .non H')
def Hv(C:cG)(x:Xs):Sp:=λvs H Q E=>∃(s d:cG) (ps ts:List Str) (R:List (Str×V)) (p:Str),vs=[.ref s,.str p]/\BookAt C H s d ps ts R/\(p∉ps->E (.ref x.NoPerson) none H)/\(p∈ps->Q .non H)
def Hk(C:cG):Sp:=λvs H Q _=>∃(s d:cG) (ps ts:List Str) (R:List (Str×V)),vs=[.ref s]/\BookAt C H s d ps ts R/\ps.length<=60/\
 ∀l H',Same H H'->H l=none->H' l=some (.lst ((ps.filter λp=>!(Ek R p).isSome).map V.str))->Q (.ref l) H'
def wordsOf(t:Str):List Str:=Txt.split t " "
def Gj(ts ws:List Str):List Int:=ws.map λw=>(ts.idxOf w:Int)
def IH(K:cu)(C:cG)(x:Xs):Sp:=λvs H Q E=>∃(s d:cG) (ps ts:List Str) (R:List (Str×V)) (p t:Str),vs=[.ref s,.str p,.str t]/\BookAt C H s d ps ts R/\ts.length<=60/\(∀w∈ts,GU w)/\t.length<=500/\GU t/\(wordsOf t).length<64/\R.length<1000/\
 (p∉ps->∀H',Same H H'->E (.ref x.NoPerson) none H')/\(p∈ps->¬(wordsOf t).Perm ts->∀H',Same H H'->E (.ref x.NoWishes) none H')/\
 (p∈ps->(wordsOf t).Perm ts->∀r H',SameBut1 d H H'->H r=none->H' r=some (.tup ((Gj ts (wordsOf t)).map V.int))->BookAt C H' s d ps ts (G5 R p (.ref r))->Q .non H')
def TabBy(n:Nat)(W:List (List Int))(way:Str)(Z:List (List Int))(T:Int):Prop:=
 (way="eaten"/\∃N,EM.Stops W n N/\Z=Ez W n N/\T=(EM.st W n N).D)\/(way="turns"/\Z=Gs n (Fz n W)/\T=TM.fct n)
theorem TabBy.tb{n:Nat}{W:List (List Int)}{way:Str}{Z:List (List Int)}{T:Int}(hw:Fk n W)(h:TabBy n W way Z T):Jl n T Z:=by
 rcases h with⟨_,N,a,rfl,rfl⟩|⟨_,rfl,rfl⟩
 ·exact DL ⟨hw.lo,hw.hi,hw.len,hw.pm⟩ a
 ·exact Dk hw
def ToldW(K:cu)(H:Hp)(R:List (Str×V))(ps:List Str)(W:List (List Int)):Prop:=dr (λp row=>∃v,Ek R p=some v/\IsR K H v row) ps W
theorem ToldW.mono{K:cu}{H H':Hp}{R:List (Str×V)}{ps:List Str}{W:List (List Int)}(e:Same H H')(h:ToldW K H R ps W):ToldW K H' R ps W:=
 Paired.mapP h λ_ _ ⟨v,h1,h2⟩=>⟨v,h1,h2.mono e⟩
def Gc(K:cu)(C:cG)(x:Xs):Sp:=λvs H Q E=>∃(s d:cG) (ps ts:List Str) (R:List (Str×V)) (way:Str),vs=[.ref s,.str way]/\BookAt C H s d ps ts R/\ps.length<=60/\
 ((∃p∈ps,Ek R p=none)->∀H',Same H H'->E (.ref x.Unready) none H')/\
 ((∀p∈ps,Ek R p≠none)->∃W,ToldW K H R ps W/\Fk ps.length W/\(way≠"eaten"->way≠"turns"->∀H',Same H H'->E (.ref x.NoWay) none H')/\
  ∀Z T q us H',TabBy ps.length W way Z T->Same H H'->H q=none->H' q=some (.lst us)->dr (RwFT K H' T) us Z->Q (.ref q) H')
theorem yr{R:List (Str×V)}{ps:List Str}:(ps.filter λp=>!(Ek R p).isSome)=[]↔∀p∈ps,Ek R p≠none:=by
 rw[List.filter_eq_nil_iff];refine forall_congr' λp=>forall_congr' λ_=>?_
 cases Ek R p <;> simp
def Ew(ts:List Str)(row z:List Int):List (Str×Int):=(row.filter λt=>decide (EM.at0 z t≠0)).map λt=>(ts.getD t.toNat ea,EM.at0 z t)
def IsShr(K:cu)(H:Hp)(T:Int)(v:V)(x:Str×Int):Prop:=∃a g,v = .ref a/\SqT K H a [.str x.1,.ref g]/\IsF K H (.ref g) (FQ.red x.2 T)
theorem IsShr.mono{K:cu}{H H':Hp}{T:Int}{v:V}{x:Str×Int}(e:Same H H')(h:IsShr K H T v x):IsShr K H' T v x:=by
 obtain⟨a,g,rfl,h1,h2⟩:=h;exact⟨a,g,rfl,e.tup h1,h2.mono e⟩
def GE(K:cu)(C:cG)(x:Xs):Sp:=λvs H Q E=>∃(s d:cG) (ps ts:List Str) (R:List (Str×V)) (p way:Str),vs=[.ref s,.str p,.str way]/\BookAt C H s d ps ts R/\ps.length<=60/\ts.length=ps.length/\
 (p∉ps->∀H',Same H H'->E (.ref x.NoPerson) none H')/\(p∈ps->(∃p∈ps,Ek R p=none)->∀H',Same H H'->E (.ref x.Unready) none H')/\
 (p∈ps->(∀p∈ps,Ek R p≠none)->∃W,ToldW K H R ps W/\Fk ps.length W/\(way≠"eaten"->way≠"turns"->∀H',Same H H'->E (.ref x.NoWay) none H')/\
  ∀Z T l xs H',TabBy ps.length W way Z T->Same H H'->H l=none->H' l=some (.lst xs)->dr (IsShr K H' T) xs (Ew ts (W.getD (ps.idxOf p) []) (Z.getD (ps.idxOf p) []))->Q (.ref l) H')
theorem cw_lots(Z:List (List Int))(T:Int)(k:Nat):∀i,i<=k->cw (HM.lotsL Z T k) i=HM.sm i λj=>(HM.lotAt Z T j).1
 | 0,_=>rfl
 | i+1,hi=>by
  have e:(HM.lotsL Z T k)[i]?=some (HM.lotAt Z T i):=by
   unfold HM.lotsL
   rw[cH,d9 (show i<k by omega)]
   rfl
  rw[cw_succ e,cw_lots Z T k i (by omega)]
  rfl
theorem TabBy.le{n:Nat}{W:List (List Int)}{way:Str}{Z:List (List Int)}{T:Int}(hw:Fk n W)(h:TabBy n W way Z T):T<=262144:=by
 rcases h with⟨_,N,b,rfl,rfl⟩|⟨_,rfl,rfl⟩
 ·have a:EM.Ws n W:=⟨hw.lo,hw.hi,hw.len,hw.pm⟩;exact EM.D_le (EM.st_ok a N b.up).1 a.n6
 ·have h:=ym hw.hi;omega
theorem Av{n k:Nat}{T:Int}{Z:List (List Int)}(tb:Jl n T Z)(hT:T<=262144)(hf:HM.Fin Z T k):LotsOk n (HM.lotsL Z T k) T:=by
 have I:=HM.it_ok tb.reg tb.t0 tb.lo k hf.2;have c:(HM.lotsL Z T k).length=k:=by unfold HM.lotsL;rw[cx,e9]
 have b:∀l∈HM.lotsL Z T k,∃j,j<k/\l=HM.lotAt Z T j:=λl h=>by
  unfold HM.lotsL at h;obtain⟨j,a,rfl⟩:=dv.mp h;exact⟨j,dY.mp a,rfl⟩
 refine⟨?_,λl h=>?_,λl h=>?_,?_,?_,λl h=>?_⟩
 ·rw[c,cw_lots Z T k k (cI _),I.wts,hf.1];omega
 ·obtain⟨j,a,rfl⟩:=b l h;exact(I.lots j a).w1
 ·obtain⟨j,a,rfl⟩:=b l h;have h1:=(I.lots j a).wR;have h2:=(HM.it_ok tb.reg tb.t0 tb.lo j λi d=>hf.2 i (by omega)).rT;show HM.wOf (HM.it Z T j).1<=_;omega
 ·rw[c]
  cases k with
  | zero=>
   have:T=0:=hf.1;have:=tb.t0;omega
  | succ k=>omega
 ·rw[c];have h1:=I.last hf.1;have h2:=HM.pn_le tb.hi Z;omega
 ·obtain⟨j,a,rfl⟩:=b l h;exact(I.lots j a).pm.len
def JR(K:cu)(H:Hp)(v:V)(x:Str×Str):Prop:=∃a,v = .ref a/\SqT K H a [.str x.1,.str x.2]
def Ed(ts:List Str)(d:List Int):List Str:=d.map λt=>ts.getD t.toNat ea
def ID(K:cu)(C:cG)(x:Xs):Sp:=λvs H Q E=>∃(s d m:cG) (ps ts:List Str) (R:List (Str×V)) (way:Str) (num:Int×Int),vs=[.ref s,.str way,.ref m]/\BookAt C H s d ps ts R/\ps.length<=60/\ts.length=ps.length/\IsF K H (.ref m) num/\Sz 2000 num/\0<num.2/\
 ((∃p∈ps,Ek R p=none)->∀H',Same H H'->E (.ref x.Unready) none H')/\
 ((∀p∈ps,Ek R p≠none)->∃W,ToldW K H R ps W/\Fk ps.length W/\(way≠"eaten"->way≠"turns"->∀H',Same H H'->E (.ref x.NoWay) none H')/\
  (way="eaten"\/way="turns"->EL num->∀H',Same H H'->E (.ref x.NoPick) none H')/\
  (¬EL num->∀Z T k i l xs H',TabBy ps.length W way Z T->HM.Fin Z T k->First (HM.lotsL Z T k) T num i->Same H H'->H l=none->H' l=some (.lst xs)->dr (JR K H') xs (ps.zip (Ed ts ((HM.lotsL Z T k).getD i (0,[])).2))->Q (.ref l) H'))
theorem TabBy.way{n:Nat}{W:List (List Int)}{way:Str}{Z:List (List Int)}{T:Int}(h:TabBy n W way Z T):way="eaten"\/way="turns":=by
 rcases h with⟨h,_⟩|⟨h,_⟩
 ·exact .inl h
 ·exact .inr h
def Ltr(z:Str):Prop:=∀c∈z.cps.toList,97<=c/\c<=122
def JH:Str:="abcdefghijklmnopqrstuvwxyz"
theorem CN:JH.cps.toList=(db 26).map λi=>97+i:=by decide +kernel
theorem Ct{i:Int}(h0:0<=i)(h1:i<26):G0 JH.cps.toList i=some (97+i.toNat):=by
 refine sD h0 ?_;rw[CN,cH,d9 (by omega)];rfl
theorem sK(a b:Str):(a++b).cps.toList=a.cps.toList++b.cps.toList:=by
 show(a.cps++b.cps).toList=_;simp
theorem tX(a:Str):a.length=a.cps.toList.length:=by simp[fH]
theorem tz(a b:Str):(a++b).length=a.length+b.length:=by rw[tX,tX,tX,sK,dq]
theorem Ltr.app{a b:Str}(h1:Ltr a)(h2:Ltr b):Ltr (a++b):=λc d=>by
 rw[sK]at d;rcases dJ.mp d with h|h
 ·exact h1 c h
 ·exact h2 c h
theorem Ltr.one{n:Nat}(h:n<26):Ltr ⟨#[97+n]⟩:=λc a=>by
 have:c=97+n:=by simpa using a
 omega
def Jy:Sp:=λvs H Q _=>∃(c:Int) (n:Nat),vs=[.int c,.int n]/\n<=60/\∀z:Str,z.length=n->Ltr z->Q (.str z) H
theorem Ci{i:Nat}(h:i<26):qH JH ⟨#[97+i]⟩=(i:Int):=by
 have:∀i,i<26->qH JH ⟨#[97+i]⟩=(i:Int):=by decide +kernel
 exact this i h
def EQ(b:List Nat)(p sz k:Nat):List Nat:=b.take p++([97+(b.getD p 97-97+3*k)%26]++(b.drop (p+1)).take (sz-(p+1)))
def HX:Sp:=λvs H Q _=>∃(b:Str) (p sz k:Nat),vs=[.str b,.int p,.int sz,.int k]/\b.length=12/\Ltr b/\p<sz/\sz<=12/\k<=60/\Q (.str ⟨(EQ b.cps.toList p sz k).toArray⟩) H
theorem yU{b:Str}{p:Nat}(h:p<=b.cps.toList.length):j5 b none (some (p:Int))=⟨(b.cps.toList.take p).toArray⟩:=by
 rw[eq_of_beq (slice_closes_to (x:=b) (j:=(p:Int)) ⟨by omega,by omega⟩)];rw[show((p:Int)-0).toNat=p by omega,show Int.toNat 0=0 from rfl,List.drop_zero]
theorem AZ{b:Str}{i j:Nat}(h1:i<=j)(h2:j<=b.cps.toList.length):j5 b (some (i:Int)) (some (j:Int))=⟨((b.cps.toList.drop i).take (j-i)).toArray⟩:=by
 rw[eq_of_beq (slice_closes (x:=b) (i:=(i:Int)) (j:=(j:Int)) ⟨by omega,by omega,by omega⟩)];rw[show((j:Int)-(i:Int)).toNat=j-i by omega,show(i:Int).toNat=i by omega]
theorem uB(l:List Nat):(⟨l.toArray⟩:Str).length=l.length:=by rw[tX]
theorem xr{b:List Nat}{p sz k:Nat}(hb:b.length=12)(hp:p<sz)(hs:sz<=12):(EQ b p sz k).length=sz:=by
 unfold EQ;rw[dq,dq,cV,cV,iX,eT,hb];omega
theorem Ch{b:List Nat}{p sz k:Nat}(hb:b.length=12)(hp:p<12):(EQ b p sz k)[p]?=some (97+(b.getD p 97-97+3*k)%26):=by
 unfold EQ;have a:(b.take p).length=p:=by rw[cV,hb];omega
 rw[eY (by omega),a,ik];rfl
theorem Bl{b:List Nat}{p sz k k':Nat}(hb:b.length=12)(hp:p<12)(hk:k<6)(hk':k'<6)(h:EQ b p sz k=EQ b p sz k'):k=k':=by
 have e:=congrArg (λl:List Nat=>l[p]?) h;simp only[Ch hb hp]at e;have:=Option.some.inj e;omega
theorem AY{b:List Nat}{p sz k:Nat}(hb:∀c∈b,97<=c/\c<=122):∀c∈EQ b p sz k,97<=c/\c<=122:=λc a=>by
 unfold EQ at a;rcases dJ.mp a with h|h
 ·exact hb c (gr h)
 ·rcases dJ.mp h with h|h
  ·rw[cK.mp h];omega
  ·exact hb c (mi (gr h))
theorem Bp{n:Nat}(h1:1<=n)(h6:n<=6){f:Nat->Str}(hw:∀k,k<n->Wd (f k))(hi:∀k k',k<n->k'<n->f k=f k'->k=k'):Roll ((db n).map f):=by
 refine⟨by simpa using h1,by simpa using h6,λw h=>?_,?_⟩
 ·obtain⟨k,hk,rfl⟩:=dv.mp h;exact hw k (dY.mp hk)
 ·refine js.mpr (pY (λ {i j} c a b e=>b ?_) n9);exact hi i j (dY.mp c) (dY.mp a) e
theorem xU{b:Str}{p sz n:Nat}(hb:b.length=12)(hl:Ltr b)(hp:p<sz)(hs:sz<=12)(h1:1<=n)(h6:n<=6):Roll ((db n).map λk=>(⟨(EQ b.cps.toList p sz k).toArray⟩:Str)):=by
 have a:b.cps.toList.length=12:=by rw[<-tX];exact hb
 refine Bp h1 h6 (λk _=>⟨?_,?_,λc d=>AY hl c (by simpa using d)⟩) λk g hk f e=>?_
 ·rw[uB,xr a hp hs];omega
 ·rw[uB,xr a hp hs];exact hs
 ·refine Bl (sz:=sz) a (show p<12 by omega) (by omega) (by omega) ?_;have:=congrArg (λz:Str=>z.cps.toList) e;simpa using this
theorem y4{b:Str}{n:Nat}(hb:b.length=12)(hl:Ltr b)(h1:1<=n)(h6:n<=6):Roll ((db n).map λk=>(⟨(b.cps.toList.take (k+1)).toArray⟩:Str)):=by
 have a:b.cps.toList.length=12:=by rw[<-tX];exact hb
 refine Bp h1 h6 (λk hk=>⟨?_,?_,λc d=>hl c (gr (by simpa using d))⟩) λk g hk f e=>?_
 ·rw[uB,cV,a];omega
 ·rw[uB,cV,a];omega
 ·have:=congrArg fH e;simp only[uB,cV,a]at this;omega
def Hi(K:cu):Sp:=λvs H Q _=>∃(a:cG) (ns:List Int) (at' n:Nat),vs=[.ref a,.int at',.int n]/\SqL K H a (ns.map V.int)/\1<=n/\n<=6/\∀p ws H',Same H H'->H p=none->H' p=some (.lst (ws.map V.str))->Roll ws->ws.length=n->Q (.ref p) H'
theorem zF{b:Str}{p sz n:Nat}{c:Prop}[Decidable c](hb:b.length=12)(hl:Ltr b)(hp:p<sz)(hs:sz<=12)(h1:1<=n)(h6:n<=6):Roll ((db n).map λk=>if c then(⟨(b.cps.toList.take (k+1)).toArray⟩:Str)else⟨(EQ b.cps.toList p sz k).toArray⟩):=by
 by_cases h:c
 ·simp only[if_pos h];exact y4 hb hl h1 h6
 ·simp only[if_neg h];exact xU hb hl hp hs h1 h6
theorem Ltr.asc{z:Str}(h:Ltr z):GU z:=λc a=>by have:=h c a;omega
theorem Wd.asc{z:Str}(h:Wd z):GU z:=λc a=>by have:=h.cs c a;omega
theorem vD{ns:List Int}{i:Nat}(h:i<ns.length):G0 (ns.map V.int) (i:Int)=some (.int (ns.getD i 0)):=si (tm h)
theorem Cc:(" ":Str)=⟨#[32]⟩:=by decide +kernel
def Kr(w:Str):Prop:=32∉w.cps.toList
theorem yA:∀{a b r s:List Nat},32∉a->32∉b->a++32::r=b++32::s->a=b/\r=s
 | [],[],r,s,_,_,h=>by simpa using h
 | [],y::b,r,s,_,hb,h=>by
  have:32=y:=(List.cons.inj h).1
  exact absurd (this▸cM) hb
 | x::a,[],r,s,ha,_,h=>by
  have:x=32:=(List.cons.inj h).1
  exact absurd (this▸cM) ha
 | x::a,y::b,r,s,ha,hb,h=>by
  have h1:=List.cons.inj h
  have c:=yA (λz=>ha (cO _ z)) (λz=>hb (cO _ z)) h1.2
  exact⟨by rw[h1.1,c.1],c.2⟩
theorem I8(x y:Str)(r:List Str):(iV " " (x::y::r)).cps.toList=x.cps.toList++32::(iV " " (y::r)).cps.toList:=by
 show(x++" "++iV " " (y::r)).cps.toList=_;rw[sK,sK,Cc];simp
theorem yH:∀{a b:List Str},a≠[]->b≠[]->(∀w∈a,Kr w)->(∀w∈b,Kr w)->iV " " a=iV " " b->a=b
 | [],_,h,_,_,_,_=>absurd rfl h
 | _::_,[],_,h,_,_,_=>absurd rfl h
 | [x],[y],_,_,_,_,h=>by rw[show x=y from h]
 | [x],y::z::b,_,_,ha,_,h=>by
  have e:=congrArg (λs:Str=>s.cps.toList) h
  rw[I8]at e
  refine absurd ?_ (ha x cM)
  show 32∈(iV " " [x]).cps.toList
  rw[e]
  simp
 | x::z::a,[y],_,_,_,hb,h=>by
  have e:=congrArg (λs:Str=>s.cps.toList) h
  rw[I8]at e
  refine absurd ?_ (hb y cM)
  show 32∈(iV " " [y]).cps.toList
  rw[<-e]
  simp
 | x::u::a,y::v::b,_,_,ha,hb,h=>by
  have e:=congrArg (λs:Str=>s.cps.toList) h
  rw[I8,I8]at e
  have c:=yA (ha x cM) (hb y cM) e
  have f:=yH (a:=u::a) (b:=v::b) (oj _ _) (oj _ _) (λw d=>ha w (cO _ d)) (λw d=>hb w (cO _ d)) (wC c.2)
  rw[f,wC c.1]
theorem tj{ws:List Str}(h0:ws≠[])(h:∀w∈ws,Kr w):wordsOf (fe " " ws)=ws:=by
 unfold wordsOf;refine yH ?_ h0 ?_ h ?_
 ·have:=split_pos (fe " " ws) " ";intro z;rw[z]at this;exact absurd this (by decide)
 ·rw[Cc];exact StrLaws.split_free _ 32
 ·rw[mZ];exact iA " " ws
structure TxtOk(ws:List Str):Prop where
 len:ws.length<=7
 wd:∀w∈ws,w.length<=13
 cs:∀w∈ws,∀c∈w.cps.toList,c<128/\c≠32
theorem tN:∀{ws:List Str},(∀w∈ws,w.length<=13)->(ws.map (·.length)).sum<=13*ws.length
 | [],_=>cI _
 | x::ws,h=>by
  have b:=tN (ws:=ws) λw a=>h w (cO _ a)
  have:=h x cM
  simp only[dN,eQ,dQ]
  omega
theorem TxtOk.out{ws:List Str}(h:TxtOk ws):(fe " " ws).length<=500/\GU (fe " " ws)/\(wordsOf (fe " " ws)).length<64:=by
 have d:=h.len;have f:=tN h.wd;have e:fe " " ws=iV " " ws:=iA " " ws;refine⟨?_,?_,?_⟩
 ·have:=jA " " ws;rw[show(" ":Str).length=1 by decide +kernel]at this;rw[e];omega
 ·rw[e];intro c a;rcases(o4 " " c ws).mp a with⟨w,b,a⟩|⟨_,a⟩
  ·exact(h.cs w b c a).1
  ·rw[Cc]at a;have:c=32:=by simpa using a
   omega
 ·by_cases h0:ws=[]
  ·subst h0;decide +kernel
  ·rw[tj h0 λw b a=>(h.cs w b 32 a).2 rfl];omega
theorem TxtOk.sumk{ws:List Str}(h:TxtOk ws):(ws.map fH).sum+ws.length<=1048576:=by
 have a:=h.len;have b:(ws.map fH).sum<=13*ws.length:=tN h.wd;omega
theorem vW{ts:List Str}{d:List Int}(h:∀t∈d,t.toNat<ts.length):∀w∈Ed ts d,w∈ts:=λw a=>by
 unfold Ed at a;obtain⟨t,b,rfl⟩:=dv.mp a;rw[cC,cz (h t b)];exact cW _
theorem xW{num:Int}{n:Nat}:∀t∈LM.perm num n,0<=t/\t.toNat<n:=λt b=>by
 have:=(LM.perm_succ_perm num n).mem_iff.mp b;obtain⟨i,a,rfl⟩:=dv.mp this;have:=dY.mp a;show 0<=(i:Int)/\(i:Int).toNat<n;omega
theorem wL{ts:List Str}{num:Int}(h:Roll ts):TxtOk (Ed ts (LM.perm num ts.length))/\(∀w∈Ed ts (LM.perm num ts.length),w∈ts)/\(Ed ts (LM.perm num ts.length)).length=ts.length:=by
 have a:=vW (ts:=ts) (d:=LM.perm num ts.length) λt g=>(xW t g).2
 have e:(Ed ts (LM.perm num ts.length)).length=ts.length:=by unfold Ed;rw[cx,LM.perm_len]
 refine⟨⟨by rw[e];have:=h.hi;omega,λw b=>by have:=(h.wd w (a w b)).hi;omega,λw b c f=>?_⟩,a,e⟩;have:=(h.wd w (a w b)).cs c f;omega
theorem DC{a b:Str}(h1:∀c∈a.cps.toList,c<128/\c≠32)(h2:∀c∈b.cps.toList,c<128/\c≠32):∀c∈(a++b).cps.toList,c<128/\c≠32:=λc d=>by
 rw[sK]at d;rcases dJ.mp d with h|h
 ·exact h1 c h
 ·exact h2 c h
theorem Dz{z:Str}(h:(z.cps.toList.all λc=>decide (c<128/\c≠32))=true):∀c∈z.cps.toList,c<128/\c≠32:=λc a=>of_decide_eq_true (dZ.mp h c a)
theorem xS{num:Int×Int}:¬EL num↔0<=num.1/\num.1<num.2:=by
 unfold EL Eu;simp
theorem yo{ts:List Str}(nd:ts.Nodup){i:Nat}(hi:i<ts.length):ts.idxOf ts[i]=i:=by
 have a:ts.idxOf ts[i]<ts.length:=gZ.mpr (cW hi);have e:=jg a;have b:=List.pairwise_iff_getElem.mp nd;rcases iD (ts.idxOf ts[i]) i with c|c|c
 ·exact absurd e (b _ _ a hi c)
 ·exact c
 ·exact absurd e.symm (b _ _ hi a c)
theorem Roll.ok{ws:List Str}(h:Roll ws):∀w∈ws,w.length<=1000/\GU w:=λw a=>⟨dg (h.wd w a).hi (by decide),(h.wd w a).asc⟩
theorem BookAt.overL{C:cG}{H:Hp}{x d l:cG}{ps ts:List Str}{R:List (Str×V)}{ys:List V}{o:HO}(hl:H l=some (.lst ys))(h:BookAt C H x d ps ts R):BookAt C (upd H l o) x d ps ts R:=by
 obtain⟨c,b,e,f,a,h1,h2,h3,h4,h5,h6⟩:=h.ex;refine⟨c,b,e,f,a,?_,?_,h3,?_,h5,?_⟩
 ·rw[rG (sI h1 hl (λz=>nomatch z))];exact h1
 ·rw[rG (sI h2 hl (λz=>nomatch z))];exact h2
 ·rw[rG (sI h4 hl (λz=>nomatch z))];exact h4
 ·rw[rG (sI h6 hl (λz=>nomatch z))];exact h6
section
variable{K:cu}{C:cG}{H H':Hp}{pl tl c l s d:cG}{ps ts:List Str}{xs:List V}{L L':List Str}{R R':List (Str×V)}
theorem Do{ns:List Int}{lo hi:Option Int}{i:Nat}{v:V}(h:(Go (ns.map V.int) lo hi)[i]?=some v):∃c:Int,v=V.int c:=by
 have h1:=da h;unfold Go at h1;obtain⟨c,_,rfl⟩:=dv.mp (mi (gr h1));exact⟨c,rfl⟩
end
def LF(K:cu)(CW:cG)(tb:XK->TS)(ts:TS):TS:=λD σ H=>
 tb (λc _ H1=>∃C,c = .ref C/\mz K C (.ref CW)=some true/\∀a,H1 a=none->ts D σ (upd H1 a (LK C a))) D σ H
section
variable{X:Cx}
theorem CK{W:Str}{CW:cG}{body suite:List Stmt}{b₀:Stmt}{np hpos pos:Pos}{tb:XK->TS}{ts:TS}(hst:X.stack=X.env::X.outer)(hfr:X.env.frame=some X.env.locals)
  (hW:GZ X.K X.mg W CW)(hg:Gl X W)(hb:MC X body tb)(hs:∀a,PSs (X.hold a) (b₀::suite) ts)(hd:(W==("__debug__":Str))=false:=by decide):
  PS X (.Try body [.ExceptHandler (some (.Name W np)) none (b₀::suite) hpos] [] [] pos) (LF X.K CW tb ts):=by
 intro c s T H D I h
 refine wpAny_Try_except (gh (hb c s T H D _ (λe m=>wpAny (model X.prog X.w) X.A (noteFrame e X.env) (λ_ n=>wpAny (model X.prog X.w) X.A (setFlight e none) (λ_ E=>wpAny (model X.prog X.w) X.A (handleBy e X.env [.ExceptHandler (some (.Name W np)) none (b₀::suite) hpos]) (SP X c D) X.xe E) X.xe n) X.xe m) I ?_ h) (λf R q=>?_) λ_ _ z=>z)
 ·rintro Y R Z s' y ⟨a,C,B,L,j,rfl,F,C',M,U,hk⟩
  cases M
  have P:=F.fly
  have b:=y.ok.frames
  rw[hst]at P b
  refine wpAny_looks_onW b hfr P λh4 p l=>?_
  refine wpAny_landsW p λh5 d k=>?_
  have o:lu B X.stack a (.ref C) L h5:=by rw[hst];exact d
  have x:=y.caught F o (l.trans k)
  obtain⟨oe,Q,V⟩:=d.there
  have O:h5.Ns X.env.globals X.mg:=by rw[I.ok.glob];exact x.mod.glob.keeps x.bk
  refine wpAny_handleBy_cons (codeAny_handlers_test (iG I.ok.kind hg (kT O hW.bound ?_) hd)) (by intro q;cases q)
  refine xk x.kIn hW.exc U Q V (codeAny_handlers_suite ?_)
  refine lands_againW d λh6 G N=>?_
  have t:lu B X.stack a (.ref C) L h6:=by rw[hst];exact G
  have S:=y.caught F t ((l.trans k).trans N)
  refine gh (hs a c _ _ _ _ (S.hold a) (hk a F.free)) (λf s8 q=>?_) λ_ _ z=>fh z
  cases f with
  | next=>obtain⟨g,j,J,q⟩:=q;exact⟨_,_,J.unhold I.ok,q⟩
  | brk=>obtain⟨g,j,J,q⟩:=q;exact⟨_,_,J.unhold I.ok,q⟩
  | cont=>obtain⟨g,j,J,q⟩:=q;exact⟨_,_,J.unhold I.ok,q⟩
  | ret u=>obtain⟨v,g,j,J,r,q⟩:=q;exact⟨v,_,_,J.unhold I.ok,r,q⟩
 ·cases f with
  | next=>exact im q
  | ret v=>exact q
  | brk=>exact q
  | cont=>exact q
end
theorem TabBy.uniq{n:Nat}{W:List (List Int)}{way:Str}{Z Z':List (List Int)}{T T':Int}(h:TabBy n W way Z T)(h':TabBy n W way Z' T'):Z'=Z/\T'=T:=by
 have b:¬(fK "eaten")=fK "turns":=by decide
 rcases h with⟨e,N,d,rfl,rfl⟩|⟨e,rfl,rfl⟩
 ·rcases h' with⟨_,M,c,rfl,rfl⟩|⟨a,_⟩
  ·cases d.uniq c;exact⟨rfl,rfl⟩
  ·exact absurd (e.symm.trans a) b
 ·rcases h' with⟨a,_⟩|⟨_,rfl,rfl⟩
  ·exact absurd (a.symm.trans e) b
  ·exact⟨rfl,rfl⟩
def Ho(K:cu):Sp:=λvs H Q _=>∃(w:cG) (us:List V) (W:List (List Int)) (n:Nat) (way:Str),vs=[.str way,.ref w]/\(way="eaten"\/way="turns")/\SqL K H w us/\dr (IsR K H) us W/\Fk n W/\
 ∀Z T q xs H',TabBy n W way Z T->Same H H'->H q=none->H' q=some (.lst xs)->dr (RwFT K H' T) xs Z->Q (.ref q) H'
def SameBut2(x y:cG)(H H':Hp):Prop:=∀b o,b≠x->b≠y->H b=some o->H' b=some o
theorem SameBut2.of{x y:cG}{H H':Hp}(h:Same H H'):SameBut2 x y H H':=λb o _ _ e=>h b o e
theorem SameBut2.of1{x y:cG}{H H':Hp}(h:SameBut1 x H H'):SameBut2 x y H H':=λb o h1 _ e=>h b o h1 e
theorem SameBut2.of2{x y:cG}{H H':Hp}(h:SameBut1 y H H'):SameBut2 x y H H':=λb o _ h2 e=>h b o h2 e
theorem SameBut2.trans{x y:cG}{H H1 H2:Hp}(h:SameBut2 x y H H1)(h':SameBut2 x y H1 H2):SameBut2 x y H H2:=λb o a c e=>h' b o a c (h b o a c e)
section
variable{K:cu}{C:cG}{H H':Hp}{s d w e u:cG}{ps ts:List Str}{q:Nat->Prop}{m:Nat}{kvs:List (F7×V)}{xs:List V}
theorem SqT.but2{a:cG}{ys:List V}(he:H e=some (.dK kvs))(hu:H u=some (.lst xs))(z:SameBut2 e u H H')(h:SqT K H a ys):SqT K H' a ys:=by
 rcases h with(h|⟨t,h⟩)|h
 ·exact .inl (.inl (z _ _ (sI h he (λz=>nomatch z)) (sI h hu (λz=>nomatch z)) h))
 ·exact .inl (.inr ⟨t,z _ _ (sI h he (λz=>nomatch z)) (sI h hu (λz=>nomatch z)) h⟩)
 ·exact .inr h
theorem IsR.but2{v:V}{row:List Int}(he:H e=some (.dK kvs))(hu:H u=some (.lst xs))(z:SameBut2 e u H H')(h:IsR K H v row):IsR K H' v row:=by
 obtain⟨a,rfl,h⟩:=h;exact⟨a,rfl,h.but2 he hu z⟩
theorem BookAt.but2{R:List (Str×V)}(he:H e=some (.dK kvs))(hu:H u=some (.lst xs))(z:SameBut2 e u H H')(hne:d≠e)(h:BookAt C H s d ps ts R):BookAt C H' s d ps ts R:=by
 obtain⟨c,b,f,g,a,h1,h2,h3,h4,h5,h6⟩:=h.ex;exact⟨c,b,f,g,a,z _ _ (sI h1 he (λz=>nomatch z)) (sI h1 hu (λz=>nomatch z)) h1,z _ _ (sI h2 he (λz=>nomatch z)) (sI h2 hu (λz=>nomatch z)) h2,h3,z _ _ (sI h4 he (λz=>nomatch z)) (sI h4 hu (λz=>nomatch z)) h4,h5,z _ _ hne (sI h6 hu (λz=>nomatch z)) h6⟩
def Ke(K:cu)(H:Hp)(R:List (Str×V))(ps:List Str)(W:List (List Int))(q:Nat->Prop):Prop:=∀i p row,q i->ps[i]?=some p->W[i]?=some row->LN.Pm ps.length row/\∃v,Ek R p=some v/\IsR K H v row
structure Bk52(K:cu)(C:cG)(H:Hp)(s d w:cG)(ps ts:List Str)(q:Nat->Prop)(m:Nat):Prop where
 ex:∃(us:List V) (W:List (List Int)) (R:List (Str×V)),BookAt C H s d ps ts R/\H w=some (.lst us)/\dr (IsR K H) us W/\W.length=ps.length/\R.length<=m/\Ke K H R ps W q
theorem Bk52.mono(z:Same H H')(h:Bk52 K C H s d w ps ts q m):Bk52 K C H' s d w ps ts q m:=by
 obtain⟨f,W,R,h1,h2,h3,h4,h5,h6⟩:=h.ex;refine⟨f,W,R,h1.mono z,z _ _ h2,Paired.mapP h3 λ_ _ h=>h.mono z,h4,h5,λi p e a b c=>?_⟩;obtain⟨g1,v,g2,g3⟩:=h6 i p e a b c;exact⟨g1,v,g2,g3.mono z⟩
theorem Bk52.but2(he:H e=some (.dK kvs))(hu:H u=some (.lst xs))(z:SameBut2 e u H H')(n1:d≠e)(n2:w≠u)(h:Bk52 K C H s d w ps ts q m):Bk52 K C H' s d w ps ts q m:=by
 obtain⟨g,W,R,h1,h2,h3,h4,h5,h6⟩:=h.ex;refine⟨g,W,R,h1.but2 he hu z n1,z _ _ (sI h2 he (λz=>nomatch z)) n2 h2,Paired.mapP h3 λ_ _ h=>h.but2 he hu z,h4,h5,λi p f a b c=>?_⟩;obtain⟨g1,v,g2,g3⟩:=h6 i p f a b c;exact⟨g1,v,g2,g3.but2 he hu z⟩
theorem Bk52.dk(h:Bk52 K C H s d w ps ts q m):∃kvs,H d=some (.dK kvs):=by
 obtain⟨f,W,R,h1,_⟩:=h.ex;obtain⟨c,b,e,g,a,_,_,_,_,_,h6⟩:=h1.ex;exact⟨_,h6⟩
theorem Bk52.wl(h:Bk52 K C H s d w ps ts q m):∃us,H w=some (.lst us):=by
 obtain⟨us,W,R,h1,h2,_⟩:=h.ex;exact⟨us,h2⟩
theorem Bk52.imp{q':Nat->Prop}{m':Nat}(hq:∀i,i<ps.length->q' i->q i)(hm:m<=m')(h:Bk52 K C H s d w ps ts q m):Bk52 K C H s d w ps ts q' m':=by
 obtain⟨f,W,R,h1,h2,h3,h4,h5,h6⟩:=h.ex;exact⟨f,W,R,h1,h2,h3,h4,dg h5 hm,λi p e a b c=>h6 i p e (hq i (cL.mp b).1 a) b c⟩
theorem Bk52.all(rp:Roll ps)(h:Bk52 K C H s d w ps ts (λ_=>True) m):∃(us:List V) (W:List (List Int)) (R:List (Str×V)),BookAt C H s d ps ts R/\H w=some (.lst us)/\dr (IsR K H) us W/\ToldW K H R ps W/\Fk ps.length W/\(∀p∈ps,Ek R p≠none)/\R.length<=m:=by
 obtain⟨us,W,R,h1,h2,h3,h4,h5,h6⟩:=h.ex;refine⟨us,W,R,h1,h2,h3,sY h4.symm λi p c hp b=>(h6 i p c trivial hp b).2,⟨rp.lo,rp.hi,h4,λr b=>?_⟩,λp hp e=>?_,h5⟩
 ·obtain⟨i,a⟩:=iz.mp b;have f:=(cL.mp a).1;exact(h6 i ps[i] r trivial (cz (by omega)) a).1
 ·obtain⟨i,a⟩:=iz.mp hp;have f:=(cL.mp a).1;obtain⟨_,v,g,_⟩:=h6 i p W[i] trivial a (cz (by omega));rw[e]at g
  cases g
theorem Bk52.put{us:List V}{W:List (List Int)}{R:List (Str×V)}{place:Nat}{p:Str}{row:List Int}{r r0:cG}(rp:Roll ps)(hd:H d=some (.dK kvs))(hw:H w=some (.lst us))(hu:dr (IsR K H) us W)(hW:W.length=ps.length)(hR:R.length<=m)(hq:Ke K H R ps W q)
  (U:SameBut2 d w H H')(hp:ps[place]?=some p)(hb:BookAt C H' s d ps ts (G5 R p (.ref r)))(hw':H' w=some (.lst (us.set place (.ref r0))))(hr:IsR K H' (.ref r) row)(hr0:IsR K H' (.ref r0) row)(hpm:LN.Pm ps.length row):Bk52 K C H' s d w ps ts (λi=>q i\/i=place) (m+1):=by
 have u:=(cL.mp hp).1
 have j:=Paired.len hu
 refine⟨_,W.set place row,_,hb,hw',sY (by rw[jd,jd];exact j) λi v x e a=>?_,by rw[jd];exact hW,dg (yJ ..) (by omega),λi y x b f a=>?_⟩
 ·rw[jw]at e a
  by_cases c:place=i
  ·rw[if_pos c,if_pos (by omega)]at e a
   cases e
   cases a
   exact hr0
  ·rw[if_neg c]at e a
   obtain⟨A,g,o⟩:=Paired.get' hu e
   rw[a]at g
   cases g
   exact o.but2 hd hw U
 ·rw[jw]at a
  by_cases c:place=i
  ·subst c
   rw[if_pos rfl,if_pos (by omega)]at a
   cases a
   rw[hp]at f
   cases f
   exact⟨hpm,_,by rw[xJ,if_pos rfl],hr⟩
  ·rw[if_neg c]at a
   rcases b with b|b
   ·obtain⟨g1,v,g2,g3⟩:=hq i y x b f a
    have h:y≠p:=λz=>c (by
     subst z
     obtain⟨n,t⟩:=cL.mp hp
     obtain⟨l,k⟩:=cL.mp f
     rw[<-yo rp.nd n,<-yo rp.nd l,t,k])
    exact⟨g1,v,by rw[xJ,if_neg h];exact g2,g3.but2 hd hw U⟩
   ·exact absurd b.symm c
end
theorem zL{ts:List Str}:(LM.rng ts.length).map (λt=>ts.getD t.toNat ea)=ts:=by
 unfold LM.rng;refine k8 (by simp) λi h1 h2=>?_
 simp[cC,cz h2]
theorem x5{ts:List Str}{row:List Int}(h:LN.Pm ts.length row):(Ed ts row).Perm ts:=by
 have:=h.map (λt=>ts.getD t.toNat ea);rw[zL]at this;exact this
theorem xP{ts:List Str}{row:List Int}(rt:Roll ts)(h:LN.Pm ts.length row):Gj ts (Ed ts row)=row:=by
 unfold Gj Ed;rw[ij];have:∀t∈row,((λw=>(ts.idxOf w:Int))∘λt=>ts.getD t.toNat ea) t=t:=λt b=>by
  have c:=h.mem.mp b;have a:t.toNat<ts.length:=by omega
  show(ts.idxOf (ts.getD t.toNat ea):Int)=t;rw[cC,cz a];show(ts.idxOf ts[t.toNat]:Int)=t;rw[yo rt.nd a];omega
 rw[fD this];exact List.map_id' row
theorem C5(num:Int)(n:Nat):LN.Pm n (LM.perm num n):=LM.perm_succ_perm num n
theorem wY{ts:List Str}{num:Int}(rt:Roll ts):wordsOf (fe " " (Ed ts (LM.perm num ts.length)))=Ed ts (LM.perm num ts.length):=by
 obtain⟨d,_,a⟩:=wL (num:=num) rt;have h1:=rt.lo;exact tj (λz=>by rw[z]at a;rw[<-a]at h1;exact absurd h1 (by decide)) λw c b=>(d.cs w c 32 b).2 rfl
def dS(T:Int)(x:Str×Int):iN:= .tuple [.str x.1,dF (FQ.red x.2 T)]
theorem Reps.of_shr{K:cu}{H:Hp}{T:Int}:∀{xs:List V} {L:List (Str×Int)},dr (IsShr K H T) xs L->Reps K H xs (L.map (dS T))
 | _,_,.nil=> .nil
 | _,_,.cons h t=>by
  obtain⟨a,g,rfl,h1,h2⟩:=h
  exact .cons (.tup h1 (.cons (.str _) (.cons h2.rep .nil)) (show(2:Nat)<=1000 by decide)) (Reps.of_shr t)
theorem C6{T:Int}{L:List (Str×Int)}(h:∀x∈L,GU x.1):F8 3 (.list (L.map (dS T)))=true:=by
 show(L.map (dS T)).all (F8 2)=true;rw[dZ];intro d b;obtain⟨x,a,rfl⟩:=dv.mp b;show([gK x.1,dF (FQ.red x.2 T)]).all (F8 1)=true;rw[jI,yN (h x a) 1];simp[dF,F8]
def dP(x:Str×Str):iN:= .tuple [.str x.1,.str x.2]
theorem Reps.of_pw{K:cu}{H:Hp}:∀{xs:List V} {L:List (Str×Str)},dr (JR K H) xs L->Reps K H xs (L.map dP)
 | _,_,.nil=> .nil
 | _,_,.cons h t=>by
  obtain⟨a,rfl,h1⟩:=h
  exact .cons (.tup h1 (.cons (.str _) (.cons (.str _) .nil)) (show(2:Nat)<=1000 by decide)) (Reps.of_pw t)
theorem DU{L:List (Str×Str)}(h:∀x∈L,GU x.1/\GU x.2):F8 3 (.list (L.map dP))=true:=by
 show(L.map dP).all (F8 2)=true;rw[dZ];intro d b;obtain⟨x,a,rfl⟩:=dv.mp b;show([gK x.1,gK x.2]).all (F8 1)=true;rw[jI,yN (h x a).1 1,jI,yN (h x a).2 1];rfl
theorem AB{x T:Int}(hT:0<T)(hx:0<=x):0<(FQ.red x T).1↔x≠0:=by
 have h1:=FQ.red_worth (t:=x) (b:=T) (by omega);have h2:=(FQ.red_low (t:=x) (b:=T) (by omega)).pos;constructor
 ·intro h z;rw[z,jt]at h1;have:=gS h hT;rw[z]at this;omega
 ·intro h;have h3:0<x*(FQ.red x T).2:=gS (by omega) h2;rw[<-h1]at h3;exact Int.pos_of_mul_pos_left h3 hT
structure TxtG(ws:List Str):Prop where
 len:ws.length<=8
 sum:(ws.map fH).sum<=300
 cs:∀w∈ws,∀c∈w.cps.toList,c<128/\c≠32
theorem TxtOk.g{ws:List Str}(h:TxtOk ws):TxtG ws:=by
 have a:=h.len;have b:(ws.map fH).sum<=13*ws.length:=tN h.wd;exact⟨by omega,by omega,h.cs⟩
theorem TxtG.out{ws:List Str}(h:TxtG ws):(fe " " ws).length<=500/\GU (fe " " ws)/\(wordsOf (fe " " ws)).length<64:=by
 have d:=h.len;have f:=h.sum;have e:fe " " ws=iV " " ws:=iA " " ws;refine⟨?_,?_,?_⟩
 ·have:(iV " " ws).length<=(ws.map fH).sum+ws.length*(" ":Str).length:=jA " " ws;rw[show(" ":Str).length=1 by decide +kernel]at this;rw[e];omega
 ·rw[e];intro c a;rcases(o4 " " c ws).mp a with⟨w,b,a⟩|⟨_,a⟩
  ·exact(h.cs w b c a).1
  ·rw[Cc]at a;have:c=32:=by simpa using a
   omega
 ·by_cases h0:ws=[]
  ·subst h0;decide +kernel
  ·rw[tj h0 λw b a=>(h.cs w b 32 a).2 rfl];omega
theorem TxtG.sumk{ws:List Str}(h:TxtG ws):(ws.map fH).sum+ws.length<=1048576:=by
 have a:=h.len;have b:=h.sum;omega
theorem Roll.sum{ts:List Str}(h:Roll ts):(ts.map fH).sum<=78:=by
 have b:(ts.map fH).sum<=13*ts.length:=tN λw a=>by have:=(h.wd w a).hi;omega
 have:=h.hi;omega
theorem Roll.sumk{ts:List Str}(h:Roll ts):(ts.map fH).sum+ts.length<=1048576:=by
 have:=h.sum;have:=h.hi;omega
theorem A0(o:Str):∀(ws:List Str) (k:Nat),((ws.set k o).map fH).sum<=(ws.map fH).sum+o.length
 | [],_=>du _
 | x::ws,0=>by
  simp only[List.set_cons_zero,dN,eQ]
  omega
 | x::ws,k+1=>by
  have:=A0 o ws k
  simp only[List.set_cons_succ,dN,eQ]
  omega
theorem TxtOk.gset{ws:List Str}{k:Nat}{o:Str}(h:TxtOk ws)(h1:o.length<=100)(h2:∀c∈o.cps.toList,c<128/\c≠32):TxtG (ws.set k o):=by
 have b:=h.len;have d:(ws.map fH).sum<=13*ws.length:=tN h.wd;have:=A0 o ws k;refine⟨by rw[jd];omega,by omega,λw a=>?_⟩;rcases kt a with z|z
 ·exact h.cs w z
 ·rw[z];exact h2
theorem TxtOk.gapp{ws:List Str}{o:Str}(h:TxtOk ws)(ho:o∈ws):TxtG (ws++[o]):=by
 have b:=h.len;have c:(ws.map fH).sum<=13*ws.length:=tN h.wd;have:=h.wd o ho;refine⟨by rw[dq,eT];omega,?_,λw a=>?_⟩
 ·rw[cS,oC,dN,qb,eQ,List.sum_nil];omega
 ·rcases dJ.mp a with z|z
  ·exact h.cs w z
  ·rw[cK.mp z];exact h.cs o ho
theorem TxtOk.gdrop{ws:List Str}(h:TxtOk ws):TxtG ws.dropLast:=by
 have b:∀w∈ws.dropLast,w∈ws:=λw a=>jN _ a
 exact TxtOk.g ⟨dg (by rw[gQ];omega) h.len,λw a=>h.wd w (b w a),λw a=>h.cs w (b w a)⟩
theorem Jp{ts:List Str}(h:Roll ts):fe "" ts++"q"∉ts/\(fe "" ts++"q").length<=100/\(∀c∈(fe "" ts++"q").cps.toList,c<128/\c≠32)/\(fe "" ts).length+("q":Str).length<=1000:=by
 have e:fe "" ts=iV "" ts:=iA "" ts;have b:("q":Str).length=1:=by decide +kernel
 have f:("":Str).length=0:=by decide +kernel
 have g:(iV "" ts).length<=(ts.map fH).sum+ts.length*("":Str).length:=jA "" ts;rw[f]at g;have j:=h.sum;rw[e];refine⟨λz=>?_,?_,DC (λc a=>?_) (Dz (by decide +kernel)),by omega⟩
 ·have:=join_mem_le "" ts _ z;rw[tz,b]at this;omega
 ·rw[tz,b];omega
 ·rcases(o4 "" c ts).mp a with⟨w,d,a⟩|⟨_,a⟩
  ·have:=(h.wd w d).cs c a;omega
  ·exact absurd a (by rw[show("":Str).cps.toList=[]by decide +kernel];exact λz=>nomatch z)
theorem A7{ts ws:List Str}{k:Nat}{f:Str}(ok:TxtOk ws)(hk:k<ws.length)(h1:f∉ts)(h2:∀c∈f.cps.toList,c<128/\c≠32):¬(wordsOf (fe " " (ws.set k f))).Perm ts:=λz=>by
 have b:f∈ws.set k f:=List.mem_set hk f;rw[tj (λe=>by rw[e]at b;exact nomatch b) λw d a=>?_]at z
 ·exact h1 (z.mem_iff.mp b)
 ·rcases kt d with y|y
  ·exact(ok.cs w y 32 a).2 rfl
  ·rw[y]at a;exact(h2 32 a).2 rfl
theorem zY{ts ws:List Str}{o:Str}(ok:TxtOk ws)(ho:o∈ws)(hl:ws.length=ts.length):¬(wordsOf (fe " " (ws++[o]))).Perm ts:=λz=>by
 rw[tj (by simp) λw b a=>?_]at z
 ·have:=z.length_eq;rw[dq,eT]at this;omega
 ·rcases dJ.mp b with y|y
  ·exact(ok.cs w y 32 a).2 rfl
  ·rw[cK.mp y]at a;exact(ok.cs o ho 32 a).2 rfl
theorem Az{ts ws:List Str}(ok:TxtOk ws)(rt:Roll ts)(hl:ws.length=ts.length):¬(wordsOf (fe " " ws.dropLast)).Perm ts:=λz=>by
 have h1:=rt.lo;by_cases h0:ws.dropLast=[]
 ·rw[h0,show wordsOf (fe " " [])=[ea]by decide +kernel]at z;have:=(rt.wd _ (z.mem_iff.mp cM)).lo;exact absurd this (by decide)
 ·rw[tj h0 λw b a=>(ok.cs w (jN _ b) 32 a).2 rfl]at z;have:=z.length_eq;rw[gQ]at this;omega
theorem CC(n:Nat): -(2^62)<=(n:Int):=nF (by decide) (m3 n)
theorem Cp{n:Nat}(h:n<=1000):(n:Int)<2^62:=Int.lt_of_le_of_lt (ql.mpr h) (by decide)
theorem K3(b:Bool):∃way:Str,(way="eaten"\/way="turns")/\G0 [V.str "eaten",V.str "turns"] (if b=true then 1 else 0)=some (.str way):=by
 cases b with
 | true=>exact⟨_,.inr rfl,rfl⟩
 | false=>exact⟨_,.inl rfl,rfl⟩
theorem K7{c:Prop}{_:Decidable c}{A:Prop}{G:Hp->Prop}(P:Hp->Prop)(H:Hp)(hx:P H)(h:∀H,P H->G H)(hA:(∀H,P H->G H)->A):if decide c=true then A else G H:=by
 by_cases e:c
 ·exact IY e (hA h)
 ·exact G9 e (h H hx)
theorem Lo{t b:Int}(h0:0<=t)(h1:t<b)(hb:b<=1000000):Sz 2000 (FQ.red t b)/\0<(FQ.red t b).2/\¬EL (FQ.red t b):=by
 have a:=FQ.red_worth (t:=t) (b:=b) (by omega);have hp:=(FQ.red_low (t:=t) (b:=b) (by omega)).pos;refine⟨tQ (by omega) (cU (show t.natAbs<2^20 by omega) ?_) (cU (show b.natAbs<2^20 by omega) ?_),hp,xS.mpr ⟨?_,?_⟩⟩
 ·exact eA (by decide) (by decide)
 ·exact eA (by decide) (by decide)
 ·refine oO.mp λz=>?_
  have h2:(FQ.red t b).1*b<0:=Int.mul_neg_of_neg_of_pos z (by omega);have h3:0<=t*(FQ.red t b).2:=iP h0 (by omega);omega
 ·refine Int.not_le.mp λz=>?_
  have h2:(FQ.red t b).2*b<=(FQ.red t b).1*b:=eZ z (by omega);have h3:t*(FQ.red t b).2<b*(FQ.red t b).2:=fZ h1 hp;rw[gl b]at h3;omega
def GR(K:cu)(C:cG):Sp:=λvs H Q _=>∃(s d w pl tl:cG) (ps ts:List Str) (q:Nat->Prop) (m place:Nat) (num:Int),vs=[.ref s,.ref pl,.ref tl,.ref w,.int place,.int num]/\Bk52 K C H s d w ps ts q m/\m<900/\Roll ps/\Roll ts/\ts.length=ps.length/\
 H pl=some (.lst (ps.map V.str))/\H tl=some (.lst (ts.map V.str))/\pl≠w/\tl≠w/\place<ps.length/\∀H',SameBut2 d w H H'->Bk52 K C H' s d w ps ts (λi=>q i\/i=place) (m+1)->Q .non H'
def Gi(K:cu)(C:cG):Sp:=λvs H Q _=>∃(s d w pl tl xa:cG) (ps ts:List Str) (q:Nat->Prop) (m:Nat) (xs:List Int),vs=[.ref s,.ref pl,.ref tl,.ref xa]/\Bk52 K C H s d w ps ts q m/\m<900/\Roll ps/\Roll ts/\ts.length=ps.length/\
 SqL K H pl (ps.map V.str)/\SqL K H tl (ts.map V.str)/\SqL K H xa (xs.map V.int)/\xs.length=7/\∀H',Same H H'->Q (.bl true) H'
def FO(K:cu)(C:cG):Sp:=λvs H Q _=>∃(s d w pl tl:cG) (ps ts:List Str) (m place:Nat) (way:Str),vs=[.ref s,.ref pl,.ref tl,.ref w,.int place,.str way]/\Bk52 K C H s d w ps ts (λ_=>True) m/\Roll ps/\Roll ts/\ts.length=ps.length/\
 SqL K H pl (ps.map V.str)/\SqL K H tl (ts.map V.str)/\place<ps.length/\(way="eaten"\/way="turns")/\∀H',Same H H'->Q (.bl true) H'
def Hc(K:cu)(C:cG):Sp:=λvs H Q _=>∃(s d w pl tl g:cG) (ps ts:List Str) (m:Nat) (way:Str) (num:Int×Int),vs=[.ref s,.ref pl,.ref tl,.ref w,.str way,.ref g]/\Bk52 K C H s d w ps ts (λ_=>True) m/\Roll ps/\Roll ts/\ts.length=ps.length/\
 SqL K H pl (ps.map V.str)/\SqL K H tl (ts.map V.str)/\(way="eaten"\/way="turns")/\IsF K H (.ref g) num/\Sz 2000 num/\0<num.2/\¬EL num/\∀H',Same H H'->Q (.bl true) H'
def Ih(K:cu)(C:cG):Sp:=λvs H Q _=>∃(s d w pl tl xa:cG) (ps ts:List Str) (m:Nat) (xs:List Int),vs=[.ref s,.ref pl,.ref tl,.ref w,.ref xa]/\Bk52 K C H s d w ps ts (λ_=>True) m/\m<900/\Roll ps/\Roll ts/\ts.length=ps.length/\
 H pl=some (.lst (ps.map V.str))/\H tl=some (.lst (ts.map V.str))/\pl≠w/\tl≠w/\SqL K H xa (xs.map V.int)/\xs.length=7/\(∀x∈xs,0<=x/\x<2147483647)/\∀H',SameBut2 d w H H'->Bk52 K C H' s d w ps ts (λ_=>True) (m+1)->Q (.bl true) H'
def pk{α:Type}(x y:α):Nat->α
 | 0=>x
 | _=>y
theorem wT{x y:cG}{j:Nat}(hj:j<2):G0 [V.ref x,V.ref y] (j:Int)=some (.ref (pk x y j)):=by
 rcases(show j=0\/j=1 by omega)with rfl|rfl
 ·rfl
 ·rfl
theorem zV{x y:cG}{j:Nat}(hj:j<2):G0 [V.ref x,V.ref y] (1-(j:Int))=some (.ref (pk x y (1-j))):=by
 rcases(show j=0\/j=1 by omega)with rfl|rfl
 ·rfl
 ·rfl
structure At52(K:cu)(C:cG)(H:Hp)(rl bl tl p0 p1 s0 s1 d0 d1 w0 w1:cG)(A B:List Str)(q:Nat->Nat->Prop)(m:Nat):Prop where
 rl:H rl=some (.lst [.ref p0,.ref p1])
 bl:H bl=some (.lst [.ref s0,.ref s1])
 tl:H tl=some (.lst [.ref w0,.ref w1])
 ro:∀j,H (pk p0 p1 j)=some (.lst ((pk A B j).map V.str))
 bk:∀j,j<2->Bk52 K C H (pk s0 s1 j) (pk d0 d1 j) (pk w0 w1 j) (pk A B j) (pk A B (1-j)) (q j) m
structure LP(rl bl tl p0 p1 d0 d1 w0 w1:cG):Prop where
 rl:∀j,rl≠pk w0 w1 j
 bl:∀j,bl≠pk w0 w1 j
 tl:∀j,tl≠pk w0 w1 j
 ro:∀i j,pk p0 p1 i≠pk w0 w1 j
 dd:d0≠d1
 ww:w0≠w1
theorem DB{x y:cG}{i j:Nat}(h:x≠y)(hi:i<2)(hj:j<2)(hij:i≠j):pk x y i≠pk x y j:=by
 rcases(show i=0\/i=1 by omega)with rfl|rfl
 ·obtain rfl:j=1:=by omega
  exact h
 ·obtain rfl:j=0:=by omega
  exact Ne.symm h
theorem ui{α:Type}{x y:α}{P:α->Prop}(h1:P x)(h2:P y):∀j,P (pk x y j)
 | 0=>h1
 | _+1=>h2
section
variable{K:cu}{C:cG}{H H':Hp}{rl bl tl p0 p1 s0 s1 d0 d1 w0 w1:cG}{A B:List Str}{q:Nat->Nat->Prop}{m m':Nat}
theorem At52.mono(z:Same H H')(h:At52 K C H rl bl tl p0 p1 s0 s1 d0 d1 w0 w1 A B q m):At52 K C H' rl bl tl p0 p1 s0 s1 d0 d1 w0 w1 A B q m:=
 ⟨z _ _ h.rl,z _ _ h.bl,z _ _ h.tl,λj=>z _ _ (h.ro j),λj a=>(h.bk j a).mono z⟩
theorem At52.imp{q':Nat->Nat->Prop}(hq:∀j,j<2->∀i,i<(pk A B j).length->q' j i->q j i)(hm:m<=m')(h:At52 K C H rl bl tl p0 p1 s0 s1 d0 d1 w0 w1 A B q m):At52 K C H rl bl tl p0 p1 s0 s1 d0 d1 w0 w1 A B q' m':=
 ⟨h.rl,h.bl,h.tl,h.ro,λj a=>(h.bk j a).imp (hq j a) hm⟩
theorem At52.step{j:Nat}{qj:Nat->Prop}(D:LP rl bl tl p0 p1 d0 d1 w0 w1)(hj:j<2)(h:At52 K C H rl bl tl p0 p1 s0 s1 d0 d1 w0 w1 A B q m)(U:SameBut2 (pk d0 d1 j) (pk w0 w1 j) H H')
  (hb:Bk52 K C H' (pk s0 s1 j) (pk d0 d1 j) (pk w0 w1 j) (pk A B j) (pk A B (1-j)) qj m')(hm:m<=m'):At52 K C H' rl bl tl p0 p1 s0 s1 d0 d1 w0 w1 A B (λi x=>if i=j then qj x else q i x) m':=by
 obtain⟨e,a⟩:=(h.bk j hj).dk
 obtain⟨f,d⟩:=(h.bk j hj).wl
 refine⟨U _ _ (sI h.rl a (λz=>nomatch z)) (D.rl j) h.rl,U _ _ (sI h.bl a (λz=>nomatch z)) (D.bl j) h.bl,U _ _ (sI h.tl a (λz=>nomatch z)) (D.tl j) h.tl,λi=>U _ _ (sI (h.ro i) a (λz=>nomatch z)) (D.ro i j) (h.ro i),λi b=>?_⟩
 by_cases c:i=j
 ·subst c
  exact hb.imp (λx _ z=>by simpa using z) (cI _)
 ·exact((h.bk i b).but2 a d U (DB D.dd b hj c) (DB D.ww b hj c)).imp (λx _ z=>by simpa [c]using z) hm
end
theorem SqL.free{K:cu}{H:Hp}{a b:cG}{xs:List V}(h:SqL K H a xs)(hb:H b=none):a≠b\/∀H',SqL K H' a xs:=by
 rcases h with(h|⟨u,h⟩)|h
 ·exact .inl (rE h hb)
 ·exact .inl (rE h hb)
 ·exact .inr λ_=> .inr h
theorem SqL.overF{K:cu}{H:Hp}{a b:cG}{xs:List V}{o:HO}(hf:a≠b\/∀H',SqL K H' a xs)(h:SqL K H a xs):SqL K (upd H b o) a xs:=by
 rcases hf with hf|hf
 ·rcases h with(h|⟨u,h⟩)|h
  ·exact .inl (.inl (by rw[rG hf];exact h))
  ·exact .inl (.inr ⟨u,by rw[rG hf];exact h⟩)
  ·exact .inr h
 ·exact hf _
theorem SqL.keep2{K:cu}{H H':Hp}{a d w:cG}{xs:List V}{kvs:List (F7×V)}(hf:a≠w\/∀H',SqL K H' a xs)(hd:H d=some (.dK kvs))(U:SameBut2 d w H H')(h:SqL K H a xs):SqL K H' a xs:=by
 rcases hf with hf|hf
 ·rcases h with(h|⟨u,h⟩)|h
  ·exact .inl (.inl (U _ _ (sI h hd (λz=>nomatch z)) hf h))
  ·exact .inl (.inr ⟨u,U _ _ (sI h hd (λz=>nomatch z)) hf h⟩)
  ·exact .inr h
 ·exact hf _
theorem KP{i j x k:Nat}(z:i<j\/(i=j/\x<k+1)):if i=j then((j<j\/(j=j/\x<k))\/x=k)else(i<j\/(i=j/\x<k)):=by
 split <;> omega
theorem zX(c:Int){j:Nat}(hj:j<2):G0 ((LM.mixed c 2).map V.int) (j:Int)=some (.int ((LM.mixed c 2).getD j 0)):=vD (by rw[LM.mixed_len];exact hj)
end L2
namespace Nk52
open PySem PySem.Spec PyProof.Rows L2
def Eb(i:Nat):Stmt:=cJ.main.body.getD i (.Pass ⟨0,0,0,0⟩)
def G8(i j:Nat):Stmt:=match Eb i with | .ClassDef _ _ _ b _ _ _ _ _ _ _=>b.getD j (.Pass ⟨0,0,0,0⟩)|s=>s
structure Md(K:cu)(mg:Str->Option cA)(x:Xs)(cB:cG):Prop where
 f_is_whole:Def K mg "is_whole" (Eb 12)
 f_common_divisor:Def K mg "common_divisor" (Eb 13)
 f_fraction:Def K mg "fraction" (Eb 14)
 f_plus:Def K mg "plus" (Eb 15)
 f_minus:Def K mg "minus" (Eb 16)
 f_times:Def K mg "times" (Eb 17)
 f_before:Def K mg "before" (Eb 18)
 f_total:Def K mg "total" (Eb 19)
 f_least:Def K mg "least" (Eb 20)
 f_best_left:Def K mg "best_left" (Eb 22)
 f_time_to_stop:Def K mg "time_to_stop" (Eb 23)
 f_left_behind:Def K mg "left_behind" (Eb 24)
 f_courses_of:Def K mg "courses_of" (Eb 25)
 f_eaten_of:Def K mg "eaten_of" (Eb 26)
 f_eaten_by:Def K mg "eaten_by" (Eb 27)
 f_eaten:Def K mg "eaten" (Eb 28)
 f_deal_within:Def K mg "deal_within" (Eb 30)
 f_row_without:Def K mg "row_without" (Eb 31)
 f_lots_of:Def K mg "lots_of" (Eb 32)
 f_picked:Def K mg "picked" (Eb 33)
 f_is_listing:Def K mg "is_listing" (Eb 36)
 f_has_people:Def K mg "has_people" (Eb 37)
 f_best_free:Def K mg "best_free" (Eb 39)
 f_with_one:Def K mg "with_one" (Eb 40)
 f_turns_from:Def K mg "turns_from" (Eb 41)
 f_orders_of:Def K mg "orders_of" (Eb 42)
 f_counts_of:Def K mg "counts_of" (Eb 43)
 f_shares_by_turns:Def K mg "shares_by_turns" (Eb 44)
 f_by_turns:Def K mg "by_turns" (Eb 45)
 f_is_word:Def K mg "is_word" (Eb 48)
 f_is_roll:Def K mg "is_roll" (Eb 49)
 k_Book:BDef K mg cB "Book" "Book.__init__" (G8 50 0)
 cl:Cls K cB
 na_people:NoAttr K cB "people"
 na_things:NoAttr K cB "things"
 na_wishes_told:NoAttr K cB "wishes_told"
 m_check_person:MDef K cB "check_person" "Book.check_person" (G8 50 1)
 m_wish:MDef K cB "wish" "Book.wish" (G8 50 2)
 m_lacking:MDef K cB "lacking" "Book.lacking" (G8 50 3)
 m_table_by:MDef K cB "table_by" "Book.table_by" (G8 50 4)
 m_shares:MDef K cB "shares" "Book.shares" (G8 50 5)
 m_deal:MDef K cB "deal" "Book.deal" (G8 50 6)
 f__law_cell_at:Def K mg "_law_cell_at" (Eb 52)
 f__law_mixed:Def K mg "_law_mixed" (Eb 53)
 f__law_perm:Def K mg "_law_perm" (Eb 54)
 f__law_base:Def K mg "_law_base" (Eb 57)
 f__law_word:Def K mg "_law_word" (Eb 58)
 f__law_words:Def K mg "_law_words" (Eb 59)
 f__law_divisor:Def K mg "_law_divisor" (Eb 55)
 f__law_lowest:Def K mg "_law_lowest" (Eb 56)
 f__law_same:Def K mg "_law_same" (Eb 60)
 f__law_table_by:Def K mg "_law_table_by" (Eb 61)
 f__law_shares_well:Def K mg "_law_shares_well" (Eb 62)
 f__law_deal_well:Def K mg "_law_deal_well" (Eb 63)
 f__law_wish:Def K mg "_law_wish" (Eb 64)
 f__law_refused:Def K mg "_law_refused" (Eb 65)
 f__law_deed:Def K mg "_law_deed" (Eb 66)
 b_isinstance:mg "isinstance"=none
 b_int:mg "int"=none
 b_bool:mg "bool"=none
 b_str:mg "str"=none
 b_list:mg "list"=none
 b_tuple:mg "tuple"=none
 b_abs:mg "abs"=none
 b_len:mg "len"=none
 b_range:mg "range"=none
 b_sorted:mg "sorted"=none
 b_set:mg "set"=none
 b_enumerate:mg "enumerate"=none
 b_zip:mg "zip"=none
 b_any:mg "any"=none
 b_all:mg "all"=none
 b_min:mg "min"=none
 b_max:mg "max"=none
 b_sum:mg "sum"=none
 b_ValueError:mg "ValueError"=none
 c_NOTHING:J1 K mg "NOTHING" [.int 0,.int 1]
 c_WHOLE:J1 K mg "WHOLE" [.int 1,.int 1]
 c_MOST_PEOPLE:∃t,mg "MOST_PEOPLE"=some (.int 6 t)
 c_MOST_SIGNS:∃t,mg "MOST_SIGNS"=some (.int 12 t)
 x_WishError:GZ K mg "WishError" x.WishError
 x_NoFraction:GZ K mg "NoFraction" x.NoFraction
 x_NoWishes:GZ K mg "NoWishes" x.NoWishes
 x_NoPick:GZ K mg "NoPick" x.NoPick
 x_NoRoll:GZ K mg "NoRoll" x.NoRoll
 x_NoPerson:GZ K mg "NoPerson" x.NoPerson
 x_Unready:GZ K mg "Unready" x.Unready
 x_NoWay:GZ K mg "NoWay" x.NoWay
 e_NoWishes:mz K x.NoWishes (.ref x.NoWishes)=some true
section
variable{P:cT}{w:dc}{K:cu}{mg:Str->Option cA}{base:Heap}{x:Xs}{cB:cG}
theorem Gg:Ea ["value"] ["value"] (D7 (Eb 12)):=⟨rfl,rfl,rfl,by decide +kernel,rfl,by decide +kernel,by decide +kernel⟩
set_option maxHeartbeats 4000000
theorem IO(M:Md K mg x cB):Dn P w K mg base Eh 1 "is_whole" ["value"] (Ji):=by
 have e:=(Gg).nd;refine M.f_is_whole.ok Gg (λvs H Q E h=>?_) (λ_ _ _ _ _ _ c b=>match c,b with|[_],_=>rfl) (λf d A a s H vs Q E g h=>?_)
 ·obtain⟨i,rfl,q⟩:=h;rfl
 obtain⟨i,rfl,q⟩:=h;refine⟨_,(rC (rL (uF (rH sq rfl M.b_isinstance Boot.«isinstance» (mM (pv 0) (mM (tR rfl M.b_int Boot.«int») rq))) (vJ (Cr (rH sq rfl M.b_isinstance Boot.«isinstance» (mM (pv 0) (mM (tR rfl M.b_bool Boot.«bool») rq)))))))),?_⟩;refine⟨_,rfl,.int i,"int","int",rfl,by decide,rfl,_,rfl,?_⟩;refine EN ⟨_,rfl,.int i,"bool","int",rfl,by decide,rfl,_,rfl,q⟩
theorem EU:Ea ["one","two","greater","smaller","rest"] ["one","two"] (D7 (Eb 13)):=⟨rfl,rfl,rfl,by decide +kernel,rfl,by decide +kernel,by decide +kernel⟩
theorem Gd(M:Md K mg x cB):Dn P w K mg base Eh 1 "common_divisor" ["one","two"] (Kg):=by
 have g:=(EU).nd;refine M.f_common_divisor.ok EU (λvs H Q E h=>?_) (λ_ _ _ _ _ _ B F=>match B,F with|[_,_],_=>rfl) (λf G A p s H vs Q E L h=>?_)
 ·obtain⟨i,j,rfl,q⟩:=h;rfl
 obtain⟨i,j,rfl,q⟩:=h;refine⟨_,(rn (rF (i:=2) g rfl (Or.inl rfl) (rH wu rfl M.b_abs Boot.«abs» (mM (pv 0) rq)))
   (rn (rF (i:=3) g rfl (Or.inl rfl) (rH wu rfl M.b_abs Boot.«abs» (mM (pv 1) rq)))
   (rn (uD dA (rQ zC (pv 3) rD (Ee _)) (rn (rF (i:=4) g rfl (Or.inl rfl) (rN rY (pv 2) (pv 3)))
   (rn (rF (i:=2) g rfl (Or.inl rfl) (pv 3))
   (rC (rF (i:=3) g rfl (Or.inl rfl) (pv 4))))))
   (rC (rL (pv 2)))))),?_⟩
 refine⟨_,rfl,i,rfl,_,rfl,j,rfl,?_⟩;refine yq (λm l n=>n=H/\∃(a b:Int) (r:Option V),l=[some (.int i),some (.int j),some (.int a),some (.int b),r]/\0<=a/\0<=b/\Int.gcd a b=Int.gcd i j/\m=b.toNat)
  ⟨_,rfl,_,_,_,rfl,?_,?_,?_,rfl⟩ (λm l n t=>?_) (λl n J N C h=>?_)
 ·split <;> omega
 ·split <;> omega
 ·split <;> split <;> simp
 ·obtain⟨rfl,a,b,r,rfl,I,y,o,rfl⟩:=t;refine⟨_,rfl,rfl,_,rfl,?_⟩;refine Jq (λc=>?_) (λc=>?_)
  ·have d:b≠0:=λz=>by subst z;simp at c
   refine⟨_,rfl,_,rfl,a,b,rfl,rfl,by show(0:Int)<b;omega,_,rfl,_,rfl,?_⟩;refine⟨(a%b).toNat,?_,rfl,b,a%b,_,rfl,y,dO _ d,?_,rfl⟩
   ·have:=dC a (show 0<b by omega);have:=dO a d;omega
   ·rw[FQ.gcd_turn,o]
  ·have d:b=0:=by
    by_cases z:b=0
    ·exact z
    ·exact absurd (by simpa using z) c
   subst d;refine⟨_,rfl,?_⟩;have e:(a:Int)=(Int.gcd i j:Int):=by rw[<-o];simp;omega
   rw[e];exact q
 ·obtain⟨v,e,D,k,u,q⟩:=h;exact⟨v,e,D,k,u,C _ _ q⟩
theorem Gm:Ea ["top","bottom","divisor"] ["top","bottom"] (D7 (Eb 14)):=⟨rfl,rfl,rfl,by decide +kernel,rfl,by decide +kernel,by decide +kernel⟩
theorem IG(M:Md K mg x cB)
  (Gis_whole:Dn P w K mg base Eh 1 "is_whole" ["value"] (Ji))
  (Gcommon_divisor:Dn P w K mg base Eh 1 "common_divisor" ["one","two"] (Kg)):Dn P w K mg base (FJ P w) 2 "fraction" ["top","bottom"] (EH x):=by
 have k:=(Gm).nd
 refine M.f_fraction.okE Gm (λvs H Q E h=>?_) (λ_ _ _ _ _ _ r o=>match r,o with|[_,_],_=>rfl) (λf v A n s H vs Q E a h=>?_)
 ·obtain⟨t,b,rfl,l,q⟩:=h
  rfl
 obtain⟨t,b,rfl,l,q⟩:=h
 refine⟨_,(rn (su (PW.pt (xI (tD (sM (rR Gis_whole a (by decide) rfl Ec (mM (pv 0) rq)))) (xI (tD (sM (rR Gis_whole a (by decide) rfl Ec (mM (pv 1) rq)))) (wh (rQ tO (pv 1) rD (Ee _)))))) (rC (tM M.x_NoFraction rfl (mM sB rq))) rS)
   (rn (rF (i:=2) k rfl (Or.inl rfl) (rR Gcommon_divisor a (by decide) rfl Ec (mM (pv 0) (mM (pv 1) rq))))
   (rn (su (rQ z7 (pv 1) rD (Ee _)) (rC (rF (i:=2) k rfl (Or.inl rfl) (DX Dy (pv 2)))) rS)
   (rC (rL (sE (mM (rN AL (pv 0) (pv 2)) (mM (rN AL (pv 1) (pv 2)) rq)))))))),?_⟩
 refine⟨_,rfl,t,rfl,_,rfl,Eo ⟨_,rfl,b,rfl,_,rfl,Eo ⟨_,rfl,rfl,_,rfl,EA (λc=>?_) (λc=>?_)⟩⟩⟩
 ·exact⟨by show 1<=sizeLine;decide,l (Kl c)⟩
 have j:b≠0:=λz=>c (by rw[z])
 obtain⟨u,q⟩:=q j
 refine⟨_,rfl,_,rfl,t,b,rfl,?_⟩
 refine⟨_,rfl,b,0,rfl,rfl,_,rfl,?_⟩
 have m:=uT (t:=t) j u
 refine Jq (λc=>?_) (λc=>?_)
 ·have g:b<0:=of_decide_eq_true c
  have e:=m.1 g
  refine⟨_,rfl,_,rfl,?_⟩
  refine⟨_,rfl,_,rfl,t,_,rfl,rfl,e.1,_,rfl,_,rfl,b,_,rfl,rfl,e.1,by show 2<=sizeLine;decide,λp hp=>q p _ (rr hp _) ?_⟩
  rw[rz]
  show some (HO.tup [V.int (t.fdiv _),V.int (b.fdiv _)])=_
  rw[e.2.1,e.2.2]
  rfl
 ·have d:¬b<0:=of_decide_eq_false (Bool.eq_false_iff.mpr c)
  have e:=m.2 d
  refine⟨_,rfl,_,rfl,t,_,rfl,rfl,e.1,_,rfl,_,rfl,b,_,rfl,rfl,e.1,by show 2<=sizeLine;decide,λp hp=>q p _ (rr hp _) ?_⟩
  rw[rz]
  show some (HO.tup [V.int (t.fdiv _),V.int (b.fdiv _)])=_
  rw[e.2.1,e.2.2]
  rfl
theorem Jb:Ea ["one","two"] ["one","two"] (D7 (Eb 15)):=⟨rfl,rfl,rfl,by decide +kernel,rfl,by decide +kernel,by decide +kernel⟩
theorem KH(M:Md K mg x cB)
  (Gfraction:Dn P w K mg base (FJ P w) 2 "fraction" ["top","bottom"] (EH x)):Dn P w K mg base Eh 3 "plus" ["one","two"] (G4 FK K):=by
 have B:=(Jb).nd
 refine M.f_plus.ok Jb (λvs H Q E h=>?_) (λ_ _ _ _ _ _ o m=>match o,m with|[_,_],_=>rfl) (λf v A l s H vs Q E n h=>?_)
 ·obtain⟨a,b,x,y,rfl,c,d,k,e,q⟩:=h
  rfl
 obtain⟨a,b,x,y,rfl,c,d,k,e,q⟩:=h
 refine⟨_,(rC (rL (rR Gfraction n (by decide) rfl FG (mM (rN sC (rN sx (rM sj (pv 0) rD (λ_ _=>rfl)) (rM sj (pv 1) rD (λ_ _=>rfl))) (rN sx (rM sj (pv 1) rD (λ_ _=>rfl)) (rM sj (pv 0) rD (λ_ _=>rfl)))) (mM (rN sx (rM sj (pv 0) rD (λ_ _=>rfl)) (rM sj (pv 1) rD (λ_ _=>rfl))) rq))))),?_⟩
 obtain⟨p,j,t⟩:=k
 obtain⟨u,g,r⟩:=e
 refine⟨_,rfl,a,_,0,_,rfl,rfl,c,rfl,?_⟩
 refine⟨_,rfl,b,_,1,_,rfl,rfl,d,rfl,?_⟩
 refine⟨_,_,rfl,rfl,G1 p g,?_⟩
 refine⟨_,rfl,b,_,0,_,rfl,rfl,d,rfl,?_⟩
 refine⟨_,rfl,a,_,1,_,rfl,rfl,c,rfl,?_⟩
 refine⟨_,_,rfl,rfl,G1 u j,?_⟩
 refine⟨_,_,rfl,rfl,?_⟩
 refine⟨_,rfl,a,_,1,_,rfl,rfl,c,rfl,?_⟩
 refine⟨_,rfl,b,_,1,_,rfl,rfl,d,rfl,?_⟩
 refine⟨_,_,rfl,rfl,G1 j g,?_⟩
 exact⟨_,_,rfl,λz=>absurd z (dE t r),λ_=>⟨KE j g,q⟩⟩
theorem Ir:Ea ["one","two"] ["one","two"] (D7 (Eb 16)):=⟨rfl,rfl,rfl,by decide +kernel,rfl,by decide +kernel,by decide +kernel⟩
theorem J3(M:Md K mg x cB)
  (Gfraction:Dn P w K mg base (FJ P w) 2 "fraction" ["top","bottom"] (EH x)):Dn P w K mg base Eh 3 "minus" ["one","two"] (G4 IW K):=by
 have B:=(Ir).nd
 refine M.f_minus.ok Ir (λvs H Q E h=>?_) (λ_ _ _ _ _ _ o m=>match o,m with|[_,_],_=>rfl) (λf v A l s H vs Q E n h=>?_)
 ·obtain⟨a,b,x,y,rfl,c,d,k,e,q⟩:=h
  rfl
 obtain⟨a,b,x,y,rfl,c,d,k,e,q⟩:=h
 refine⟨_,(rC (rL (rR Gfraction n (by decide) rfl FG (mM (rN v4 (rN sx (rM sj (pv 0) rD (λ_ _=>rfl)) (rM sj (pv 1) rD (λ_ _=>rfl))) (rN sx (rM sj (pv 1) rD (λ_ _=>rfl)) (rM sj (pv 0) rD (λ_ _=>rfl)))) (mM (rN sx (rM sj (pv 0) rD (λ_ _=>rfl)) (rM sj (pv 1) rD (λ_ _=>rfl))) rq))))),?_⟩
 obtain⟨p,j,t⟩:=k
 obtain⟨u,g,r⟩:=e
 refine⟨_,rfl,a,_,0,_,rfl,rfl,c,rfl,?_⟩
 refine⟨_,rfl,b,_,1,_,rfl,rfl,d,rfl,?_⟩
 refine⟨_,_,rfl,rfl,G1 p g,?_⟩
 refine⟨_,rfl,b,_,0,_,rfl,rfl,d,rfl,?_⟩
 refine⟨_,rfl,a,_,1,_,rfl,rfl,c,rfl,?_⟩
 refine⟨_,_,rfl,rfl,G1 u j,?_⟩
 refine⟨_,_,rfl,rfl,?_⟩
 refine⟨_,rfl,a,_,1,_,rfl,rfl,c,rfl,?_⟩
 refine⟨_,rfl,b,_,1,_,rfl,rfl,d,rfl,?_⟩
 refine⟨_,_,rfl,rfl,G1 j g,?_⟩
 exact⟨_,_,rfl,λz=>absurd z (dE t r),λ_=>⟨KE j g,q⟩⟩
theorem Ie:Ea ["one","two"] ["one","two"] (D7 (Eb 17)):=⟨rfl,rfl,rfl,by decide +kernel,rfl,by decide +kernel,by decide +kernel⟩
theorem J8(M:Md K mg x cB)
  (Gfraction:Dn P w K mg base (FJ P w) 2 "fraction" ["top","bottom"] (EH x)):Dn P w K mg base Eh 3 "times" ["one","two"] (G4 IF K):=by
 have B:=(Ie).nd
 refine M.f_times.ok Ie (λvs H Q E h=>?_) (λ_ _ _ _ _ _ o m=>match o,m with|[_,_],_=>rfl) (λf v A l s H vs Q E n h=>?_)
 ·obtain⟨a,b,x,y,rfl,d,e,k,c,q⟩:=h
  rfl
 obtain⟨a,b,x,y,rfl,d,e,k,c,q⟩:=h
 refine⟨_,(rC (rL (rR Gfraction n (by decide) rfl FG (mM (rN sx (rM sj (pv 0) rD (λ_ _=>rfl)) (rM sj (pv 1) rD (λ_ _=>rfl))) (mM (rN sx (rM sj (pv 0) rD (λ_ _=>rfl)) (rM sj (pv 1) rD (λ_ _=>rfl))) rq))))),?_⟩
 obtain⟨p,j,t⟩:=k
 obtain⟨u,g,r⟩:=c
 refine⟨_,rfl,a,_,0,_,rfl,rfl,d,rfl,?_⟩
 refine⟨_,rfl,b,_,0,_,rfl,rfl,e,rfl,?_⟩
 refine⟨_,_,rfl,rfl,G1 p u,?_⟩
 refine⟨_,rfl,a,_,1,_,rfl,rfl,d,rfl,?_⟩
 refine⟨_,rfl,b,_,1,_,rfl,rfl,e,rfl,?_⟩
 refine⟨_,_,rfl,rfl,G1 j g,?_⟩
 exact⟨_,_,rfl,λz=>absurd z (dE t r),λ_=>⟨KE j g,q⟩⟩
theorem Hd:Ea ["one","two"] ["one","two"] (D7 (Eb 18)):=⟨rfl,rfl,rfl,by decide +kernel,rfl,by decide +kernel,by decide +kernel⟩
theorem Jz(M:Md K mg x cB):Dn P w K mg base Eh 1 "before" ["one","two"] (GA K):=by
 have u:=(Hd).nd;refine M.f_before.ok Hd (λvs H Q E h=>?_) (λ_ _ _ _ _ _ n k=>match n,k with|[_,_],_=>rfl) (λf r A j s H vs Q E t h=>?_)
 ·obtain⟨a,b,x,y,rfl,d,e,g,c,q⟩:=h;rfl
 obtain⟨a,b,x,y,rfl,d,e,g,c,q⟩:=h;refine⟨_,(rC (rL (tF z7 (rN sx (rM sj (pv 0) rD (λ_ _=>rfl)) (rM sj (pv 1) rD (λ_ _=>rfl))) (rN sx (rM sj (pv 1) rD (λ_ _=>rfl)) (rM sj (pv 0) rD (λ_ _=>rfl))) (Ee _)))),?_⟩;obtain⟨o,m,z⟩:=g;obtain⟨p,l,v⟩:=c;refine⟨_,rfl,a,_,0,_,rfl,rfl,d,rfl,?_⟩;refine⟨_,rfl,b,_,1,_,rfl,rfl,e,rfl,?_⟩;refine⟨_,_,rfl,rfl,G1 o l,?_⟩;refine⟨_,rfl,b,_,0,_,rfl,rfl,e,rfl,?_⟩;refine⟨_,rfl,a,_,1,_,rfl,rfl,d,rfl,?_⟩;exact⟨_,_,rfl,rfl,G1 p m,_,_,rfl,rfl,q⟩
theorem Iw:Ea ["parts","so_far","part"] ["parts"] (D7 (Eb 19)):=⟨rfl,rfl,rfl,by decide +kernel,rfl,by decide +kernel,by decide +kernel⟩
theorem J5(M:Md K mg x cB)
  (Gplus:Dn P w K mg base Eh 3 "plus" ["one","two"] (G4 FK K)):Dn P w K mg base Eh 4 "total" ["parts"] (JE K):=by
 have I:=(Iw).nd
 refine M.f_total.ok Iw (λvs H Q E h=>?_) (λ_ _ _ _ _ _ S T=>match S,T with|[_],_=>rfl) (λf U A O s H vs Q E R h=>?_)
 ·obtain⟨a,G,k,rfl,l,o,L,t,q⟩:=h
  rfl
 obtain⟨a,G,k,rfl,l,o,L,t,q⟩:=h
 refine⟨_,(rn (rF (i:=1) I rfl (Or.inl rfl) (tW M.c_NOTHING))
   (rn (sP dA rfl (DK (pv 0)) (rJ (i:=2) I rfl (Or.inl rfl)) (rC (rF (i:=1) I rfl (Or.inl rfl) (rR Gplus R (by decide) rfl Ec (mM (pv 1) (mM (pv 2) rq))))))
   (rC (rL (pv 1))))),?_⟩
 refine λB C=>?_
 rcases l with l|l
 ·refine .inl ⟨_,rfl,a,rfl,⟨_,l⟩,?_⟩
  refine uX (xs:=G) (λi j c=>Same H c/\∃e r,j=[some (.ref a),some e,r]/\IsF K c e (Fi (k.take i)))
   ⟨Same.refl _,.ref B,_,rfl,B,rfl,C _⟩ (λi j c _ d=>d.1.seq l) (λi v j c J d=>?_) (λj c d=>?_)
  ·obtain⟨g,e,r,rfl,b⟩:=d
   obtain⟨y,n,m⟩:=Paired.get' o J
   obtain⟨z,rfl,b⟩:=b
   obtain⟨F,rfl,m⟩:=m
   refine⟨_,rfl,_,rfl,z,F,Fi (k.take i),y,rfl,b,g.tup m,L i,t y (da n),λp N D hp=>?_⟩
   refine⟨g.trans D,.ref p,_,rfl,p,rfl,?_⟩
   rw[cY,n]
   show SqT K N p [.int (Fi (k.take i++[y])).1,.int (Fi (k.take i++[y])).2]
   rw[ut]
   exact SqT.of hp
  ·obtain⟨g,e,r,rfl,b⟩:=d
   have u:=Paired.len o
   rw[u,dj]at b
   exact⟨_,rfl,q e c g b⟩
 ·refine .inr ⟨_,rfl,a,rfl,⟨_,l⟩,?_⟩
  refine CS (xs:=G) (λi j c=>Same H c/\∃e r,j=[some (.ref a),some e,r]/\IsF K c e (Fi (k.take i)))
   ⟨Same.refl _,.ref B,_,rfl,B,rfl,C _⟩ (λi j c _ d=>d.1.tup l) (λi v j c J d=>?_) (λj c d=>?_)
  ·obtain⟨g,e,r,rfl,b⟩:=d
   obtain⟨y,n,m⟩:=Paired.get' o J
   obtain⟨z,rfl,b⟩:=b
   obtain⟨F,rfl,m⟩:=m
   refine⟨_,rfl,_,rfl,z,F,Fi (k.take i),y,rfl,b,g.tup m,L i,t y (da n),λp N D hp=>?_⟩
   refine⟨g.trans D,.ref p,_,rfl,p,rfl,?_⟩
   rw[cY,n]
   show SqT K N p [.int (Fi (k.take i++[y])).1,.int (Fi (k.take i++[y])).2]
   rw[ut]
   exact SqT.of hp
  ·obtain⟨g,e,r,rfl,b⟩:=d
   have u:=Paired.len o
   rw[u,dj]at b
   exact⟨_,rfl,q e c g b⟩
theorem Iy:Ea ["parts","smallest","part"] ["parts"] (D7 (Eb 20)):=⟨rfl,rfl,rfl,by decide +kernel,rfl,by decide +kernel,by decide +kernel⟩
theorem J0(M:Md K mg x cB)
  (Gbefore:Dn P w K mg base Eh 1 "before" ["one","two"] (GA K)):Dn P w K mg base Eh 2 "least" ["parts"] (Hm K):=by
 have I:=(Iy).nd
 refine M.f_least.ok Iy (λvs H Q E h=>?_) (λ_ _ _ _ _ _ us j=>match us,j with|[_],_=>rfl) (λf aa A X s H vs Q E hr h=>?_)
 ·obtain⟨a,G,b,rfl,u,t,m,j,B,q⟩:=h
  rfl
 obtain⟨a,G,b,rfl,u,t,m,j,B,q⟩:=h
 refine⟨_,(rn (rF (i:=1) I rfl (Or.inl rfl) (rM rK (pv 0) rD (λ_ _=>rfl)))
   (rn (sP dA rfl (sT (pv 0)) (rJ (i:=2) I rfl (Or.inl rfl)) (rC (su (sM (rR Gbefore hr (by decide) rfl Ec (mM (pv 2) (mM (pv 1) rq)))) (rC (rF (i:=1) I rfl (Or.inl rfl) (pv 2))) rS)))
   (rC (rL (pv 1))))),?_⟩
 obtain⟨g,n⟩:∃p,b[0]?=some p:=by
  cases b with
  | nil=>exact absurd rfl m
  | cons p r=>exact⟨p,rfl⟩
 have N:b.headD (0,1)=g:=by
  cases b with
  | nil=>exact absurd rfl m
  | cons p r=>exact Option.some.inj n
 have Y:∀i,Sz 4000 (Er g (b.take i)):=λi=>by
  have:∀(l:List (Int×Int)) (s:Int×Int),Sz 4000 s->(∀p∈l,Sz 4000 p)->Sz 4000 (Er s l):=by
   intro l
   induction l with
   | nil=>intro s F _;exact F
   | cons x r Z=>
    intro s F j
    refine Z _ ?_ λp hp=>j p (cO _ hp)
    show Sz 4000 (if Eu x s=true then x else s)
    split
    ·exact j x cM
    ·exact F
  exact this _ _ (B _ (da n)) λp hp=>B p (gr hp)
 obtain⟨W,U,L⟩:=Paired.get t n
 refine⟨_,rfl,a,G,0,W,rfl,rfl,u,si U,?_⟩
 refine⟨_,rfl,a,rfl,⟨_,u⟩,?_⟩
 refine uX (xs:=G) (λi z C=>C=H/\∃o r,z=[some (.ref a),some o,r]/\IsF K H o (Er g (b.take i)))
  ⟨rfl,W,_,rfl,L⟩ (λi z C _ k=>by rw[k.1];exact u) (λi v z C hx k=>?_) (λz C k=>?_)
 ·obtain⟨rfl,o,r,rfl,d⟩:=k
  obtain⟨y,S,T⟩:=Paired.get' t hx
  have e:Er g (b.take (i+1))=if Eu y (Er g (b.take i))=true then y else Er g (b.take i):=by
   rw[cY,S]
   unfold Er
   rw[nI]
   rfl
  obtain⟨D,rfl,J⟩:=id d
  obtain⟨R,rfl,O⟩:=id T
  refine⟨_,rfl,_,rfl,R,D,y,Er g (b.take i),rfl,O,J,B y (da S),Y i,_,rfl,?_⟩
  rw[e]
  show if Eu y (Er g (b.take i))=true then _ else _
  refine Jq (λc=>?_) (λc=>?_)
  ·refine⟨_,rfl,rfl,.ref R,_,rfl,?_⟩
   rw[if_pos c]
   exact T
  ·refine⟨rfl,.ref D,_,rfl,?_⟩
   rw[if_neg c]
   exact d
 ·obtain⟨rfl,o,r,rfl,d⟩:=k
  have V:=Paired.len t
  rw[V,dj]at d
  refine⟨_,rfl,q o ?_⟩
  unfold GF
  rw[N]
  exact d
theorem FP:Ea ["wish","left"] ["wish","left"] (D7 (Eb 22)):=⟨rfl,rfl,rfl,by decide +kernel,rfl,by decide +kernel,by decide +kernel⟩
theorem Ig(M:Md K mg x cB):Dn P w K mg base Eh 1 "best_left" ["wish","left"] (Jc K):=by
 have nd:=(FP).nd;refine M.f_best_left.ok FP (λvs H Q E h=>?_) (λ_ _ _ _ _ _ us p=>match us,p with|[_,_],_=>rfl) (λf aa A U s H vs Q E X h=>?_)
 ·obtain⟨w,l,b,d,D,I,rfl,y,p,F,Y,m,C,u,q⟩:=h;rfl
 obtain⟨w,l,b,d,D,I,rfl,y,p,F,Y,m,C,u,q⟩:=h;refine⟨_,(rC (rL (rM rK (sr rfl (N:=["thing","left"]) (caps:=[none,some 1]) (CompOk.of (by kernel_rfl)) (rV rfl) (uz (pv 0)) (λ_ _ _ _=>(rJ (i:=0) (show(["thing","left"]:List Str).Nodup by decide +kernel) rfl (Or.inl rfl) (Or.inr rfl))) (λ_ _ _ _=>(tS (rQ (zQ (K:=K) rfl X) (rM (sQ (K:=K) rfl) (pv 1) (pv 0) (λ_ _=>rfl)) (u9 (K:=K) rfl M.c_NOTHING) (Ee _)))) (λ_ _ _ _=>(pv 0))) rD (λ_ _=>rfl)))),?_⟩;refine⟨_,rfl,w,rfl,⟨_,y⟩,?_⟩;refine ua (xs:=b.map V.int) (λi n o=>o=H/\n=((b.take i).filter λt=>decide (EM.at0 d t≠0)).map V.int)
  ⟨rfl,rfl⟩ (λi n o _ g=>by rw[g.1];exact y) (λi x n o k g=>?_) (λn o g Dd L=>?_)
 ·obtain⟨rfl,rfl⟩:=g;rw[cH]at k
  cases e:b[i]? with
  | none=>rw[e]at k;cases k
  | some t=>
   rw[e]at k;have G:V.int t=x:=Option.some.inj k;subst G;have J:=m t (da e);have R:t.toNat<d.length:=by omega
   have T:(fr D d)[t.toNat]?=some (FQ.red (EM.at0 d t) D):=by
    unfold fr EM.at0;rw[cH,cC,cz R];rfl
   obtain⟨v,hv,hF⟩:=Paired.get F T;refine⟨_,rfl,_,rfl,l,I,t,v,rfl,rfl,p,sD J.1 hv,λW S=>?_⟩;refine⟨dF (FQ.red (EM.at0 d t) D),dF (0,1),hF.rep,IsF.rep ⟨W,rfl,S _⟩,sy _,sy _,_,rfl,?_⟩;rw[uI,cY,e,gj,cS];have B:(((b.take i).filter λt=>decide (EM.at0 d t≠0)).map V.int).length<sizeLine:=by
    rw[cx];have h1:=d6 (λt=>decide (EM.at0 d t≠0)) (b.take i);rw[cV]at h1;exact D8 (by omega)
   refine GJ (λc=>?_) (λc=>?_)
   ·have j:EM.at0 d t≠0:=λz=>c ((sk (by omega)).mpr z)
    refine⟨_,rfl,B,rfl,?_⟩;simp[j]
   ·have j:EM.at0 d t=0:=(sk (by omega)).mp c;refine⟨rfl,?_⟩;simp[j]
 ·obtain⟨rfl,rfl⟩:=g;rw[cx,dj];obtain⟨t,ht,j⟩:=u;have O:t∈b.filter λt=>decide (EM.at0 d t≠0):=d8.mpr ⟨ht,decide_eq_true j⟩
  have Z:(b.filter λt=>decide (EM.at0 d t≠0))[0]?=some (EM.best d b):=by
   unfold EM.best
   cases hf:b.filter λt=>decide (EM.at0 d t≠0)with
   | nil=>rw[hf]at O;cases O
   | cons a r=>rfl
  refine⟨Dd,_,0,_,rfl,rfl,SqL.of rz,si (by rw[cH,Z];rfl),q _ (rr L _)⟩
theorem Fg:Ea ["dishes","left"] ["dishes","left"] (D7 (Eb 23)):=⟨rfl,rfl,rfl,by decide +kernel,rfl,by decide +kernel,by decide +kernel⟩
theorem GM(M:Md K mg x cB)
  (Gtimes:Dn P w K mg base Eh 3 "times" ["one","two"] (G4 IF K))
  (Gleast:Dn P w K mg base Eh 2 "least" ["parts"] (Hm K)):Dn P w K mg base Eh 4 "time_to_stop" ["dishes","left"] (Je K):=by
 have nd:=(Fg).nd
 refine M.f_time_to_stop.ok Fg (λvs H Q E h=>?_) (λ_ _ _ _ _ _ us O=>match us,O with|[_,_],_=>rfl) (λf ai A ah s H vs Q E hr h=>?_)
 ·obtain⟨d,l,b,ms,D,gs,rfl,I,O,hg,X,T,C,aa,r,G,q⟩:=h
  rfl
 obtain⟨d,l,b,ms,D,gs,rfl,I,O,hg,X,T,C,aa,r,G,q⟩:=h
 refine⟨_,(rC (rL (rR Gleast hr (by decide) rfl Ec (mM (sr rfl (N:=["thing","dishes","left"]) (caps:=[none,some 0,some 1]) (CompOk.of (by kernel_rfl)) (rV rfl) (sT (pv 0)) (λ_ _ _ _=>(rJ (i:=0) (show(["thing","dishes","left"]:List Str).Nodup by decide +kernel) rfl (Or.inl rfl) (Or.inr rfl))) (λ_ _ _ _=>sh) (λ_ _ _ _=>(rR Gtimes hr (by decide) rfl Ec (mM (rM (sQ (K:=K) rfl) (pv 2) (pv 0) (λ_ _=>rfl)) (mM (sE (mM rD (mM (Cq (K:=K) rfl dI lm ln (xg (K:=K) rfl) (pv 1) (mM (pv 0) rq)) rq))) rq))))) rq)))),?_⟩
 refine⟨_,rfl,d,rfl,⟨_,I⟩,?_⟩
 refine sO (xs:=b.map V.int) (λi y c=>Same H c/\dr (IsF K c) y ((b.take i).map (Ex D b ms)))
  ⟨Same.refl _,.nil⟩ (λi y c _ z=>z.1.seq I) (λi x y c J z=>?_) (λy c z Dd ac=>?_)
 ·obtain⟨o,g⟩:=z
  rw[cH]at J
  cases u:b[i]? with
  | none=>rw[u]at J;cases J
  | some t=>
   rw[u]at J
   have ab:V.int t=x:=Option.some.inj J
   subst ab
   have U:=da u
   have j:=r t U
   have ae:t.toNat<ms.length:=by omega
   have af:(fr D ms)[t.toNat]?=some (FQ.red (EM.at0 ms t) D):=by
    unfold fr EM.at0
    rw[cH,cC,cz ae]
    rfl
   have Y:=G _ (EM.at0_mem (ms:=ms) j.1 j.2)
   have W:=EM.cnt_pos U
   have ag:=EM.cnt_le b t
   obtain⟨v,L,va,rfl,hF⟩:=Paired.get hg af
   refine⟨_,rfl,_,rfl,l,gs,t,_,rfl,rfl,o.seq O,sD j.1 L,?_⟩
   refine⟨_,rfl,.inl ⟨rfl,_,o.seq I⟩,_,rfl,d,b,t,rfl,rfl,o.seq I,by show 2<=sizeLine;decide,λp hp=>?_⟩
   have k:Same c (upd c p (.tup [.int 1,.int (b.count t:Nat)])):=rr hp _
   have R:upd c p (.tup [.int 1,.int (b.count t:Nat)]) p=some (.tup [.int 1,.int (b.count t:Nat)]):=rz
   generalize upd c p (.tup [.int 1,.int (b.count t:Nat)])=H2 at k R ⊢
   have B:=Paired.len g
   rw[cx,cV]at B
   have S:D≠0:=by omega
   have aj:EM.cnt b t=(b.count t:Nat):=rfl
   refine⟨va,p,FQ.red (EM.at0 ms t) D,(1,EM.cnt b t),rfl,(o.trans k).tup hF,SqT.of R,(tQ (n:=30) S (by omega) (by omega)).up (by decide),Sz.up (m:=30) ⟨by show(1:Int).natAbs<2^30;decide,by show(EM.cnt b t).natAbs<2^30;omega,by show EM.cnt b t≠0;omega⟩ (by decide),λpf H3 Z ad=>⟨D8 (by omega),o.trans (k.trans Z),?_⟩⟩
   rw[cY,u,cS]
   refine Paired.app (rP (k.trans Z) g) (.cons ⟨pf,rfl,?_⟩ .nil)
   have e:Ex D b ms t=IF (FQ.red (EM.at0 ms t) D) (1,EM.cnt b t):=by
    unfold Ex
    rw[zH (uP S) (Af (a:=1) (D:=EM.cnt b t) (by omega)),h9]
   rw[e]
   exact SqT.of ad
 ·obtain⟨o,g⟩:=z
  rw[cx,dj]at g
  have B:=Paired.len g
  rw[cx]at B
  have k:Same c (upd c Dd (.lst y)):=rr ac _
  refine⟨Dd,y,b.map (Ex D b ms),rfl,SqL.of rz,rP k g,by simpa using C,by rw[cx];omega,λp hp=>?_,λv L=>?_⟩
  ·obtain⟨t,ht,rfl⟩:=dv.mp hp
   have j:=r t ht
   have Y:=G _ (EM.at0_mem (ms:=ms) j.1 j.2)
   have W:=EM.cnt_pos ht
   have ag:=EM.cnt_le b t
   have h1:0<D*EM.cnt b t:=gS X W
   have h2:D*EM.cnt b t<=262144*6:=ju T (by omega) (by omega) (by decide)
   exact(tQ (n:=30) (by omega) (by omega) (by omega)).up (by decide)
  ·rw[zd X C]at L
   exact q v _ (o.trans k) L
theorem Fm:Ea ["dishes","left","length"] ["dishes","left","length"] (D7 (Eb 24)):=⟨rfl,rfl,rfl,by decide +kernel,rfl,by decide +kernel,by decide +kernel⟩
theorem GY(M:Md K mg x cB)
  (Gminus:Dn P w K mg base Eh 3 "minus" ["one","two"] (G4 IW K))
  (Gtimes:Dn P w K mg base Eh 3 "times" ["one","two"] (G4 IF K)):Dn P w K mg base Eh 4 "left_behind" ["dishes","left","length"] (Ja K):=by
 have nd:=(Fm).nd
 refine M.f_left_behind.ok Fm (λvs H Q E h=>?_) (λ_ _ _ _ _ _ us I=>match us,I with|[_,_,_],_=>rfl) (λf ar A aj s H vs Q E hr h=>?_)
 ·obtain⟨d,l,p,b,ms,D,c,m,gs,rfl,hd,I,hg,hp,hD,S,T,ah,G,ae,aa,ai,W,q⟩:=h
  rfl
 obtain⟨d,l,p,b,ms,D,c,m,gs,rfl,hd,I,hg,hp,hD,S,T,ah,G,ae,aa,ai,W,q⟩:=h
 refine⟨_,(rC (rL (sr rfl (N:=["thing","part","dishes","length"]) (caps:=[none,none,some 0,some 2]) (CompOk.of (by kernel_rfl)) (yB (sZ sF (rV rfl) (sZ sF (rV rfl) wU))) (z9 rfl M.b_enumerate (mM (pv 1) rq)) (λ_ _ _ _=>(wV (K:=K) rfl 2 rfl (sw (rJ (i:=0) (show(["thing","part","dishes","length"]:List Str).Nodup by decide +kernel) rfl (Or.inl rfl) (Or.inr rfl)) (sw (rJ (i:=1) (show(["thing","part","dishes","length"]:List Str).Nodup by decide +kernel) rfl (Or.inl rfl) (Or.inr rfl)) ul)))) (λ_ _ _ _=>sh) (λ_ _ _ _=>(rR Gminus hr (by decide) rfl Ec (mM (pv 1) (mM (rR Gtimes hr (by decide) rfl Ec (mM (sE (mM (Cq (K:=K) rfl dI lm ln (xg (K:=K) rfl) (pv 2) (mM (pv 0) rq)) (mM rD rq))) (mM (pv 3) rq))) rq))))))),?_⟩
 have v:=Paired.len hg
 unfold fr at v
 rw[cx]at v
 have Z:D≠0:=by omega
 have an:0<D*c:=gS hD T
 have ao:D*c<=262144*6:=ju S (by omega) (by omega) (by decide)
 refine⟨_,rfl,l,rfl,⟨_,I⟩,?_⟩
 refine zo (xs:=gs) (λi J e=>Same H e/\dr (IsF K e) J (fr (D*c) (((LM.rng ms.length).take i).map λj=>EM.at0 ms j*c-EM.cnt b j*m)))
  ⟨Same.refl _,.nil⟩ (λi J e _ C=>C.1.seq I) (λi x J e t hx ht C=>?_) (λJ e C Dd r=>?_)
 ·obtain⟨L,g⟩:=C
  have al:i<gs.length:=(cL.mp hx).1
  obtain⟨y,hy,z,rfl,hF⟩:=Paired.get' hg hx
  have af:=EM.rng_get (n:=ms.length) (k:=i) (by omega)
  have ad:(fr D ms)[i]?=some (FQ.red (EM.at0 ms (i:Int)) D):=by
   unfold fr EM.at0
   rw[cH,cC,f9,cz (by omega)]
   rfl
  rw[ad]at hy
  cases hy
  have aq:=W _ (EM.at0_mem (ms:=ms) (t:=(i:Int)) (by omega) (by omega))
  have ab:=EM.cnt_nn b (i:Int)
  have ap:=EM.cnt_le b (i:Int)
  have S2:Same e (upd e t (.tup [.int i,.ref z])):=rr ht _
  have R:upd e t (.tup [.int i,.ref z]) t=some (.tup [.int i,.ref z]):=rz
  generalize upd e t (.tup [.int i,.ref z])=O at S2 R ⊢
  have B:=L.trans S2
  refine⟨t,_,rfl,SqT.of R,rfl,_,_,rfl,_,_,rfl,rfl,?_⟩
  refine⟨_,rfl,_,rfl,.inl ⟨rfl,_,B.seq hd⟩,_,rfl,d,b,(i:Int),rfl,rfl,B.seq hd,by show 2<=sizeLine;decide,λu ac=>?_⟩
  have S3:Same O (upd O u (.tup [.int (b.count (i:Int):Nat),.int 1])):=rr ac _
  have X:upd O u (.tup [.int (b.count (i:Int):Nat),.int 1]) u=some (.tup [.int (b.count (i:Int):Nat),.int 1]):=rz
  generalize upd O u (.tup [.int (b.count (i:Int):Nat),.int 1])=H3 at S3 X ⊢
  have o:=B.trans S3
  obtain⟨_,e0,ag⟩:=hp
  cases e0
  refine⟨_,rfl,u,p,(EM.cnt b (i:Int),1),FQ.red m (D*c),rfl,SqT.of X,o.tup ag,Sz.up (m:=30) ⟨by show(EM.cnt b (i:Int)).natAbs<2^30;omega,by show(1:Int).natAbs<2^30;decide,by show(1:Int)≠0;decide⟩ (by decide),(tQ (n:=30) (by omega) (by omega) (by omega)).up (by decide),λpm H4 S4 Y=>?_⟩
  have em:IF (EM.cnt b (i:Int),1) (FQ.red m (D*c))=FQ.red (EM.cnt b (i:Int)*m) (D*c):=by
   rw[zH (Af (a:=EM.cnt b (i:Int)) (D:=1) (by decide)) (uP (by omega)),jP]
  rw[em]at Y
  have ak:0<=EM.cnt b (i:Int)*m:=iP ab G
  have am:EM.cnt b (i:Int)*m<=6*262144:=ju (by omega) (by omega) G (by decide)
  have U:=Paired.len g
  unfold fr at U
  rw[cx,cx,cV,LM.rng_len]at U
  refine⟨z,pm,FQ.red (EM.at0 ms (i:Int)) D,FQ.red (EM.cnt b (i:Int)*m) (D*c),rfl,(o.trans S4).tup hF,SqT.of Y,(tQ (n:=30) Z (by omega) (by omega)).up (by decide),(tQ (n:=30) (by omega) (by omega) (by omega)).up (by decide),λpf H5 S5 V=>⟨D8 (by omega),o.trans (S4.trans S5),?_⟩⟩
  rw[xj Z (by omega)]at V
  rw[cY,af]
  unfold fr
  rw[cS,cS]
  exact Paired.app (rP (S2.trans (S3.trans (S4.trans S5))) g) (.cons ⟨pf,rfl,SqT.of V⟩ .nil)
 ·obtain⟨L,g⟩:=C
  rw[v,eJ (by rw[LM.rng_len];exact cI _)]at g
  exact q Dd J _ (L.trans (rr r _)) (L.free r) rz (rP (rr r _) g)
theorem FI:Ea ["wishes","left","courses","dishes","length","gone"] ["wishes"] (D7 (Eb 25)):=⟨rfl,rfl,rfl,by decide +kernel,rfl,by decide +kernel,by decide +kernel⟩
theorem Hu(M:Md K mg x cB)
  (Gtotal:Dn P w K mg base Eh 4 "total" ["parts"] (IK K))
  (Gbest_left:Dn P w K mg base Eh 1 "best_left" ["wish","left"] (Jc K))
  (Gtime_to_stop:Dn P w K mg base Eh 4 "time_to_stop" ["dishes","left"] (Je K))
  (Gleft_behind:Dn P w K mg base Eh 4 "left_behind" ["dishes","left","length"] (Ja K)):Dn P w K mg base Eh 5 "courses_of" ["wishes"] (Hb K):=by
 have nd:=(FI).nd
 refine M.f_courses_of.ok FI (λvs H Q E h=>?_) (λ_ _ _ _ _ _ us hl=>match us,hl with|[_],_=>rfl) (λf bx A bm s H vs Q E r h=>?_)
 ·obtain⟨a,ws,W,n,rfl,hA,hW,G,q⟩:=h
  rfl
 obtain⟨a,ws,W,n,rfl,hA,hW,G,q⟩:=h
 refine⟨_,(rn (rF (i:=1) nd rfl (Or.inr rfl) (sr rfl (N:=["wish"]) (caps:=[none]) (CompOk.of (by kernel_rfl)) (rV rfl) (sT (pv 0)) (λ_ _ _ _=>(rJ (i:=0) (show(["wish"]:List Str).Nodup by decide +kernel) rfl (Or.inl rfl) (Or.inr rfl))) (λ_ _ _ _=>sh) (λ_ _ _ _=>(u9 (K:=K) rfl M.c_WHOLE))))
   (rn (rF (i:=2) nd rfl (Or.inl rfl) (t5 rq))
   (rn (uD dA (rQ (xc r) (rR Gtotal r (by decide) rfl Ec (mM (pv 1) rq)) (tW M.c_NOTHING) (Ee _)) (rn (sA (i:=3) nd rfl rfl rfl rfl (N:=["wish","left"]) (caps:=[none,some 1]) (CompOk.of (by kernel_rfl)) (rV rfl) (sT (pv 0)) (λ_ _ _ _=>(rJ (i:=0) (show(["wish","left"]:List Str).Nodup by decide +kernel) rfl (Or.inl rfl) (Or.inr rfl))) (λ_ _ _ _=>sh) (λ_ _ _ _=>(rR Gbest_left r (by decide) rfl Ec (mM (pv 0) (mM (pv 1) rq)))))
   (rn (rF (i:=4) nd rfl (Or.inl rfl) (rR Gtime_to_stop r (by decide) rfl Ec (mM (pv 3) (mM (pv 1) rq))))
   (rn (rF (i:=1) nd rfl (Or.inr rfl) (rR Gleft_behind r (by decide) rfl Ec (mM (pv 3) (mM (pv 1) (mM (pv 4) rq)))))
   (rn (sA (i:=5) nd rfl rfl rfl rfl (N:=["thing","left"]) (caps:=[none,some 1]) (CompOk.of (by kernel_rfl)) (rV rfl) (sT (xM rfl rfl M.b_sorted rfl M.b_set (pv 3))) (λ_ _ _ _=>(rJ (i:=0) (show(["thing","left"]:List Str).Nodup by decide +kernel) rfl (Or.inl rfl) (Or.inr rfl))) (λ_ _ _ _=>(tS (rQ (Dc (K:=K) rfl r) (rM (sQ (K:=K) rfl) (pv 1) (pv 0) (λ_ _=>rfl)) (u9 (K:=K) rfl M.c_NOTHING) (Ee _)))) (λ_ _ _ _=>(pv 0)))
   (rC (sR (uJ dI fR fS tK (pv 2) (mM (sE (mM (pv 4) (mM (pv 3) (mM (sd sG rfl M.b_tuple Boot.«tuple» (mM (pv 5) rq)) rq)))) rq)))))))))
   (rC (rL (pv 2)))))),?_⟩
 have aS:=Paired.len hW
 have hn:=G.len
 have bp:=G.n1
 have bb:=G.n6
 have aA:(0:Nat)<=sizeLine:=by decide
 refine⟨_,rfl,a,rfl,⟨_,hA⟩,?_⟩
 refine sO (xs:=ws) (λi e H'=>H'=H/\dr (IsF K H) e (fr 1 (fw i 1)))
  ⟨rfl,.nil⟩ (λi e H' _ b=>by rw[b.1];exact hA) (λi x e H' o b=>?_) (λe H' b l0 ax=>?_)
 ·obtain⟨rfl,L⟩:=b
  have bo:i<ws.length:=(cL.mp o).1
  have aQ:=Paired.len L
  unfold fr at aQ
  rw[cx,eS]at aQ
  refine λc hc=>⟨D8 (by omega),rfl,?_⟩
  rw[jQ]
  unfold fr
  rw[cS]
  exact Paired.app L (.cons ⟨c,rfl,hc _⟩ .nil)
 obtain⟨rfl,L⟩:=b
 rw[aS,hn]at L
 refine⟨aA,λu B=>?_⟩
 have aC:H' u=none:=(rr ax _).free B
 refine⟨λm σ H1=>∃(i:Nat) (l:cG) (gs cs:List V) (r3 r4 r5:Option V),m=n-i/\σ=[some (.ref a),some (.ref l),some (.ref u),r3,r4,r5]/\Same H' H1/\EM.Upto W n i/\H1 l=some (.lst gs)/\dr (IsF K H1) gs (fr (EM.st W n i).D (EM.st W n i).ms)/\l≠u/\
   H1 u=some (.lst cs)/\dr (IsC K u H1) cs (EK W n i),
  ⟨_,0,l0,e,[],_,_,_,rfl,rfl,(rr ax _).trans (rr B _),(λi hi=>absurd hi (gx _)),rr B _ _ _ rz,rP ((rr ax _).trans (rr B _)) L,(λz=>by rw[z,rz]at B;cases B),rz,.nil⟩,λm σ H1 b=>?_⟩
 obtain⟨i,l,gs,cs,r3,r4,r5,rfl,rfl,S1,up,hl,hg,br,hc,ae⟩:=b
 obtain⟨St,_⟩:=EM.st_ok G i up
 have hD:=St.pos
 have aN:=EM.D_le St bb
 have ah:(EM.st W n i).D≠0:=by omega
 have aL:=St.len
 have ap:∀m∈(EM.st W n i).ms,0<=m/\m<=(EM.st W n i).D:=λm hm=>⟨St.nn m hm,St.le m hm⟩
 have aO:=Paired.len hg
 unfold fr at aO
 rw[cx]at aO
 have aU:=Paired.len ae
 unfold EK at aU
 rw[cx,e9]at aU
 have bs:=EM.upto_le G up
 refine⟨_,rfl,l,gs,fr (EM.st W n i).D (EM.st W n i).ms,rfl,SqL.of hl,hg,λp hp=>?_,by unfold fr;rw[cx];omega,λv H2 O hv=>λc0 a6=>?_⟩
 ·unfold fr at hp
  obtain⟨x,o,rfl⟩:=dv.mp hp
  have:=ap x o
  exact tQ ah (by omega) (by omega)
 refine⟨_,_,hv.rep,IsF.rep (p:=(0,1)) ⟨c0,rfl,a6 _⟩,sy _,sy _,_,rfl,?_⟩
 rw[uI,CF ah]
 by_cases hs:(EM.st W n i).ms.sum=0
 ·rw[decide_eq_true ((sk ah).mpr hs)]
  exact⟨_,rfl,q u cs i H2 (S1.trans O) aC (O _ _ hc) ⟨up,hs⟩ (Paired.mapP ae λ_ _ h=>h.mono O)⟩
 rw[decide_eq_false (λz=>hs ((sk ah).mp z))]
 refine⟨_,(λbw H' z=>z),?_⟩
 have T:=EM.step_of G up hs
 have ac:=S1.trans O
 have am:=O _ _ hl
 have aq:=rP O hg
 have aa:=O _ _ hc
 have a0:=Paired.mapP ae λ_ _ (h:IsC K u H1 _ _)=>h.mono O
 clear hl hg hc ae hv
 have eC:EM.cs W (EM.st W n i)=⟨EM.at0 (EM.st W n i).ms (EM.pick (EM.dishes W (EM.st W n i).ms) (EM.st W n i).ms),(EM.st W n i).D*EM.cnt (EM.dishes W (EM.st W n i).ms) (EM.pick (EM.dishes W (EM.st W n i).ms) (EM.st W n i).ms),EM.dishes W (EM.st W n i).ms,EM.goneOf (EM.dishes W (EM.st W n i).ms) (EM.nextMs (EM.dishes W (EM.st W n i).ms) (EM.st W n i).ms)⟩:=rfl
 have eN:EM.st W n (i+1)=EM.nxt W (EM.st W n i):=rfl
 -- the dishes
 refine⟨_,rfl,a,rfl,⟨_,ac.seq hA⟩,?_⟩
 refine sO (xs:=ws) (λj e U=>Same H2 U/\e=((W.take j).map (EM.best (EM.st W n i).ms)).map V.int)
  ⟨Same.refl _,rfl⟩ (λj e U _ b=>(ac.trans b.1).seq hA) (λj x e U o b=>?_) (λe U b g ay=>?_)
 ·obtain⟨Y,rfl⟩:=b
  obtain⟨aJ,r,wa,rfl,a9⟩:=Paired.get' hW o
  have a5:=da r
  have aF:=G.pm aJ a5
  have bv:j<W.length:=(cL.mp r).1
  obtain⟨t,be,bu,ao⟩:=EM.some_left hs
  refine⟨_,rfl,_,rfl,wa,l,aJ,(EM.st W n i).ms,(EM.st W n i).D,gs,rfl,(ac.trans Y).tup a9,SqL.of (Y _ _ am),rP Y aq,hD,λt X=>by rw[aL];exact LM.mem_rng.mp (aF.mem_iff.mp X),by rw[aF.length_eq,LM.rng_len];omega,⟨t,aF.mem_iff.mpr (LM.mem_rng.mpr ⟨be,by omega⟩),ao⟩,λH4 S4=>⟨D8 (by rw[cx,cx,cV];omega),Y.trans S4,?_⟩⟩
  rw[cY,r,cS,cS]
  rfl
 obtain⟨Y,rfl⟩:=b
 rw[aS,dj]
 have eD:W.map (EM.best (EM.st W n i).ms)=EM.dishes W (EM.st W n i).ms:=rfl
 rw[eD]
 have a1:g≠u:=λz=>by rw[z,Y _ _ aa]at ay;cases ay
 have ab:Same H2 (upd U g (.lst ((EM.dishes W (EM.st W n i).ms).map V.int))):=Y.trans (rr ay _)
 have ai:upd U g (.lst ((EM.dishes W (EM.st W n i).ms).map V.int)) g=some (.lst ((EM.dishes W (EM.st W n i).ms).map V.int)):=rz
 generalize upd U g (.lst ((EM.dishes W (EM.st W n i).ms).map V.int))=H4 at ab ai ⊢
 have aV:=T.dl
 have I:=T.dm
 have bg:0<EM.at0 (EM.st W n i).ms (EM.pick (EM.dishes W (EM.st W n i).ms) (EM.st W n i).ms):=T.m0
 have a8:EM.at0 (EM.st W n i).ms (EM.pick (EM.dishes W (EM.st W n i).ms) (EM.st W n i).ms)<=(EM.st W n i).D:=T.mD
 have a2:0<EM.cnt (EM.dishes W (EM.st W n i).ms) (EM.pick (EM.dishes W (EM.st W n i).ms) (EM.st W n i).ms):=T.c0
 have aY:EM.cnt (EM.dishes W (EM.st W n i).ms) (EM.pick (EM.dishes W (EM.st W n i).ms) (EM.st W n i).ms)<=6:=T.c6
 have a4:EM.dishes W (EM.st W n i).ms≠[]:=λz=>by rw[z]at aV;simp at aV;omega
 -- the time
 refine⟨_,rfl,_,rfl,g,l,EM.dishes W (EM.st W n i).ms,(EM.st W n i).ms,(EM.st W n i).D,gs,rfl,SqL.of ai,SqL.of (ab _ _ am),rP ab aq,hD,aN,a4,by omega,λt X=>by rw[aL];exact(I t X).1,ap,λv5 H5 S5 bl=>?_⟩
 obtain⟨C,rfl,aI⟩:=bl
 have aj:=ab.trans S5
 -- what is left
 refine⟨_,rfl,_,rfl,_,rfl,g,l,C,EM.dishes W (EM.st W n i).ms,(EM.st W n i).ms,(EM.st W n i).D,_,_,gs,rfl,SqL.of (S5 _ _ ai),SqL.of (aj _ _ am),rP aj aq,⟨C,rfl,aI⟩,hD,aN,a2,aY,fj bg,a8,by omega,by omega,ap,λl6 av H6 S6 an aR au=>?_⟩
 have bc:=aj.trans S6
 have aE:l6≠u:=λz=>by rw[z,aj _ _ aa]at an;cases an
 change dr (IsF K H6) av (fr (EM.st W n (i+1)).D (EM.st W n (i+1)).ms)at au
 have az:=T.S'
 rw[<-eN]at az
 have aZ:(EM.st W n (i+1)).ms.length=n:=az.len
 have aX:(EM.st W n (i+1)).D≠0:=by have:=az.pos;omega
 have aK:=S6 _ _ (S5 _ _ ai)
 -- what is gone
 refine⟨_,rfl,g,EM.dishes W (EM.st W n i).ms,rfl,SqL.of aK,λt X=>by have:=(I t X).1;omega,λls y bj S aW aH=>⟨ls,rfl,⟨_,SqL.of rz⟩,?_⟩⟩
 have R:Same H6 (upd H6 ls (.lst (y.map V.int))):=rr bj _
 have ar:upd H6 ls (.lst (y.map V.int)) ls=some (.lst (y.map V.int)):=rz
 generalize upd H6 ls (.lst (y.map V.int))=H7 at R ar ⊢
 have bq:y.length<=6:=EM.nodup_len 6 aW λt X=>by have:=(I t ((S t).mp X)).1;omega
 refine vG (xs:=y.map V.int) (λj e J=>J=H7/\e=((y.take j).filter λt=>decide (EM.at0 (EM.st W n (i+1)).ms t=0)).map V.int)
  ⟨rfl,rfl⟩ (λj e J _ b=>by rw[b.1];exact SqL.of ar) (λj x e J o b=>?_) (λe J b pg bf=>?_)
 ·obtain⟨rfl,rfl⟩:=b
  rw[cH]at o
  cases ag:y[j]? with
  | none=>rw[ag]at o;cases o
  | some t=>
   rw[ag]at o
   have ba:V.int t=x:=Option.some.inj o
   subst ba
   have bk:=(I t ((S t).mp (da ag))).1
   have ao:t.toNat<(EM.st W n (i+1)).ms.length:=by omega
   have a7:(fr (EM.st W n (i+1)).D (EM.st W n (i+1)).ms)[t.toNat]?=some (FQ.red (EM.at0 (EM.st W n (i+1)).ms t) (EM.st W n (i+1)).D):=by
    unfold fr EM.at0
    rw[cH,cC,cz ao]
    rfl
   obtain⟨v,hv,hF⟩:=Paired.get au a7
   refine⟨_,rfl,_,rfl,l6,av,t,v,rfl,rfl,SqL.of (R _ _ aR),sD bk.1 hv,λc1 bh=>?_⟩
   refine⟨_,_,(hF.mono R).rep,IsF.rep (p:=(0,1)) ⟨c1,rfl,bh _⟩,sy _,sy _,_,rfl,?_⟩
   rw[uI,cY,ag,gj,cS]
   have a3:(((y.take j).filter λt=>decide (EM.at0 (EM.st W n (i+1)).ms t=0)).map V.int).length<sizeLine:=by
    rw[cx]
    have h1:=d6 (λt=>decide (EM.at0 (EM.st W n (i+1)).ms t=0)) (y.take j)
    rw[cV]at h1
    exact D8 (by omega)
   refine EA (λc=>?_) (λc=>?_)
   ·have hz:EM.at0 (EM.st W n (i+1)).ms t=0:=(sk aX).mp c
    refine⟨_,rfl,a3,rfl,?_⟩
    simp[hz]
   ·have hz:EM.at0 (EM.st W n (i+1)).ms t≠0:=λz=>c ((sk aX).mpr z)
    refine⟨rfl,?_⟩
    simp[hz]
 obtain⟨rfl,rfl⟩:=b
 rw[cx,dj,EM.gone_eq S aW aH (λd hd=>by rw[aZ];exact(I d hd).1)]
 have eG:EM.goneOf (EM.dishes W (EM.st W n i).ms) (EM.st W n (i+1)).ms=(EM.cs W (EM.st W n i)).gone:=rfl
 rw[eG]
 have aw:Same J (upd J pg (.lst ((EM.cs W (EM.st W n i)).gone.map V.int))):=rr bf _
 have aG:upd J pg (.lst ((EM.cs W (EM.st W n i)).gone.map V.int)) pg=some (.lst ((EM.cs W (EM.st W n i)).gone.map V.int)):=rz
 generalize upd J pg (.lst ((EM.cs W (EM.st W n i)).gone.map V.int))=H9 at aw aG ⊢
 have aM:=bc.trans (R.trans aw)
 refine⟨_,rfl,.inl ⟨rfl,_,SqL.of (aM _ _ aa)⟩,_,rfl,_,rfl,_,rfl,pg,_,rfl,.inl ⟨SqL.of aG,λk bi=>?_⟩⟩
 refine⟨by show 3<=sizeLine;decide,λZ aP=>?_⟩
 have aB:Same H9 (upd (upd H9 k (.tup ((EM.cs W (EM.st W n i)).gone.map V.int))) Z (.tup [.ref C,.ref g,.ref k])):=(rr bi _).trans (rr aP _)
 have aD:upd (upd H9 k (.tup ((EM.cs W (EM.st W n i)).gone.map V.int))) Z (.tup [.ref C,.ref g,.ref k]) k=some (.tup ((EM.cs W (EM.st W n i)).gone.map V.int)):=rr aP _ _ _ rz
 have ak:upd (upd H9 k (.tup ((EM.cs W (EM.st W n i)).gone.map V.int))) Z (.tup [.ref C,.ref g,.ref k]) Z=some (.tup [.ref C,.ref g,.ref k]):=rz
 generalize upd (upd H9 k (.tup ((EM.cs W (EM.st W n i)).gone.map V.int))) Z (.tup [.ref C,.ref g,.ref k])=HB at aB aD ak ⊢
 have al:=aM.trans aB
 have af:Same H6 HB:=R.trans (aw.trans aB)
 have ad:=al _ _ aa
 refine⟨u,cs,_,rfl,rfl,ad,D8 (by omega),?_⟩
 have aT:=up.snoc hs
 have bn:=EM.upto_le G aT
 refine⟨n-(i+1),by omega,i+1,l6,av,cs++[.ref Z],_,_,_,rfl,rfl,(ac.trans al).over aC _,aT,by rw[rG aE];exact af _ _ aR,Paired.mapP au (λ_ _ h=>(h.mono af).over ad),aE,rz,?_⟩
 unfold EK
 rw[gc,cS]
 refine Paired.app (Paired.mapP a0 λ_ _ h=>(h.mono al).over ad) (.cons (IsC.over ?_ ad) .nil)
 refine⟨Z,C,g,k,rfl,SqT.of ak,⟨C,rfl,(S6.trans af).tup aI⟩,af _ _ aK,SqT.of aD,a1⟩
theorem Gk:Ea ["courses","person","thing"] ["courses","person","thing"] (D7 (Eb 26)):=⟨rfl,rfl,rfl,by decide +kernel,rfl,by decide +kernel,by decide +kernel⟩
theorem IV(M:Md K mg x cB)
  (Gtotal:Dn P w K mg base Eh 4 "total" ["parts"] (IK K)):Dn P w K mg base Eh 5 "eaten_of" ["courses","person","thing"] (Hg K):=by
 have nd:=(Gk).nd
 refine M.f_eaten_of.ok Gk (λvs H Q E h=>?_) (λ_ _ _ _ _ _ us hl=>match us,hl with|[_,_,_],_=>rfl) (λf al A ad s H vs Q E hr h=>?_)
 ·obtain⟨c,cs,W,n,N,p,t,rfl,U,C,G,r,hp,q⟩:=h
  rfl
 obtain⟨c,cs,W,n,N,p,t,rfl,U,C,G,r,hp,q⟩:=h
 refine⟨_,(rC (rL (rR Gtotal hr (by decide) rfl Ec (mM (sr rfl (N:=["length","dishes","gone","person","thing"]) (caps:=[none,none,none,some 1,some 2]) (CompOk.of (by kernel_rfl)) (yB (sZ sF (rV rfl) (sZ sF (rV rfl) (sZ sF (rV rfl) wU)))) (sT (pv 0)) (λ_ _ _ _=>(wV (K:=K) rfl 3 rfl (sw (rJ (i:=0) (show(["length","dishes","gone","person","thing"]:List Str).Nodup by decide +kernel) rfl (Or.inl rfl) (Or.inr rfl)) (sw (rJ (i:=1) (show(["length","dishes","gone","person","thing"]:List Str).Nodup by decide +kernel) rfl (Or.inl rfl) (Or.inr rfl)) (sw (rJ (i:=2) (show(["length","dishes","gone","person","thing"]:List Str).Nodup by decide +kernel) rfl (Or.inl rfl) (Or.inr rfl)) ul))))) (λ_ _ _ _=>(tS (rQ tO (rM (sQ (K:=K) rfl) (pv 1) (pv 3) (λ_ _=>rfl)) (pv 4) (Ee _)))) (λ_ _ _ _=>(pv 0))) rq)))),?_⟩
 have u:=Paired.len r
 unfold EK at u
 rw[cx,e9]at u
 have ah:=EM.upto_le C G
 have ab:=C.n6
 refine⟨_,rfl,c,rfl,⟨_,SqL.of U⟩,?_⟩
 refine vG (xs:=cs) (λi B I=>I=H/\i<=N/\∃b,dr (IsF K H) B b/\(∀p∈b,Sz 30 p)/\b.length<=i/\Fi b=FQ.red (EM.et W n i p t) (EM.st W n i).D)
  ⟨rfl,du _,[],.nil,(λ_ z=>nomatch z),du _,by show((0:Int),(1:Int))=FQ.red 0 1;exact(uZ (by decide)).symm⟩ (λi B I _ o=>by rw[o.1];exact SqL.of U) (λi x B I hx o=>?_) (λB I o Dd L=>?_)
 ·obtain⟨rfl,_,b,j,k,J,a⟩:=o
  obtain⟨co,X,aa⟩:=Paired.get' r hx
  obtain⟨F,rfl⟩:=zt X
  obtain⟨xa,l,d,g,rfl,h1,h2,h3,h4,_⟩:=aa
  have s:=EM.step_of C (G.mono (dB F)) (G i F)
  have hD:=s.S.pos
  have Y:=EM.D_le s.S ab
  have R:(EM.st W n i).D≠0:=by omega
  have Z:=s.c0
  have ac:=s.c6
  have ag:0<(EM.st W n i).D*EM.cn W (EM.st W n i):=gS hD Z
  have ak:(EM.st W n i).D*EM.cn W (EM.st W n i)<=262144*6:=ju Y ac (by omega) (by decide)
  have aj:=s.m0
  have ae:=s.mD
  have am:(EM.cs W (EM.st W n i)).ds.length=n:=s.dl
  have O:(EM.cs W (EM.st W n i)).D=(EM.st W n i).D*EM.cn W (EM.st W n i):=rfl
  have ai:(EM.cs W (EM.st W n i)).ds=EM.dishes W (EM.st W n i).ms:=rfl
  have eE:EM.et W n (i+1) p t=EM.et W n i p t*EM.cn W (EM.st W n i)+if(EM.dishes W (EM.st W n i).ms).getD p 0=t then(EM.cs W (EM.st W n i)).m else 0:=rfl
  have eD:(EM.st W n (i+1)).D=(EM.st W n i).D*EM.cn W (EM.st W n i):=rfl
  have af:=Paired.len j
  refine⟨xa,_,rfl,h1,rfl,_,_,rfl,_,_,rfl,_,_,rfl,rfl,?_⟩
  refine⟨_,rfl,_,rfl,d,_,_,_,rfl,rfl,SqL.of h3,si (tm (by omega)),_,rfl,rfl,_,rfl,EA (λe=>?_) (λe=>?_)⟩
  ·have T:(EM.dishes W (EM.st W n i).ms).getD p 0=t:=Kl e
   refine⟨_,rfl,D8 (by omega),rfl,F,b++[FQ.red (EM.cs W (EM.st W n i)).m (EM.cs W (EM.st W n i)).D],Paired.app j (.cons h2 .nil),λz hz=>?_,by rw[dq];simp;omega,?_⟩
   ·rcases dJ.mp hz with y|y
    ·exact k z y
    ·rw[cK.mp y,O]
     exact tQ (by omega) (by omega) (by omega)
   ·rw[ut,a,O,AI R (by omega),eE,if_pos T,eD]
  ·have T:¬(EM.dishes W (EM.st W n i).ms).getD p 0=t:=λz=>e (by show V.int ((EM.dishes W (EM.st W n i).ms).getD p 0)=V.int t;rw[z])
   refine⟨rfl,F,b,j,k,by omega,?_⟩
   rw[a,eE,if_neg T,gB,eD,Aa R (by omega)]
 ·obtain⟨rfl,_,b,j,k,J,a⟩:=o
  rw[u]at J a
  refine⟨Dd,B,b,rfl,SqL.of rz,rP (rr L _) j,k,by omega,λv H2 S2 hv=>q v H2 ((rr L _).trans S2) ?_⟩
  rw[<-a]
  exact hv
theorem Gf:Ea ["courses","person","count"] ["courses","person","count"] (D7 (Eb 27)):=⟨rfl,rfl,rfl,by decide +kernel,rfl,by decide +kernel,by decide +kernel⟩
theorem IU(M:Md K mg x cB)
  (Geaten_of:Dn P w K mg base Eh 5 "eaten_of" ["courses","person","thing"] (Hg K)):Dn P w K mg base Eh 6 "eaten_by" ["courses","person","count"] (Ha K):=by
 have S:=(Gf).nd
 refine M.f_eaten_by.ok Gf (λvs H Q E h=>?_) (λ_ _ _ _ _ _ I L=>match I,L with|[_,_,_],_=>rfl) (λf O A B s H vs Q E F h=>?_)
 ·obtain⟨c,cs,W,n,N,p,rfl,z,r,u,l,hp,q⟩:=h
  rfl
 obtain⟨c,cs,W,n,N,p,rfl,z,r,u,l,hp,q⟩:=h
 refine⟨_,(rC (rL (sd sG rfl M.b_tuple Boot.«tuple» (mM (sr rfl (N:=["thing","courses","person"]) (caps:=[none,some 0,some 1]) (CompOk.of (by kernel_rfl)) (rV rfl) (rW rfl M.b_range (mM (pv 2) rq)) (λ_ _ _ _=>(rJ (i:=0) (show(["thing","courses","person"]:List Str).Nodup by decide +kernel) rfl (Or.inl rfl) (Or.inr rfl))) (λ_ _ _ _=>sh) (λ_ _ _ _=>(rR Geaten_of F (by decide) rfl Ec (mM (pv 1) (mM (pv 2) (mM (pv 0) rq)))))) rq)))),?_⟩
 have R:=r.n6
 refine⟨_,rfl,(n:Int),rfl,by omega,by omega,?_⟩
 refine sH (n:=n) (λj b e=>Same H e/\dr (IsF K e) b (fr (EM.st W n N).D (((LM.rng n).take j).map (EM.et W n N p))))
  ⟨Same.refl _,.nil⟩ (λj b e C o=>?_) (λb e o J m=>?_)
 ·obtain⟨d,a⟩:=o
  have k:=Paired.len a
  unfold fr at k
  rw[cx,cx,cV,LM.rng_len]at k
  refine⟨_,rfl,_,rfl,_,rfl,c,cs,W,n,N,p,(j:Int),by rw[d3];rfl,d _ _ z,r,u,Paired.mapP l (λ_ _ h=>h.mono d),hp,λv T t G=>⟨D8 (by omega),d.trans t,?_⟩⟩
  rw[cY,EM.rng_get C]
  unfold fr
  rw[cS,cS]
  exact Paired.app (rP t a) (.cons G .nil)
 ·obtain⟨d,a⟩:=o
  rw[eJ (by rw[LM.rng_len];exact cI _)]at a
  refine⟨J,b,rfl,.inl ⟨SqL.of rz,λy g=>q (.ref y) _ (d.trans ((rr m _).trans (rr g _))) ⟨y,b,rfl,SqT.of rz,?_⟩⟩⟩
  exact rP ((rr m _).trans (rr g _)) a
theorem HZ:Ea ["wishes","courses"] ["wishes"] (D7 (Eb 28)):=⟨rfl,rfl,rfl,by decide +kernel,rfl,by decide +kernel,by decide +kernel⟩
theorem JY(M:Md K mg x cB)
  (Gcourses_of:Dn P w K mg base Eh 5 "courses_of" ["wishes"] (Hb K))
  (Geaten_by:Dn P w K mg base Eh 6 "eaten_by" ["courses","person","count"] (Ha K)):Dn P w K mg base Eh 7 "eaten" ["wishes"] (Hs K):=by
 have L:=(HZ).nd
 refine M.f_eaten.ok HZ (λvs H Q E h=>?_) (λ_ _ _ _ _ _ J T=>match J,T with|[_],_=>rfl) (λf U A C s H vs Q E z h=>?_)
 ·obtain⟨a,k,W,n,rfl,hA,r,e,q⟩:=h
  rfl
 obtain⟨a,k,W,n,rfl,hA,r,e,q⟩:=h
 refine⟨_,(rn (rF (i:=1) L rfl (Or.inr rfl) (rR Gcourses_of z (by decide) rfl Ec (mM (pv 0) rq)))
   (rC (rL (sr rfl (N:=["person","wishes","courses"]) (caps:=[none,some 0,some 1]) (CompOk.of (by kernel_rfl)) (rV rfl) (rW rfl M.b_range (mM (rH rO rfl M.b_len dD (mM (pv 0) rq)) rq)) (λ_ _ _ _=>(rJ (i:=0) (show(["person","wishes","courses"]:List Str).Nodup by decide +kernel) rfl (Or.inl rfl) (Or.inr rfl))) (λ_ _ _ _=>sh) (λ_ _ _ _=>(rR Geaten_by z (by decide) rfl Ec (mM (pv 2) (mM (pv 0) (mM (rH (uE (K:=K) rfl) rfl M.b_len dD (mM (pv 1) rq)) rq))))))))),?_⟩
 have V:=e.n6
 have Y:=Paired.len r
 have hn:=e.len
 refine⟨_,rfl,a,k,W,n,rfl,hA,r,e,λc cs N F m X R u B=>?_⟩
 refine⟨_,rfl,a,_,rfl,.inl (m.seq hA),(k.length:Int),rfl,by omega,by omega,?_⟩
 have S:((k.length:Nat):Int).toNat=n:=by omega
 rw[S]
 refine sH (n:=n) (λj l o=>Same F o/\dr (RwFT K o (EM.st W n N).D) l ((db j).map (Fc W n N)))
  ⟨Same.refl _,.nil⟩ (λj l o G p=>?_) (λl o p O g=>?_)
 ·obtain⟨b,d⟩:=p
  have y:=Paired.len d
  rw[cx,e9]at y
  refine⟨_,rfl,_,rfl,_,rfl,a,_,rfl,.inl ((m.trans b).seq hA),c,cs,W,n,N,j,by rw[d3,show k.length=n by omega];rfl,b _ _ R,e,u.up,Paired.mapP B (λ_ _ h=>h.mono b),G,λv Z t I=>⟨D8 (by omega),b.trans t,?_⟩⟩
  rw[gc,cS]
  exact Paired.app (Paired.mapP d λ_ _ h=>h.mono t) (.cons I .nil)
 ·obtain⟨b,d⟩:=p
  exact q O l N _ (m.trans (b.trans (rr g _))) ((m.trans b).free g) rz u (Paired.mapP d λ_ _ h=>h.mono (rr g _))
theorem Fn:Ea ["left","begun","person","thing","part","deal"] ["left","begun"] (D7 (Eb 30)):=⟨rfl,rfl,rfl,by decide +kernel,rfl,by decide +kernel,by decide +kernel⟩
theorem Em{m:Nat}(M:Md K mg x cB)
  (Gdeal_within:Dn P w K mg base Eh m "deal_within" ["left","begun"] (JB (GV K) m)):Dn P w K mg base Eh (m+1) "deal_within" ["left","begun"] (GV K m):=by
 have G:=(Fn).nd
 refine M.f_deal_within.ok Fn (λvs H Q E h=>?_) (λ_ _ _ _ _ _ us hl=>match us,hl with|[_,_],_=>rfl) (λf am A ai s H vs Q E hr h=>?_)
 ·obtain⟨l,b,u,e,T,n,k,a,rfl,J,L,r,C,ah,af,q0,q1⟩:=h
  rfl
 obtain⟨l,b,u,e,T,n,k,a,rfl,J,L,r,C,ah,af,q0,q1⟩:=h
 refine⟨_,(rn (rF (i:=2) G rfl (Or.inl rfl) (rH rO rfl M.b_len dD (mM (pv 1) rq)))
   (rn (su (rQ tO (pv 2) (rH rO rfl M.b_len dD (mM (pv 0) rq)) (Ee _)) (rC (rL (pv 1))) rS)
   (rn (sP dA rfl (z9 rfl M.b_enumerate (mM (rM rK (pv 0) (pv 2) (λ_ _=>rfl)) rq)) (yW rfl (sw (rJ (i:=3) G rfl (Or.inl rfl)) (sw (rJ (i:=4) G rfl (Or.inl rfl)) ul))) (rC (su (PW.pt (CB (rQ (xc hr) (pv 4) (tW M.c_NOTHING) (Ee _)) (Ai (rQ tV (pv 3) (pv 1) (by with_unfolding_all rfl))))) (rn (rF (i:=5) G rfl (Or.inl rfl) (rR Gdeal_within hr (cI _) rfl Ec (mM (pv 0) (mM (rN Ar (pv 1) (sE (mM (pv 3) rq))) rq))))
   (rC (su (rQ zP (pv 5) vZ (Ee _)) (rC (rL (pv 5))) rS))) rS)))
   (rC (rL vZ))))),?_⟩
 have aj:=Paired.len L
 have al:=r.hi
 have ak:=r.len
 have hT:=r.t0
 have X:(a.map V.int).length=a.length:=cx _
 refine⟨_,rfl,b,_,rfl,.inr C,?_⟩
 refine⟨_,rfl,_,rfl,l,u,rfl,.inl J,rfl,_,rfl,EA (λc=>?_) (λc=>?_)⟩
 ·have c':(a.map V.int).length=u.length:=by have:=Kl c;omega
  have aa:k=0:=by omega
  subst aa
  exact⟨_,rfl,q1 a rfl b H (Same.refl _) C⟩
 have c':a.length≠u.length:=λz=>c (by show V.int _=V.int _;rw[X,z])
 obtain⟨k,rfl⟩:∃k',k=k'+1:=⟨k-1,by omega⟩
 obtain⟨m,rfl⟩:∃m',m=m'+1:=⟨m-1,by omega⟩
 have D:a.length<e.length:=by omega
 obtain⟨rv,ad,ra,gs,rfl,Y,F⟩:=Paired.get L (cz D)
 have ag:=r.cols _ (cW D)
 have eM:e.getD a.length []=e[a.length]:=HM.getD_lt D
 have eE:∀t,HM.ent e a.length t=(e[a.length]).getD t 0:=λt=>by unfold HM.ent;rw[eM]
 generalize e[a.length]=o at F ag eE
 have ac:=Paired.len F
 rw[yt]at ac
 refine⟨_,rfl,_,rfl,l,u,_,_,rfl,rfl,J,by rw[X];exact si ad,ra,rfl,⟨_,Y⟩,?_⟩
 refine Bz (xs:=gs) (λi O j=>Same H j/\(db i).findSome? (λt=>if HM.ent e a.length t≠0/\(t:Int)∉a then HM.within e k (a++[(t:Int)])else none)=none/\∃r3 r4 r5,O=[some (.ref l),some (.ref b),some (.int (a.map V.int).length),r3,r4,r5])
  ⟨Same.refl _,rfl,_,_,_,rfl⟩ (λi O j _ B=>B.1.seq Y) (λi v O j t hv ht B=>?_) (λO j B=>?_)
 ·obtain⟨S1,g,r3,r4,r5,rfl⟩:=B
  have hi:i<o.length:=by
   have:=(cL.mp hv).1
   omega
  obtain⟨p,hp,hF⟩:=Paired.get' F hv
  rw[Ak hi]at hp
  cases hp
  have y:Same H (upd j t (.tup [.int i,v])):=S1.trans (rr ht _)
  have R:upd j t (.tup [.int i,v]) t=some (.tup [.int i,v]):=rz
  generalize upd j t (.tup [.int i,v])=I at y R ⊢
  refine⟨t,_,rfl,SqT.of R,rfl,_,_,rfl,_,_,rfl,rfl,?_⟩
  refine⟨_,rfl,λc0 ab=>⟨dF (FQ.red (o.getD i 0) T),dF (0,1),(hF.mono y).rep,IsF.rep ⟨c0,rfl,ab _⟩,sy _,sy _,_,rfl,?_⟩⟩
  rw[uI]
  refine GJ (λZ=>?_) (λZ=>?_)
  case refine_2=>
   have hz:o.getD i 0=0:=(sk (by omega)).mp Z
   refine⟨y,?_,_,_,_,rfl⟩
   rw[LN.findSome_snoc g,if_neg (λz=>z.1 (by rw[eE];exact hz))]
  have hz:o.getD i 0≠0:=λz=>Z ((sk (by omega)).mpr z)
  refine⟨_,rfl,_,rfl,b,_,rfl,.inr (y.tup C),rfl,vp _,_,rfl,?_⟩
  show if(!Ju (.int (i:Int)) (a.map V.int))=true then _ else _
  rw[wM]
  refine GJ (λc2=>?_) (λc2=>?_)
  case refine_2=>
   refine⟨y,?_,_,_,_,rfl⟩
   rw[LN.findSome_snoc g,if_neg (λz=>z.2 c2)]
  have W:HM.ent e a.length i≠0/\(i:Int)∉a:=⟨by rw[eE];exact hz,c2⟩
  refine⟨_,rfl,_,rfl,_,rfl,by show 1<=sizeLine;decide,λN ae=>?_⟩
  have S3:Same I (upd I N (.tup [.int i])):=rr ae _
  have S:SqT K (upd I N (.tup [.int i])) N (([(i:Int)]:List Int).map V.int):=SqT.of rz
  generalize upd I N (.tup [.int i])=H3 at S3 S ⊢
  have U:=y.trans S3
  refine DJ (U.tup C) S (by simp;omega) λp4 H4 S4 h4=>?_
  have q:=U.trans S4
  refine⟨l,p4,u,e,T,n,k,a++[(i:Int)],rfl,q.seq J,Paired.mapP L (λ_ _ h=>h.mono q),r,h4,by rw[dq];simp;omega,by omega,λe5 H5 S5=>?_,λd e5 p5 H5 S5 h5=>?_⟩
  ·refine⟨_,rfl,rfl,_,rfl,Eo ?_⟩
   refine⟨q.trans S5,?_,_,_,_,rfl⟩
   rw[LN.findSome_snoc g,if_pos W]
   exact e5
  ·refine⟨_,rfl,rfl,_,rfl,EN ?_⟩
   refine⟨_,rfl,q1 d ?_ p5 H5 (q.trans S5) h5⟩
   show(db e.length).findSome? _=some d
   exact LN.findSome_up (i:=i+1) (by rw[LN.findSome_snoc g,if_pos W];exact e5) (by omega)
 ·obtain⟨S1,g,r3,r4,r5,rfl⟩:=B
  refine q0 ?_ _ S1
  show(db e.length).findSome? _=none
  rw[show e.length=gs.length by omega]
  exact g
theorem Fp:Ea ["row","thing","weight","rest"] ["row","thing","weight"] (D7 (Eb 31)):=⟨rfl,rfl,rfl,by decide +kernel,rfl,by decide +kernel,by decide +kernel⟩
theorem G7(M:Md K mg x cB)
  (Gminus:Dn P w K mg base Eh 3 "minus" ["one","two"] (G4 IW K)):Dn P w K mg base Eh 4 "row_without" ["row","thing","weight"] (JI K):=by
 have Z:=(Fp).nd
 refine M.f_row_without.ok Fp (λvs H Q E h=>?_) (λ_ _ _ _ _ _ Y hl=>match Y,hl with|[_,_,_],_=>rfl) (λf aa A S s H vs Q E V h=>?_)
 ·obtain⟨r,w,a,m,t,T,x,rfl,g,j,z,⟨hT,C⟩,⟨c,y⟩,J,⟨u,L⟩,⟨I,R⟩,q⟩:=h
  rfl
 obtain⟨r,w,a,m,t,T,x,rfl,g,j,z,⟨hT,C⟩,⟨c,y⟩,J,⟨u,L⟩,⟨I,R⟩,q⟩:=h
 refine⟨_,(rn (rF (i:=3) Z rfl (Or.inl rfl) (sd sN rfl M.b_list Boot.«list» (mM (pv 0) rq)))
   (rn (wc (rR Gminus V (by decide) rfl Ec (mM (rM rK (pv 0) (pv 1) (λ_ _=>rfl)) (mM (pv 2) rq))) (wk (pv 3) (pv 1) wB))
   (rC (rL (pv 3))))),?_⟩
 have d:T≠0:=by omega
 have N:=Paired.len j
 rw[yt]at N
 obtain⟨_,U,F⟩:=id z
 cases U
 have G:t.toNat<m.length:=by omega
 refine⟨_,rfl,r,a,rfl,.inl g,λp hp=>?_⟩
 have b:Same H (upd H p (.lst a)):=rr hp _
 have l:upd H p (.lst a) p=some (.lst a):=rz
 generalize upd H p (.lst a)=H1 at b l ⊢
 obtain⟨v,X,W,rfl,B⟩:=Paired.get j (Ak (D:=T) G)
 refine⟨_,rfl,_,rfl,r,a,t,_,rfl,rfl,b.seq g,sD c X,_,rfl,W,w,_,_,rfl,b.tup B,b.tup F,vf d (by omega) (by omega),vf d (by omega) (by omega),λpf H2 o n=>?_⟩
 rw[B0 d]at n
 have k:=o _ _ l
 have O:Js a.length t=some t.toNat:=by
  unfold Js
  rw[if_pos c,if_pos (by omega)]
 refine⟨_,rfl,_,rfl,p,_,_,_,rfl,rfl,k,O,?_⟩
 refine⟨_,rfl,q p _ _ ((b.trans o).over hp _) hp rz ?_⟩
 have e:fr T (LM.addOne m t (-x))=(fr T m).set t.toNat (FQ.red (m.getD t.toNat 0-x) T):=by
  unfold fr LM.addOne
  rw[qp,mV]
 rw[e]
 exact Paired.mapP (wg (rP (b.trans o) j) ⟨pf,rfl,SqT.of n⟩) λ_ _ h=>h.over k
theorem GG:Ea ["table","left","spent","lots","deal","weight"] ["table"] (D7 (Eb 32)):=⟨rfl,rfl,rfl,by decide +kernel,rfl,by decide +kernel,by decide +kernel⟩
theorem Jm(M:Md K mg x cB)
  (Gdeal_within:Dn P w K mg base Eh 7 "deal_within" ["left","begun"] (GV K 6))
  (Gleast:Dn P w K mg base Eh 2 "least" ["parts"] (Hm K))
  (Grow_without:Dn P w K mg base Eh 4 "row_without" ["row","thing","weight"] (JI K))
  (Gplus:Dn P w K mg base Eh 3 "plus" ["one","two"] (G4 FK K)):Dn P w K mg base Eh 8 "lots_of" ["table"] (GW K):=by
 have nd:=(GG).nd
 refine M.f_lots_of.ok GG (λvs H Q E h=>?_) (λ_ _ _ _ _ _ us hl=>match us,hl with|[_],_=>rfl) (λf bo A bh s H vs Q E hr h=>?_)
 ·obtain⟨a,us,Z,T,n,rfl,hA,hZ,ok,q⟩:=h
  rfl
 obtain⟨a,us,Z,T,n,rfl,hA,hZ,ok,q⟩:=h
 refine⟨_,(rn (sA (i:=1) nd rfl rfl rfl rfl (N:=["row"]) (caps:=[none]) (CompOk.of (by kernel_rfl)) (rV rfl) (sT (pv 0)) (λ_ _ _ _=>(rJ (i:=0) (show(["row"]:List Str).Nodup by decide +kernel) rfl (Or.inl rfl) (Or.inr rfl))) (λ_ _ _ _=>sh) (λ_ _ _ _=>(sd (wx (K:=K) rfl) rfl M.b_list Boot.«list» (mM (pv 0) rq))))
   (rn (rF (i:=2) nd rfl (Or.inl rfl) (tW M.c_NOTHING))
   (rn (rF (i:=3) nd rfl (Or.inl rfl) (t5 rq))
   (rn (uD dA (rQ (xc hr) (pv 2) (tW M.c_WHOLE) (Ee _)) (rn (rF (i:=4) nd rfl (Or.inl rfl) (rR Gdeal_within hr (by decide) rfl Ec (mM (pv 1) (mM (sE rq) rq))))
   (rn (rF (i:=5) nd rfl (Or.inr rfl) (rR Gleast hr (by decide) rfl Ec (mM (sr rfl (N:=["row","thing"]) (caps:=[none,none]) (CompOk.of (by kernel_rfl)) (yB (sZ sF (rV rfl) (sZ sF (rV rfl) wU))) (Cl rfl M.b_zip (mM (pv 1) (mM (pv 4) rq))) (λ_ _ _ _=>(wV (K:=K) rfl 2 rfl (sw (rJ (i:=0) (show(["row","thing"]:List Str).Nodup by decide +kernel) rfl (Or.inl rfl) (Or.inr rfl)) (sw (rJ (i:=1) (show(["row","thing"]:List Str).Nodup by decide +kernel) rfl (Or.inl rfl) (Or.inr rfl)) ul)))) (λ_ _ _ _=>sh) (λ_ _ _ _=>(rM (sQ (K:=K) rfl) (pv 0) (pv 1) (λ_ _=>rfl)))) rq)))
   (rn (sA (i:=1) nd rfl rfl rfl rfl (N:=["row","thing","weight"]) (caps:=[none,none,some 5]) (CompOk.of (by kernel_rfl)) (yB (sZ sF (rV rfl) (sZ sF (rV rfl) wU))) (Cl rfl M.b_zip (mM (pv 1) (mM (pv 4) rq))) (λ_ _ _ _=>(wV (K:=K) rfl 2 rfl (sw (rJ (i:=0) (show(["row","thing","weight"]:List Str).Nodup by decide +kernel) rfl (Or.inl rfl) (Or.inr rfl)) (sw (rJ (i:=1) (show(["row","thing","weight"]:List Str).Nodup by decide +kernel) rfl (Or.inl rfl) (Or.inr rfl)) ul)))) (λ_ _ _ _=>sh) (λ_ _ _ _=>(rR Grow_without hr (by decide) rfl Ec (mM (pv 0) (mM (pv 1) (mM (pv 2) rq))))))
   (rn (rF (i:=2) nd rfl (Or.inl rfl) (rR Gplus hr (by decide) rfl Ec (mM (pv 2) (mM (pv 5) rq))))
   (rC (sR (uJ dI fR fS tK (pv 3) (mM (sE (mM (pv 5) (mM (pv 4) rq))) rq)))))))))
   (rC (rL (pv 3))))))),?_⟩
 have bg:=Paired.len hZ
 have ar:=ok.lo
 have az:=ok.hi
 have hT:=ok.t0
 have aS:=ok.t1
 have X:T≠0:=by omega
 have bm:=ok.reg.len
 have ai:(0:Nat)<=sizeLine:=by decide
 refine⟨_,rfl,a,rfl,⟨_,hA⟩,?_⟩
 refine sO (xs:=us) (λi ys J=>Same H J/\dr (λv (m:List Int)=>∃a G,v = .ref a/\J a=some (.lst G)/\dr (IsF K J) G (fr T m)) ys (Z.take i)) ⟨Same.refl _,by rw[eO];exact .nil⟩ (λi ys J _ c=>c.1.seq hA) (λi x ys J Y c=>?_) (λys J c l0 aP=>?_)
 ·obtain⟨S1,ah⟩:=c
  obtain⟨r,bc,ta,G,rfl,a4,bb⟩:=Paired.get' hZ Y
  have a9:=Paired.len ah
  rw[cV]at a9
  refine⟨_,rfl,ta,G,rfl,.inr (S1.tup a4),λp hp=>⟨D8 (by omega),S1.trans (rr hp _),?_⟩⟩
  rw[cY,bc]
  exact Paired.app (Paired.mapP ah λ_ _ ⟨a',ae,e1,e2,e3⟩=>⟨a',ae,e1,rr hp _ _ _ e2,rP (rr hp _) e3⟩) (.cons ⟨p,G,rfl,rz,rP (S1.trans (rr hp _)) bb⟩ .nil)
 obtain⟨S1,ah⟩:=c
 rw[bg,dj]at ah
 refine λc0 a7=>?_
 refine⟨ai,λL aH=>?_⟩
 have Sl:Same J (upd (upd J l0 (.lst ys)) L (.lst [])):=(rr aP _).trans (rr aH _)
 have aE:upd (upd J l0 (.lst ys)) L (.lst []) l0=some (.lst ys):=rr aH _ _ _ rz
 have aj:upd (upd J l0 (.lst ys)) L (.lst []) L=some (.lst []):=rz
 have al:J L=none:=(rr aP _).free aH
 have a0:H L=none:=S1.free al
 generalize upd (upd J l0 (.lst ys)) L (.lst [])=H1 at Sl aE aj ⊢
 refine⟨λm σ C=>∃(i:Nat) (lf sp:cG) (rs ls:List V) (r4 r5:Option V),m=(HM.it Z T i).2.toNat/\σ=[some (.ref a),some (.ref lf),some (.ref sp),some (.ref L),r4,r5]/\Same J C/\(∀j,j<i->(HM.it Z T j).2≠0)/\SqL K C lf rs/\dr (RwFX K C T L) rs (HM.it Z T i).1/\
   IsF K C (.ref sp) (FQ.red (T-(HM.it Z T i).2) T)/\C L=some (.lst ls)/\dr (IsLot K C T) ls (HM.lotsL Z T i),
  ⟨_,0,l0,c0,ys,[],_,_,rfl,rfl,Sl,(λj k=>absurd k (gx _)),SqL.of aE,Paired.mapP ah (λ_ _ ⟨a',ae,e1,e2,e3⟩=>⟨a',ae,e1,(λz=>by rw[z,al]at e2;cases e2),Sl _ _ e2,rP Sl e3⟩),⟨c0,rfl,by rw[show T-(HM.it Z T 0).2=0 from Int.sub_self T,uZ X];exact a7 _⟩,aj,.nil⟩,λm σ C c=>?_⟩
 clear Sl aE aj
 obtain⟨i,lf,sp,rs,ls,r4,r5,rfl,rfl,S2,au,ad,an,aB,U,aG⟩:=c
 obtain⟨_,e0,ax⟩:=id aB
 cases e0
 have I:=HM.it_ok ok.reg hT ar i au
 have a8:=I.r0
 have ba:=I.rT
 refine⟨_,rfl,λc1 be=>⟨_,_,aB.rep,IsF.rep (p:=(1,1)) ⟨c1,rfl,be _⟩,sy _,sy _,_,rfl,?_⟩⟩
 rw[uI]
 by_cases hz:(HM.it Z T i).2=0
 ·rw[decide_eq_true (by rw[hz,qh];exact x3 X)]
  exact⟨_,rfl,q i L ls C ⟨hz,au⟩ (S1.trans S2) a0 U aG⟩
 rw[decide_eq_false (λz=>hz (by have:=(z6 X).mp z;omega))]
 refine⟨_,(λbn J z=>z),?_⟩
 have S:=I.reg.step (by omega) ar
 have eN:(HM.it Z T (i+1))=(LM.addDeal (HM.it Z T i).1 (HM.dealOf (HM.it Z T i).1) (-HM.wOf (HM.it Z T i).1),(HM.it Z T i).2-HM.wOf (HM.it Z T i).1):=rfl
 have eL:HM.lotsL Z T (i+1)=HM.lotsL Z T i++[(HM.wOf (HM.it Z T i).1,HM.dealOf (HM.it Z T i).1)]:=by
  unfold HM.lotsL
  rw[gc,cS]
  rfl
 have aZ:∀j,j<i+1->(HM.it Z T j).2≠0:=λj k=>by
  rcases fN.mp k with z|z
  ·exact au j z
  ·rw[z];exact hz
 have bi:i<=60:=by
  have h1:=I.few hz
  have h2:=HM.pn_le az Z
  have h3:0<=HM.pn n (HM.it Z T i).1:=by
   have:=HM.sm_le (n:=n) (f:=λ_=>0) (g:=λp=>(HM.cnt n λt=>decide (HM.ent (HM.it Z T i).1 p t≠0):Nat)) λp _=>m3 _
   rw[HM.sm_zero]at this
   exact this
  omega
 have u:=I.reg
 clear I
 generalize HM.it Z T i=MR at *
 obtain⟨M,R⟩:=MR
 dsimp only at hz S eN eL u a8 ba an aB ax ⊢
 have ap:=u.len
 have bj:=Paired.len an
 have aF:=S.pm
 have aI:=aF.len
 have bk:=S.w1
 have bl:=S.wR
 have a2:LE n T M:=⟨ar,az,hT,aS,ap,u.cols⟩
 -- the deal
 refine⟨_,rfl,ai,λpe a3=>?_⟩
 have S3:Same C (upd C pe (.tup [])):=rr a3 _
 have aw:SqT K (upd C pe (.tup [])) pe (([]:List Int).map V.int):=SqT.of rz
 generalize upd C pe (.tup [])=H3 at S3 aw ⊢
 refine⟨lf,pe,rs,M,T,n,n,[],rfl,S3.seq ad,Paired.mapP an (λ_ _ h=>(h.mono S3).fl),a2,aw,by simp,by omega,λz=>absurd (S.some.symm.trans z) (by simp),λd ed pd H4 S4 ag=>?_⟩
 rw[S.some]at ed
 cases ed
 have am:=S3.trans S4
 -- the weight
 have aW:∀p,p<n->HM.ent M p ((HM.dealOf M).getD p 0).toNat<=T:=λp hp=>by
  have hb:=aF.mem.mp (show(HM.dealOf M).getD p 0∈HM.dealOf M by rw[HM.getD_lt (by omega)];exact cW _)
  have h1:=HM.sm_one_le (n:=n) (λi=>u.nn p i) (show((HM.dealOf M).getD p 0).toNat<n by omega)
  rw[u.row p hp]at h1
  omega
 have vl:(HM.valsM M (HM.dealOf M)).length=n:=by unfold HM.valsM;simp[ap,aI]
 have aK:∀j,j<n->∃B G,rs[j]?=some (.ref B)/\SqL K C B G/\dr (IsF K C) G (fr T (M.getD j [])):=λj k=>by
  obtain⟨rv,af,B,G,rfl,_,h1,h2⟩:=Paired.get an (cz (show j<M.length by omega))
  exact⟨B,G,af,SqL.of h1,by rw[HM.getD_lt (by omega)];exact h2⟩
 have ak:∀j,j<n->(M.getD j []).length=n:=λj k=>by rw[HM.getD_lt (by omega)];exact u.cols _ (cW _)
 have aT:∀j,j<n->0<=(HM.dealOf M).getD j 0/\(HM.dealOf M).getD j 0<n:=λj k=>aF.mem.mp (by rw[HM.getD_lt (by omega)];exact cW _)
 have aV:rs.length=((HM.dealOf M).map V.int).length:=by rw[cx];omega
 refine⟨_,rfl,_,rfl,false,true,lf,pd,rfl,⟨_,am.seq ad⟩,⟨_,ag⟩,?_⟩
 refine xC (xs:=rs) (ys:=(HM.dealOf M).map V.int) (λj l b=>Same H4 b/\dr (IsF K b) l (fr T ((HM.valsM M (HM.dealOf M)).take j))) aV ⟨Same.refl _,by rw[eO];exact .nil⟩ (λj l b _ c=>⟨(am.trans c.1).seq ad,c.1.tup ag⟩) (λj x y l b t Y hy ht c=>?_) (λl b c Dd a5=>?_)
 ·obtain⟨S5,o⟩:=c
  have k:j<n:=by have:=(cL.mp Y).1;omega
  obtain⟨B,G,af,h1,h2⟩:=aK j k
  rw[af]at Y
  cases Y
  rw[tm (by omega)]at hy
  cases hy
  have hb:=aT j k
  have a6:((HM.dealOf M).getD j 0).toNat<(M.getD j []).length:=by rw[ak j k];omega
  have W:Same b (upd b t (.tup [.ref B,.int ((HM.dealOf M).getD j 0)])):=rr ht _
  have ac:upd b t (.tup [.ref B,.int ((HM.dealOf M).getD j 0)]) t=some (.tup [.ref B,.int ((HM.dealOf M).getD j 0)]):=rz
  generalize upd b t (.tup [.ref B,.int ((HM.dealOf M).getD j 0)])=Hy at W ac ⊢
  obtain⟨v,hv,hF⟩:=Paired.get h2 (Ak (D:=T) a6)
  have O:=am.trans (S5.trans W)
  have av:=Paired.len o
  rw[yt,cV]at av
  refine⟨t,_,rfl,SqT.of ac,rfl,_,_,rfl,_,_,rfl,rfl,?_⟩
  refine⟨_,rfl,_,rfl,B,G,_,v,rfl,rfl,O.seq h1,sD hb.1 hv,D8 (by omega),S5.trans W,?_⟩
  rw[cY,HM.valsM_get ap aI k]
  unfold fr
  rw[cS]
  exact Paired.app (rP W o) (.cons (hF.mono O) .nil)
 obtain⟨S5,o⟩:=c
 rw[show rs.length=(HM.valsM M (HM.dealOf M)).length by omega,dj]at o
 have W:Same b (upd b Dd (.lst l)):=rr a5 _
 have aN:SqL K (upd b Dd (.lst l)) Dd l:=SqL.of rz
 generalize upd b Dd (.lst l)=H6 at W aN ⊢
 have aO:HM.valsM M (HM.dealOf M)≠[]:=λz=>by rw[z]at vl;simp at vl;omega
 refine⟨Dd,l,fr T (HM.valsM M (HM.dealOf M)),rfl,aN,rP W o,(λz=>aO (by unfold fr at z;exact List.map_eq_nil_iff.mp z)),by rw[yt];omega,λp hp=>?_,λv hv=>?_⟩
 ·unfold fr at hp
  obtain⟨x,Y,rfl⟩:=dv.mp hp
  obtain⟨j,k,e⟩:=eK.mp Y
  have aX:j<n:=by omega
  have e2:=HM.valsM_get ap aI aX
  rw[cz k,e]at e2
  have e3:x=HM.ent M j ((HM.dealOf M).getD j 0).toNat:=Option.some.inj e2
  have h1:=aW j aX
  have h2:=u.nn j ((HM.dealOf M).getD j 0).toNat
  rw[<-e3]at h1 h2
  exact vf X (by omega) (by omega)
 have ew:GF (fr T (HM.valsM M (HM.dealOf M)))=FQ.red (HM.wOf M) T:=by
  unfold fr HM.wOf
  exact zw hT aO
 rw[ew]at hv
 obtain⟨wa,rfl,ay⟩:=hv
 have O:=am.trans (S5.trans W)
 -- what is left
 refine⟨_,rfl,_,rfl,false,true,lf,pd,rfl,⟨_,O.seq ad⟩,⟨_,(S5.trans W).tup ag⟩,?_⟩
 refine xC (xs:=rs) (ys:=(HM.dealOf M).map V.int) (λj l b=>Same H6 b/\dr (RwFX K b T L) l ((LM.addDeal M (HM.dealOf M) (-HM.wOf M)).take j)) aV ⟨Same.refl _,by rw[eO];exact .nil⟩ (λj l b _ c=>⟨(O.trans c.1).seq ad,(S5.trans (W.trans c.1)).tup ag⟩) (λj x y l b t Y hy ht c=>?_) (λl H7 c l7 ao=>?_)
 ·obtain⟨S7,o⟩:=c
  have k:j<n:=by have:=(cL.mp Y).1;omega
  obtain⟨B,G,af,h1,h2⟩:=aK j k
  rw[af]at Y
  cases Y
  rw[tm (by omega)]at hy
  cases hy
  have hb:=aT j k
  have S8:Same b (upd b t (.tup [.ref B,.int ((HM.dealOf M).getD j 0)])):=rr ht _
  have ac:upd b t (.tup [.ref B,.int ((HM.dealOf M).getD j 0)]) t=some (.tup [.ref B,.int ((HM.dealOf M).getD j 0)]):=rz
  generalize upd b t (.tup [.ref B,.int ((HM.dealOf M).getD j 0)])=Hy at S8 ac ⊢
  have ab:=O.trans (S7.trans S8)
  have av:=Paired.len o
  rw[cV,HM.addDeal_len (by omega)]at av
  have h3:=aW j k
  have h4:=u.nn j ((HM.dealOf M).getD j 0).toNat
  refine⟨t,_,rfl,SqT.of ac,rfl,_,_,rfl,_,_,rfl,rfl,?_⟩
  refine⟨_,rfl,_,rfl,_,rfl,B,wa,G,M.getD j [],_,T,HM.wOf M,rfl,ab.seq h1,rP ab h2,⟨wa,rfl,(S7.trans S8).tup ay⟩,⟨hT,aS⟩,⟨hb.1,by rw[ak j k];exact hb.2⟩,by rw[ak j k];exact az,⟨h4,h3⟩,⟨by omega,by omega⟩,λp ae Hw Sw aQ hp aY=>⟨D8 (by omega),S7.trans (S8.trans Sw),?_⟩⟩
  rw[cY,HM.addDeal_get (by omega) (by omega)]
  exact Paired.app (Paired.mapP o λ_ _ h=>h.mono (S8.trans Sw)) (.cons ⟨p,ae,rfl,(λz=>by rw[z,ab _ _ U]at aQ;cases aQ),hp,aY⟩ .nil)
 obtain⟨S7,o⟩:=c
 rw[eJ (by rw[HM.addDeal_len (by omega)];omega)]at o
 have S8:Same H7 (upd H7 l7 (.lst l)):=rr ao _
 have aM:upd H7 l7 (.lst l) l7=some (.lst l):=rz
 generalize upd H7 l7 (.lst l)=H8 at S8 aM ⊢
 have aA:=S7.trans S8
 have ab:=O.trans aA
 -- spent
 refine⟨_,rfl,_,rfl,sp,wa,_,_,rfl,ab.tup ax,aA.tup ay,vf X (by omega) (by omega),vf X (by omega) (by omega),λpf H9 S9 aR=>?_⟩
 rw[wt X]at aR
 have aL:=ab.trans S9
 -- the lot
 have a1:=aL _ _ U
 have aJ:=Paired.len aG
 unfold HM.lotsL at aJ
 rw[cx,e9]at aJ
 refine⟨_,rfl,.inl ⟨rfl,_,SqL.of a1⟩,_,rfl,_,rfl,by show 2<=sizeLine;decide,λpt bf=>?_⟩
 have SA:Same H9 (upd H9 pt (.tup [.ref wa,.ref pd])):=rr bf _
 have aD:upd H9 pt (.tup [.ref wa,.ref pd]) pt=some (.tup [.ref wa,.ref pd]):=rz
 generalize upd H9 pt (.tup [.ref wa,.ref pd])=HA at SA aD ⊢
 have aC:=aL.trans SA
 have aa:=aC _ _ U
 refine⟨L,ls,_,rfl,rfl,aa,D8 (by omega),?_⟩
 have aq:=S9.trans SA
 have aU:=aA.trans aq
 refine⟨(R-HM.wOf M).toNat,by omega,i+1,l7,pf,l,ls++[.ref pt],_,_,by rw[eN],rfl,(S2.trans aC).over al _,aZ,?_,?_,?_,rz,?_⟩
 ·exact SqL.over (SqL.of (aq _ _ aM)) (λz=>by rw[z]at ao;rw[(O.trans S7) _ _ U]at ao;cases ao)
 ·rw[eN]
  exact Paired.mapP o λ_ _ h=>(h.mono (S8.trans aq)).over aa
 ·rw[eN]
  refine IsF.over ⟨pf,rfl,SqT.of (SA _ _ ?_)⟩ aa
  rw[aR]
  show some (JM (FQ.red (T-R+HM.wOf M) T))=some (JM (FQ.red (T-(R-HM.wOf M)) T))
  rw[show T-R+HM.wOf M=T-(R-HM.wOf M)by omega]
 ·rw[eL]
  refine Paired.app (Paired.mapP aG λ_ _ h=>(h.mono aC).over aa) (.cons (IsLot.over ⟨pt,wa,pd,rfl,SqT.of aD,⟨wa,rfl,aU.tup ay⟩,((S5.trans W).trans aU).tup ag⟩ aa) .nil)
theorem Hj:Ea ["lots","number","place","so_far"] ["lots","number"] (D7 (Eb 33)):=⟨rfl,rfl,rfl,by decide +kernel,rfl,by decide +kernel,by decide +kernel⟩
theorem JJ(M:Md K mg x cB)
  (Gbefore:Dn P w K mg base Eh 1 "before" ["one","two"] (GA K))
  (Gplus:Dn P w K mg base Eh 3 "plus" ["one","two"] (G4 FK K)):Dn P w K mg base (FJ P w) 4 "picked" ["lots","number"] (GH K x):=by
 have D:=(Hj).nd
 refine M.f_picked.okE Hj (λvs H Q E h=>?_) (λ_ _ _ _ _ _ us hl=>match us,hl with|[_,_],_=>rfl) (λf am A ai s H vs Q E C h=>?_)
 ·obtain⟨L,m,r,a,T,n,p,rfl,G,g,l,hm,hz,hp,Y,q⟩:=h
  rfl
 obtain⟨L,m,r,a,T,n,p,rfl,G,g,l,hm,hz,hp,Y,q⟩:=h
 refine⟨_,(rn (su (PW.pt (xI (sM (rR Gbefore C (by decide) rfl Ec (mM (pv 1) (mM (tW M.c_NOTHING) rq)))) (wh (tD (sM (rR Gbefore C (by decide) rfl Ec (mM (pv 1) (mM (tW M.c_WHOLE) rq)))))))) (rC (tM M.x_NoPick rfl (mM sB rq))) rS)
   (rn (rF (i:=2) D rfl (Or.inl rfl) rD)
   (rn (rF (i:=3) D rfl (Or.inl rfl) (rM sj (rM rK (pv 0) rD (λ_ _=>rfl)) rD (λ_ _=>rfl)))
   (rn (uD rf (tD (sM (rR Gbefore C (by decide) rfl Ec (mM (pv 1) (mM (pv 3) rq))))) (rn (rF (i:=2) D rfl (Or.inl rfl) (rN sC (pv 2) rD))
   (rC (rF (i:=3) D rfl (Or.inl rfl) (rR Gplus C (by decide) rfl Ec (mM (pv 3) (mM (rM sj (rM rK (pv 0) (pv 2) (λ_ _=>rfl)) rD (λ_ _=>rfl)) rq)))))))
   (rC (rL (rM sj (rM rK (pv 0) (pv 2) (λ_ _=>rfl)) rD (λ_ _=>rfl)))))))),?_⟩
 obtain⟨_,U,v⟩:=id hm
 cases U
 have hT:=l.T0
 have o:T≠0:=by omega
 have t:Sz 4000 p:=hz.up (by decide)
 have ag:Sz 4000 ((0,1):Int×Int):=Sz.up (m:=30) ⟨by decide,by decide,by decide⟩ (by decide)
 have af:Sz 4000 ((1,1):Int×Int):=Sz.up (m:=30) ⟨by decide,by decide,by decide⟩ (by decide)
 refine⟨_,rfl,λc0 ab=>⟨m,c0,p,(0,1),rfl,v,ab _,t,ag,_,rfl,?_⟩⟩
 show if Eu p (0,1)=true then _ else _
 refine Jq (λc=>⟨by show 1<=sizeLine;decide,Y (.inl c)⟩) (λn0=>?_)
 refine⟨_,rfl,λc1 ae=>⟨m,c1,p,(1,1),rfl,v,ae _,t,af,_,rfl,?_⟩⟩
 show if(!Eu p (1,1))=true then _ else _
 refine Jq (λc=>⟨by show 1<=sizeLine;decide,Y (.inr (by simpa using c))⟩) (λX=>?_)
 have ah:¬EL p:=λz=>by
  rcases z with z|z
  ·exact n0 z
  ·rw[z]at X;exact X rfl
 have q:=q ah
 have y1:Eu p (1,1)=true:=by simpa using X
 have aj:=Paired.len g
 have ak:=l.ne
 obtain⟨v0,ad,a0,f0,g0,rfl,h1,h2,h3⟩:=Paired.get g (cz (show 0<a.length by omega))
 refine⟨_,rfl,L,r,0,_,rfl,rfl,G,si ad,a0,_,0,_,rfl,rfl,h1,rfl,?_⟩
 have e1:cw a 1=(a[0]).1:=by
  have:=cw_succ (cz (show 0<a.length by omega))
  rw[cw_zero,d3]at this
  exact this
 refine⟨λk σ B=>∃(i:Nat) (S:V),k=a.length-i/\i<a.length/\Same H B/\σ=[some (.ref L),some (.ref m),some (.int i),some S]/\IsF K B S (FQ.red (cw a (i+1)) T)/\∀j,j<i->Eu p (FQ.red (cw a (j+1)) T)=false,
  ⟨_,0,.ref f0,rfl,by omega,Same.refl _,rfl,by rw[nJ,e1];exact h2,λj O=>absurd O (gx _)⟩,λk σ B hP=>?_⟩
 obtain⟨i,S,rfl,F,b,rfl,ac,I⟩:=hP
 obtain⟨N,rfl,y⟩:=ac
 have bd:=l.bd (i:=i+1) F
 have zc:Sz 4000 (FQ.red (cw a (i+1)) T):=vf o (by omega) (by omega)
 refine⟨_,rfl,_,rfl,m,N,p,FQ.red (cw a (i+1)) T,rfl,b.tup v,y,t,zc,_,rfl,?_⟩
 show if(!Eu p (FQ.red (cw a (i+1)) T))=true then _ else _
 refine Jq (λc=>?_) (λc=>?_)
 ·have cn:Eu p (FQ.red (cw a (i+1)) T)=false:=by simpa using c
  have d:i+1<a.length:=by
   refine dM λz=>?_
   have e:i+1=a.length:=by omega
   rw[e,l.tot,x3 o,y1]at cn
   cases cn
  obtain⟨v1,u,R,Z,g1,rfl,W,k2,k3⟩:=Paired.get g (cz d)
  obtain⟨_,U,aa⟩:=id k2
  cases U
  have wb:=l.w1 _ (cW d)
  have an:=l.w2 _ (cW d)
  refine⟨_,(λal B z=>z),?_⟩
  refine⟨_,rfl,_,_,rfl,rfl,?_⟩
  refine⟨_,rfl,_,rfl,_,rfl,L,r,_,_,rfl,rfl,b.seq G,by show G0 r ((i:Int)+1)=_;exact sD (by omega) (by rw[show((i:Int)+1).toNat=i+1 by omega];exact u),R,_,0,_,rfl,rfl,b.tup W,rfl,N,Z,_,_,rfl,y,b.tup aa,zc,vf o (by omega) (by omega),λpf H2 S2 J=>?_⟩
  rw[wt o,<-cw_succ (cz d)]at J
  exact⟨a.length-(i+1),by omega,i+1,.ref pf,rfl,d,b.trans S2,rfl,⟨pf,rfl,SqT.of J⟩,λj O=>by
   rcases fN.mp O with z|z
   ·exact I j z
   ·rw[z];exact cn⟩
 ·have cy:Eu p (FQ.red (cw a (i+1)) T)=true:=by simpa using c
  obtain⟨v1,u,R,Z,g1,rfl,W,k2,k3⟩:=Paired.get g (cz F)
  refine⟨_,rfl,_,rfl,L,r,_,_,rfl,rfl,b.seq G,si u,R,_,1,_,rfl,rfl,b.tup W,rfl,?_⟩
  refine q i (.ref g1) B ⟨F,cy,I⟩ b ⟨g1,rfl,?_⟩
  rw[cC,cz F]
  exact b.tup k3
theorem FE:Ea ["value"] ["value"] (D7 (Eb 36)):=⟨rfl,rfl,rfl,by decide +kernel,rfl,by decide +kernel,by decide +kernel⟩
theorem HN(M:Md K mg x cB):Dn P w K mg base Eh 1 "is_listing" ["value"] (He K):=by
 have l:=(FE).nd;refine M.f_is_listing.ok FE (λvs H Q E h=>?_) (λ_ _ _ _ _ _ e g=>match e,g with|[_],_=>rfl) (λf j A c s H vs Q E k h=>?_)
 ·obtain⟨v,t,rfl,b,q⟩:=h;rfl
 obtain⟨v,t,rfl,b,q⟩:=h;refine⟨_,(rC (rL (rH A3 rfl M.b_isinstance Boot.«isinstance» (mM (pv 0) (mM (sE (mM (tR rfl M.b_list Boot.«list») (mM (tR rfl M.b_tuple Boot.«tuple») rq))) rq))))),?_⟩;refine⟨_,rfl,by show 2<=sizeLine;decide,λd a=>?_⟩;exact⟨v,d,t,rfl,SqT.of rz,b.mono (rr a _),q _ (rr a _)⟩
theorem FB:Ea ["rows"] ["rows"] (D7 (Eb 37)):=⟨rfl,rfl,rfl,by decide +kernel,rfl,by decide +kernel,by decide +kernel⟩
theorem Ht(M:Md K mg x cB)
  (Gis_listing:Dn P w K mg base Eh 1 "is_listing" ["value"] (He K)):Dn P w K mg base Eh 2 "has_people" ["rows"] (Iu K):=by
 have y:=(FB).nd
 refine M.f_has_people.ok FB (λvs H Q E h=>?_) (λ_ _ _ _ _ _ b o=>match b,o with|[_],_=>rfl) (λf v A n s H vs Q E r h=>?_)
 ·obtain⟨a,b,rfl,d,q⟩:=h
  rfl
 obtain⟨a,b,rfl,d,q⟩:=h
 refine⟨_,(rC (rL (uF (rR Gis_listing r (by decide) rfl Ec (mM (pv 0) rq)) (vJ (yZ BE BE rD (rH rO rfl M.b_len dD (mM (pv 0) rq)) (zM M.c_MOST_PEOPLE)))))),?_⟩
 have l:∃t,tyOf K H (.ref a) t/\(Gv t "list"||Gv t "tuple")=true:=by
  rcases d with d|d
  ·exact⟨"list",.inl ⟨rfl,_,d⟩,rfl⟩
  ·exact⟨"tuple",.inr ⟨rfl,_,d⟩,rfl⟩
 obtain⟨t,p,u⟩:=l
 refine⟨_,rfl,.ref a,t,rfl,p,λg k=>⟨_,rfl,?_⟩⟩
 rw[u]
 refine EN ?_
 have m:SqL K g a b\/SqT K g a b:=d.imp k.seq k.tup
 refine⟨_,rfl,a,b,rfl,m,_,_,rfl,rfl,_,rfl,?_⟩
 have j:=q g k
 refine EA (λc=>?_) (λc=>?_)
 ·refine⟨_,_,rfl,rfl,?_⟩
  have e:decide ((b.length:Int)<=6)=decide (1<=b.length/\b.length<=6):=by
   apply gv.mpr;simp only[decide_eq_true_eq];omega
  dsimp only
  rw[e]
  exact j
 ·have e:decide (1<=b.length/\b.length<=6)=false:=decide_eq_false (by omega)
  rw[e]at j
  exact j
theorem FU:Ea ["wish","taken"] ["wish","taken"] (D7 (Eb 39)):=⟨rfl,rfl,rfl,by decide +kernel,rfl,by decide +kernel,by decide +kernel⟩
theorem Ij(M:Md K mg x cB):Dn P w K mg base Eh 1 "best_free" ["wish","taken"] (HY K):=by
 have J:=(FU).nd;refine M.f_best_free.ok FU (λvs H Q E h=>?_) (λ_ _ _ _ _ _ F o=>match F,o with|[_,_],_=>rfl) (λf G A C s H vs Q E I h=>?_)
 ·obtain⟨w,l,a,g,rfl,r,o,z,p,q⟩:=h;rfl
 obtain⟨w,l,a,g,rfl,r,o,z,p,q⟩:=h;refine⟨_,(rC (rL (rM rK (sr rfl (N:=["thing","taken"]) (caps:=[none,some 1]) (CompOk.of (by kernel_rfl)) (rV rfl) (uz (pv 0)) (λ_ _ _ _=>(rJ (i:=0) (show(["thing","taken"]:List Str).Nodup by decide +kernel) rfl (Or.inl rfl) (Or.inr rfl))) (λ_ _ _ _=>(tS (rQ (uo (K:=K) rfl) (pv 0) (pv 1) (by with_unfolding_all rfl)))) (λ_ _ _ _=>(pv 0))) rD (λ_ _=>rfl)))),?_⟩;refine⟨_,rfl,w,rfl,⟨_,r⟩,?_⟩;refine ua (xs:=a.map V.int) (λj m n=>n=H/\m=(E4 (a.take j) g).map V.int)
  ⟨rfl,rfl⟩ (λj m n _ b=>by rw[b.1];exact r) (λj y m n e b=>?_) (λm n b D v=>?_)
 ·obtain⟨rfl,rfl⟩:=b;rw[cH]at e
  cases d:a[j]? with
  | none=>rw[d]at e;cases e
  | some u=>
   rw[d]at e;have B:V.int u=y:=Option.some.inj e;subst B;refine⟨_,rfl,_,rfl,l,_,rfl,o,rfl,vp _,_,rfl,?_⟩;have k:((E4 (a.take j) g).map V.int).length<sizeLine:=by
    rw[cx];have h1:=d6 (λt=>!decide (t∈g)) (a.take j);rw[cV]at h1;exact D8 (by unfold E4;omega)
   show if(!Ju (.int u) (g.map V.int))=true then _ else _
   unfold E4 at k ⊢;rw[wM,cY,d,gj,cS];refine GJ (λc=>?_) (λc=>?_)
   ·refine⟨_,rfl,k,rfl,?_⟩;simp[c]
   ·refine⟨rfl,?_⟩;simp[c]
 ·obtain⟨rfl,rfl⟩:=b;rw[cx,dj];exact⟨D,_,0,_,rfl,rfl,SqL.of rz,sD (by decide) (by show _=_;rw[show(0:Int).toNat=0 from rfl];rw[cH,(xO p).1];rfl),q _ (rr v _)⟩
theorem Gh:Ea ["numbers","number"] ["numbers","number"] (D7 (Eb 40)):=⟨rfl,rfl,rfl,by decide +kernel,rfl,by decide +kernel,by decide +kernel⟩
theorem IM(M:Md K mg x cB):Dn P w K mg base Eh 1 "with_one" ["numbers","number"] (Hh K):=by
 have B:=(Gh).nd;refine M.f_with_one.ok Gh (λvs H Q E h=>?_) (λ_ _ _ _ _ _ r d=>match r,d with|[_,_],_=>rfl) (λf u A m s H vs Q E z h=>?_)
 ·obtain⟨a,k,x,rfl,hA,j,q⟩:=h;rfl
 obtain⟨a,k,x,rfl,hA,j,q⟩:=h;refine⟨_,(rC (rL (sd sG rfl M.b_tuple Boot.«tuple» (mM (rH (xY) rfl M.b_sorted Boot.«sorted» (mM (rN Ar (pv 0) (sE (mM (pv 1) rq))) rq)) rq)))),?_⟩;refine⟨_,rfl,_,rfl,by show 1<=sizeLine;decide,λb g=>?_⟩;have c:Same H (upd H b (.tup [.int x])):=rr g _;have h1:SqT K (upd H b (.tup [.int x])) b (([x]:List Int).map V.int):=SqT.of rz;generalize upd H b (.tup [.int x])=y at c h1 ⊢;refine DJ (c.tup hA) h1 (by simp;omega) λo C n h2=>?_
 refine⟨o,k++[x],rfl,.inr h2,by simp;omega,λl v d hp t=>?_⟩;refine⟨l,_,rfl,.inl ⟨SqL.of rz,λp e=>q p _ (c.trans (n.trans ((rr d _).trans (rr e _)))) ?_⟩⟩;rw[TM.srt_eq hp t];exact SqT.of rz
theorem FA:Ea ["wishes","gone","taken","people"] ["wishes","gone","taken"] (D7 (Eb 41)):=⟨rfl,rfl,rfl,by decide +kernel,rfl,by decide +kernel,by decide +kernel⟩
theorem Hz(M:Md K mg x cB)
  (Gbest_free:Dn P w K mg base Eh 1 "best_free" ["wish","taken"] (HY K)):Dn P w K mg base Eh 2 "turns_from" ["wishes","gone","taken"] (Ic K):=by
 have nd:=(FA).nd
 refine M.f_turns_from.ok FA (λvs H Q E h=>?_) (λ_ _ _ _ _ _ us hl=>match us,hl with|[_,_,_],_=>rfl) (λf aj A ad s H vs Q E hr h=>?_)
 ·obtain⟨a,g,t,B,W,n,b,rfl,hA,R,C,hg,X,J,q⟩:=h
  rfl
 obtain⟨a,g,t,B,W,n,b,rfl,hA,R,C,hg,X,J,q⟩:=h
 refine⟨_,(rn (sA (i:=3) nd rfl rfl rfl rfl (N:=["person","gone"]) (caps:=[none,some 1]) (CompOk.of (by kernel_rfl)) (rV rfl) (rW rfl M.b_range (mM (rH rO rfl M.b_len dD (mM (pv 0) rq)) rq)) (λ_ _ _ _=>(rJ (i:=0) (show(["person","gone"]:List Str).Nodup by decide +kernel) rfl (Or.inl rfl) (Or.inr rfl))) (λ_ _ _ _=>(tS (rQ (uo (K:=K) rfl) (pv 0) (pv 1) (by with_unfolding_all rfl)))) (λ_ _ _ _=>(pv 0)))
   (rC (rL (sr rfl (N:=["person","wishes","taken"]) (caps:=[none,some 0,some 2]) (CompOk.of (by kernel_rfl)) (rV rfl) (sT (pv 3)) (λ_ _ _ _=>(rJ (i:=0) (show(["person","wishes","taken"]:List Str).Nodup by decide +kernel) rfl (Or.inl rfl) (Or.inr rfl))) (λ_ _ _ _=>sh) (λ_ _ _ _=>(sE (mM (pv 0) (mM (rR Gbest_free hr (by decide) rfl Ec (mM (rM (sQ (K:=K) rfl) (pv 1) (pv 0) (λ_ _=>rfl)) (mM (pv 2) rq))) rq)))))))),?_⟩
 have ai:=Paired.len R
 have ae:=C.lo
 have ah:=C.hi
 have ag:=C.len
 have af:B.length=n:=by omega
 refine⟨_,rfl,a,B,rfl,.inl hA,_,rfl,by omega,by omega,?_⟩
 refine we (n:=B.length) (λi e m=>m=H/\e=(((LM.rng n).take i).filter λp=>!decide (p∈b.1)).map V.int) ⟨rfl,rfl⟩ (λi e m hi d=>?_) (λe m d D hD=>?_)
 ·obtain⟨rfl,rfl⟩:=d
  have aa:(LM.rng n)[i]?=some (i:Int):=by unfold LM.rng;rw[cH,d9 (by omega)];rfl
  have S:((((LM.rng n).take i).filter λp=>!decide (p∈b.1)).map V.int).length<sizeLine:=by
   rw[cx]
   have h1:=d6 (λp=>!decide (p∈b.1)) ((LM.rng n).take i)
   rw[cV]at h1
   exact D8 (by omega)
  refine⟨_,rfl,_,rfl,g,_,rfl,.inr hg,rfl,vp _,_,rfl,?_⟩
  show if(!Ju (.int (0+(i:Int))) (b.1.map V.int))=true then _ else _
  rw[d3,wM,cY,aa,gj,cS]
  refine GJ (λc=>?_) (λc=>?_)
  ·refine⟨_,rfl,S,rfl,?_⟩
   simp[c]
  ·refine⟨rfl,?_⟩
   simp[c]
 obtain⟨rfl,rfl⟩:=d
 rw[eJ (by rw[LM.rng_len];omega),show qD (λp=>!decide (p∈b.1)) (LM.rng n)=TM.freeP n b.1 from rfl]
 have r:Same m (upd m D (.lst ((TM.freeP n b.1).map V.int))):=rr hD _
 have v:SqL K (upd m D (.lst ((TM.freeP n b.1).map V.int))) D ((TM.freeP n b.1).map V.int):=SqL.of rz
 generalize upd m D (.lst ((TM.freeP n b.1).map V.int))=H2 at r v ⊢
 refine⟨_,rfl,D,rfl,⟨_,v⟩,?_⟩
 refine sO (xs:=(TM.freeP n b.1).map V.int) (λj e z=>Same H2 z/\dr (IsF K z) e ((Et n W b).take j)) ⟨Same.refl _,by rw[eO];exact .nil⟩ (λj e z _ d=>d.1.seq v) (λj y e z O d=>?_) (λe z d De F=>?_)
 ·obtain⟨l,k⟩:=d
  have hj:j<(TM.freeP n b.1).length:=by have:=(cL.mp O).1;rw[cx]at this;exact this
  obtain⟨p,hp⟩:∃p,(TM.freeP n b.1)[j]?=some p:=⟨_,cz hj⟩
  rw[cH,hp]at O
  cases O
  have ab:=LM.mem_rng.mp (d8.mp (da hp)).1
  have u:p.toNat<W.length:=by omega
  have o:=C.pm _ (cW u)
  have eW:W.getD p.toNat []=W[p.toNat]:=HM.getD_lt u
  obtain⟨wv,ac,Y⟩:=Paired.get R (cz u)
  obtain⟨wa,rfl,I⟩:=Y.mono (r.trans l)
  have Z:=Paired.len k
  rw[cV]at Z
  have ak:(TM.freeP n b.1).length<=n:=by
   have h1:=d6 (λp=>!decide (p∈b.1)) (LM.rng n)
   rw[LM.rng_len]at h1
   exact h1
  have et:(Et n W b)[j]?=some (p,E6 W[p.toNat] b.2):=by
   unfold Et
   rw[cH,hp]
   show some (p,Fb W p b.2)=_
   unfold Fb
   rw[eW]
  have G:=o.len
  generalize W[p.toNat]=U at I o et G
  refine⟨_,rfl,_,rfl,_,rfl,a,B,_,_,rfl,rfl,(r.trans l).seq hA,sD ab.1 ac,_,rfl,wa,t,U,b.2,rfl,I,.inr ((r.trans l).tup X),by omega,Be o J,λH4 T=>⟨by show 2<=sizeLine;decide,λpt L=>⟨D8 (by omega),l.trans (T.trans (rr L _)),?_⟩⟩⟩
  rw[cY,et]
  exact Paired.app (rP (T.trans (rr L _)) k) (.cons ⟨pt,rfl,SqT.of rz⟩ .nil)
 ·obtain⟨l,k⟩:=d
  rw[eJ (by unfold Et;rw[cx,cx];exact cI _)]at k
  exact q De e _ (r.trans (l.trans (rr F _))) ((r.trans l).free F) rz (rP (rr F _) k)
theorem FV:Ea ["count","orders","number"] ["count"] (D7 (Eb 42)):=⟨rfl,rfl,rfl,by decide +kernel,rfl,by decide +kernel,by decide +kernel⟩
theorem IB(M:Md K mg x cB):Dn P w K mg base Eh 1 "orders_of" ["count"] (FL):=by
 have b:=(FV).nd;refine M.f_orders_of.ok FV (λvs H Q E h=>?_) (λ_ _ _ _ _ _ j l=>match j,l with|[_],_=>rfl) (λf m A g s H vs Q E p h=>?_)
 ·obtain⟨k,rfl,hk,q⟩:=h;rfl
 obtain⟨k,rfl,hk,q⟩:=h;refine⟨_,(rn (rF (i:=1) b rfl (Or.inl rfl) rD)
   (rn (sP dA rfl (Aq rfl M.b_range (mM rD (mM (rN sC (pv 0) rD) rq))) (rJ (i:=2) b rfl (Or.inl rfl)) (rC (rF (i:=1) b rfl (Or.inl rfl) (rN sx (pv 1) (pv 2)))))
   (rC (rL (pv 1))))),?_⟩
 refine⟨_,rfl,_,_,rfl,rfl,_,_,rfl,⟨by omega,by omega,by omega,by omega⟩,?_⟩;have e:((k:Int)+1-1).toNat=k:=by omega
 show ∃_,_;rw[e];refine rZ (n:=k) (λi c d=>d=H/\∃r,c=[some (.int k),some (.int (TM.fct i)),r]) ⟨rfl,_,rfl⟩ (λi c d o a=>?_) (λc d a=>?_)
 ·obtain⟨rfl,r,rfl⟩:=a;refine⟨_,rfl,_,rfl,_,_,rfl,rfl,J6 (by omega),rfl,some (.int (1+(i:Int))),?_⟩;rw[show TM.fct (i+1)=TM.fct i*(1+(i:Int))by show TM.fct i*((i:Int)+1)=_;rw[qo (i:Int) 1]];rfl
 ·obtain⟨rfl,r,rfl⟩:=a;exact⟨_,rfl,q⟩
theorem F6:Ea ["wishes","counts","beginnings","turn","endings","longer","beginning","number","person","thing","state"] ["wishes"] (D7 (Eb 43)):=⟨rfl,rfl,rfl,by decide +kernel,rfl,by decide +kernel,by decide +kernel⟩
theorem HS(M:Md K mg x cB)
  (Gorders_of:Dn P w K mg base Eh 1 "orders_of" ["count"] (FL))
  (Gturns_from:Dn P w K mg base Eh 2 "turns_from" ["wishes","gone","taken"] (Ic K))
  (Gwith_one:Dn P w K mg base Eh 1 "with_one" ["numbers","number"] (Hh K)):Dn P w K mg base Eh 3 "counts_of" ["wishes"] (Iv P w K):=by
 have O:=(F6).nd
 refine M.f_counts_of.ok F6 (λvs H Q E h=>?_) (λ_ _ _ _ _ _ us hl=>match us,hl with|[_],_=>rfl) (λf bK A bz s H vs Q E hr h=>?_)
 ·obtain⟨a,ws,W,n,rfl,hA,hW,ok,q⟩:=h
  rfl
 obtain⟨a,ws,W,n,rfl,hA,hW,ok,q⟩:=h
 refine⟨_,(rn (rF (i:=1) O rfl (Or.inl rfl) (zK (W:=Gq) (P:=P) (w:=w) (K:=K) rfl rfl rfl))
   (rn (rF (i:=2) O rfl (Or.inl rfl) (B8 (W:=Gn) (P:=P) (w:=w) (K:=K) rfl rfl rfl hr (sE (mM (sE rq) (mM (sE rq) rq))) rD))
   (rn (sP dA rfl (rW rfl M.b_range (mM (rH rO rfl M.b_len dD (mM (pv 0) rq)) rq)) (rJ (i:=3) O rfl (Or.inl rfl)) (rn (rF (i:=4) O rfl (Or.inl rfl) (rR Gorders_of hr (by decide) rfl Ec (mM (rN v4 (rN v4 (rH rO rfl M.b_len dD (mM (pv 0) rq)) (pv 3)) rD) rq)))
   (rn (rF (i:=5) O rfl (Or.inl rfl) (zK (W:=Gn) (P:=P) (w:=w) (K:=K) rfl rfl rfl))
   (rn (sP dA rfl (BK (W:=Gn) (P:=P) (w:=w) (K:=K) rfl rfl rfl (pv 2)) (yW rfl (sw (rJ (i:=6) O rfl (Or.inl rfl)) (sw (rJ (i:=7) O rfl (Or.inl rfl)) ul))) (rC (sP dA rfl (sT (rR Gturns_from hr (by decide) rfl Ec (mM (pv 0) (mM (rM sj (pv 6) rD (λ_ _=>rfl)) (mM (rM sj (pv 6) rD (λ_ _=>rfl)) rq))))) (yW rfl (sw (rJ (i:=8) O rfl (Or.inl rfl)) (sw (rJ (i:=9) O rfl (Or.inl rfl)) ul))) (rn (wc (rN sC (x8 (W:=Gq) (P:=P) (w:=w) (K:=K) rfl rfl rfl hr (pv 1) (sE (mM (pv 8) (mM (pv 9) rq))) rD) (rN sx (pv 7) (pv 4))) (wk (pv 1) (sE (mM (pv 8) (mM (pv 9) rq))) (Dt (W:=Gq) (P:=P) (w:=w) (K:=K) rfl rfl rfl hr)))
   (rn (rF (i:=10) O rfl (Or.inl rfl) (sE (mM (rR Gwith_one hr (by decide) rfl Ec (mM (rM sj (pv 6) rD (λ_ _=>rfl)) (mM (pv 8) rq))) (mM (rR Gwith_one hr (by decide) rfl Ec (mM (rM sj (pv 6) rD (λ_ _=>rfl)) (mM (pv 9) rq))) rq))))
   (rC (wc (rN sC (x8 (W:=Gn) (P:=P) (w:=w) (K:=K) rfl rfl rfl hr (pv 5) (pv 10) rD) (pv 7)) (wk (pv 5) (pv 10) (Dt (W:=Gn) (P:=P) (w:=w) (K:=K) rfl rfl rfl hr)))))))))
   (rC (rF (i:=2) O rfl (Or.inl rfl) (pv 5)))))))
   (rC (rL (pv 1)))))),?_⟩
 have bE:=Paired.len hW
 have bB:=ok.lo
 have bD:=ok.hi
 have bC:=ok.len
 have bl:ws.length=n:=by omega
 have ac:(0:Nat)<=sizeLine:=by decide
 have y:(2:Nat)<=sizeLine:=by decide
 refine λc H1 aT aJ aP=>?_
 have S1:Same H H1:=by obtain⟨Z,rfl⟩:=aJ;exact rr aT _
 clear aJ
 refine λm H2 X aI az=>?_
 have af:H m=none:=S1.free X
 have S2:Same H1 H2:=by obtain⟨Z,rfl⟩:=aI;exact rr X _
 have Y:c≠m:=λz=>by obtain⟨Z,e⟩:=aP.ext;rw[z,X]at e;cases e
 clear aI
 refine⟨ac,λD a5=>⟨ac,λF aA=>⟨y,λp3 am=>?_⟩⟩⟩
 have S3:Same H2 (upd (upd (upd H2 D (.tup [])) F (.tup [])) p3 (.tup [.ref D,.ref F])):=(rr a5 _).trans ((rr aA _).trans (rr am _))
 have aB:SqT K (upd (upd (upd H2 D (.tup [])) F (.tup [])) p3 (.tup [.ref D,.ref F])) p3 [.ref D,.ref F]:=SqT.of rz
 have au:SqT K (upd (upd (upd H2 D (.tup [])) F (.tup [])) p3 (.tup [.ref D,.ref F])) D (([]:List Int).map V.int):=SqT.of (rr am _ _ _ (rr aA _ _ _ rz))
 have aD:SqT K (upd (upd (upd H2 D (.tup [])) F (.tup [])) p3 (.tup [.ref D,.ref F])) F (([]:List Int).map V.int):=SqT.of (rr am _ _ _ rz)
 generalize upd (upd (upd H2 D (.tup [])) F (.tup [])) p3 (.tup [.ref D,.ref F])=H3 at S3 aB au aD ⊢
 refine⟨p3,([],[]),1,rfl,rfl,⟨D,F,aB,au,aD⟩,az.mono S3,λH4 aH aW=>?_⟩
 have aU:=(az.mono S3).ext
 have X4:KX [m] H3 H4:=KX.put (λb hb=>by rw[cK.mp hb];exact aU) (cK.mpr rfl) aH
 have av:Same H H4:=X4.same (S1.trans (S2.trans S3)) λb hb=>by rw[cK.mp hb];exact af
 have a0:DictI Gq P w K H4 c []:=by
  obtain⟨ep,hC⟩:=aP
  exact⟨ep,X4.dict (hC.mono (S2.trans S3)) (λz=>Y (cK.mp z))⟩
 clear X4 aH aU S3 aB au aD az aP S1 S2 a5 aA am X
 refine⟨_,rfl,a,ws,rfl,.inl (av.seq hA),_,rfl,by omega,by omega,?_⟩
 refine rZ (n:=ws.length) (λk G H5=>Same H H5/\∃(m:cG) (C:List (List Int×Int)) (B:List (Ev×Int)) (r3 r4 r5 r6 r7 r8 r9 S:Option V),G=[some (.ref a),some (.ref c),some (.ref m),r3,r4,r5,r6,r7,r8,r9,S]/\H m=none/\c≠m/\
   DictI Gq P w K H5 c C/\CI n W k C/\DictI Gn P w K H5 m B/\BI n W k B)
  ⟨av,m,[],_,_,_,_,_,_,_,_,_,rfl,af,Y,a0,CI.zero,aW,BI.zero⟩ (λk G H5 hk r=>?_) (λG H5 r=>?_)
 ·clear av a0 aW Y af
  obtain⟨S5,m,C,B,r3,r4,r5,r6,r7,r8,r9,S,rfl,X,Y,hC,aq,hB,ap⟩:=r
  have bJ:k<n:=by omega
  refine⟨_,rfl,a,ws,rfl,.inl (S5.seq hA),_,rfl,_,_,rfl,rfl,_,_,rfl,rfl,n-(k+1),by show[V.int _]=[V.int _];rw[show(ws.length:Int)-(0+(k:Int))-1=((n-(k+1):Nat):Int)by omega],by omega,?_⟩
  have bI:=ym (show n-(k+1)<=6 by omega)
  refine λl H6 al aG bi=>?_
  have a1:H l=none:=S5.free al
  have S6:Same H5 H6:=by obtain⟨Z,rfl⟩:=aG;exact rr al _
  have aL:c≠l:=λz=>by obtain⟨Z,e⟩:=hC.ext;rw[z,al]at e;cases e
  have bs:m≠l:=λz=>by obtain⟨Z,e⟩:=hB.ext;rw[z,al]at e;cases e
  clear aG
  obtain⟨ep,aY⟩:=hB.mono S6
  have a9:m∉[c,l]:=λz=>by
   rcases cZ.mp z with z|z
   ·exact Y z.symm
   ·exact bs (cK.mp z)
  have bj:∀b∈[c,l],H b=none:=λb hb=>by
   rcases cZ.mp hb with z|z
   ·rw[z];exact aT
   ·rw[cK.mp z];exact a1
  have exts:∀{H':Hp} {C:List (List Int×Int)} {L:List (Ev×Int)},DictI Gq P w K H' c C->DictI Gn P w K H' l L->∀b∈[c,l],∃Z,H' b=some (.ext Z):=λh1 h2 b hb=>by
   rcases cZ.mp hb with z|z
   ·rw[z];exact h1.ext
   ·rw[cK.mp z];exact h2.ext
  refine⟨_,rfl,m,ep,B,rfl,aY,?_⟩
  refine A2 (kvs:=B) (λi G R=>Same H R/\DictE Gn P w K R m ep B/\∃(o:List (List Int×Int)) (L:List (Ev×Int)) (r6 r7 r8 r9 S:Option V),G=[some (.ref a),some (.ref c),some (.ref m),some (.int (0+(k:Int))),some (.int (TM.fct (n-(k+1)))),some (.ref l),r6,r7,r8,r9,S]/\
    DictI Gq P w K R c o/\DictI Gn P w K R l L/\TI0 n W k B i o L)
   ⟨S5.trans S6,aY,C,[],_,_,_,_,_,rfl,hC.mono S6,bi,TI0.start aq⟩ (λi G R _ r=>r.2.1) (λi g J ka G R t aw bu ht r=>?_) (λG R r=>?_)
  ·obtain⟨S7,aM,o,L,bq,bx,aN,aF,ah,rfl,aj,ak,hT⟩:=r
   obtain⟨kx,ky,aC,aX,a4⟩:=bu
   obtain⟨π,a2,aa⟩:=ap.key _ (da aw)
   have I:=TM.pre_ok a2
   have bL:g.1.length=k:=by rw[show g=ED W π from aa];show(TM.srt π).length=k;rw[Bm,I.len]
   have bG:g.2.length=k:=by rw[show g=ED W π from aa];show(TM.srt (Jh W π)).length=k;rw[Bm];unfold Jh;rw[Aj,I.len]
   have S8:Same R (upd R t (.tup [.ref ka,.int J])):=rr ht _
   have aS:upd R t (.tup [.ref ka,.int J]) t=some (.tup [.ref ka,.int J]):=rz
   generalize upd R t (.tup [.ref ka,.int J])=H8 at S8 aS ⊢
   refine⟨t,_,rfl,SqT.of aS,rfl,_,_,rfl,_,_,rfl,rfl,?_⟩
   refine⟨_,rfl,_,rfl,ka,_,0,_,rfl,rfl,S8.tup aC,rfl,_,rfl,ka,_,1,_,rfl,rfl,S8.tup aC,rfl,a,kx,ky,ws,W,n,g,rfl,(S7.trans S8).seq hA,Paired.mapP hW (λ_ _ h=>h.mono (S7.trans S8)),ok,S8.tup aX,S8.tup a4,by omega,λtl ls H9 S9 bA aV a3=>?_⟩
   have u:=S8.trans S9
   have bf:=Paired.len a3
   have be:(Et n W g).length<=6:=by
    unfold Et TM.freeP
    rw[cx]
    have h1:=d6 (λp=>!decide (p∈g.1)) (LM.rng n)
    rw[LM.rng_len]at h1
    omega
   have br:=exts (aj.mono u) (ak.mono u)
   refine⟨tl,rfl,⟨_,SqL.of aV⟩,?_⟩
   refine uX (xs:=ls) (λj G N=>KX [c,l] H9 N/\∃(o:List (List Int×Int)) (L:List (Ev×Int)) (r8 r9 S:Option V),G=[some (.ref a),some (.ref c),some (.ref m),some (.int (0+(k:Int))),some (.int (TM.fct (n-(k+1)))),some (.ref l),some (.ref ka),some (.int J),r8,r9,S]/\
     DictI Gq P w K N c o/\DictI Gn P w K N l L/\TJ n W k B i g J j o L)
    ⟨KX.refl br,o,L,_,_,_,rfl,aj.mono u,ak.mono u,hT g J⟩ (λj G N _ r=>SqL.of (r.1.lst aV)) (λj v G N hv r=>?_) (λG N r=>?_)
   ·obtain⟨XA,o,L,aN,aF,ah,rfl,T,ao,U⟩:=r
    obtain⟨d,aK,pa,rfl,bn⟩:=Paired.get' a3 hv
    have bH:j<6:=by have:=(cL.mp aK).1;omega
    have bF:i<=7776:=by
     have h1:=(cL.mp aw).1
     have h2:6^k<=6^5:=eA (by decide) (by omega)
     have h3:=ap.len
     have h4:(6:Nat)^5=7776:=by decide
     omega
    have bc:o.length<=1000000:=by have:=U.cl;omega
    have a8:L.length<=1000000:=by have:=U.ll;omega
    refine⟨pa,_,rfl,XA.tup bn,rfl,_,_,rfl,_,_,rfl,rfl,?_⟩
    -- the count
    refine⟨_,rfl,c,rfl,⟨_,T⟩,_,rfl,_,rfl,y,λpk aQ=>?_⟩
    have SB:Same N (upd N pk (.tup [.int d.1,.int d.2])):=rr aQ _
    have ae:SqT K (upd N pk (.tup [.int d.1,.int d.2])) pk (([d.1,d.2]:List Int).map V.int):=SqT.of rz
    generalize upd N pk (.tup [.int d.1,.int d.2])=HB at SB ae ⊢
    refine⟨pk,[d.1,d.2],0,o,rfl,rfl,T.mono SB,ae,?_⟩
    refine⟨_,rfl,_,rfl,_,_,rfl,rfl,J6 (by omega),_,_,rfl,rfl,?_⟩
    refine⟨_,rfl,_,rfl,_,rfl,y,λad ax=>?_⟩
    have SC:Same HB (upd HB ad (.tup [.int d.1,.int d.2])):=rr ax _
    have ai:SqT K (upd HB ad (.tup [.int d.1,.int d.2])) ad (([d.1,d.2]:List Int).map V.int):=SqT.of rz
    generalize upd HB ad (.tup [.int d.1,.int d.2])=HC at SC ai ⊢
    refine⟨c,ad,[d.1,d.2],_,o,rfl,rfl,rfl,T.mono (SB.trans SC),ai,bc,λHD ag bk=>?_⟩
    have ab:=SB.trans SC
    have aR:=exts (T.mono ab) (ao.mono ab)
    have XD:KX [c,l] N HD:=(KX.of ab XA.is).trans (KX.put aR cM ag)
    have bp:DictI Gn P w K HD l L:=by
     obtain⟨e2,hL⟩:=ao.mono ab
     obtain⟨Z,bm,h1,rfl⟩:=ag
     exact⟨e2,hL.overX h1 (Ne.symm aL)⟩
    clear ag aR ai ae SB SC ab aQ ax
    -- the state
    have ar:=XA.trans XD
    have a6:=ar.tup ((u).tup aC)
    refine⟨_,rfl,ka,_,0,_,rfl,rfl,a6,rfl,_,rfl,kx,g.1,d.1,rfl,ar.tup (u.tup aX),by omega,λq1 HE SE bv=>?_⟩
    refine⟨_,rfl,ka,_,1,_,rfl,rfl,SE.tup a6,rfl,_,rfl,ky,g.2,d.2,rfl,SE.tup (ar.tup (u.tup a4)),by omega,λq2 HF SF bh=>?_⟩
    refine⟨y,λqs aO=>?_⟩
    have SG:Same HD (upd HF qs (.tup [.ref q1,.ref q2])):=SE.trans (SF.trans (rr aO _))
    have ay:Gn.at' K (upd HF qs (.tup [.ref q1,.ref q2])) (Fq g d) qs:=⟨q1,q2,SqT.of rz,(SF.trans (rr aO _)).tup bv,(rr aO _).tup bh⟩
    generalize upd HF qs (.tup [.ref q1,.ref q2])=HG at SG ay ⊢
    have an:=bp.mono SG
    refine⟨_,rfl,l,rfl,⟨_,an⟩,_,rfl,qs,Fq g d,0,L,rfl,rfl,an,ay,?_⟩
    refine⟨_,rfl,_,_,rfl,rfl,?_⟩
    refine⟨_,rfl,_,rfl,l,qs,Fq g d,_,L,rfl,rfl,rfl,an,ay,a8,λHI aE bo=>?_⟩
    have aZ:=bk.mono SG
    have bw:=exts aZ an
    have XI:KX [c,l] HD HI:=(KX.of SG XD.is).trans (KX.put bw (cO _ (cK.mpr rfl)) aE)
    have a7:DictI Gq P w K HI c (IA o [d.1,d.2] (J*TM.fct (n-(k+1)))):=by
     obtain⟨e2,hC⟩:=aZ
     obtain⟨Z,bm,h1,rfl⟩:=aE
     exact⟨e2,hC.overX h1 aL⟩
    refine⟨ar.trans XI,_,_,_,_,_,rfl,a7,bo,U.step aK ?_⟩
    rw[show g=ED W π from aa]
    exact BN a2 (by rw[<-show g=ED W π from aa];exact da aK)
   ·obtain⟨XA,o,L,aN,aF,ah,rfl,T,ao,U⟩:=r
    rw[bf]at U
    refine⟨XA.same (S7.trans u) bj,XA.dict (aM.mono u) a9,o,L,_,_,_,_,_,rfl,T,ao,U.done aw be⟩
  ·obtain⟨S7,aM,o,L,bq,bx,aN,aF,ah,rfl,aj,ak,hT⟩:=r
   obtain⟨ba,bb⟩:=TI0.finish ap (by omega) hT
   exact⟨_,rfl,S7,l,o,L,_,_,_,_,_,_,_,_,rfl,a1,aL,aj,ba,ak,bb⟩
 ·obtain⟨S5,m,C,B,r3,r4,r5,r6,r7,r8,r9,S,rfl,X,Y,hC,aq,hB,ap⟩:=r
  rw[bl]at aq
  exact⟨_,rfl,q c C H5 S5 hC aq⟩
theorem EO:Ea ["counts","person","count","orders"] ["counts","person","count"] (D7 (Eb 44)):=⟨rfl,rfl,rfl,by decide +kernel,rfl,by decide +kernel,by decide +kernel⟩
theorem F0(M:Md K mg x cB)
  (Gorders_of:Dn P w K mg base Eh 1 "orders_of" ["count"] (FL))
  (Gfraction:Dn P w K mg base (FJ P w) 2 "fraction" ["top","bottom"] (EH x)):Dn P w K mg base Eh 3 "shares_by_turns" ["counts","person","count"] (Ip P w K):=by
 have T:=(EO).nd
 refine M.f_shares_by_turns.ok EO (λvs H Q E h=>?_) (λ_ _ _ _ _ _ S U=>match S,U with|[_,_,_],_=>rfl) (λf Y A J s H vs Q E v h=>?_)
 ·obtain⟨d,C,W,n,p,rfl,y,j,g,q⟩:=h
  rfl
 obtain⟨d,C,W,n,p,rfl,y,j,g,q⟩:=h
 refine⟨_,(rn (rF (i:=3) T rfl (Or.inr rfl) (rR Gorders_of v (by decide) rfl Ec (mM (pv 2) rq)))
   (rC (rL (sd sG rfl M.b_tuple Boot.«tuple» (mM (sr rfl (N:=["thing","counts","person","orders"]) (caps:=[none,some 0,some 1,some 3]) (CompOk.of (by kernel_rfl)) (rV rfl) (rW rfl M.b_range (mM (pv 2) rq)) (λ_ _ _ _=>(rJ (i:=0) (show(["thing","counts","person","orders"]:List Str).Nodup by decide +kernel) rfl (Or.inl rfl) (Or.inr rfl))) (λ_ _ _ _=>sh) (λ_ _ _ _=>(rR Gfraction v (by decide) rfl FG (mM (x8 (W:=Gq) (P:=P) (w:=w) (K:=K) rfl rfl rfl v (pv 1) (sE (mM (pv 2) (mM (pv 0) rq))) rD) (mM (pv 3) rq))))) rq))))),?_⟩
 have hf:=ym g
 refine⟨_,rfl,n,rfl,g,?_⟩
 refine⟨_,rfl,_,rfl,by omega,by omega,?_⟩
 refine sH (n:=n) (λi c b=>Same H b/\dr (IsF K b) c ((E5 n W p).take i)) ⟨Same.refl _,by rw[eO];exact .nil⟩ (λi c b L t=>?_) (λc b t D R=>?_)
 ·obtain⟨e,a⟩:=t
  have I:=Paired.len a
  rw[cV]at I
  refine⟨_,rfl,d,rfl,⟨_,y.mono e⟩,_,rfl,_,rfl,by show 2<=sizeLine;decide,λpk F=>?_⟩
  rw[d3]
  have o:Same b (upd b pk (.tup [.int p,.int (i:Int)])):=rr F _
  have k:SqT K (upd b pk (.tup [.int p,.int (i:Int)])) pk (([p,(i:Int)]:List Int).map V.int):=SqT.of rz
  generalize upd b pk (.tup [.int p,.int (i:Int)])=H2 at o k ⊢
  refine⟨pk,[p,(i:Int)],0,C,rfl,rfl,y.mono (e.trans o),k,_,rfl,Kc C [p,(i:Int)],TM.fct n,rfl,λz=>by omega,λ_=>⟨vH (m:=30) (by omega) (by decide),λX Z G r=>⟨D8 (by omega),e.trans (o.trans G),?_⟩⟩⟩
  rw[BG C j.kn n W j.sum]at r
  rw[cY,show(E5 n W p)[i]?=some (FQ.red (EG n W (λl=>Gy p i (l.getD 0 0) (l.getD 1 0)) n) (TM.fct n))by unfold E5;rw[cH,d9 L];rfl]
  exact Paired.app (rP (o.trans G) a) (.cons ⟨X,rfl,SqT.of r⟩ .nil)
 ·obtain⟨e,a⟩:=t
  rw[eJ (by rw[zr];exact cI _)]at a
  have u:=rr R (.lst c)
  exact⟨D,c,rfl,.inl ⟨SqL.of rz,λO B=>q O c _ (e.trans (u.trans (rr B _))) (e.free (u.free B)) rz (rP (u.trans (rr B _)) a)⟩⟩
theorem Ge:Ea ["wishes","counts"] ["wishes"] (D7 (Eb 45)):=⟨rfl,rfl,rfl,by decide +kernel,rfl,by decide +kernel,by decide +kernel⟩
theorem IL(M:Md K mg x cB)
  (Gcounts_of:Dn P w K mg base Eh 3 "counts_of" ["wishes"] (Iv P w K))
  (Gshares_by_turns:Dn P w K mg base Eh 3 "shares_by_turns" ["counts","person","count"] (Ip P w K)):Dn P w K mg base Eh 4 "by_turns" ["wishes"] (Gb K):=by
 have R:=(Ge).nd
 refine M.f_by_turns.ok Ge (λvs H Q E h=>?_) (λ_ _ _ _ _ _ L T=>match L,T with|[_],_=>rfl) (λf U A F s H vs Q E u h=>?_)
 ·obtain⟨a,e,W,n,rfl,hA,o,g,q⟩:=h
  rfl
 obtain⟨a,e,W,n,rfl,hA,o,g,q⟩:=h
 refine⟨_,(rn (rF (i:=1) R rfl (Or.inr rfl) (rR Gcounts_of u (by decide) rfl Ec (mM (pv 0) rq)))
   (rC (rL (sr rfl (N:=["person","wishes","counts"]) (caps:=[none,some 0,some 1]) (CompOk.of (by kernel_rfl)) (rV rfl) (rW rfl M.b_range (mM (rH rO rfl M.b_len dD (mM (pv 0) rq)) rq)) (λ_ _ _ _=>(rJ (i:=0) (show(["person","wishes","counts"]:List Str).Nodup by decide +kernel) rfl (Or.inl rfl) (Or.inr rfl))) (λ_ _ _ _=>sh) (λ_ _ _ _=>(rR Gshares_by_turns u (by decide) rfl Ec (mM (pv 2) (mM (pv 0) (mM (rH (uE (K:=K) rfl) rfl M.b_len dD (mM (pv 1) rq)) rq))))))))),?_⟩
 have Y:=Paired.len o
 have v:=g.hi
 have X:=g.len
 have B:e.length=n:=by omega
 refine⟨_,rfl,a,e,W,n,rfl,hA,o,g,λd C G k O y=>?_⟩
 refine⟨_,rfl,a,e,rfl,.inl (k.seq hA),_,rfl,by omega,by omega,?_⟩
 refine sH (n:=e.length) (λi j l=>Same G l/\dr (RwG K l) j ((Ia n W).take i)) ⟨Same.refl _,by rw[eO];exact .nil⟩ (λi j l hi m=>?_) (λj l m D p=>?_)
 ·obtain⟨c,b⟩:=m
  have t:=Paired.len b
  rw[cV]at t
  refine⟨_,rfl,_,rfl,_,rfl,a,e,rfl,.inl ((k.trans c).seq hA),d,C,W,n,(i:Int),by show[V.ref d,V.int _,V.int _]=[V.ref d,V.int _,V.int _];rw[B,d3],O.mono c,y,v,λI J H3 r Z S z=>⟨D8 (by omega),c.trans r,?_⟩⟩
  rw[cY,show(Ia n W)[i]?=some (E5 n W i)by unfold Ia;rw[cH,d9 (by omega)];rfl]
  exact Paired.app (Paired.mapP b λ_ _ h=>h.mono r) (.cons ⟨I,J,rfl,SqT.of S,z⟩ .nil)
 ·obtain⟨c,b⟩:=m
  rw[eJ (by rw[Bu];omega)]at b
  exact q D j _ (k.trans (c.trans (rr p _))) ((k.trans c).free p) rz (Paired.mapP b λ_ _ h=>h.mono (rr p _))
theorem GB:Ea ["value"] ["value"] (D7 (Eb 48)):=⟨rfl,rfl,rfl,by decide +kernel,rfl,by decide +kernel,by decide +kernel⟩
theorem Jo(M:Md K mg x cB):Dn P w K mg base Eh 1 "is_word" ["value"] (Im):=by
 have T:=(GB).nd;refine M.f_is_word.ok GB (λvs H Q E h=>?_) (λ_ _ _ _ _ _ C G=>match C,G with|[_],_=>rfl) (λf L A t s H vs Q E S h=>?_)
 ·obtain⟨z,rfl,l,m,q⟩:=h;rfl
 obtain⟨z,rfl,l,m,q⟩:=h;refine⟨_,(rn (su (PW.pt (xI (tD (sM (rH sq rfl M.b_isinstance Boot.«isinstance» (mM (pv 0) (mM (tR rfl M.b_str Boot.«str») rq))))) (wh (tD (Cd BE BE rD (rH xq rfl M.b_len dD (mM (pv 0) rq)) (zM M.c_MOST_SIGNS)))))) (rC (rL uf)) rS)
   (rC (rL (rH (yy rfl) rfl M.b_all Boot.«all» (mM (sr rfl (N:=["sign"]) (caps:=[none]) (CompOk.of (by kernel_rfl)) (rV rfl) (Ds (pv 0)) (λ_ _ _ _=>(rJ (i:=0) (show(["sign"]:List Str).Nodup by decide +kernel) rfl (Or.inl rfl) (Or.inr rfl))) (λ_ _ _ _=>sh) (λ_ _ _ _=>(yZ xK xK sB (pv 0) sB))) rq))))),?_⟩
 have n:z.length<=sizeLine:=dB (D8 l);refine⟨_,rfl,_,"str","str",rfl,by decide,rfl,_,rfl,Eo ?_⟩;refine⟨_,rfl,z,rfl,n,_,_,rfl,rfl,_,rfl,?_⟩;refine EA (λu=>?_) (λu=>?_);rotate_left
 ·rw[vY (by omega)]at q;exact⟨_,rfl,EN (q H (Same.refl _))⟩
 refine⟨_,_,rfl,rfl,_,rfl,?_⟩;by_cases p:(z.length:Int)<=12;rotate_left
 ·rw[vY (by omega)]at q;dsimp only;rw[decide_eq_false p];exact EN (q H (Same.refl _))
 dsimp only;rw[decide_eq_true p];refine Eo ?_;rw[zb (by omega)]at q;refine⟨_,rfl,z,rfl,m,?_⟩;have I:(fK "a").cps.toList=[97]:=by decide +kernel
 have v:(fK "z").cps.toList=[122]:=by decide +kernel
 have d:z.cps.size=z.cps.toList.length:=by simp
 have O:z.cps.toList.length<=1000:=by rw[<-d];exact l
 refine Ac (z:=z) (λi k g=>g=H/\k=((z.cps.toList.take i).map λc=>decide (97<=c)&&decide (c<=122)).map V.bl) ⟨rfl,rfl⟩ (λi c k g r j=>?_) (λk g j D y=>?_)
 ·obtain⟨rfl,rfl⟩:=j;have R:i<z.cps.toList.length:=by rw[<-d];exact(ko.mp r).1
  have a:(((z.cps.toList.take i).map λc=>decide (97<=c)&&decide (c<=122)).map V.bl).length<sizeLine:=D8 (by rw[cx,cx,cV];omega);have o:z.cps.toList[i]?=some c:=by rw[gf];exact r
  have e:∀b:Bool,b=(decide (97<=c)&&decide (c<=122))->(((z.cps.toList.take i).map λc=>decide (97<=c)&&decide (c<=122)).map V.bl)++[V.bl b]=(((z.cps.toList.take (i+1)).map λc=>decide (97<=c)&&decide (c<=122)).map V.bl):=λb B=>by
   rw[cY,o,cS,cS,B];rfl
  refine⟨_,rfl,_,_,rfl,rfl,_,rfl,?_⟩;show if(!decide ([c]<(fK "a").cps.toList))=true then _ else _
  rw[I];by_cases J:c<97
  ·rw[decide_eq_true (show[c]<[97]by rw[gL];exact .inl J)];exact Eo ⟨a,rfl,e false (by rw[decide_eq_false (by omega)];rfl)⟩
  ·rw[decide_eq_false (show ¬[c]<[97]by rw[gL];simp;omega)];refine EN ⟨_,_,rfl,rfl,a,rfl,e _ ?_⟩;show(!decide ((fK "z").cps.toList<[c]))=_;rw[v];by_cases F:122<c
   ·rw[decide_eq_true (show[122]<[c]by rw[gL];exact .inl F),decide_eq_false (show ¬c<=122 by omega),o3];rfl
   ·rw[decide_eq_false (show ¬[122]<[c]by rw[gL];simp;omega),decide_eq_true (show 97<=c by omega),decide_eq_true (show c<=122 by omega)];rfl
 ·obtain⟨rfl,rfl⟩:=j;rw[d,dj];refine⟨D,_,rfl,SqL.of rz,?_⟩;rw[qr];exact q _ (rr y _)
theorem GD:Ea ["words"] ["words"] (D7 (Eb 49)):=⟨rfl,rfl,rfl,by decide +kernel,rfl,by decide +kernel,by decide +kernel⟩
theorem Jn(M:Md K mg x cB)
  (Ghas_people:Dn P w K mg base Eh 2 "has_people" ["rows"] (Iu K))
  (Gis_word:Dn P w K mg base Eh 1 "is_word" ["value"] (Im)):Dn P w K mg base Eh 3 "is_roll" ["words"] (Iq K):=by
 have W:=(GD).nd
 refine M.f_is_roll.ok GD (λvs H Q E h=>?_) (λ_ _ _ _ _ _ S z=>match S,z with|[_],_=>rfl) (λf T A L s H vs Q E I h=>?_)
 ·obtain⟨a,b,rfl,hA,p,r,q⟩:=h
  rfl
 obtain⟨a,b,rfl,hA,p,r,q⟩:=h
 refine⟨_,(rC (rL (uF (rR Ghas_people I (by decide) rfl Ec (mM (pv 0) rq)) (uF (rH (yy rfl) rfl M.b_all Boot.«all» (mM (sr rfl (N:=["word"]) (caps:=[none]) (CompOk.of (by kernel_rfl)) (rV rfl) (sT (pv 0)) (λ_ _ _ _=>(rJ (i:=0) (show(["word"]:List Str).Nodup by decide +kernel) rfl (Or.inl rfl) (Or.inr rfl))) (λ_ _ _ _=>sh) (λ_ _ _ _=>(rR Gis_word I (by decide) rfl Ec (mM (pv 0) rq)))) rq)) (vJ (tF tO (zi rfl rfl M.b_len rfl M.b_set (pv 0)) (rH rO rfl M.b_len dD (mM (pv 0) rq)) (Ee _))))))),?_⟩
 refine⟨_,rfl,a,b.map V.str,rfl,.inl hA,λB y=>⟨_,rfl,?_⟩⟩
 rw[cx]
 refine EA (λc=>?_) (λc=>?_)
 rotate_left
 ·have F:=q B y
  rw[zx c]at F
  exact F
 have o:=y.seq hA
 refine⟨_,rfl,a,rfl,⟨_,o⟩,?_⟩
 refine sO (xs:=b.map V.str) (λi n d=>Same B d/\n=((b.take i).map Ep).map V.bl) ⟨Same.refl _,rfl⟩ (λi n d _ e=>e.1.seq o) (λi v n d k e=>?_) (λn d e D R=>?_)
 ·obtain⟨u,rfl⟩:=e
  rw[cH]at k
  cases g:b[i]? with
  | none=>rw[g]at k;cases k
  | some w=>
   rw[g]at k
   have C:V.str w=v:=Option.some.inj k
   subst C
   have U:i<b.length:=(cL.mp g).1
   obtain⟨z,O⟩:=r w (da g)
   refine⟨_,rfl,w,rfl,z,O,λJ l=>⟨D8 (by rw[cx,cx,cV];omega),u.trans l,?_⟩⟩
   rw[cY,g,cS,cS]
   rfl
 obtain⟨u,rfl⟩:=e
 rw[cx,dj]
 have l:Same d (upd d D (.lst ((b.map Ep).map V.bl))):=rr R _
 have t:upd d D (.lst ((b.map Ep).map V.bl)) D=some (.lst ((b.map Ep).map V.bl)):=rz
 generalize upd d D (.lst ((b.map Ep).map V.bl))=J at l t ⊢
 have j:=y.trans (u.trans l)
 have m:=q J j
 refine⟨D,b.map Ep,rfl,SqL.of t,_,rfl,?_⟩
 rw[qr]
 show if b.all Ep=true then _ else _
 cases G:b.all Ep with
 | false=>
  rw[xw G]at m
  exact Eo m
 | true=>
  rw[zk c G]at m
  refine EN ?_
  refine⟨_,rfl,a,b,rfl,j.seq hA,p,_,rfl,a,_,rfl,.inl (j.seq hA),rfl,?_⟩
  rw[cx]
  exact m
theorem E8:Ea ["self","people","things"] ["self","people","things"] (D7 (G8 50 0)):=⟨rfl,rfl,rfl,by decide +kernel,rfl,by decide +kernel,by decide +kernel⟩
theorem Gx(M:Md K mg x cB)
  (Gis_roll:Dn P w K mg base Eh 3 "is_roll" ["words"] (Iq K)):Bn P w K mg base (FJ P w) 4 cB "Book" ["self","people","things"] (JL K cB x):=by
 have nd:=(E8).nd
 refine M.k_Book.okE E8 (λvs H Q E h=>?_) (λ_ _ _ _ _ _ us hl=>match us,hl with|[_,_,_],_=>rfl) (λf ag A af s H vs Q E hr h=>?_)
 ·obtain⟨s0,a,b,g,m,l,rfl,hs,hA,G,O,R,L,S,I,q⟩:=h
  rfl
 obtain⟨s0,a,b,g,m,l,rfl,hs,hA,G,O,R,L,S,I,q⟩:=h
 refine⟨_,(rn (su (PW.pt (xI (tD (sM (rR Gis_roll hr (by decide) rfl Ec (mM (pv 1) rq)))) (xI (tD (sM (rR Gis_roll hr (by decide) rfl Ec (mM (pv 2) rq)))) (wh (rQ zC (rH rO rfl M.b_len dD (mM (pv 1) rq)) (rH rO rfl M.b_len dD (mM (pv 2) rq)) (Ee _)))))) (rC (tM M.x_NoRoll rfl (mM sB rq))) rS)
   (rn (Bi (pv 0) (sd ug rfl M.b_tuple Boot.«tuple» (mM (pv 1) rq)) rfl)
   (rn (Bi (pv 0) (sd ug rfl M.b_tuple Boot.«tuple» (mM (pv 2) rq)) rfl)
   (rC (Bi (pv 0) CQ rfl))))),?_⟩
 refine⟨_,rfl,a,m,rfl,hA,O,L,λH1 Z=>⟨_,rfl,?_⟩⟩
 cases ep:ER m with
 | false=>exact EN ⟨by show 1<=sizeLine;decide,I (λz=>by rw[ud.mpr z.1]at ep;cases ep) H1 Z⟩
 | true=>
 have rp:=ud.mp ep
 refine Eo ?_
 refine⟨_,rfl,b,l,rfl,Z.seq G,R,S,λr S2=>⟨_,rfl,?_⟩⟩
 have k:=Z.trans S2
 cases et:ER l with
 | false=>exact EN ⟨by show 1<=sizeLine;decide,I (λz=>by rw[ud.mpr z.2.1]at et;cases et) r k⟩
 | true=>
 have rt:=ud.mp et
 refine Eo ?_
 refine⟨_,rfl,a,_,rfl,.inl (k.seq hA),_,rfl,b,_,rfl,.inl (k.seq G),rfl,_,rfl,?_⟩
 rw[cx,cx]
 by_cases X:m.length=l.length
 rotate_left
 ·refine Lv (Mx (by omega)) ⟨by show 1<=sizeLine;decide,I (λz=>X z.2.2) r k⟩
 refine GS (by rw[X]) ?_
 have v:=k _ _ hs
 have ac:=k.seq hA
 have aa:=k.seq G
 refine⟨_,rfl,a,_,rfl,ac,λc p T ad=>?_⟩
 have D:=rr T (.frz p (.tup (m.map V.str)))
 refine⟨_,rfl,s0,cB,g,_,rfl,D _ _ v,M.cl,M.na_people,by show 0<1000;decide,?_⟩
 have n1:c≠s0:=Ne.symm (rE v T)
 have U3:SameBut1 s0 H (upd (upd r c (.frz p (.tup (m.map V.str)))) s0 (.ins cB g (EF "people" (.ref c) []))):=(SameBut1.of (k.trans D)).trans SameBut1.upd
 have u:upd (upd r c (.frz p (.tup (m.map V.str)))) s0 (.ins cB g (EF "people" (.ref c) [])) s0=some (.ins cB g [("people",.ref c)]):=rz
 have y:upd (upd r c (.frz p (.tup (m.map V.str)))) s0 (.ins cB g (EF "people" (.ref c) [])) c=some (.frz p (.tup (m.map V.str))):=by rw[rG n1,rz]
 have W:=(D.seq aa).overI (o:= .ins cB g (EF "people" (.ref c) [])) (D _ _ v)
 dsimp only
 generalize upd (upd r c (.frz p (.tup (m.map V.str)))) s0 (.ins cB g (EF "people" (.ref c) []))=C at U3 u y W ⊢
 refine⟨_,rfl,b,_,rfl,W,λj n t ae=>?_⟩
 have T2:=rr t (.frz n (.tup (l.map V.str)))
 refine⟨_,rfl,s0,cB,g,_,rfl,T2 _ _ u,M.cl,M.na_things,by show 1<1000;decide,?_⟩
 have n2:j≠s0:=Ne.symm (rE u t)
 have n3:c≠j:=rE y t
 have Y:SameBut1 s0 H (upd (upd C j (.frz n (.tup (l.map V.str)))) s0 (.ins cB g (EF "things" (.ref j) [("people",.ref c)]))):=(U3.trans (SameBut1.of T2)).trans SameBut1.upd
 have B:upd (upd C j (.frz n (.tup (l.map V.str)))) s0 (.ins cB g (EF "things" (.ref j) [("people",.ref c)])) s0=some (.ins cB g [("people",.ref c),("things",.ref j)]):=rz
 have N:upd (upd C j (.frz n (.tup (l.map V.str)))) s0 (.ins cB g (EF "things" (.ref j) [("people",.ref c)])) c=some (.frz p (.tup (m.map V.str))):=by rw[rG n1,rG n3];exact y
 have U:upd (upd C j (.frz n (.tup (l.map V.str)))) s0 (.ins cB g (EF "things" (.ref j) [("people",.ref c)])) j=some (.frz n (.tup (l.map V.str))):=by rw[rG n2,rz]
 dsimp only
 generalize upd (upd C j (.frz n (.tup (l.map V.str)))) s0 (.ins cB g (EF "things" (.ref j) [("people",.ref c)]))=H4 at Y B N U ⊢
 refine λd F=>?_
 have J:=rr F (.dK (wK []))
 have n4:d≠s0:=Ne.symm (rE B F)
 have ab:H d=none:=by
  cases e:H d with
  | none=>rfl
  | some o=>rw[Y d o n4 e]at F;cases F
 refine⟨_,rfl,s0,cB,g,_,rfl,J _ _ B,M.cl,M.na_wishes_told,by show 2<1000;decide,?_⟩
 refine q rp rt X d _ ((Y.trans (SameBut1.of J)).trans SameBut1.upd) ab ⟨g,c,j,p,n,rz,?_,ad,?_,ae,?_⟩
 ·rw[rG n1];exact J _ _ N
 ·rw[rG n2];exact J _ _ U
 ·rw[rG n4,rz]
theorem EE:Ea ["self","person"] ["self","person"] (D7 (G8 50 1)):=⟨rfl,rfl,rfl,by decide +kernel,rfl,by decide +kernel,by decide +kernel⟩
theorem Fy(M:Md K mg x cB):Mn P w K mg base (FJ P w) 1 cB "check_person" ["self","person"] (Hv cB x):=by
 have u:=(EE).nd;refine M.m_check_person.okE EE (λvs H Q E h=>?_) (λ_ _ _ _ _ _ k n=>match k,n with|[_,_],_=>rfl) (λf o A g s H vs Q E r h=>?_)
 ·obtain⟨s0,d,a,l,R,p,rfl,b,e,q⟩:=h;rfl
 obtain⟨s0,d,a,l,R,p,rfl,b,e,q⟩:=h;refine⟨_,(rC (su (rQ tV (pv 1) (uG (pv 0) rfl) (by with_unfolding_all rfl)) (rC (tM M.x_NoPerson rfl (mM sB rq))) rS)),?_⟩;obtain⟨m,j,v,y,t,h1,h2,h3,h4,h5,h6⟩:=b.ex;refine⟨_,rfl,_,rfl,s0,cB,m,_,_,rfl,h1,M.cl,M.na_people,rfl,j,_,rfl,.inr (SqT.frz h2),rfl,AG _,_,rfl,?_⟩;show if(!Ju (.str p) (a.map V.str))=true then _ else _
 rw[AF];by_cases c:p∈a
 ·rw[decide_eq_true c];exact Eo (q c)
 ·rw[decide_eq_false c];exact EN ⟨by show 1<=sizeLine;decide,e c⟩
theorem F1:Ea ["self","person","text","words"] ["self","person","text"] (D7 (G8 50 2)):=⟨rfl,rfl,rfl,by decide +kernel,rfl,by decide +kernel,by decide +kernel⟩
theorem HQ(M:Md K mg x cB)
  (GBook_check_person:Mn P w K mg base (FJ P w) 1 cB "check_person" ["self","person"] (Hv cB x)):Mn P w K mg base (FJ P w) 2 cB "wish" ["self","person","text"] (IH K cB x):=by
 have nd:=(F1).nd
 refine M.m_wish.okE F1 (λvs H Q E h=>?_) (λ_ _ _ _ _ _ e hl=>match e,hl with|[_,_,_],_=>rfl) (λf aq A ap s H vs Q E l h=>?_)
 ·obtain⟨s0,d,ps,g,R,p,t,rfl,hb,al,aa,ah,L,T,hR,qP,qW,q⟩:=h
  rfl
 obtain⟨s0,d,ps,g,R,p,t,rfl,hb,al,aa,ah,L,T,hR,qP,qW,q⟩:=h
 refine⟨_,(rn (sR (vI (pl:=_) (pv 0) M.cl GBook_check_person l (by decide) (HU (λ_ _ _ z=>z)) (mM (pv 1) rq)))
   (rn (rF (i:=3) nd rfl (Or.inl rfl) (uJ gD PySem.F.slot_str_split PySem.F.type_str_split Cj (pv 2) (mM sB rq)))
   (rn (su (rQ (xc l) (rH (uO) rfl M.b_sorted Boot.«sorted» (mM (pv 3) rq)) (rH (uO) rfl M.b_sorted Boot.«sorted» (mM (uG (pv 0) rfl) rq)) (Ee _)) (rC (tM M.x_NoWishes rfl (mM sB rq))) rS)
   (rC (wc (sd sG rfl M.b_tuple Boot.«tuple» (mM (sr rfl (N:=["word","self"]) (caps:=[none,some 0]) (CompOk.of (by kernel_rfl)) (rV rfl) (sT (pv 3)) (λ_ _ _ _=>(rJ (i:=0) (show(["word","self"]:List Str).Nodup by decide +kernel) rfl (Or.inl rfl) (Or.inr rfl))) (λ_ _ _ _=>sh) (λ_ _ _ _=>(As (K:=K) rfl (vb (K:=K) rfl (pv 1) rfl) (pv 0)))) rq)) (wk (uG (pv 0) rfl) (pv 1) D5)))))),?_⟩
 obtain⟨G,pp,pt,op,ot,h1,h2,h3,h4,h5,h6⟩:=hb.ex
 have ak:∀w∈L2.wordsOf t,GU w:=AJ L
 refine⟨_,rfl,s0,G,_,rfl,h1,rfl,_,rfl,s0,d,ps,g,R,p,rfl,hb,(λc=>qP c H (Same.refl _)),λhp=>?_⟩
 refine⟨_,rfl,rfl,t," ",rfl,rfl,by decide,dB (D8 (by omega)),λo ac=>?_⟩
 have S1:Same H (upd H o (.lst ((L2.wordsOf t).map V.str))):=rr ac _
 have n:upd H o (.lst ((L2.wordsOf t).map V.str)) o=some (.lst ((L2.wordsOf t).map V.str)):=rz
 change LC _ _ _ _ (upd H o (.lst ((L2.wordsOf t).map V.str)))
 generalize upd H o (.lst ((L2.wordsOf t).map V.str))=Z at S1 n ⊢
 refine⟨_,rfl,o,L2.wordsOf t,rfl,.inl (SqL.of n),T,λU m am y ag=>?_⟩
 have S2:Same Z (upd Z U (.lst (m.map V.str))):=rr am _
 have S:upd Z U (.lst (m.map V.str)) U=some (.lst (m.map V.str)):=rz
 generalize upd Z U (.lst (m.map V.str))=Y at S2 S ⊢
 have C:=S1.trans S2
 refine⟨_,rfl,s0,cB,G,_,_,rfl,C _ _ h1,M.cl,M.na_things,rfl,pt,g,rfl,.inr (SqT.frz (C _ _ h4)),by omega,λl2 e af u ao=>?_⟩
 have W:Same Y (upd Y l2 (.lst (e.map V.str))):=rr af _
 have J:upd Y l2 (.lst (e.map V.str)) l2=some (.lst (e.map V.str)):=rz
 generalize upd Y l2 (.lst (e.map V.str))=H3 at W J ⊢
 have b:=C.trans W
 refine⟨.list (m.map gK),.list (e.map gK),.lst (SqL.of (W _ _ S)) (Reps.strs m) (by rw[cx,y.length_eq];omega),.lst (SqL.of J) (Reps.strs e) (by rw[cx,u.length_eq];omega),vc (yV λw j=>ak w (y.mem_iff.mp j)) (by decide),vc (yV λw j=>aa w (u.mem_iff.mp j)) (by decide),_,rfl,?_⟩
 rw[Cg]
 by_cases k:(L2.wordsOf t).Perm g
 rotate_left
 ·rw[decide_eq_false (λ(z:m=e)=>k (y.symm.trans (by rw[z];exact u)))]
  exact EN ⟨by show 1<=sizeLine;decide,qW hp k H3 b⟩
 rw[decide_eq_true (xo ag ao (y.trans (k.trans u.symm)))]
 refine Eo ?_
 have B:=(S2.trans W) _ _ n
 have ai:=b _ _ h1
 have ab:=b _ _ h4
 refine⟨_,rfl,o,rfl,⟨_,SqL.of B⟩,?_⟩
 refine sO (xs:=(L2.wordsOf t).map V.str) (λi ys X=>X=H3/\ys=(Gj g ((L2.wordsOf t).take i)).map V.int) ⟨rfl,rfl⟩ (λi ys X _ I=>by rw[I.1];exact SqL.of B) (λi v ys X O I=>?_) (λys X I D hD=>?_)
 ·obtain⟨rfl,rfl⟩:=I
  rw[cH]at O
  cases j:(L2.wordsOf t)[i]? with
  | none=>rw[j]at O;cases O
  | some w=>
   rw[j]at O
   have ad:V.str w=v:=Option.some.inj O
   subst ad
   have hi:i<(L2.wordsOf t).length:=(cL.mp j).1
   have hm:w∈g:=k.mem_iff.mp (da j)
   refine⟨_,rfl,s0,cB,G,_,_,rfl,ai,M.cl,M.na_things,rfl,pt,ot,_,rfl,ab,h5,_,rfl,g,w,rfl,SqT.frz ab,hm,D8 (by unfold Gj;rw[cx,cx,cV];omega),rfl,?_⟩
   unfold Gj
   rw[cY,j,cS,cS]
   rfl
 obtain⟨rfl,rfl⟩:=I
 rw[cx,dj]
 have S4:=rr hD (.lst ((Gj g (L2.wordsOf t)).map V.int))
 refine⟨D,_,rfl,.inl ⟨SqL.of rz,λr l=>?_⟩⟩
 have S5:=rr l (.tup ((Gj g (L2.wordsOf t)).map V.int))
 have a:=b.trans (S4.trans S5)
 have ae:=a _ _ h6
 have an:r≠d:=λz=>by rw[z,(b.trans S4) _ _ h6]at l;cases l
 have aj:H r=none:=(b.trans S4).free l
 refine⟨_,rfl,s0,cB,G,_,_,rfl,a _ _ h1,M.cl,M.na_wishes_told,rfl,_,rfl,d,R,p,rfl,rfl,ae,hR,?_⟩
 refine q hp k r _ ((SameBut1.of a).trans SameBut1.upd) aj (by rw[rG an,rz]) ⟨G,pp,pt,op,ot,?_,?_,h3,?_,h5,rz⟩
 ·rw[rG (sI h1 h6 (λz=>nomatch z))];exact a _ _ h1
 ·rw[rG (sI h2 h6 (λz=>nomatch z))];exact a _ _ h2
 ·rw[rG (sI h4 h6 (λz=>nomatch z))];exact a _ _ h4
theorem Ff:Ea ["self"] ["self"] (D7 (G8 50 3)):=⟨rfl,rfl,rfl,by decide +kernel,rfl,by decide +kernel,by decide +kernel⟩
theorem GN(M:Md K mg x cB):Mn P w K mg base Eh 1 cB "lacking" ["self"] (Hk cB):=by
 have L:=(Ff).nd;refine M.m_lacking.ok Ff (λvs H Q E h=>?_) (λ_ _ _ _ _ _ C k=>match C,k with|[_],_=>rfl) (λf F A z s H vs Q E I h=>?_)
 ·obtain⟨s0,d,b,D,R,rfl,u,t,q⟩:=h;rfl
 obtain⟨s0,d,b,D,R,rfl,u,t,q⟩:=h;refine⟨_,(rC (rL (sr rfl (N:=["person","self"]) (caps:=[none,some 0]) (CompOk.of (by kernel_rfl)) (rV rfl) (uz (uG (pv 0) rfl)) (λ_ _ _ _=>(rJ (i:=0) (show(["person","self"]:List Str).Nodup by decide +kernel) rfl (Or.inl rfl) (Or.inr rfl))) (λ_ _ _ _=>(tS (rQ Bo (pv 0) (vb (K:=K) rfl (pv 1) rfl) (by with_unfolding_all rfl)))) (λ_ _ _ _=>(pv 0))))),?_⟩;obtain⟨y,B,O,S,J,h1,h2,h3,h4,h5,h6⟩:=u.ex;have o:=SqT.frz (K:=K) h2;refine⟨_,rfl,s0,cB,y,_,_,rfl,h1,M.cl,M.na_people,rfl,B,rfl,⟨_,o⟩,?_⟩;refine ua (xs:=b.map V.str) (λi j m=>m=H/\j=((b.take i).filter λp=>!(Ek R p).isSome).map V.str) ⟨rfl,rfl⟩ (λi j m _ a=>by rw[a.1];exact o) (λi v j m e a=>?_) (λj m a l k=>?_)
 ·obtain⟨rfl,rfl⟩:=a;rw[cH]at e
  cases g:b[i]? with
  | none=>rw[g]at e;cases e
  | some w=>
   rw[g]at e;have r:V.str w=v:=Option.some.inj e;subst r;have G:i<b.length:=(cL.mp g).1;have n:(((b.take i).filter λp=>!(Ek R p).isSome).map V.str).length<sizeLine:=by
    rw[cx];have h1:=d6 (λp=>!(Ek R p).isSome) (b.take i);rw[cV]at h1;exact D8 (by omega)
   refine⟨_,rfl,_,rfl,s0,cB,y,_,_,rfl,h1,M.cl,M.na_wishes_told,rfl,d,R,w,rfl,rfl,h6,_,rfl,?_⟩;rw[cY,g,gj,cS]
   cases c:(!(Ek R w).isSome)with
   | true=>
    refine EN ⟨_,rfl,n,rfl,?_⟩;show _=_++List.map V.str ([w].filter _);rw[List.filter_cons_of_pos (p:=λp=>!(Ek R p).isSome) c];rfl
   | false=>
    refine Eo ⟨rfl,?_⟩;show _=_++List.map V.str ([w].filter _);rw[List.filter_cons_of_neg (p:=λp=>!(Ek R p).isSome) (by rw[c];exact de)];exact(fT _).symm
 ·obtain⟨rfl,rfl⟩:=a;rw[cx,dj];exact q l _ (rr k _) k rz
theorem Fa:Ea ["self","way","wishes"] ["self","way"] (D7 (G8 50 4)):=⟨rfl,rfl,rfl,by decide +kernel,rfl,by decide +kernel,by decide +kernel⟩
theorem Gw(M:Md K mg x cB)
  (GBook_lacking:Mn P w K mg base Eh 1 cB "lacking" ["self"] (Hk cB))
  (Geaten:Dn P w K mg base Eh 7 "eaten" ["wishes"] (Hs K))
  (Gby_turns:Dn P w K mg base Eh 4 "by_turns" ["wishes"] (Gb K)):Mn P w K mg base (FJ P w) 8 cB "table_by" ["self","way"] (Gc K cB x):=by
 have nd:=(Fa).nd
 refine M.m_table_by.okE Fa (λvs H Q E h=>?_) (λ_ _ _ _ _ _ t hl=>match t,hl with|[_,_],_=>rfl) (λf an A ak s H vs Q E S h=>?_)
 ·obtain⟨s0,d,a,ts,R,D,rfl,Y,J,qU,q⟩:=h
  rfl
 obtain⟨s0,d,a,ts,R,D,rfl,Y,J,qU,q⟩:=h
 refine⟨_,(rn (su (BH (Df (pl:=_) (pv 0) M.cl GBook_lacking S (by decide) Ec) (λ_=>rfl)) (rC (tM M.x_Unready rfl (mM sB rq))) rS)
   (rn (sA (i:=2) nd rfl rfl rfl rfl (N:=["person","self"]) (caps:=[none,some 0]) (CompOk.of (by kernel_rfl)) (rV rfl) (uz (uG (pv 0) rfl)) (λ_ _ _ _=>(rJ (i:=0) (show(["person","self"]:List Str).Nodup by decide +kernel) rfl (Or.inl rfl) (Or.inr rfl))) (λ_ _ _ _=>sh) (λ_ _ _ _=>(rM D6 (vb (K:=K) rfl (pv 1) rfl) (pv 0) (λ_ _=>rfl))))
   (rn (su (rQ tO (pv 1) sB (Ee _)) (rC (rL (rR Geaten S (by decide) rfl Ec (mM (pv 2) rq)))) rS)
   (rn (su (rQ tO (pv 1) sB (Ee _)) (rC (rL (rR Gby_turns S (by decide) rfl Ec (mM (pv 2) rq)))) rS)
   (rC (tM M.x_NoWay rfl (mM sB rq))))))),?_⟩
 obtain⟨T,pp,pt,op,ot,h1,h2,h3,h4,h5,h6⟩:=Y.ex
 refine⟨_,rfl,s0,T,_,rfl,h1,rfl,s0,d,a,ts,R,rfl,Y,J,λl H1 n am hl=>?_⟩
 refine⟨_,.inl ⟨_,SqL.of hl,rfl⟩,?_⟩
 by_cases hall:∀p∈a,Ek R p≠none
 rotate_left
 ·have ah:∃p∈a,Ek R p=none:=dM λz=>hall λp hp e=>z ⟨p,hp,e⟩
  have ac:¬(a.filter λp=>!(Ek R p).isSome)=[]:=λz=>hall (yr.mp z)
  have e:(!(((a.filter λp=>!(Ek R p).isSome).map V.str).isEmpty))=true:=by simpa using ac
  rw[e]
  exact EN ⟨by show 1<=sizeLine;decide,qU ah H1 n⟩
 have e:(!(((a.filter λp=>!(Ek R p).isSome).map V.str).isEmpty))=false:=by rw[yr.mpr hall];rfl
 rw[e]
 refine Eo ?_
 obtain⟨W,hT,C,qN,q⟩:=q hall
 have aj:=Paired.len hT
 have L:=n _ _ h1
 have hP:=SqT.frz (K:=K) (n _ _ h2)
 have ai:=n _ _ h6
 refine⟨_,rfl,s0,cB,T,_,_,rfl,L,M.cl,M.na_people,rfl,pp,rfl,⟨_,hP⟩,?_⟩
 refine vB (xs:=a.map V.str) (λi b g=>g=H1/\dr (IsR K H1) b (W.take i)) ⟨rfl,by rw[eO];exact .nil⟩ (λi b g _ m=>by rw[m.1];exact hP) (λi v b g F m=>?_) (λb g m o ae=>?_)
 ·obtain⟨rfl,k⟩:=m
  rw[cH]at F
  cases hw:a[i]? with
  | none=>rw[hw]at F;cases F
  | some w=>
   rw[hw]at F
   have ab:V.str w=v:=Option.some.inj F
   subst ab
   obtain⟨al,aa,u,ag,ad⟩:=Paired.get' hT hw
   have af:=Paired.len k
   rw[cV]at af
   refine⟨_,rfl,s0,cB,T,_,_,rfl,L,M.cl,M.na_wishes_told,rfl,_,rfl,d,R,w,u,rfl,rfl,ai,ag,D8 (by omega),rfl,?_⟩
   rw[cY,aa]
   exact Paired.app k (.cons (ad.mono n) .nil)
 obtain⟨rfl,k⟩:=m
 rw[cx,aj,dj]at k
 have U:Same g (upd g o (.lst b)):=rr ae _
 have r:upd g o (.lst b) o=some (.lst b):=rz
 generalize upd g o (.lst b)=H3 at U r ⊢
 have y:=Paired.mapP k λ_ _ (h:IsR K g _ _)=>h.mono U
 have j:=n.trans U
 refine⟨_,rfl,rfl,_,rfl,?_⟩
 refine EA (λc=>?_) (λc=>?_)
 ·have ew:D="eaten":=by injection c
  refine⟨_,rfl,o,b,W,a.length,rfl,SqL.of r,y,⟨C.lo,C.hi,C.len,C.pm⟩,λX t N Z O B G hN I=>?_⟩
  exact q _ _ X t Z (.inl ⟨ew,N,hN,rfl,rfl⟩) (j.trans O) (j.free B) G I
 refine⟨_,rfl,rfl,_,rfl,?_⟩
 refine EA (λc2=>?_) (λc2=>?_)
 ·have ew:D="turns":=by injection c2
  refine⟨_,rfl,o,b,W,a.length,rfl,SqL.of r,y,C,λX t Z O B G I=>?_⟩
  rw[AR]at I
  exact q _ _ X t Z (.inr ⟨ew,rfl,rfl⟩) (j.trans O) (j.free B) G (tL I)
 ·exact⟨by show 1<=sizeLine;decide,qN (λz=>c (by rw[z])) (λz=>c2 (by rw[z])) H3 j⟩
theorem Ft:Ea ["self","person","way","table","row"] ["self","person","way"] (D7 (G8 50 5)):=⟨rfl,rfl,rfl,by decide +kernel,rfl,by decide +kernel,by decide +kernel⟩
theorem GX(M:Md K mg x cB)
  (GBook_check_person:Mn P w K mg base (FJ P w) 1 cB "check_person" ["self","person"] (Hv cB x))
  (GBook_table_by:Mn P w K mg base (FJ P w) 8 cB "table_by" ["self","way"] (Gc K cB x)):Mn P w K mg base (FJ P w) 9 cB "shares" ["self","person","way"] (GE K cB x):=by
 have nd:=(Ft).nd
 refine M.m_shares.okE Ft (λvs H Q E h=>?_) (λ_ _ _ _ _ _ us hl=>match us,hl with|[_,_,_],_=>rfl) (λf aF A az s H vs Q E hr h=>?_)
 ·obtain⟨s0,d,a,e,R,p,ae,rfl,Y,ad,aw,qP,qU,q⟩:=h
  rfl
 obtain⟨s0,d,a,e,R,p,ae,rfl,Y,ad,aw,qP,qU,q⟩:=h
 refine⟨_,(rn (sR (vI (pl:=_) (pv 0) M.cl GBook_check_person hr (by decide) (HU (λ_ _ _ z=>z)) (mM (pv 1) rq)))
   (rn (rF (i:=3) nd rfl (Or.inl rfl) (vI (pl:=_) (pv 0) M.cl GBook_table_by hr (by decide) (HU (λ_ _ _ z=>z)) (mM (pv 2) rq)))
   (rn (rF (i:=4) nd rfl (Or.inr rfl) (rM rK (pv 3) (As (K:=K) rfl (uG (pv 0) rfl) (pv 1)) (λ_ _=>rfl)))
   (rC (rL (sr rfl (N:=["thing","self","row"]) (caps:=[none,some 0,some 4]) (CompOk.of (by kernel_rfl)) (rV rfl) (uz (rM D6 (uG (pv 0) rfl) (pv 1) (λ_ _=>rfl))) (λ_ _ _ _=>(rJ (i:=0) (show(["thing","self","row"]:List Str).Nodup by decide +kernel) rfl (Or.inl rfl) (Or.inr rfl))) (λ_ _ _ _=>(tS (rQ (zQ (K:=K) rfl hr) (rM (tT (K:=K) rfl) (pv 2) (pv 0) (λ_ _=>rfl)) (u9 (K:=K) rfl M.c_NOTHING) (Ee _)))) (λ_ _ _ _=>(sE (mM (rM (tT (K:=K) rfl) (vb (K:=K) rfl (pv 1) rfl) (pv 0) (λ_ _=>rfl)) (mM (rM (tT (K:=K) rfl) (pv 2) (pv 0) (λ_ _=>rfl)) rq)))))))))),?_⟩
 obtain⟨G,pp,pt,op,ot,h1,h2,h3,h4,h5,h6⟩:=Y.ex
 have F:(2:Nat)<=sizeLine:=by decide
 refine⟨_,rfl,s0,G,_,rfl,h1,rfl,_,rfl,s0,d,a,e,R,p,rfl,Y,(λc=>qP c H (Same.refl _)),λhp=>?_⟩
 refine⟨_,rfl,s0,G,_,rfl,h1,rfl,_,rfl,s0,d,a,e,R,ae,rfl,Y,ad,qU hp,λhall=>?_⟩
 obtain⟨W,hT,hW,qN,q⟩:=q hp hall
 refine⟨W,hT,hW,qN,λZ T tb us H1 ab n aA o hZ=>?_⟩
 have X:=ab.tb hW
 have hi:a.idxOf p<a.length:=gZ.mpr hp
 have aD:=X.reg.len
 have aE:=hW.len
 have aG:=X.t0
 obtain⟨uv,av,ra,gs,rfl,ax,L⟩:=Paired.get hZ (cz (show a.idxOf p<Z.length by omega))
 obtain⟨b,af,v,au,D⟩:=Paired.get hT (cz (show a.idxOf p<W.length by omega))
 have ep:b=p:=by
  have:=jg hi
  rw[cz hi]at af
  rw[<-Option.some.inj af]
  exact this
 subst ep
 have m:=hW.pm _ (cW (show a.idxOf b<W.length by omega))
 have aa:=X.reg.cols _ (cW (show a.idxOf b<Z.length by omega))
 have q2:=λl xs H'=>q Z T l xs H' ab
 rw[show W[a.idxOf b]=W.getD (a.idxOf b) []from(HM.getD_lt (show a.idxOf b<W.length by omega)).symm]at D m
 rw[show Z[a.idxOf b]=Z.getD (a.idxOf b) []from(HM.getD_lt (show a.idxOf b<Z.length by omega)).symm]at L aa
 generalize W.getD (a.idxOf b) []=j at D m q2
 generalize Z.getD (a.idxOf b) []=z at L aa q2
 have S:=n _ _ h1
 refine⟨_,rfl,_,rfl,s0,cB,G,_,_,rfl,S,M.cl,M.na_people,rfl,pp,op,_,rfl,n _ _ h2,h3,_,rfl,a,b,rfl,SqT.frz (n _ _ h2),hp,tb,_,_,_,rfl,rfl,SqL.of o,si av,?_⟩
 obtain⟨wa,rfl,ar⟩:=D
 have J:=n.tup ar
 have am:=n _ _ h6
 have ay:=n _ _ h4
 have aB:=m.len
 refine⟨_,rfl,s0,cB,G,_,_,rfl,S,M.cl,M.na_wishes_told,rfl,_,rfl,d,R,b,_,rfl,rfl,am,au,wa,rfl,⟨_,J⟩,?_⟩
 refine ua (xs:=j.map V.int) (λi u O=>Same H1 O/\dr (IsShr K O T) u (Ew e (j.take i) z)) ⟨Same.refl _,.nil⟩ (λi u O _ r=>r.1.tup J) (λi y u O I r=>?_) (λu O r l hl=>?_)
 ·obtain⟨g,k⟩:=r
  rw[cH]at I
  cases B:j[i]? with
  | none=>rw[B]at I;cases I
  | some t=>
   rw[B]at I
   have ao:V.int t=y:=Option.some.inj I
   subst ao
   have o:=m.mem.mp (da B)
   have aj:t.toNat<z.length:=by omega
   have al:(fr T z)[t.toNat]?=some (FQ.red (EM.at0 z t) T):=by
    unfold fr EM.at0
    rw[cH,cC,cz aj]
    rfl
   obtain⟨fv,ac,hF⟩:=Paired.get L al
   have aq:=Paired.len k
   have ag:u.length<sizeLine:=by
    rw[aq]
    unfold Ew
    rw[cx]
    have h1:=d6 (λt=>decide (EM.at0 z t≠0)) (j.take i)
    rw[cV]at h1
    exact D8 (by omega)
   have ah:Ew e (j.take (i+1)) z=Ew e (j.take i) z++if EM.at0 z t≠0 then[(e.getD t.toNat ea,EM.at0 z t)]else[]:=by
    unfold Ew
    rw[cY,B,gj,cS]
    by_cases c:EM.at0 z t=0
    ·simp[c]
    ·simp[c]
   have U:=g.tup ax
   refine⟨_,rfl,_,rfl,ra,gs,t,fv,rfl,rfl,U,sD o.1 ac,λc0 ak=>?_⟩
   refine⟨dF (FQ.red (EM.at0 z t) T),dF (0,1),(hF.mono g).rep,IsF.rep ⟨c0,rfl,ak _⟩,sy _,sy _,_,rfl,?_⟩
   rw[uI,ah]
   refine GJ (λc=>?_) (λc=>?_)
   ·have hn:EM.at0 z t≠0:=λe0=>c ((sk (by omega)).mpr e0)
    have ai:t.toNat<e.length:=by omega
    have an:(e.map V.str)[t.toNat]?=some (.str (e.getD t.toNat ea)):=by rw[cH,cC,cz ai];rfl
    obtain⟨fg,rfl,aC⟩:=id hF
    refine⟨_,rfl,s0,cB,G,_,_,rfl,g _ _ S,M.cl,M.na_things,rfl,_,rfl,pt,_,t,_,rfl,rfl,SqT.frz (g _ _ ay),sD o.1 an,_,rfl,_,rfl,ra,gs,t,_,rfl,rfl,U,sD o.1 ac,F,λtp ap=>?_⟩
    have C:=rr ap (.tup [.str (e.getD t.toNat ea),.ref fg])
    refine⟨ag,g.trans C,?_⟩
    rw[if_pos hn]
    exact Paired.app (Paired.mapP k λ_ _ h=>h.mono C) (.cons ⟨tp,fg,rfl,SqT.of rz,hF.mono (g.trans C)⟩ .nil)
   ·have hn:EM.at0 z t=0:=(sk (by omega)).mp c
    refine⟨g,?_⟩
    rw[if_neg (λe0=>e0 hn),fT]
    exact k
 ·obtain⟨g,k⟩:=r
  rw[cx,dj]at k
  have C:=rr hl (.lst u)
  exact q2 l u _ (n.trans (g.trans C)) ((n.trans g).free hl) rz (Paired.mapP k λ_ _ h=>h.mono C)
theorem F4:Ea ["self","way","number","lots","words"] ["self","way","number"] (D7 (G8 50 6)):=⟨rfl,rfl,rfl,by decide +kernel,rfl,by decide +kernel,by decide +kernel⟩
theorem IE(M:Md K mg x cB)
  (Glots_of:Dn P w K mg base Eh 8 "lots_of" ["table"] (GW K))
  (GBook_table_by:Mn P w K mg base (FJ P w) 8 cB "table_by" ["self","way"] (Gc K cB x))
  (Gpicked:Dn P w K mg base (FJ P w) 4 "picked" ["lots","number"] (GH K x)):Mn P w K mg base (FJ P w) 9 cB "deal" ["self","way","number"] (ID K cB x):=by
 have nd:=(F4).nd
 refine M.m_deal.okE F4 (λvs H Q E h=>?_) (λ_ _ _ _ _ _ us hl=>match us,hl with|[_,_,_],_=>rfl) (λf ay A av s H vs Q E B h=>?_)
 ·obtain⟨s0,d,m,r,a,R,ad,Y,rfl,hb,ac,ao,hm,aa,ae,qU,q⟩:=h
  rfl
 obtain⟨s0,d,m,r,a,R,ad,Y,rfl,hb,ac,ao,hm,aa,ae,qU,q⟩:=h
 refine⟨_,(rn (rF (i:=3) nd rfl (Or.inl rfl) (rR Glots_of B (by decide) rfl Ec (mM (vI (pl:=_) (pv 0) M.cl GBook_table_by B (by decide) (HU (λ_ _ _ z=>z)) (mM (pv 1) rq)) rq)))
   (rn (sA (i:=4) nd rfl rfl rfl rfl (N:=["thing","self"]) (caps:=[none,some 0]) (CompOk.of (by kernel_rfl)) (rV rfl) (uz (rR Gpicked B (by decide) rfl (HU (λ_ _ _ z=>z)) (mM (pv 3) (mM (pv 2) rq)))) (λ_ _ _ _=>(rJ (i:=0) (show(["thing","self"]:List Str).Nodup by decide +kernel) rfl (Or.inl rfl) (Or.inr rfl))) (λ_ _ _ _=>sh) (λ_ _ _ _=>(rM (tT (K:=K) rfl) (vb (K:=K) rfl (pv 1) rfl) (pv 0) (λ_ _=>rfl))))
   (rC (rL (za rfl rfl M.b_list rfl M.b_zip (mM (uG (pv 0) rfl) (mM (pv 4) rq))))))),?_⟩
 obtain⟨dx,pp,pt,op,ot,h1,h2,h3,h4,h5,h6⟩:=hb.ex
 refine⟨_,rfl,s0,dx,_,rfl,h1,rfl,_,rfl,s0,d,r,a,R,ad,rfl,hb,ac,qU,λhall=>?_⟩
 obtain⟨W,hT,hW,qN,qR,q⟩:=q hall
 refine⟨W,hT,hW,qN,λZ T tb us H1 g S1 aw J hZ=>?_⟩
 have L:=g.tb hW
 refine⟨tb,us,Z,T,r.length,rfl,SqL.of J,hZ,L,λk pL ls H2 c S2 ax hL ap=>?_⟩
 have u:=S1.trans S2
 have aq:=Av L (g.le hW) c
 refine⟨_,rfl,_,rfl,pL,m,ls,_,T,r.length,Y,rfl,SqL.of hL,ap,aq,hm.mono u,aa,ae,(λB=>qR g.way B H2 u),λau i v H3 b S3 ai=>?_⟩
 obtain⟨va,rfl,n⟩:=ai
 have q2:=λl xs H'=>q au Z T k i l xs H' g c b
 have U:i<k:=by
  have:=b.lt
  unfold HM.lotsL at this
  rwa[cx,e9]at this
 have ed:(HM.lotsL Z T k).getD i (0,[])=HM.lotAt Z T i:=by
  unfold HM.lotsL
  rw[cC,cH,d9 U]
  rfl
 have I:=(Ax L c U).1
 rw[ed]at q2 n
 generalize(HM.lotAt Z T i).2=p at n I q2
 have ar:=I.len
 have D:=u.trans S3
 refine⟨va,rfl,⟨_,n⟩,?_⟩
 refine vB (xs:=p.map V.int) (λj S O=>O=H3/\S=(Ed a (p.take j)).map V.str) ⟨rfl,rfl⟩ (λj S O _ C=>by rw[C.1];exact n) (λj y S O F C=>?_) (λS O C pw af=>?_)
 ·obtain⟨rfl,rfl⟩:=C
  rw[cH]at F
  cases o:p[j]? with
  | none=>rw[o]at F;cases F
  | some t=>
   rw[o]at F
   have ak:V.int t=y:=Option.some.inj F
   subst ak
   have J:=I.mem.mp (da o)
   have ah:t.toNat<a.length:=by omega
   have aj:(a.map V.str)[t.toNat]?=some (.str (a.getD t.toNat ea)):=by rw[cH,cC,cz ah];rfl
   refine⟨_,rfl,s0,cB,dx,_,_,rfl,D _ _ h1,M.cl,M.na_things,rfl,_,rfl,pt,_,t,_,rfl,rfl,SqT.frz (D _ _ h4),sD J.1 aj,D8 (by unfold Ed;rw[cx,cx,cV];omega),rfl,?_⟩
   unfold Ed
   rw[cY,o,cS,cS]
   rfl
 obtain⟨rfl,rfl⟩:=C
 rw[cx,dj]
 have ab:(Ed a p).length=r.length:=by unfold Ed;rw[cx,ar]
 have S4:=rr af (.lst ((Ed a p).map V.str))
 have e:=D.trans S4
 refine⟨_,rfl,s0,cB,dx,_,_,rfl,e _ _ h1,M.cl,M.na_people,rfl,_,rfl,true,false,pp,pw,r.map V.str,(Ed a p).map V.str,rfl,SqT.frz (e _ _ h2),SqL.of rz,by rw[cx,cx,ab],by rw[cx];omega,λl am H5 S5 an hl X al=>?_⟩
 refine q2 l _ H5 (e.trans S5) (e.free an) hl ?_
 rw[cx]at X
 refine sY (by rw[cx,oG,ab,X];simp) λj v x G hx=>?_
 rw[cH]at G
 cases ht:am[j]? with
 | none=>rw[ht]at G;cases G
 | some t=>
  rw[ht]at G
  have ag:V.ref t=v:=Option.some.inj G
  subst ag
  obtain⟨x1,x2⟩:=x
  obtain⟨e1,e2⟩:=i3.mp hx
  exact⟨t,rfl,SqT.of (al j t (.str x1) (.str x2) ht (by rw[cH,e1];rfl) (by rw[cH,e2];rfl))⟩
theorem Fh:Ea ["_law_script","_law_k"] ["_law_script","_law_k"] (D7 (Eb 52)):=⟨rfl,rfl,rfl,by decide +kernel,rfl,by decide +kernel,by decide +kernel⟩
theorem GO(M:Md K mg x cB):Dn P w K mg base Eh 1 "_law_cell_at" ["_law_script","_law_k"] (IR K):=by
 have o:=(Fh).nd;refine M.f__law_cell_at.ok Fh (λvs H Q E h=>?_) (λ_ _ _ _ _ _ l d=>match l,d with|[_,_],_=>rfl) (λf m A j s H vs Q E n h=>?_)
 ·obtain⟨a,b,k,rfl,g,h0,q⟩:=h;rfl
 obtain⟨a,b,k,rfl,g,h0,q⟩:=h;refine⟨_,(rn (su (rQ z7 (pv 1) (rH rO rfl M.b_len dD (mM (pv 0) rq)) (Ee _)) (rC (rL (rM rK (pv 0) (pv 1) (λ_ _=>rfl)))) rS)
   (rC (rL rD))),?_⟩
 have d:(b.map V.int).length=b.length:=cx _;refine⟨_,rfl,_,rfl,a,_,rfl,.inl g,_,_,rfl,rfl,_,rfl,?_⟩;refine EA (λc=>?_) (λc=>?_)
 ·rw[d]at c;refine⟨_,rfl,_,rfl,a,_,k,_,rfl,rfl,g,sD h0 (tm (by omega)),?_⟩;have e:LM.cellAt b k=b.getD k.toNat 0:=by unfold LM.cellAt;rw[if_pos c]
  rw[<-e];exact q
 ·rw[d]at c;have e:LM.cellAt b k=0:=by unfold LM.cellAt;rw[if_neg c]
  rw[e]at q;exact q
theorem FD:Ea ["_law_cell","_law_many","_law_found","_law_number","_law_k"] ["_law_cell","_law_many"] (D7 (Eb 53)):=⟨rfl,rfl,rfl,by decide +kernel,rfl,by decide +kernel,by decide +kernel⟩
theorem Hq(M:Md K mg x cB):Dn P w K mg base Eh 1 "_law_mixed" ["_law_cell","_law_many"] (Jd):=by
 have g:=(FD).nd;refine M.f__law_mixed.ok FD (λvs H Q E h=>?_) (λ_ _ _ _ _ _ C b=>match C,b with|[_,_],_=>rfl) (λf I A u s H vs Q E J h=>?_)
 ·obtain⟨c,m,rfl,G,q⟩:=h;rfl
 obtain⟨c,m,rfl,G,q⟩:=h;refine⟨_,(rn (rF (i:=2) g rfl (Or.inl rfl) (t5 rq))
   (rn (rF (i:=3) g rfl (Or.inl rfl) (rN tE (pv 0) rD))
   (rn (su (rQ tO (rN rY (pv 0) rD) rD (Ee _)) (rn (sP dA rfl (rW rfl M.b_range (mM (pv 1) rq)) (rJ (i:=4) g rfl (Or.inl rfl)) (rn (sR (uJ dI fR fS tK (pv 2) (mM (rN rY (pv 3) rD) rq)))
   (rC (rF (i:=3) g rfl (Or.inl rfl) (rN tE (pv 3) rD)))))
   (rC (rL (pv 2)))) rS)
   (rn (rF (i:=3) g rfl (Or.inl rfl) (rN rY (rN sC (rN sx (rN rY (pv 3) rD) rD) rD) rD))
   (rn (sP dA rfl (rW rfl M.b_range (mM (pv 1) rq)) (rJ (i:=4) g rfl (Or.inl rfl)) (rn (rF (i:=3) g rfl (Or.inl rfl) (rN rY (rN sC (rN sC (rN sC (rN sx (pv 3) (pv 3)) (rN sx rD (pv 3))) (pv 4)) rD) rD))
   (rC (sR (uJ dI fR fS tK (pv 2) (mM (pv 3) rq))))))
   (rC (rL (pv 2)))))))),?_⟩
 have l:(0:Nat)<=sizeLine:=by decide
 refine⟨l,λp hp=>?_⟩;refine⟨_,rfl,c,2,rfl,rfl,c9 (by decide) (by decide),?_⟩;refine⟨_,rfl,c,2,rfl,rfl,by show(0:Int)<2;decide,rfl,_,rfl,?_⟩;refine EA (λo=>?_) (λo=>?_)
 ·have t:c%2=1:=Kl o;refine⟨_,rfl,(m:Int),rfl,by omega,by omega,?_⟩;refine rZ (n:=m) (λi j a=>Same H a/\a p=some (.lst ((LM.oddGo (c/2) i).1.map V.int))/\∃r,j=[some (.int c),some (.int m),some (.ref p),some (.int (LM.oddGo (c/2) i).2),r])
   ⟨rr hp _,rz,_,rfl⟩ (λi j a v d=>?_) (λj a d=>?_)
  ·obtain⟨e,b,r,rfl⟩:=d;have k:=LM.oddGo_len (c/2) i;refine⟨_,rfl,.inl ⟨rfl,_,SqL.of b⟩,_,rfl,_,5040,rfl,rfl,by show(0:Int)<5040;decide,p,_,_,rfl,rfl,b,D8 (by rw[cx,k];omega),?_⟩;refine⟨_,rfl,_,5040,rfl,rfl,c9 (by decide) (by decide),?_⟩;refine⟨e.over hp _,?_,_,rfl⟩;rw[rz,LM.oddGo,cS];rfl
  ·obtain⟨e,b,r,rfl⟩:=d;refine⟨_,rfl,q p a e hp ?_⟩;rw[b,LM.mixed,if_pos t]
 ·have t:¬c%2=1:=λz=>o (by show V.int (c%2)=V.int 1;rw[z])
  refine⟨_,rfl,_,_,rfl,rfl,by show(0:Int)<2147483647;decide,_,_,rfl,rfl,J6 (by decide),_,_,rfl,rfl,_,_,rfl,rfl,by show(0:Int)<2147483647;decide,?_⟩;refine⟨_,rfl,(m:Int),rfl,by omega,by omega,?_⟩;have y:=dO (c/2%2147483647*16807+11) (show(2147483647:Int)≠0 by decide);have B:=dC (c/2%2147483647*16807+11) (show(0:Int)<2147483647 by decide);refine rZ (n:=m) (λi j a=>Same H a/\a p=some (.lst ((LM.evenGo ((c/2%2147483647*16807+11)%2147483647) i).1.map V.int))/\∃r,j=[some (.int c),some (.int m),some (.ref p),some (.int (LM.evenGo ((c/2%2147483647*16807+11)%2147483647) i).2),r])
   ⟨rr hp _,rz,_,rfl⟩ (λi j a v d=>?_) (λj a d=>?_)
  ·obtain⟨e,b,r,rfl⟩:=d;have k:=LM.evenGo_len ((c/2%2147483647*16807+11)%2147483647) i;have D:=LM.evenGo_num _ y B i;refine⟨_,rfl,_,rfl,_,_,rfl,rfl,JG (by omega),_,rfl,_,_,rfl,rfl,JG (by decide),_,_,rfl,rfl,_,rfl,_,_,rfl,rfl,_,_,rfl,rfl,_,_,rfl,rfl,by show(0:Int)<2147483647;decide,?_⟩;refine⟨_,rfl,.inl ⟨rfl,_,SqL.of b⟩,_,rfl,p,_,_,rfl,rfl,b,D8 (by rw[cx,k];omega),?_⟩;refine⟨e.over hp _,?_,some (.int (0+(i:Int))),?_⟩
   ·rw[rz,LM.evenGo,cS,LM.evenX,d3];rfl
   ·rw[LM.evenGo,LM.evenX,d3];rfl
  ·obtain⟨e,b,r,rfl⟩:=d;refine⟨_,rfl,q p a e hp ?_⟩;rw[b,LM.mixed,if_neg t]
theorem FZ:Ea ["_law_number","_law_count","_law_found","_law_k"] ["_law_number","_law_count"] (D7 (Eb 54)):=⟨rfl,rfl,rfl,by decide +kernel,rfl,by decide +kernel,by decide +kernel⟩
theorem Ix(M:Md K mg x cB):Dn P w K mg base Eh 1 "_law_perm" ["_law_number","_law_count"] (IX):=by
 have k:=(FZ).nd;refine M.f__law_perm.ok FZ (λvs H Q E h=>?_) (λ_ _ _ _ _ _ o b=>match o,b with|[_,_],_=>rfl) (λf v A m s H vs Q E z h=>?_)
 ·obtain⟨a,n,rfl,u,q⟩:=h;rfl
 obtain⟨a,n,rfl,u,q⟩:=h;refine⟨_,(rn (rF (i:=2) k rfl (Or.inl rfl) (t5 rq))
   (rn (sP dA rfl (rW rfl M.b_range (mM (pv 1) rq)) (rJ (i:=3) k rfl (Or.inl rfl)) (rn (sR (uJ dI PySem.F.slot_list_insert PySem.F.type_list_insert Ba (pv 2) (mM (rN rY (pv 0) (rN sC (pv 3) rD)) (mM (pv 3) rq))))
   (rC (rF (i:=0) k rfl (Or.inl rfl) (rN tE (pv 0) (rN sC (pv 3) rD))))))
   (rC (rL (pv 2))))),?_⟩
 have c:(0:Nat)<=sizeLine:=by decide
 refine⟨c,λp hp=>?_⟩;refine⟨_,rfl,(n:Int),rfl,by omega,by omega,?_⟩;refine rZ (n:=n) (λi l e=>Same H e/\e p=some (.lst ((LM.permGo a i).1.map V.int))/\∃r,l=[some (.int (LM.permGo a i).2),some (.int n),some (.ref p),r])
  ⟨rr hp _,rz,_,rfl⟩ (λi l e y g=>?_) (λl e g=>?_)
 ·obtain⟨j,b,r,rfl⟩:=g;have d:(LM.permGo a i).1.length=i:=LM.perm_len a i;have t:=dO (LM.permGo a i).2 (show(0+(i:Int)+1)≠0 by omega);have B:=dC (LM.permGo a i).2 (show 0<(0+(i:Int)+1)by omega);refine⟨_,rfl,.inl ⟨rfl,_,SqL.of b⟩,_,rfl,_,rfl,_,_,rfl,rfl,_,_,rfl,rfl,by show 0<(0+(i:Int)+1);omega,_,rfl,p,_,_,_,rfl,rfl,b,t,by rw[cx,d];omega,D8 (by rw[cx,d];omega),?_⟩;refine⟨_,rfl,_,rfl,_,_,rfl,rfl,_,_,rfl,rfl,c9 (by omega) (by omega),?_⟩;refine⟨j.over hp _,?_,some (.int (0+(i:Int))),?_⟩
  ·rw[rz,LM.permGo,LM.ins,d3,cS,dN,pQ,pR]
  ·rw[LM.permGo,d3];rfl
 ·obtain⟨j,b,r,rfl⟩:=g;exact⟨_,rfl,q p e j hp b⟩
theorem FX:Ea ["_law_cell","_law_size","_law_found","_law_rest","_law_k"] ["_law_cell","_law_size"] (D7 (Eb 57)):=⟨rfl,rfl,rfl,by decide +kernel,rfl,by decide +kernel,by decide +kernel⟩
theorem IC(M:Md K mg x cB):Dn P w K mg base Eh 1 "_law_base" ["_law_cell","_law_size"] (Jy):=by
 have l:=(FX).nd;refine M.f__law_base.ok FX (λvs H Q E h=>?_) (λ_ _ _ _ _ _ O d=>match O,d with|[_,_],_=>rfl) (λf T A I s H vs Q E W h=>?_)
 ·obtain⟨c,n,rfl,R,q⟩:=h;rfl
 obtain⟨c,n,rfl,R,q⟩:=h;refine⟨_,(rn (rF (i:=2) l rfl (Or.inl rfl) sB)
   (rn (rF (i:=3) l rfl (Or.inl rfl) (rN tE (pv 0) rD))
   (rn (su (rQ tO (rN rY (pv 0) rD) rD (Ee _)) (rC (rF (i:=3) l rfl (Or.inl rfl) (rN rY (rN sC (rN sx (rN rY (pv 3) rD) rD) rD) rD))) rS)
   (rn (sP dA rfl (rW rfl M.b_range (mM (pv 1) rq)) (rJ (i:=4) l rfl (Or.inl rfl)) (rn (su (rQ tO (rN rY (pv 0) rD) rD (Ee _)) (rC (rF (i:=3) l rfl (Or.inl rfl) (rN rY (rN sC (rN sC (rN sC (rN sx (pv 3) (pv 3)) (rN sx rD (pv 3))) (pv 4)) rD) rD))) rS)
   (rn (rF (i:=2) l rfl (Or.inl rfl) (rN ue (pv 2) (rM yv sB (rN rY (pv 3) rD) (λ_ _=>rfl))))
   (rC (su (rQ tO (rN rY (pv 0) rD) rD (Ee _)) (rC (rF (i:=3) l rfl (Or.inl rfl) (rN tE (pv 3) rD))) rS)))))
   (rC (rL (pv 2))))))),?_⟩
 have L:=dO (c/2%2147483647*16807+11) (show(2147483647:Int)≠0 by decide);have N:=dC (c/2%2147483647*16807+11) (show(0:Int)<2147483647 by decide);refine⟨_,rfl,c,2,rfl,rfl,c9 (by decide) (by decide),?_⟩;have nil:Ltr "":=λc v=>nomatch (show c∈([]:List Nat)from v)
 have u:JH.length<=sizeLine:=by show 26<=sizeLine;decide
 have pick:∀r:Int,∃k:Nat,k<26/\G0 JH.cps.toList (r%26)=some (97+k):=λr=>by
  have F:=dO r (show(26:Int)≠0 by decide);have G:=dC r (show(0:Int)<26 by decide);exact⟨(r%26).toNat,by omega,Ct F G⟩
 have a:∀k:Nat,(⟨#[97+k]⟩:Str).length=1:=λ_=>rfl
 refine⟨_,rfl,c,2,rfl,rfl,by show(0:Int)<2;decide,rfl,_,rfl,?_⟩;refine EA (λt=>?_) (λt=>?_)
 ·have v:c%2=0:=Kl t;refine⟨_,rfl,_,_,rfl,rfl,by show(0:Int)<2147483647;decide,_,_,rfl,rfl,J6 (by decide),_,_,rfl,rfl,_,_,rfl,rfl,by show(0:Int)<2147483647;decide,?_⟩;refine⟨_,rfl,(n:Int),rfl,by omega,by omega,?_⟩;refine rZ (n:=n) (λi o g=>g=H/\∃(z:Str) (r:Int) (k:Option V),o=[some (.int c),some (.int n),some (.str z),some (.int r),k]/\z.length=i/\Ltr z/\0<=r/\r<2147483647) ⟨rfl,"",_,_,rfl,rfl,nil,L,N⟩ (λi o g J j=>?_) (λo g j=>?_)
  ·obtain⟨rfl,z,r,k,rfl,b,d,U,X⟩:=j;refine⟨_,rfl,c,2,rfl,rfl,by show(0:Int)<2;decide,rfl,_,rfl,IY t ?_⟩;refine⟨_,rfl,_,rfl,_,_,rfl,rfl,JG (by omega),_,rfl,_,_,rfl,rfl,JG (by decide),_,_,rfl,rfl,_,rfl,_,_,rfl,rfl,_,_,rfl,rfl,_,_,rfl,rfl,by show(0:Int)<2147483647;decide,?_⟩;dsimp -proj only;have C:=dO (r*r+48271*r+(0+(i:Int))+1) (show(2147483647:Int)≠0 by decide);have D:=dC (r*r+48271*r+(0+(i:Int))+1) (show(0:Int)<2147483647 by decide);generalize(r*r+48271*r+(0+(i:Int))+1)%2147483647=y at C D;obtain⟨m,B,p⟩:=pick y;refine⟨_,rfl,_,rfl,y,26,rfl,rfl,by show(0:Int)<26;decide,JH,_,_,rfl,rfl,u,p,z,_,rfl,rfl,by rw[a,b];exact dB (D8 (by omega)),?_⟩;refine⟨_,rfl,c,2,rfl,rfl,by show(0:Int)<2;decide,rfl,_,rfl,G9 (λS=>by have:=Kl S;omega) ?_⟩;exact⟨rfl,_,y,_,rfl,by rw[tz,a,b],d.app (Ltr.one B),C,D⟩
  ·obtain⟨rfl,z,r,k,rfl,b,d,_⟩:=j;exact⟨_,rfl,q z b d⟩
 ·refine⟨_,rfl,(n:Int),rfl,by omega,by omega,?_⟩;have v:c%2=1:=by
   have F:=dO c (show(2:Int)≠0 by decide);have G:=dC c (show(0:Int)<2 by decide);have:¬c%2=0:=λe=>t (by show V.int (c%2)=V.int 0;rw[e])
   omega
  refine rZ (n:=n) (λi o g=>g=H/\∃(z:Str) (r:Int) (k:Option V),o=[some (.int c),some (.int n),some (.str z),some (.int r),k]/\z.length=i/\Ltr z) ⟨rfl,"",_,_,rfl,rfl,nil⟩ (λi o g J j=>?_) (λo g j=>?_)
  ·obtain⟨rfl,z,r,k,rfl,b,d⟩:=j;refine⟨_,rfl,c,2,rfl,rfl,by show(0:Int)<2;decide,rfl,_,rfl,G9 t ?_⟩;obtain⟨m,B,p⟩:=pick r;refine⟨_,rfl,_,rfl,r,26,rfl,rfl,by show(0:Int)<26;decide,JH,_,_,rfl,rfl,u,p,z,_,rfl,rfl,by rw[a,b];exact dB (D8 (by omega)),?_⟩;refine⟨_,rfl,c,2,rfl,rfl,by show(0:Int)<2;decide,rfl,_,rfl,IY (by show V.int (c%2)=V.int 1;rw[v]) ?_⟩;refine⟨_,rfl,r,26,rfl,rfl,c9 (by decide) (by decide),?_⟩;exact⟨rfl,_,_,_,rfl,by rw[tz,a,b],d.app (Ltr.one B)⟩
  ·obtain⟨rfl,z,r,k,rfl,b,d⟩:=j;exact⟨_,rfl,q z b d⟩
theorem F5:Ea ["_law_base_here","_law_place","_law_size","_law_k","_law_letters","_law_other"] ["_law_base_here","_law_place","_law_size","_law_k"] (D7 (Eb 58)):=⟨rfl,rfl,rfl,by decide +kernel,rfl,by decide +kernel,by decide +kernel⟩
theorem HW(M:Md K mg x cB):Dn P w K mg base Eh 1 "_law_word" ["_law_base_here","_law_place","_law_size","_law_k"] (HX):=by
 have r:=(F5).nd;refine M.f__law_word.ok F5 (λvs H Q E h=>?_) (λ_ _ _ _ _ _ u g=>match u,g with|[_,_,_,_],_=>rfl) (λf B A t s H vs Q E G h=>?_)
 ·obtain⟨b,p,a,k,rfl,o,g,hp,z,hk,q⟩:=h;rfl
 obtain⟨b,p,a,k,rfl,o,g,hp,z,hk,q⟩:=h;refine⟨_,(rn (rF (i:=4) r rfl (Or.inl rfl) sB)
   (rn (rF (i:=5) r rfl (Or.inl rfl) (rM yv (pv 4) (rN rY (rN sC (uJ gD PySem.F.slot_str_find PySem.F.type_str_find CU (pv 4) (mM (rM yv (pv 0) (pv 1) (λ_ _=>rfl)) rq)) (rN sx rD (pv 3))) rD) (λ_ _=>rfl)))
   (rC (rL (rN ue (rN ue (u6 AE (pv 0) zT (uK (pv 1))) (pv 5)) (u6 AE (pv 0) (uK (rN sC (pv 1) rD)) (uK (pv 2)))))))),?_⟩
 have j:JH.length<=sizeLine:=by show 26<=sizeLine;decide
 have c:b.length<=sizeLine:=dB (D8 (by omega));have C:b.cps.toList.length=12:=by rw[<-tX];exact o
 have d:p<b.cps.toList.length:=by omega
 have D:=g _ (cW d);have m:G0 b.cps.toList (p:Int)=some b.cps.toList[p]:=si (cz d);have l:=Ci (show b.cps.toList[p]-97<26 by omega);rw[show 97+(b.cps.toList[p]-97)=b.cps.toList[p]by omega]at l;have v:=dO (((b.cps.toList[p]-97:Nat):Int)+3*(k:Int)) (show(26:Int)≠0 by decide);have y:=dC (((b.cps.toList[p]-97:Nat):Int)+3*(k:Int)) (show(0:Int)<26 by decide);refine⟨_,rfl,_,rfl,rfl,_,rfl,_,rfl,b,_,_,rfl,rfl,c,m,JH,_,rfl,rfl,_,rfl,_,_,rfl,rfl,JG (by decide),_,_,rfl,rfl,_,_,rfl,rfl,by show(0:Int)<26;decide,JH,_,_,rfl,rfl,j,by rw[l];exact Ct v y,?_⟩;refine⟨_,rfl,_,rfl,_,rfl,b,rfl,c,?_⟩;rw[yU (show p<=b.cps.toList.length by omega)];refine⟨_,rfl,_,_,rfl,rfl,by rw[uB,cV];exact dB (D8 (by show _+1<=1000;omega)),?_⟩;refine⟨_,rfl,_,rfl,_,_,rfl,rfl,_,rfl,_,rfl,_,rfl,b,rfl,c,?_⟩;rw[show((p:Int)+1)=((p+1:Nat):Int)by push_cast;rfl,AZ (show p+1<=a by omega) (show a<=b.cps.toList.length by omega)];refine⟨_,_,rfl,rfl,by rw[tz,uB,uB,uB,cV,cV,iX];exact dB (D8 (by show _+1+_<=1000;omega)),?_⟩;have e:(((⟨(b.cps.toList.take p).toArray⟩:Str)++⟨#[97+((((b.cps.toList[p]-97:Nat):Int)+3*(k:Int))%26).toNat]⟩)++⟨((b.cps.toList.drop (p+1)).take (a-(p+1))).toArray⟩:Str)=⟨(EQ b.cps.toList p a k).toArray⟩:=by
  refine wC ?_;rw[sK,sK];unfold EQ;rw[HM.getD_lt d,show((((b.cps.toList[p]-97:Nat):Int)+3*(k:Int))%26).toNat=(b.cps.toList[p]-97+3*k)%26 by omega];simp
 have n:=q;rw[<-e]at n;exact n
theorem FC:Ea ["_law_script","_law_at","_law_many","_law_cell","_law_size","_law_base_here","_law_words_here","_law_k","_law_word_here"] ["_law_script","_law_at","_law_many"] (D7 (Eb 59)):=⟨rfl,rfl,rfl,by decide +kernel,rfl,by decide +kernel,by decide +kernel⟩
theorem HK(M:Md K mg x cB)
  (G_law_cell_at:Dn P w K mg base Eh 1 "_law_cell_at" ["_law_script","_law_k"] (IR K))
  (G_law_base:Dn P w K mg base Eh 1 "_law_base" ["_law_cell","_law_size"] (Jy))
  (G_law_word:Dn P w K mg base Eh 1 "_law_word" ["_law_base_here","_law_place","_law_size","_law_k"] (HX)):Dn P w K mg base Eh 2 "_law_words" ["_law_script","_law_at","_law_many"] (Hi K):=by
 have j:=(FC).nd
 refine M.f__law_words.ok FC (λvs H Q E h=>?_) (λ_ _ _ _ _ _ S B=>match S,B with|[_,_,_],_=>rfl) (λf T A R s H vs Q E v h=>?_)
 ·obtain⟨a,z,r,n,rfl,I,h1,h6,q⟩:=h
  rfl
 obtain⟨a,z,r,n,rfl,I,h1,h6,q⟩:=h
 refine⟨_,(rn (rF (i:=3) j rfl (Or.inl rfl) (rR G_law_cell_at v (by decide) rfl Ec (mM (pv 0) (mM (pv 1) rq))))
   (rn (rF (i:=4) j rfl (Or.inl rfl) (rN sC rD (rN rY (pv 3) rD)))
   (rn (rF (i:=5) j rfl (Or.inl rfl) (rR G_law_base v (by decide) rfl Ec (mM (rR G_law_cell_at v (by decide) rfl Ec (mM (pv 0) (mM (rN sC (pv 1) rD) rq))) (mM rD rq))))
   (rn (rF (i:=6) j rfl (Or.inl rfl) (t5 rq))
   (rn (sP dA rfl (rW rfl M.b_range (mM (pv 2) rq)) (rJ (i:=7) j rfl (Or.inl rfl)) (rn (rF (i:=8) j rfl (Or.inl rfl) (rR G_law_word v (by decide) rfl Ec (mM (pv 5) (mM (rN rY (rN tE (pv 3) rD) (pv 4)) (mM (pv 4) (mM (pv 7) rq))))))
   (rn (su (rQ tO (rN rY (rN tE (pv 3) rD) rD) rD (Ee _)) (rC (rF (i:=8) j rfl (Or.inl rfl) (u6 AE (pv 5) zT (uK (rN sC (pv 7) rD))))) rS)
   (rC (sR (uJ dI fR fS tK (pv 6) (mM (pv 8) rq)))))))
   (rC (rL (pv 6)))))))),?_⟩
 refine⟨_,rfl,_,rfl,a,z,_,rfl,I,by omega,?_⟩
 generalize LM.cellAt z (r:Int)=c
 have Y:=dO c (show(12:Int)≠0 by decide)
 have Z:=dC c (show(0:Int)<12 by decide)
 obtain⟨d,O⟩:∃d:Nat,1+c%12=(d:Int):=⟨(1+c%12).toNat,by omega⟩
 have X:=dO (c/48) (show(d:Int)≠0 by omega)
 have p1:=dC (c/48) (show(0:Int)<d by omega)
 obtain⟨p,hp⟩:∃p:Nat,c/48%(d:Int)=(p:Int):=⟨(c/48%(d:Int)).toNat,by omega⟩
 refine⟨_,rfl,c,12,rfl,rfl,by show(0:Int)<12;decide,_,_,rfl,rfl,?_⟩
 dsimp only
 rw[O]
 refine⟨_,rfl,_,rfl,_,_,rfl,rfl,a,z,_,rfl,I,by omega,_,12,rfl,by decide,λb G B=>?_⟩
 have t:(0:Nat)<=sizeLine:=by decide
 have N:b.length<=sizeLine:=dB (D8 (by omega))
 have U:b.cps.toList.length=12:=by rw[<-tX];exact G
 refine⟨t,λl m=>?_⟩
 refine⟨_,rfl,(n:Int),rfl,by omega,by omega,?_⟩
 refine rZ (n:=n) (λi J o=>Same H o/\o l=some (.lst (((db i).map λk=>if c/12%4=1 then(⟨(b.cps.toList.take (k+1)).toArray⟩:Str)else⟨(EQ b.cps.toList p d k).toArray⟩).map V.str))/\∃k w,J=[some (.ref a),some (.int r),some (.int n),some (.int c),some (.int d),some (.str b),some (.ref l),k,w]) ⟨rr m _,rz,_,_,rfl⟩ (λi J o W C=>?_) (λJ o C=>?_)
 ·obtain⟨y,g,k,w,rfl⟩:=C
  have u:(((db i).map λk=>if c/12%4=1 then(⟨(b.cps.toList.take (k+1)).toArray⟩:Str)else⟨(EQ b.cps.toList p d k).toArray⟩).map V.str).length<sizeLine:=D8 (by rw[cx,cx,e9];omega)
  refine⟨_,rfl,_,rfl,c,48,rfl,rfl,c9 (by decide) (by decide),_,rfl,_,_,rfl,rfl,by show(0:Int)<d;omega,_,rfl,_,rfl,b,p,d,i,by show[V.str b,V.int (c/48%(d:Int)),V.int d,V.int (0+(i:Int))]=_;rw[hp,d3],G,B,by omega,by omega,by omega,?_⟩
  refine⟨_,rfl,c,12,rfl,rfl,c9 (by decide) (by decide),_,_,rfl,rfl,by show(0:Int)<4;decide,rfl,_,rfl,?_⟩
  refine EA (λD=>?_) (λD=>?_)
  ·have L:c/12%4=1:=Kl D
   refine⟨_,rfl,_,rfl,_,_,rfl,rfl,_,rfl,b,rfl,N,?_⟩
   rw[show((0:Int)+(i:Int)+1)=((i+1:Nat):Int)by omega,yU (show i+1<=b.cps.toList.length by omega)]
   refine⟨_,rfl,.inl ⟨rfl,_,SqL.of g⟩,_,rfl,l,_,_,rfl,rfl,g,u,?_⟩
   refine⟨y.over m _,?_,_,_,rfl⟩
   rw[rz,gc,cS,cS,m4,if_pos L]
   rfl
  ·have L:¬c/12%4=1:=λe=>D (by show V.int (c/12%4)=V.int 1;rw[e])
   refine⟨_,rfl,.inl ⟨rfl,_,SqL.of g⟩,_,rfl,l,_,_,rfl,rfl,g,u,?_⟩
   refine⟨y.over m _,?_,_,_,rfl⟩
   rw[rz,gc,cS,cS,m4,if_neg L]
   rfl
 ·obtain⟨y,g,k,w,rfl⟩:=C
  exact⟨_,rfl,q l _ o y m g (zF G B (by omega) (by omega) h1 h6) (by rw[cx,e9])⟩
theorem Fe:Ea ["_law_one","_law_other","_law_rest"] ["_law_one","_law_other"] (D7 (Eb 55)):=⟨rfl,rfl,rfl,by decide +kernel,rfl,by decide +kernel,by decide +kernel⟩
theorem GI(M:Md K mg x cB):Dn P w K mg base Eh 1 "_law_divisor" ["_law_one","_law_other"] (Hf):=by
 have g:=(Fe).nd;refine M.f__law_divisor.ok Fe (λvs H Q E h=>?_) (λ_ _ _ _ _ _ B F=>match B,F with|[_,_],_=>rfl) (λf G A t s H vs Q E J h=>?_)
 ·obtain⟨i,j,rfl,o,q⟩:=h;rfl
 obtain⟨i,j,rfl,o,q⟩:=h;refine⟨_,(rn (uD dA (rQ zC (pv 1) rD (Ee _)) (rn (rF (i:=2) g rfl (Or.inl rfl) (rN rY (pv 0) (pv 1)))
   (rn (rF (i:=0) g rfl (Or.inl rfl) (pv 1))
   (rC (rF (i:=1) g rfl (Or.inl rfl) (pv 2))))))
   (rC (rL (rH wu rfl M.b_abs Boot.«abs» (mM (pv 0) rq))))),?_⟩
 refine yq (λm l n=>n=H/\∃(a b:Int) (r:Option V),l=[some (.int a),some (.int b),r]/\0<=b/\Int.gcd a b=Int.gcd i j/\m=b.toNat)
  ⟨_,rfl,_,_,_,rfl,o,rfl,rfl⟩ (λm l n u=>?_) (λl n I N C h=>?_)
 ·obtain⟨rfl,a,b,r,rfl,L,p,rfl⟩:=u;refine⟨_,rfl,rfl,_,rfl,?_⟩;refine GJ (λc=>?_) (λc=>?_)
  ·have d:b≠0:=λz=>c (by rw[z])
   refine⟨_,rfl,_,rfl,a,b,rfl,rfl,by show(0:Int)<b;omega,_,rfl,_,rfl,?_⟩;refine⟨(a%b).toNat,?_,rfl,b,a%b,_,rfl,dO _ d,?_,rfl⟩
   ·have:=dC a (show 0<b by omega);have:=dO a d;omega
   ·rw[FQ.gcd_turn,p]
  ·have d:b=0:=Kl c;subst d;refine⟨_,rfl,a,rfl,?_⟩;have e:(if a<0 then -a else a)=(Int.gcd i j:Int):=by rw[<-p];simp;split <;> omega
   rw[e];exact q
 ·obtain⟨v,e,D,k,y,q⟩:=h;exact⟨v,e,D,k,y,C _ _ q⟩
theorem Fw:Ea ["_law_top","_law_bottom","_law_share"] ["_law_top","_law_bottom"] (D7 (Eb 56)):=⟨rfl,rfl,rfl,by decide +kernel,rfl,by decide +kernel,by decide +kernel⟩
theorem G3(M:Md K mg x cB)
  (G_law_divisor:Dn P w K mg base Eh 1 "_law_divisor" ["_law_one","_law_other"] (Hf)):Dn P w K mg base Eh 2 "_law_lowest" ["_law_top","_law_bottom"] (Ik):=by
 have d:=(Fw).nd
 refine M.f__law_lowest.ok Fw (λvs H Q E h=>?_) (λ_ _ _ _ _ _ k l=>match k,l with|[_,_],_=>rfl) (λf m A g s H vs Q E j h=>?_)
 ·obtain⟨t,b,rfl,c,e,q⟩:=h
  rfl
 obtain⟨t,b,rfl,c,e,q⟩:=h
 refine⟨_,(rn (su (rQ z7 (pv 1) rD (Ee _)) AK rS)
   (rn (su (rQ tO (pv 1) rD (Ee _)) (rC (rF (i:=1) d rfl (Or.inl rfl) rD)) rS)
   (rn (rF (i:=2) d rfl (Or.inl rfl) (rR G_law_divisor j (by decide) rfl Ec (mM (pv 0) (mM (pv 1) rq))))
   (rC (rL (sE (mM (rN tE (pv 0) (pv 2)) (mM (rN tE (pv 1) (pv 2)) rq)))))))),?_⟩
 refine⟨_,rfl,_,_,rfl,rfl,_,rfl,G9 (by omega) ?_⟩
 refine⟨_,rfl,rfl,_,rfl,G9 (Mx (by omega)) ?_⟩
 refine⟨_,rfl,_,rfl,t,b,rfl,fj c,?_⟩
 have a:=(uT (t:=t) (b:=b) (by omega) e).2 (by omega)
 have n:0<Int.gcd t b:=fz _ (by omega)
 refine⟨_,rfl,_,rfl,t,_,rfl,rfl,⟨by omega,a.1.2⟩,_,rfl,_,rfl,b,_,rfl,rfl,⟨by omega,a.1.2⟩,by show 2<=sizeLine;decide,λp hp=>q p _ (rr hp _) ?_⟩
 rw[rz]
 show some (HO.tup [V.int (t/_),V.int (b/_)])=_
 rw[<-iL t (by omega),<-iL b (by omega),a.2.1,a.2.2]
 rfl
theorem F2:Ea ["_law_found","_law_due","_law_k"] ["_law_found","_law_due"] (D7 (Eb 60)):=⟨rfl,rfl,rfl,by decide +kernel,rfl,by decide +kernel,by decide +kernel⟩
theorem EV{n:Nat}(M:Md K mg x cB)
  (G_law_same:Dn P w K mg base Eh n "_law_same" ["_law_found","_law_due"] (JB (HL K) n)):Dn P w K mg base Eh (n+1) "_law_same" ["_law_found","_law_due"] (HL K n):=by
 have S:=(F2).nd
 refine M.f__law_same.ok F2 (λvs H Q E h=>?_) (λ_ _ _ _ _ _ R T=>match R,T with|[_,_],_=>rfl) (λf U A N s H vs Q E z h=>?_)
 ·obtain⟨v,u,d,rfl,L,j,c,q⟩:=h
  rfl
 obtain⟨v,u,d,rfl,L,j,c,q⟩:=h
 refine⟨_,(rn (su (PW.pt (xI (sM (rH sq rfl M.b_isinstance Boot.«isinstance» (mM (pv 1) (mM (tR rfl M.b_tuple Boot.«tuple») rq)))) (wh (sM (rH sq rfl M.b_isinstance Boot.«isinstance» (mM (pv 1) (mM (tR rfl M.b_list Boot.«list») rq))))))) (rn (su (PW.pt (xI (rQ zC (rH sq rfl M.b_isinstance Boot.«isinstance» (mM (pv 0) (mM (tR rfl M.b_tuple Boot.«tuple») rq))) (rH sq rfl M.b_isinstance Boot.«isinstance» (mM (pv 1) (mM (tR rfl M.b_tuple Boot.«tuple») rq))) (Ee _)) (wh (rQ zC (rH sq rfl M.b_isinstance Boot.«isinstance» (mM (pv 0) (mM (tR rfl M.b_list Boot.«list») rq))) (rH sq rfl M.b_isinstance Boot.«isinstance» (mM (pv 1) (mM (tR rfl M.b_list Boot.«list») rq))) (Ee _))))) (rC (rL uf)) rS)
   (rn (su (rQ zC (rH rO rfl M.b_len dD (mM (pv 0) rq)) (rH rO rfl M.b_len dD (mM (pv 1) rq)) (Ee _)) (rC (rL uf)) rS)
   (rn (sP dA rfl (rW rfl M.b_range (mM (rH rO rfl M.b_len dD (mM (pv 1) rq)) rq)) (rJ (i:=2) S rfl (Or.inl rfl)) (rC (su (tD (sM (rR G_law_same z (cI _) rfl Ec (mM (rM Cw (pv 0) (pv 2) (λ_ _=>rfl)) (mM (rM Cw (pv 1) (pv 2) (λ_ _=>rfl)) rq))))) (rC (rL uf)) rS)))
   (rC (rL uf))))) rS)
   (rn (su (sM (rH sq rfl M.b_isinstance Boot.«isinstance» (mM (pv 1) (mM (tR rfl M.b_bool Boot.«bool») rq)))) (rC (rL (uF (rH sq rfl M.b_isinstance Boot.«isinstance» (mM (pv 0) (mM (tR rfl M.b_bool Boot.«bool») rq))) (vJ (tF (y2 z) (pv 0) (pv 1) (Ee _)))))) rS)
   (rn (su (sM (rH sq rfl M.b_isinstance Boot.«isinstance» (mM (pv 1) (mM (tR rfl M.b_int Boot.«int») rq)))) (rC (rL (uF (rH sq rfl M.b_isinstance Boot.«isinstance» (mM (pv 0) (mM (tR rfl M.b_int Boot.«int») rq))) (uF (Cr (rH sq rfl M.b_isinstance Boot.«isinstance» (mM (pv 0) (mM (tR rfl M.b_bool Boot.«bool») rq)))) (vJ (tF (y2 z) (pv 0) (pv 1) (Ee _))))))) rS)
   (rn (su (sM (rH sq rfl M.b_isinstance Boot.«isinstance» (mM (pv 1) (mM (tR rfl M.b_str Boot.«str») rq)))) (rC (rL (uF (rH sq rfl M.b_isinstance Boot.«isinstance» (mM (pv 0) (mM (tR rfl M.b_str Boot.«str») rq))) (vJ (tF (y2 z) (pv 0) (pv 1) (Ee _)))))) rS)
   (rC (rL (uF (tF AT (pv 1) vZ (Ee _)) (vJ (tF AT (pv 0) vZ (Ee _)))))))))),?_⟩
 cases L with
 | non=>
  cases j
  refine⟨_,rfl,_,_,"NoneType",rfl,by decide,rfl,_,rfl,Eo ⟨_,rfl,_,_,"NoneType",rfl,by decide,rfl,_,rfl,Eo ?_⟩⟩
  refine⟨_,rfl,_,_,"NoneType",rfl,by decide,rfl,_,rfl,Eo ?_⟩
  refine⟨_,rfl,_,_,"NoneType",rfl,by decide,rfl,_,rfl,Eo ?_⟩
  refine⟨_,rfl,_,_,"NoneType",rfl,by decide,rfl,_,rfl,Eo ?_⟩
  exact⟨_,rfl,rfl,_,rfl,EN ⟨_,rfl,rfl,q⟩⟩
 | bl b=>
  cases j
  refine⟨_,rfl,_,_,"bool",rfl,by decide,rfl,_,rfl,Eo ⟨_,rfl,_,_,"bool",rfl,by decide,rfl,_,rfl,Eo ?_⟩⟩
  refine⟨_,rfl,_,_,"bool",rfl,by decide,rfl,_,rfl,EN ?_⟩
  refine⟨_,rfl,_,_,"bool",rfl,by decide,rfl,_,rfl,EN ?_⟩
  refine⟨_,rfl,_,rfl,_,_,.bl b,.bl b,rfl,rfl,?_⟩
  rw[show gw (.bool b) (.bool b)=true by simp[gw]]
  exact q
 | int i=>
  cases j
  refine⟨_,rfl,_,_,"int",rfl,by decide,rfl,_,rfl,Eo ⟨_,rfl,_,_,"int",rfl,by decide,rfl,_,rfl,Eo ?_⟩⟩
  refine⟨_,rfl,_,_,"int",rfl,by decide,rfl,_,rfl,Eo ?_⟩
  refine⟨_,rfl,_,_,"int",rfl,by decide,rfl,_,rfl,EN ?_⟩
  refine⟨_,rfl,_,_,"int",rfl,by decide,rfl,_,rfl,EN ⟨_,rfl,_,_,"int",rfl,by decide,rfl,_,rfl,_,rfl,EN ?_⟩⟩
  refine⟨_,rfl,_,rfl,_,_,.int i,.int i,rfl,rfl,?_⟩
  rw[show gw (.int i) (.int i)=true by simp[gw]]
  exact q
 | str x=>
  cases j
  have B:f8 (.str x)=true:=by cases n <;> simpa [F8]using c
  refine⟨_,rfl,_,_,"str",rfl,by decide,rfl,_,rfl,Eo ⟨_,rfl,_,_,"str",rfl,by decide,rfl,_,rfl,Eo ?_⟩⟩
  refine⟨_,rfl,_,_,"str",rfl,by decide,rfl,_,rfl,Eo ?_⟩
  refine⟨_,rfl,_,_,"str",rfl,by decide,rfl,_,rfl,Eo ?_⟩
  refine⟨_,rfl,_,_,"str",rfl,by decide,rfl,_,rfl,EN ?_⟩
  refine⟨_,rfl,_,_,"str",rfl,by decide,rfl,_,rfl,EN ?_⟩
  refine⟨_,rfl,_,rfl,_,_,.str x,.str x,B,B,?_⟩
  rw[show gw (.str x) (.str x)=true by simp[gw]]
  exact q
 | @lst a xs ds hv hvs hl1=>
  cases j with
  | @lst b ys _ hu hus hl2=>
  cases n with
  | zero=>cases c
  | succ n=>

  have o:=Reps.length hvs
  have p:=Reps.length hus
  refine⟨_,rfl,_,_,"list",rfl,by decide,.inl ⟨rfl,_,hu⟩,_,rfl,Eo ⟨_,rfl,_,_,"list",rfl,by decide,.inl ⟨rfl,_,hu⟩,_,rfl,EN ?_⟩⟩
  refine⟨_,rfl,_,_,"list",rfl,by decide,.inl ⟨rfl,_,hv⟩,_,rfl,_,_,"list",rfl,by decide,.inl ⟨rfl,_,hu⟩,rfl,_,rfl,GS rfl ?_⟩
  refine⟨_,rfl,_,_,"list",rfl,by decide,.inl ⟨rfl,_,hv⟩,_,rfl,_,_,"list",rfl,by decide,.inl ⟨rfl,_,hu⟩,rfl,_,rfl,GS rfl ?_⟩
  refine⟨_,rfl,_,_,rfl,.inl hv,_,rfl,_,_,rfl,.inl hu,rfl,_,rfl,GS (by rw[o,p]) ?_⟩
  refine⟨_,rfl,_,_,rfl,.inl hu,_,rfl,by omega,by omega,?_⟩
  refine rZ (λi l m=>m=H/\∃r,l=[some _,some _,r]) ⟨rfl,_,rfl⟩ (λi l m O k=>?_) (λl m k=>?_)
  ·obtain⟨rfl,r,rfl⟩:=k
   have e:i<ds.length:=by omega
   have t:ds[i]?=some ds[i]:=by simp[e]
   obtain⟨x,J,C⟩:=Reps.get hvs t
   obtain⟨y,G,D⟩:=Reps.get hus t
   have g:F8 n ds[i]=true:=dZ.mp c _ (cW e)
   have I:G0 xs (0+(i:Int))=some x:=by rw[d3];exact si J
   have F:G0 ys (0+(i:Int))=some y:=by rw[d3];exact si G
   exact⟨_,rfl,_,rfl,.inl ⟨_,xs,_,x,rfl,rfl,hv,I,_,rfl,_,rfl,.inl ⟨_,ys,_,y,rfl,rfl,hu,F,x,y,ds[i],rfl,C,D,g,_,rfl,Eo ⟨rfl,_,rfl⟩⟩⟩⟩
  ·obtain⟨rfl,r,rfl⟩:=k
   exact q
 | @tup a xs ds hv hvs hl1=>
  cases j with
  | @tup b ys _ hu hus hl2=>
  cases n with
  | zero=>cases c
  | succ n=>

  have o:=Reps.length hvs
  have p:=Reps.length hus
  refine⟨_,rfl,_,_,"tuple",rfl,by decide,.inr ⟨rfl,_,hu⟩,_,rfl,EN ?_⟩
  refine⟨_,rfl,_,_,"tuple",rfl,by decide,.inr ⟨rfl,_,hv⟩,_,rfl,_,_,"tuple",rfl,by decide,.inr ⟨rfl,_,hu⟩,rfl,_,rfl,GS rfl ?_⟩
  refine⟨_,rfl,_,_,"tuple",rfl,by decide,.inr ⟨rfl,_,hv⟩,_,rfl,_,_,"tuple",rfl,by decide,.inr ⟨rfl,_,hu⟩,rfl,_,rfl,GS rfl ?_⟩
  refine⟨_,rfl,_,_,rfl,.inr hv,_,rfl,_,_,rfl,.inr hu,rfl,_,rfl,GS (by rw[o,p]) ?_⟩
  refine⟨_,rfl,_,_,rfl,.inr hu,_,rfl,by omega,by omega,?_⟩
  refine rZ (λi l m=>m=H/\∃r,l=[some _,some _,r]) ⟨rfl,_,rfl⟩ (λi l m O k=>?_) (λl m k=>?_)
  ·obtain⟨rfl,r,rfl⟩:=k
   have e:i<ds.length:=by omega
   have t:ds[i]?=some ds[i]:=by simp[e]
   obtain⟨x,J,C⟩:=Reps.get hvs t
   obtain⟨y,G,D⟩:=Reps.get hus t
   have g:F8 n ds[i]=true:=dZ.mp c _ (cW e)
   have I:G0 xs (0+(i:Int))=some x:=by rw[d3];exact si J
   have F:G0 ys (0+(i:Int))=some y:=by rw[d3];exact si G
   exact⟨_,rfl,_,rfl,.inr (.inl ⟨_,xs,_,x,rfl,rfl,hv,I,_,rfl,_,rfl,.inr (.inl ⟨_,ys,_,y,rfl,rfl,hu,F,x,y,ds[i],rfl,C,D,g,_,rfl,Eo ⟨rfl,_,rfl⟩⟩)⟩)⟩
  ·obtain⟨rfl,r,rfl⟩:=k
   exact q
theorem E7:Ea ["_law_way","_law_wishes"] ["_law_way","_law_wishes"] (D7 (Eb 61)):=⟨rfl,rfl,rfl,by decide +kernel,rfl,by decide +kernel,by decide +kernel⟩
theorem Gr(M:Md K mg x cB)
  (Geaten:Dn P w K mg base Eh 7 "eaten" ["wishes"] (Hs K))
  (Gby_turns:Dn P w K mg base Eh 4 "by_turns" ["wishes"] (Gb K)):Dn P w K mg base Eh 8 "_law_table_by" ["_law_way","_law_wishes"] (Ho K):=by
 have I:=(E7).nd
 refine M.f__law_table_by.ok E7 (λvs H Q E h=>?_) (λ_ _ _ _ _ _ a j=>match a,j with|[_,_],_=>rfl) (λf G A D s H vs Q E C h=>?_)
 ·obtain⟨w,a,W,n,g,rfl,e,u,y,d,q⟩:=h
  rfl
 obtain⟨w,a,W,n,g,rfl,e,u,y,d,q⟩:=h
 refine⟨_,(rn (su (rQ tO (pv 0) sB (Ee _)) (rC (rL (rR Geaten C (by decide) rfl Ec (mM (sd sN rfl M.b_list Boot.«list» (mM (pv 1) rq)) rq)))) rS)
   (rC (rL (rR Gby_turns C (by decide) rfl Ec (mM (sd sN rfl M.b_list Boot.«list» (mM (pv 1) rq)) rq))))),?_⟩
 refine⟨_,rfl,rfl,_,rfl,?_⟩
 refine EA (λc=>?_) (λc=>?_)
 ·have t:g="eaten":=by injection c
  refine⟨_,rfl,w,_,rfl,.inl u,λl j=>?_⟩
  have b:=rr j (.lst a)
  refine⟨l,a,W,n,rfl,SqL.of rz,Paired.mapP y (λ_ _ h=>h.mono b),⟨d.lo,d.hi,d.len,d.pm⟩,λr v N B p k m F o=>?_⟩
  exact q _ _ r v B (.inl ⟨t,N,F,rfl,rfl⟩) (b.trans p) (b.free k) m o
 ·have t:g="turns":=by
   rcases e with z|z
   ·exact absurd (by rw[z]) c
   ·exact z
  refine⟨_,rfl,w,_,rfl,.inl u,λl j=>?_⟩
  have b:=rr j (.lst a)
  refine⟨l,a,W,n,rfl,SqL.of rz,Paired.mapP y (λ_ _ h=>h.mono b),d,λr v B p k m o=>?_⟩
  rw[AR]at o
  exact q _ _ r v B (.inr ⟨t,rfl,rfl⟩) (b.trans p) (b.free k) m (tL o)
theorem EI:Ea ["_law_book","_law_people","_law_things","_law_wishes","_law_place","_law_way","_law_row","_law_due","_law_k","_law_found"] ["_law_book","_law_people","_law_things","_law_wishes","_law_place","_law_way"] (D7 (Eb 62)):=⟨rfl,rfl,rfl,by decide +kernel,rfl,by decide +kernel,by decide +kernel⟩
theorem FN(M:Md K mg x cB)
  (G_law_table_by:Dn P w K mg base Eh 8 "_law_table_by" ["_law_way","_law_wishes"] (Ho K))
  (GBook_shares:Mn P w K mg base (FJ P w) 9 cB "shares" ["self","person","way"] (GE K cB x))
  (G_law_same:Dn P w K mg base Eh 4 "_law_same" ["_law_found","_law_due"] (HL K 3)):Dn P w K mg base Eh 10 "_law_shares_well" ["_law_book","_law_people","_law_things","_law_wishes","_law_place","_law_way"] (FO K cB):=by
 have nd:=(EI).nd
 refine M.f__law_shares_well.ok EI (λvs H Q E h=>?_) (λ_ _ _ _ _ _ us hl=>match us,hl with|[_,_,_,_,_,_],_=>rfl) (λf aZ A aQ s H vs Q E hr h=>?_)
 ·obtain⟨s0,d,w,pl,tl,Y,g,m,a,O,rfl,au,rp,rt,ar,ak,ap,J,C,q⟩:=h
  rfl
 obtain⟨s0,d,w,pl,tl,Y,g,m,a,O,rfl,au,rp,rt,ar,ak,ap,J,C,q⟩:=h
 refine⟨_,(rn (rF (i:=6) nd rfl (Or.inr rfl) (rM rK (rR G_law_table_by hr (by decide) rfl Ec (mM (pv 5) (mM (pv 3) rq))) (pv 4) (λ_ _=>rfl)))
   (rn (sA (i:=7) nd rfl rfl rfl rfl (N:=["_law_thing","_law_things","_law_row"]) (caps:=[none,some 2,some 6]) (CompOk.of (by kernel_rfl)) (rV rfl) (uz (rM rK (pv 3) (pv 4) (λ_ _=>rfl))) (λ_ _ _ _=>(rJ (i:=0) (show(["_law_thing","_law_things","_law_row"]:List Str).Nodup by decide +kernel) rfl (Or.inl rfl) (Or.inr rfl))) (λ_ _ _ _=>(tS (rQ D4 (rM (tT (K:=K) rfl) (rM (tT (K:=K) rfl) (pv 2) (pv 0) (λ_ _=>rfl)) rD (λ_ _=>rfl)) rD (Ee _)))) (λ_ _ _ _=>(sE (mM (rM (sQ (K:=K) rfl) (pv 1) (pv 0) (λ_ _=>rfl)) (mM (rM (tT (K:=K) rfl) (pv 2) (pv 0) (λ_ _=>rfl)) rq)))))
   (rn (sP dA rfl (rW rfl M.b_range (mM rD rq)) (rJ (i:=8) nd rfl (Or.inl rfl)) (rn (rF (i:=9) nd rfl (Or.inl rfl) (vI (pl:=_) (pv 0) M.cl GBook_shares hr (by decide) FG (mM (rM rK (pv 1) (pv 4) (λ_ _=>rfl)) (mM (pv 5) rq))))
   (rn (su (tD (sM (rR G_law_same hr (by decide) rfl Ec (mM (pv 9) (mM (pv 7) rq))))) (rC (rL uf)) rS)
   (rC (sR (xL dI jm jn wZ (pv 9)))))))
   (rC (rL uf))))),?_⟩
 have ac:(2:Nat)<=sizeLine:=by decide
 obtain⟨us,W,R,hb,hw,hu,hT,hW,hall,a0⟩:=au.all rp
 have az:=rp.hi
 have aY:=hW.len
 have a1:=Paired.len hu
 refine⟨_,rfl,_,rfl,w,us,W,Y.length,O,rfl,C,SqL.of hw,hu,hW,λZ T q1 aW H1 ao S1 aU aM hZ=>?_⟩
 have U:=ao.tb hW
 have aV:=U.reg.len
 have aw:=U.t0
 obtain⟨uv,aK,ra,gs,rfl,aO,ah⟩:=Paired.get hZ (cz (show a<Z.length by omega))
 obtain⟨wv,aP,wa,rfl,ae⟩:=Paired.get hu (cz (show a<W.length by omega))
 have j:=hW.pm _ (cW (show a<W.length by omega))
 have an:=U.reg.cols _ (cW (show a<Z.length by omega))
 have ab:∀t:Int,0<=EM.at0 (Z.getD a []) t:=λt=>U.reg.nn a t.toNat
 rw[show W[a]=W.getD a []from(HM.getD_lt (show a<W.length by omega)).symm]at ae j
 rw[show Z[a]=Z.getD a []from(HM.getD_lt (show a<Z.length by omega)).symm]at ah an
 obtain⟨b,af⟩:∃b,b=W.getD a []:=⟨_,rfl⟩
 obtain⟨z,ez⟩:∃z,z=Z.getD a []:=⟨_,rfl⟩
 rw[<-af]at ae j
 rw[<-ez]at ah an ab
 have aS:=j.len
 have ag:=S1.tup ae
 refine⟨_,rfl,q1,_,_,_,rfl,rfl,SqL.of aM,si aK,?_⟩
 refine⟨_,rfl,_,rfl,w,_,_,_,rfl,rfl,SqL.of (S1 _ _ hw),si aP,wa,rfl,⟨_,ag⟩,?_⟩
 refine ua (xs:=b.map V.int) (λi p r=>Same H1 r/\dr (IsShr K r T) p (Ew g (b.take i) z)) ⟨Same.refl _,.nil⟩ (λi p r _ v=>v.1.tup ag) (λi y p r D v=>?_) (λp r v l hl=>?_)
 ·obtain⟨u,o⟩:=v
  rw[cH]at D
  cases L:b[i]? with
  | none=>rw[L]at D;cases D
  | some t=>
   rw[L]at D
   have aG:V.int t=y:=Option.some.inj D
   subst aG
   have S:=j.mem.mp (da L)
   have aB:t.toNat<z.length:=by omega
   have aC:(fr T z)[t.toNat]?=some (FQ.red (EM.at0 z t) T):=by
    unfold fr EM.at0
    rw[cH,cC,cz aB]
    rfl
   obtain⟨fv,aq,fg,rfl,al⟩:=Paired.get ah aC
   have aI:=Paired.len o
   have ay:p.length<sizeLine:=by
    rw[aI]
    unfold Ew
    rw[cx]
    have h1:=d6 (λt=>decide (EM.at0 z t≠0)) (b.take i)
    rw[cV]at h1
    exact D8 (by omega)
   have aA:Ew g (b.take (i+1)) z=Ew g (b.take i) z++if EM.at0 z t≠0 then[(g.getD t.toNat ea,EM.at0 z t)]else[]:=by
    unfold Ew
    rw[cY,L,gj,cS]
    by_cases c:EM.at0 z t=0
    ·simp[c]
    ·simp[c]
   have ai:=u.tup aO
   refine⟨_,rfl,_,rfl,ra,gs,t,_,rfl,rfl,ai,sD S.1 aq,fg,_,0,_,rfl,rfl,u.tup al,rfl,_,_,rfl,rfl,_,rfl,?_⟩
   rw[aA]
   refine EA (λc=>?_) (λc=>?_)
   ·have hn:EM.at0 z t≠0:=(AB aw (ab t)).mp c
    have I:t.toNat<g.length:=by omega
    have aE:(g.map V.str)[t.toNat]?=some (.str (g.getD t.toNat ea)):=by rw[cH,cC,cz I];rfl
    refine⟨_,rfl,_,rfl,tl,_,t,_,rfl,rfl,(S1.trans u).seq ap,sD S.1 aE,_,rfl,_,rfl,ra,gs,t,_,rfl,rfl,ai,sD S.1 aq,ac,λtp aH=>?_⟩
    have B:=rr aH (.tup [.str (g.getD t.toNat ea),.ref fg])
    refine⟨ay,u.trans B,?_⟩
    rw[if_pos hn]
    exact Paired.app (Paired.mapP o λ_ _ h=>h.mono B) (.cons ⟨tp,fg,rfl,SqT.of rz,⟨fg,rfl,(u.trans B).tup al⟩⟩ .nil)
   ·have hn:¬EM.at0 z t≠0:=λe0=>c ((AB aw (ab t)).mpr e0)
    refine⟨u,?_⟩
    rw[if_neg hn,fT]
    exact o
 obtain⟨u,o⟩:=v
 rw[cx,dj]at o
 have B:=rr hl (.lst p)
 have am:upd r l (.lst p) l=some (.lst p):=rz
 have G:=Paired.mapP o λ_ _ (h:IsShr K r T _ _)=>h.mono B
 have ad:=S1.trans (u.trans B)
 generalize upd r l (.lst p)=H3 at B am G ad ⊢
 have aT:(Ew g b z).length<=6:=by
  unfold Ew
  rw[cx]
  have h1:=d6 (λt=>decide (EM.at0 z t≠0)) b
  omega
 have aN:∀x∈Ew g b z,GU x.1:=λx hx=>by
  unfold Ew at hx
  obtain⟨t,ht,rfl⟩:=dv.mp hx
  have S:=j.mem.mp (d8.mp ht).1
  have I:t.toNat<g.length:=by omega
  show GU (g.getD t.toNat ea)
  rw[cC,cz I]
  exact(rt.ok _ (cW I)).2
 have aR:=Paired.len G
 have aL:(Y.map V.str)[a]?=some (.str Y[a]):=by rw[cH,cz J];rfl
 refine⟨2,rfl,by decide,by decide,?_⟩
 refine rZ (n:=2) (λi σ H4=>Same H3 H4/\∃k f,σ=[some (.ref s0),some (.ref pl),some (.ref tl),some (.ref w),some (.int a),some (.str O),some (.ref ra),some (.ref l),k,f]) ⟨Same.refl _,_,_,rfl⟩ (λi σ H4 hi hP=>?_) (λσ H4 hP=>?_)
 ·obtain⟨X,k,f,rfl⟩:=hP
  have aa:=ad.trans X
  have av:=hb.mono aa
  obtain⟨dx,pp,pt,op,ot,h1,h2,h3,h4,h5,h6⟩:=av.ex
  refine⟨_,rfl,s0,dx,_,rfl,h1,rfl,_,rfl,_,rfl,pl,_,_,_,rfl,rfl,aa.seq ak,si aL,_,rfl,?_⟩
  refine⟨s0,d,Y,g,R,Y[a],O,rfl,av,dg az (by decide),ar,(λz=>absurd (cW J) z),(λ_ ⟨y,D,e⟩=>absurd e (hall y D)),λ_ _=>⟨W,hT.mono aa,hW,(λn1 n2=>by rcases C with z|z;exact absurd z n1;exact absurd z n2),λZ' T' l' xs H5 ax S5 aJ aj hx=>?_⟩⟩
  obtain⟨rfl,rfl⟩:=ao.uniq ax
  rw[yo rp.nd J,<-af,<-ez]at hx
  have aX:=Paired.len hx
  have aD:=(X.trans S5) _ _ am
  have aF:=Paired.mapP G λ_ _ (h:IsShr K H3 _ _ _)=>h.mono (X.trans S5)
  refine⟨_,rfl,_,rfl,_,_,_,rfl,.lst (SqL.of aj) (Reps.of_shr hx) (by omega),.lst (SqL.of aD) (Reps.of_shr aF) (by omega),C6 aN,_,rfl,Eo ?_⟩
  refine⟨_,rfl,.inl ⟨rfl,_,SqL.of aj⟩,l',_,rfl,rfl,aj,?_⟩
  exact⟨X.trans (S5.over aJ _),_,_,rfl⟩
 ·obtain⟨X,k,f,rfl⟩:=hP
  exact q H4 (ad.trans X)
theorem EW:Ea ["_law_book","_law_people","_law_things","_law_wishes","_law_way","_law_number","_law_deal","_law_due","_law_k","_law_found"] ["_law_book","_law_people","_law_things","_law_wishes","_law_way","_law_number"] (D7 (Eb 63)):=⟨rfl,rfl,rfl,by decide +kernel,rfl,by decide +kernel,by decide +kernel⟩
theorem Ga(M:Md K mg x cB)
  (G_law_table_by:Dn P w K mg base Eh 8 "_law_table_by" ["_law_way","_law_wishes"] (Ho K))
  (Glots_of:Dn P w K mg base Eh 8 "lots_of" ["table"] (GW K))
  (Gpicked:Dn P w K mg base (FJ P w) 4 "picked" ["lots","number"] (GH K x))
  (GBook_deal:Mn P w K mg base (FJ P w) 9 cB "deal" ["self","way","number"] (ID K cB x))
  (G_law_same:Dn P w K mg base Eh 4 "_law_same" ["_law_found","_law_due"] (HL K 3)):Dn P w K mg base Eh 10 "_law_deal_well" ["_law_book","_law_people","_law_things","_law_wishes","_law_way","_law_number"] (Hc K cB):=by
 have nd:=(EW).nd
 refine M.f__law_deal_well.ok EW (λvs H Q E h=>?_) (λ_ _ _ _ _ _ us hl=>match us,hl with|[_,_,_,_,_,_],_=>rfl) (λf a1 A aW s H vs Q E r h=>?_)
 ·obtain⟨s0,d,w,pl,tl,g,b,o,m,L,ag,rfl,az,rp,rt,ax,aa,av,D,hg,aj,ae,al,q⟩:=h
  rfl
 obtain⟨s0,d,w,pl,tl,g,b,o,m,L,ag,rfl,az,rp,rt,ax,aa,av,D,hg,aj,ae,al,q⟩:=h
 refine⟨_,(rn (rF (i:=6) nd rfl (Or.inr rfl) (rR Gpicked r (by decide) rfl FG (mM (rR Glots_of r (by decide) rfl Ec (mM (rR G_law_table_by r (by decide) rfl Ec (mM (pv 4) (mM (pv 3) rq))) rq)) (mM (pv 5) rq))))
   (rn (sA (i:=7) nd rfl rfl rfl rfl (N:=["_law_k","_law_people","_law_things","_law_deal"]) (caps:=[none,some 1,some 2,some 6]) (CompOk.of (by kernel_rfl)) (rV rfl) (rW rfl M.b_range (mM (rH rO rfl M.b_len dD (mM (pv 1) rq)) rq)) (λ_ _ _ _=>(rJ (i:=0) (show(["_law_k","_law_people","_law_things","_law_deal"]:List Str).Nodup by decide +kernel) rfl (Or.inl rfl) (Or.inr rfl))) (λ_ _ _ _=>sh) (λ_ _ _ _=>(sE (mM (rM (sQ (K:=K) rfl) (pv 1) (pv 0) (λ_ _=>rfl)) (mM (rM (sQ (K:=K) rfl) (pv 2) (rM (tT (K:=K) rfl) (pv 3) (pv 0) (λ_ _=>rfl)) (λ_ _=>rfl)) rq)))))
   (rn (sP dA rfl (rW rfl M.b_range (mM rD rq)) (rJ (i:=8) nd rfl (Or.inl rfl)) (rn (rF (i:=9) nd rfl (Or.inl rfl) (vI (pl:=_) (pv 0) M.cl GBook_deal r (by decide) FG (mM (pv 4) (mM (pv 5) rq))))
   (rn (su (tD (sM (rR G_law_same r (by decide) rfl Ec (mM (pv 9) (mM (pv 7) rq))))) (rC (rL uf)) rS)
   (rC (sR (xL dI jm jn wZ (pv 9)))))))
   (rC (rL uf))))),?_⟩
 have ab:(2:Nat)<=sizeLine:=by decide
 obtain⟨us,W,R,hb,hw,hu,hT,hW,hall,a3⟩:=az.all rp
 have ap:=rp.hi
 refine⟨_,rfl,_,rfl,w,us,W,b.length,L,rfl,D,SqL.of hw,hu,hW,λZ T q1 aO H1 ad S1 aZ aP hZ=>?_⟩
 have am:=ad.tb hW
 refine⟨q1,aO,Z,T,b.length,rfl,SqL.of aP,hZ,am,λk pL ls H2 J S2 aY hL aS=>?_⟩
 have ar:=S1.trans S2
 have aT:=Av am (ad.le hW) J
 refine⟨_,rfl,pL,g,ls,_,T,b.length,ag,rfl,SqL.of hL,aS,aT,hg.mono ar,aj,ae,(λr=>absurd r al),λ_ i v H3 B S3 aD=>?_⟩
 obtain⟨va,rfl,ah⟩:=aD
 have aq:i<k:=by
  have:=B.lt
  unfold HM.lotsL at this
  rwa[cx,e9]at this
 have ed:(HM.lotsL Z T k).getD i (0,[])=HM.lotAt Z T i:=by
  unfold HM.lotsL
  rw[cC,cH,d9 aq]
  rfl
 have O:=(Ax am J aq).1
 rw[ed]at ah
 obtain⟨c,ay⟩:∃c,c=(HM.lotAt Z T i).2:=⟨_,rfl⟩
 rw[<-ay]at ah O
 have aU:=O.len
 have af:=ar.trans S3
 have aJ:(Ed o c).length=b.length:=by unfold Ed;rw[cx,aU]
 have aE:(b.zip (Ed o c)).length=b.length:=by rw[oG,aJ,Nat.min_self]
 refine⟨_,rfl,pl,_,rfl,.inl (af.seq aa),(b.length:Int),by rw[cx],CC _,Cp (dg ap (by decide)),?_⟩
 refine sH (n:=b.length) (λj p I=>Same H3 I/\dr (JR K I) p ((b.zip (Ed o c)).take j)) ⟨Same.refl _,.nil⟩ (λj p I hj C=>?_) (λp I C l hl=>?_)
 ·obtain⟨Y,u⟩:=C
  have ai:j<c.length:=by omega
  have aV:=O.mem.mp (cW ai)
  have aC:(c[j]).toNat<o.length:=by omega
  have aF:(o.map V.str)[(c[j]).toNat]?=some (.str (o.getD (c[j]).toNat ea)):=by rw[cH,cC,cz aC];rfl
  have aN:(b.map V.str)[j]?=some (.str b[j]):=by rw[cH,cz hj];rfl
  have aR:(c.map V.int)[j]?=some (.int c[j]):=by rw[cH,cz ai];rfl
  have aH:=Paired.len u
  rw[cV]at aH
  have aA:=af.trans Y
  have aL:(b.zip (Ed o c))[j]?=some (b[j],o.getD (c[j]).toNat ea):=by
   rw[i3]
   refine⟨cz hj,?_⟩
   unfold Ed
   rw[cH,cz ai]
   rfl
  refine⟨_,rfl,_,rfl,pl,_,_,_,rfl,rfl,aA.seq aa,by rw[d3];exact si aN,_,rfl,_,rfl,_,rfl,va,_,_,_,rfl,rfl,Y.tup ah,by rw[d3];exact si aR,tl,_,_,_,rfl,rfl,aA.seq av,sD aV.1 aF,ab,λtp aG=>?_⟩
  have S:=rr aG (.tup [.str b[j],.str (o.getD (c[j]).toNat ea)])
  refine⟨D8 (by omega),Y.trans S,?_⟩
  rw[cY,aL]
  exact Paired.app (Paired.mapP u λ_ _ ⟨a,e,h⟩=>⟨a,e,S.tup h⟩) (.cons ⟨tp,rfl,SqT.of rz⟩ .nil)
 obtain⟨Y,u⟩:=C
 rw[<-aE,dj]at u
 have S:=rr hl (.lst p)
 have au:upd I l (.lst p) l=some (.lst p):=rz
 have G:dr (JR K (upd I l (.lst p))) p (b.zip (Ed o c)):=Paired.mapP u λ_ _ ⟨a,e,h⟩=>⟨a,e,S.tup h⟩
 have ak:=af.trans (Y.trans S)
 generalize upd I l (.lst p)=H5 at S au G ak ⊢
 have aQ:∀x∈b.zip (Ed o c),GU x.1/\GU x.2:=λx hx=>by
  obtain⟨x1,x2⟩:=x
  have hm:=jR hx
  exact⟨(rp.ok _ hm.1).2,(rt.ok _ (vW (λt ht=>by have:=O.mem.mp ht;omega) _ hm.2)).2⟩
 have aX:=Paired.len G
 refine⟨2,rfl,by decide,by decide,?_⟩
 refine rZ (n:=2) (λi σ H6=>Same H5 H6/\∃k f,σ=[some (.ref s0),some (.ref pl),some (.ref tl),some (.ref w),some (.str L),some (.ref g),some (.ref va),some (.ref l),k,f]) ⟨Same.refl _,_,_,rfl⟩ (λi0 σ H6 a2 C=>?_) (λσ H6 C=>?_)
 ·obtain⟨X,k0,f,rfl⟩:=C
  have ac:=ak.trans X
  have aw:=hb.mono ac
  obtain⟨dx,pp,pt,op,ot,h1,h2,h3,h4,h5,h6⟩:=aw.ex
  refine⟨_,rfl,s0,dx,_,rfl,h1,rfl,_,rfl,_,rfl,?_⟩
  refine⟨s0,d,g,b,o,R,L,ag,rfl,aw,dg ap (by decide),ax,hg.mono ac,aj,ae,(λ⟨y,hy,e⟩=>absurd e (hall y hy)),λ_=>⟨W,hT.mono ac,hW,(λn1 n2=>by rcases D with z|z;exact absurd z n1;exact absurd z n2),(λ_ r=>absurd r al),λ_ Z' T' k' i' l' xs H7 aB ao U S7 aI an hx=>?_⟩⟩
  obtain⟨rfl,rfl⟩:=ad.uniq aB
  cases J.uniq ao
  cases B.uniq U
  rw[ed,<-ay]at hx
  have a0:=Paired.len hx
  have aM:=(X.trans S7) _ _ au
  have aK:dr (JR K H7) p (b.zip (Ed o c)):=Paired.mapP G λ_ _ ⟨a,e,h⟩=>⟨a,e,(X.trans S7).tup h⟩
  refine⟨_,rfl,_,rfl,_,_,_,rfl,.lst (SqL.of an) (Reps.of_pw hx) (by omega),.lst (SqL.of aM) (Reps.of_pw aK) (by omega),DU aQ,_,rfl,Eo ?_⟩
  refine⟨_,rfl,.inl ⟨rfl,_,SqL.of an⟩,l',_,rfl,rfl,an,?_⟩
  exact⟨X.trans (S7.over aI _),_,_,rfl⟩
 ·obtain⟨X,k0,f,rfl⟩:=C
  exact q H6 (ak.trans X)
theorem F3:Ea ["_law_book","_law_people","_law_things","_law_wishes","_law_place","_law_number"] ["_law_book","_law_people","_law_things","_law_wishes","_law_place","_law_number"] (D7 (Eb 64)):=⟨rfl,rfl,rfl,by decide +kernel,rfl,by decide +kernel,by decide +kernel⟩
theorem Ii(M:Md K mg x cB)
  (G_law_perm:Dn P w K mg base Eh 1 "_law_perm" ["_law_number","_law_count"] (IX))
  (GBook_wish:Mn P w K mg base (FJ P w) 2 cB "wish" ["self","person","text"] (IH K cB x)):Dn P w K mg base Eh 3 "_law_wish" ["_law_book","_law_people","_law_things","_law_wishes","_law_place","_law_number"] (GR K cB):=by
 have nd:=(F3).nd
 refine M.f__law_wish.ok F3 (λvs H Q E h=>?_) (λ_ _ _ _ _ _ g hl=>match g,hl with|[_,_,_,_,_,_],_=>rfl) (λf aE A aw s H vs Q E hr h=>?_)
 ·obtain⟨s0,d,w,pl,tl,e,b,qq,m,a,num,rfl,Y,ai,rp,G,X,I,ab,n1,n2,u,q⟩:=h
  rfl
 obtain⟨s0,d,w,pl,tl,e,b,qq,m,a,num,rfl,Y,ai,rp,G,X,I,ab,n1,n2,u,q⟩:=h
 refine⟨_,(rn (wc (sd sG rfl M.b_tuple Boot.«tuple» (mM (rR G_law_perm hr (by decide) rfl Ec (mM (pv 5) (mM (rH rO rfl M.b_len dD (mM (pv 1) rq)) rq))) rq)) (wk (pv 3) (pv 4) wB))
   (rC (rL (vI (pl:=_) (pv 0) M.cl GBook_wish hr (by decide) FG (mM (rM rK (pv 1) (pv 4) (λ_ _=>rfl)) (mM (uJ gD jE jF yi sB (mM (sr rfl (N:=["_law_thing","_law_things"]) (caps:=[none,some 2]) (CompOk.of (by kernel_rfl)) (rV rfl) (uz (rM rK (pv 3) (pv 4) (λ_ _=>rfl))) (λ_ _ _ _=>(rJ (i:=0) (show(["_law_thing","_law_things"]:List Str).Nodup by decide +kernel) rfl (Or.inl rfl) (Or.inr rfl))) (λ_ _ _ _=>sh) (λ_ _ _ _=>(rM (sQ (K:=K) rfl) (pv 1) (pv 0) (λ_ _=>rfl)))) rq)) rq)))))),?_⟩
 obtain⟨g,W,R,hb,hw,hu,aq,ag,hq⟩:=Y.ex
 have aF:=rp.lo
 have aB:=rp.hi
 have aG:=Paired.len hu
 obtain⟨aC,ar⟩:=Y.dk
 refine⟨_,rfl,_,rfl,pl,_,rfl,.inl (SqL.of I),num,e.length,by rw[cx];rfl,by omega,λp1 H1 S1 az aj=>?_⟩
 refine⟨p1,_,rfl,.inl ⟨SqL.of aj,λc ad=>?_⟩⟩
 have B:LN.Pm e.length (LM.perm num e.length):=C5 num e.length
 have T1:=rr ad (.tup ((LM.perm num e.length).map V.int))
 have J:upd H1 c (.tup ((LM.perm num e.length).map V.int)) c=some (.tup ((LM.perm num e.length).map V.int)):=rz
 have D:=S1.trans T1
 have ay:H c=none:=S1.free ad
 generalize upd H1 c (.tup ((LM.perm num e.length).map V.int))=p at D J ⊢
 have O:=D _ _ hw
 have au:Js g.length (a:Int)=some a:=by
  unfold Js
  rw[if_pos (by omega),if_pos (by omega)]
  exact congrArg some (by omega)
 refine⟨_,rfl,_,rfl,w,_,_,_,rfl,rfl,O,au,?_⟩
 have U3:SameBut2 d w H (upd p w (.lst (g.set a (.ref c)))):=(SameBut2.of D).trans (SameBut2.of2 SameBut1.upd)
 have v:upd p w (.lst (g.set a (.ref c))) w=some (.lst (g.set a (.ref c))):=rz
 have L:BookAt cB (upd p w (.lst (g.set a (.ref c)))) s0 d e b R:=(hb.mono D).overL O
 have k:upd p w (.lst (g.set a (.ref c))) c=some (.tup ((LM.perm num e.length).map V.int)):=by rw[rG (sI J O (λz=>nomatch z))];exact J
 have Z:upd p w (.lst (g.set a (.ref c))) pl=some (.lst (e.map V.str)):=by rw[rG n1];exact D _ _ I
 have U:upd p w (.lst (g.set a (.ref c))) tl=some (.lst (b.map V.str)):=by rw[rG n2];exact D _ _ ab
 generalize upd p w (.lst (g.set a (.ref c)))=H3 at U3 v L k Z U ⊢
 obtain⟨dx,pp,pt,op,ot,h1,h2,h3,h4,h5,h6⟩:=L.ex
 have ap:(e.map V.str)[a]?=some (.str e[a]):=by rw[cH,cz u];rfl
 have an:(g.set a (.ref c))[a]?=some (.ref c):=by rw[jw,if_pos rfl,if_pos (by omega)]
 rw[<-X]at k B
 have ac:=wY (num:=num) G
 obtain⟨ok,ax,aD⟩:=wL (num:=num) G
 refine⟨_,rfl,s0,dx,_,rfl,h1,rfl,_,rfl,_,rfl,pl,_,_,_,rfl,rfl,SqL.of Z,si ap,rfl,_,rfl,_,rfl,w,_,_,_,rfl,rfl,SqL.of v,si an,c,rfl,⟨_,SqT.of k⟩,?_⟩
 refine vB (xs:=(LM.perm num b.length).map V.int) (λj ys C=>C=H3/\ys=(Ed b ((LM.perm num b.length).take j)).map V.str) ⟨rfl,rfl⟩ (λj ys C _ S=>by rw[S.1];exact SqT.of k) (λj y ys C T S=>?_) (λys C S l hl=>?_)
 ·obtain⟨rfl,rfl⟩:=S
  rw[cH]at T
  cases n:(LM.perm num b.length)[j]? with
  | none=>rw[n]at T;cases T
  | some t=>
   rw[n]at T
   have am:V.int t=y:=Option.some.inj T
   subst am
   have ah:=xW t (da n)
   have hj:=(cL.mp n).1
   rw[LM.perm_len]at hj
   have al:(b.map V.str)[t.toNat]?=some (.str (b.getD t.toNat ea)):=by rw[cH,cC,cz ah.2];rfl
   refine⟨_,rfl,_,rfl,tl,_,t,_,rfl,rfl,SqL.of U,sD ah.1 al,D8 (by unfold Ed;rw[cx,cx,cV];omega),rfl,?_⟩
   unfold Ed
   rw[cY,n,cS,cS]
   rfl
 obtain⟨rfl,rfl⟩:=S
 rw[cx,dj]
 have o:=rr hl (.lst ((Ed b (LM.perm num b.length)).map V.str))
 have af:upd C l (.lst ((Ed b (LM.perm num b.length)).map V.str)) l=some (.lst ((Ed b (LM.perm num b.length)).map V.str)):=rz
 generalize upd C l (.lst ((Ed b (LM.perm num b.length)).map V.str))=H5 at o af ⊢
 have aa:(L2.wordsOf (fe " " (Ed b (LM.perm num b.length)))).Perm b:=by rw[ac];exact x5 B
 refine⟨_,l,_,rfl,rfl,SqL.of af,by decide,ok.sumk,?_⟩
 refine⟨s0,d,e,b,R,e[a],fe " " (Ed b (LM.perm num b.length)),rfl,L.mono o,dg G.hi (by decide),(λw hw=>(G.ok w hw).2),ok.out.1,ok.out.2.1,ok.out.2.2,eP ag (lA ai (by decide)),(λz=>absurd (cW u) z),(λ_ z=>absurd aa z),λ_ _ r H6 U6 aA ae ao=>?_⟩
 rw[ac,xP G B]at ae
 have av:=o _ _ h6
 have ak:w≠d:=sI v h6 (λz=>nomatch z)
 refine q H6 ((U3.trans (SameBut2.of o)).trans (SameBut2.of1 U6)) (Bk52.put rp ar hw hu aq ag hq ((U3.trans (SameBut2.of o)).trans (SameBut2.of1 U6)) (cz u) ao (U6 _ _ ak (o _ _ v)) ⟨r,rfl,SqT.of ae⟩ ⟨c,rfl,SqT.of (U6 _ _ (sI (o _ _ k) av (λz=>nomatch z)) (o _ _ k))⟩ (X▸B))
theorem Fd:Ea ["_law_book","_law_people","_law_things","_law_xs","_law_words_here","_law_refused_here"] ["_law_book","_law_people","_law_things","_law_xs"] (D7 (Eb 65)):=⟨rfl,rfl,rfl,by decide +kernel,rfl,by decide +kernel,by decide +kernel⟩
theorem GP(M:Md K mg x cB)
  (G_law_perm:Dn P w K mg base Eh 1 "_law_perm" ["_law_number","_law_count"] (IX))
  (GBook_wish:Mn P w K mg base (FJ P w) 2 cB "wish" ["self","person","text"] (IH K cB x)):Dn P w K mg base Eh 3 "_law_refused" ["_law_book","_law_people","_law_things","_law_xs"] (Gi K cB):=by
 have nd:=(Fd).nd
 refine M.f__law_refused.ok Fd (λvs H Q E h=>?_) (λ_ _ _ _ _ _ us hl=>match us,hl with|[_,_,_,_],_=>rfl) (λf aD A az s H vs Q E hr h=>?_)
 ·obtain⟨s0,d,w,pl,tl,G,p,a,qq,m,xs,rfl,aj,al,rp,C,ai,r,ab,v,Y,q⟩:=h
  rfl
 obtain⟨s0,d,w,pl,tl,G,p,a,qq,m,xs,rfl,aj,al,rp,C,ai,r,ab,v,Y,q⟩:=h
 refine⟨_,(rn (sA (i:=4) nd rfl rfl rfl rfl (N:=["_law_thing","_law_things"]) (caps:=[none,some 2]) (CompOk.of (by kernel_rfl)) (rV rfl) (sT (rR G_law_perm hr (by decide) rfl Ec (mM (rM rK (pv 3) rD (λ_ _=>rfl)) (mM (rH rO rfl M.b_len dD (mM (pv 1) rq)) rq)))) (λ_ _ _ _=>(rJ (i:=0) (show(["_law_thing","_law_things"]:List Str).Nodup by decide +kernel) rfl (Or.inl rfl) (Or.inr rfl))) (λ_ _ _ _=>sh) (λ_ _ _ _=>(rM (sQ (K:=K) rfl) (pv 1) (pv 0) (λ_ _=>rfl))))
   (rn (su (rQ tO (rN rY (rM rK (pv 3) rD (λ_ _=>rfl)) rD) rD (Ee _)) (rC (wc (rN ue (uJ gD jE jF yi sB (mM (pv 2) rq)) sB) (wk (pv 4) (rN rY (rN tE (rM rK (pv 3) rD (λ_ _=>rfl)) rD) (rH rO rfl M.b_len dD (mM (pv 4) rq))) wB))) (rC (su (rQ tO (rN rY (rM rK (pv 3) rD (λ_ _=>rfl)) rD) rD (Ee _)) (rC (sR (uJ dI fR fS tK (pv 4) (mM (rM rK (pv 4) rD (λ_ _=>rfl)) rq)))) (rC (sR (xL dI PySem.F.slot_list_pop PySem.F.type_list_pop DM (pv 4)))))))
   (rn (rF (i:=5) nd rfl (Or.inl rfl) uf)
   (rn (CK rfl rfl M.x_NoWishes rfl (Dh (DT (pl:=_) (pv 0) M.cl GBook_wish hr (by decide) (mM (rM rK (pv 1) (rN rY (rM rK (pv 3) rD (λ_ _=>rfl)) (rH rO rfl M.b_len dD (mM (pv 1) rq))) (λ_ _=>rfl)) (mM (uJ gD jE jF yi sB (mM (pv 4) rq)) rq)))) (λ_=>(rC (rF (i:=5) nd rfl (Or.inl rfl) uf))))
   (rC (rL (pv 5))))))),?_⟩
 obtain⟨us,W,R,hb,hw,hu,aC,aw,hq⟩:=aj.ex
 obtain⟨dx,pp,pt,op,ot,h1,h2,h3,h4,h5,h6⟩:=hb.ex
 have ax:=rp.lo
 have aA:=rp.hi
 have at0:=vD (ns:=xs) (i:=0) (Y.symm▸by decide)
 have ao:=vD (ns:=xs) (i:=3) (Y.symm▸by decide)
 have aa:=vD (ns:=xs) (i:=4) (Y.symm▸by decide)
 have S:(0:Int)<((p.map V.str).length:Int):=by rw[cx];exact Int.natCast_pos.mpr ax
 have ag:a.length<=60:=dg C.hi (by decide)
 have ad:R.length<1000:=eP aw (lA al (by decide))
 refine⟨_,rfl,G,_,_,_,rfl,rfl,v,ao,_,rfl,pl,_,rfl,.inl r,xs.getD 3 0,a.length,by rw[cx,ai];rfl,by omega,λp0 H1 S1 aB U=>?_⟩
 generalize xs.getD 3 0=num at U
 obtain⟨T,am,X⟩:=wL (num:=num) C
 have an:=S1.seq ab
 refine⟨p0,rfl,⟨_,SqL.of U⟩,?_⟩
 refine sO (xs:=(LM.perm num a.length).map V.int) (λj ys I=>I=H1/\ys=(Ed a ((LM.perm num a.length).take j)).map V.str) ⟨rfl,rfl⟩ (λj ys I _ hP=>by rw[hP.1];exact SqL.of U) (λj y ys I hy hP=>?_) (λys I hP l hl=>?_)
 ·obtain⟨rfl,rfl⟩:=hP
  rw[cH]at hy
  cases J:(LM.perm num a.length)[j]? with
  | none=>rw[J]at hy;cases hy
  | some t=>
   rw[J]at hy
   have ar:V.int t=y:=Option.some.inj hy
   subst ar
   have ak:=xW t (da J)
   have hj:=(cL.mp J).1
   rw[LM.perm_len]at hj
   have ap:(a.map V.str)[t.toNat]?=some (.str (a.getD t.toNat ea)):=by rw[cH,cC,cz ak.2];rfl
   refine⟨_,rfl,_,rfl,tl,_,t,_,rfl,rfl,an,sD ak.1 ap,D8 (by unfold Ed;rw[cx,cx,cV];omega),rfl,?_⟩
   unfold Ed
   rw[cY,J,cS,cS]
   rfl
 obtain⟨rfl,rfl⟩:=hP
 rw[cx,dj]
 have S2:Same I (upd I l (.lst ((Ed a (LM.perm num a.length)).map V.str))):=rr hl _
 have o:upd I l (.lst ((Ed a (LM.perm num a.length)).map V.str)) l=some (.lst ((Ed a (LM.perm num a.length)).map V.str)):=rz
 have ac:H l=none:=S1.free hl
 generalize upd I l (.lst ((Ed a (LM.perm num a.length)).map V.str))=H3 at S2 o ⊢
 have aq:Ed a (LM.perm num a.length)≠[]:=λz=>by rw[z,jT]at X;omega
 generalize Ed a (LM.perm num a.length)=b at T am X o aq
 have O:=S1.trans S2
 have Z:(b.map V.str).length=b.length:=cx ..
 have i0:=dO (xs.getD 0 0) (show(p.length:Int)≠0 by omega)
 have i1:=dC (xs.getD 0 0) (show(0:Int)<p.length by omega)
 have ah:(xs.getD 0 0%(p.length:Int)).toNat<p.length:=by omega
 have ae:(p.map V.str)[(xs.getD 0 0%(p.length:Int)).toNat]?=some (.str p[(xs.getD 0 0%(p.length:Int)).toNat]):=by rw[cH,cz ah];rfl
 have af:=cW ah
 refine⟨_,rfl,G,_,_,_,rfl,rfl,O.seq v,aa,_,_,rfl,rfl,by show(0:Int)<3;decide,rfl,_,rfl,EA (λc=>?_) (λc=>?_)⟩
 ·have k0:=dO (xs.getD 4 0/3) (show(b.length:Int)≠0 by omega)
  have k1:=dC (xs.getD 4 0/3) (show(0:Int)<b.length by omega)
  obtain⟨k,hk⟩:∃k:Nat,xs.getD 4 0/3%(b.length:Int)=(k:Int):=⟨(xs.getD 4 0/3%(b.length:Int)).toNat,by omega⟩
  have av:k<b.length:=by omega
  have ay:Js (b.map V.str).length (k:Int)=some k:=by
   unfold Js
   rw[Z,if_pos (by omega),if_pos (by omega)]
   exact congrArg some (by omega)
  obtain⟨f1,f2,f3,f4⟩:=Jp C
  refine⟨rfl,_,rfl,_,tl,a,rfl,rfl,O.seq ab,by decide,C.sumk,_,_,rfl,rfl,dB (D8 f4),?_⟩
  refine⟨_,rfl,_,rfl,G,_,_,_,rfl,rfl,O.seq v,aa,_,_,rfl,rfl,c9 (by decide) (by decide),_,rfl,l,_,rfl,.inl (SqL.of o),_,_,rfl,rfl,by show(0:Int)<((b.map V.str).length:Int);rw[Z];omega,?_⟩
  dsimp only
  rw[Z,hk]
  refine⟨l,_,_,_,rfl,rfl,o,ay,?_⟩
  have g:=O.over ac (.lst ((b.map V.str).set k (.str (fe "" a++"q"))))
  have u:upd H3 l (.lst ((b.map V.str).set k (.str (fe "" a++"q")))) l=some (.lst ((b.set k (fe "" a++"q")).map V.str)):=by rw[rz,qp]
  generalize upd H3 l (.lst ((b.map V.str).set k (.str (fe "" a++"q"))))=H4 at g u ⊢

  have n:=T.gset (k:=k) f2 f3
  have D:=A7 (k:=k) T av f1 f3
  refine⟨_,rfl,s0,dx,_,rfl,g _ _ h1,rfl,_,rfl,_,rfl,G,_,_,_,rfl,rfl,g.seq v,at0,_,rfl,pl,_,rfl,.inl (g.seq r),_,_,rfl,rfl,S,?_⟩
  dsimp only
  rw[cx]
  refine⟨pl,_,_,_,rfl,rfl,g.seq r,sD i0 ae,rfl,_,rfl,_,l,_,rfl,rfl,SqL.of u,by decide,n.sumk,?_⟩
  refine⟨s0,d,p,a,R,_,_,rfl,hb.mono g,ag,(λw hw=>(C.ok w hw).2),n.out.1,n.out.2.1,n.out.2.2,ad,(λz=>absurd af z),(λ_ _ H5 S5=>⟨x.NoWishes,rfl,M.e_NoWishes,λe he=>⟨_,rfl,q _ (g.trans (S5.trans (rr he _)))⟩⟩),(λ_ z=>absurd z D)⟩

 refine⟨_,rfl,G,_,_,_,rfl,rfl,O.seq v,aa,_,_,rfl,rfl,by show(0:Int)<3;decide,rfl,_,rfl,EA (λc2=>?_) (λc2=>?_)⟩
 ·obtain⟨B,L⟩:∃B,b[0]?=some B:=⟨_,cz (show 0<b.length by omega)⟩
  have au:(b.map V.str)[0]?=some (.str B):=by rw[cH,L];rfl
  refine⟨_,rfl,.inl ⟨rfl,_,SqL.of o⟩,_,rfl,l,_,_,_,rfl,rfl,SqL.of o,si au,l,_,_,rfl,rfl,o,D8 (by rw[Z];omega),?_⟩
  have g:=O.over ac (.lst (b.map V.str++[.str B]))
  have u:upd H3 l (.lst (b.map V.str++[.str B])) l=some (.lst ((b++[B]).map V.str)):=by rw[rz,cS];rfl
  generalize upd H3 l (.lst (b.map V.str++[.str B]))=H4 at g u ⊢

  have n:=T.gapp (da L)
  have D:=zY T (da L) X
  refine⟨_,rfl,s0,dx,_,rfl,g _ _ h1,rfl,_,rfl,_,rfl,G,_,_,_,rfl,rfl,g.seq v,at0,_,rfl,pl,_,rfl,.inl (g.seq r),_,_,rfl,rfl,S,?_⟩
  dsimp only
  rw[cx]
  refine⟨pl,_,_,_,rfl,rfl,g.seq r,sD i0 ae,rfl,_,rfl,_,l,_,rfl,rfl,SqL.of u,by decide,n.sumk,?_⟩
  refine⟨s0,d,p,a,R,_,_,rfl,hb.mono g,ag,(λw hw=>(C.ok w hw).2),n.out.1,n.out.2.1,n.out.2.2,ad,(λz=>absurd af z),(λ_ _ H5 S5=>⟨x.NoWishes,rfl,M.e_NoWishes,λe he=>⟨_,rfl,q _ (g.trans (S5.trans (rr he _)))⟩⟩),(λ_ z=>absurd z D)⟩

 ·obtain⟨B,L⟩:∃B,(b.map V.str)[(b.map V.str).length-1]?=some B:=⟨_,cz (show(b.map V.str).length-1<(b.map V.str).length by omega)⟩
  refine⟨_,rfl,.inl ⟨rfl,_,SqL.of o⟩,l,_,_,rfl,rfl,o,L,?_⟩
  have g:=O.over ac (.lst (b.map V.str).dropLast)
  have u:upd H3 l (.lst (b.map V.str).dropLast) l=some (.lst (b.dropLast.map V.str)):=by rw[rz,List.map_dropLast]
  generalize upd H3 l (.lst (b.map V.str).dropLast)=H4 at g u ⊢

  have n:=T.gdrop
  have D:=Az T C X
  refine⟨_,rfl,s0,dx,_,rfl,g _ _ h1,rfl,_,rfl,_,rfl,G,_,_,_,rfl,rfl,g.seq v,at0,_,rfl,pl,_,rfl,.inl (g.seq r),_,_,rfl,rfl,S,?_⟩
  dsimp only
  rw[cx]
  refine⟨pl,_,_,_,rfl,rfl,g.seq r,sD i0 ae,rfl,_,rfl,_,l,_,rfl,rfl,SqL.of u,by decide,n.sumk,?_⟩
  refine⟨s0,d,p,a,R,_,_,rfl,hb.mono g,ag,(λw hw=>(C.ok w hw).2),n.out.1,n.out.2.1,n.out.2.2,ad,(λz=>absurd af z),(λ_ _ H5 S5=>⟨x.NoWishes,rfl,M.e_NoWishes,λe he=>⟨_,rfl,q _ (g.trans (S5.trans (rr he _)))⟩⟩),(λ_ z=>absurd z D)⟩
theorem FY:Ea ["_law_book","_law_people","_law_things","_law_wishes","_law_xs","_law_place","_law_way","_law_number"] ["_law_book","_law_people","_law_things","_law_wishes","_law_xs"] (D7 (Eb 66)):=⟨rfl,rfl,rfl,by decide +kernel,rfl,by decide +kernel,by decide +kernel⟩
theorem HR(M:Md K mg x cB)
  (G_law_wish:Dn P w K mg base Eh 3 "_law_wish" ["_law_book","_law_people","_law_things","_law_wishes","_law_place","_law_number"] (GR K cB))
  (G_law_refused:Dn P w K mg base Eh 3 "_law_refused" ["_law_book","_law_people","_law_things","_law_xs"] (Gi K cB))
  (G_law_shares_well:Dn P w K mg base Eh 10 "_law_shares_well" ["_law_book","_law_people","_law_things","_law_wishes","_law_place","_law_way"] (FO K cB))
  (G_law_lowest:Dn P w K mg base Eh 2 "_law_lowest" ["_law_top","_law_bottom"] (Ik))
  (G_law_deal_well:Dn P w K mg base Eh 10 "_law_deal_well" ["_law_book","_law_people","_law_things","_law_wishes","_law_way","_law_number"] (Hc K cB)):Dn P w K mg base Eh 11 "_law_deed" ["_law_book","_law_people","_law_things","_law_wishes","_law_xs"] (Ih K cB):=by
 have nd:=(FY).nd
 refine M.f__law_deed.ok FY (λvs H Q E h=>?_) (λ_ _ _ _ _ _ us hl=>match us,hl with|[_,_,_,_,_],_=>rfl) (λf ai A ag s H vs Q E F h=>?_)
 ·obtain⟨s0,d,w,z,G,o,p,J,m,a,rfl,y,O,v,R,u,r,t,n1,n2,e,l,ac,q⟩:=h
  rfl
 obtain⟨s0,d,w,z,G,o,p,J,m,a,rfl,y,O,v,R,u,r,t,n1,n2,e,l,ac,q⟩:=h
 refine⟨_,(rn (rF (i:=5) nd rfl (Or.inl rfl) (rN rY (rM rK (pv 4) rD (λ_ _=>rfl)) (rH rO rfl M.b_len dD (mM (pv 1) rq))))
   (rn (rF (i:=6) nd rfl (Or.inl rfl) (rM rK (t5 (mM sB (mM sB rq))) (sd xH rfl M.b_int Boot.«int» (mM (tF tO (rN rY (rM rK (pv 4) rD (λ_ _=>rfl)) rD) rD (Ee _)) rq)) (λ_ _=>rfl)))
   (rn (su (rQ tO (rN rY (rM rK (pv 4) rD (λ_ _=>rfl)) rD) rD (Ee _)) (rC (rL (tF AT (rR G_law_wish F (by decide) rfl Ec (mM (pv 0) (mM (pv 1) (mM (pv 2) (mM (pv 3) (mM (pv 5) (mM (rM rK (pv 4) rD (λ_ _=>rfl)) rq))))))) vZ (Ee _)))) rS)
   (rn (su (PW.pt (CB (rQ tO (rN rY (rM rK (pv 4) rD (λ_ _=>rfl)) rD) rD (Ee _)) (Ai (tD (sM (rR G_law_refused F (by decide) rfl Ec (mM (pv 0) (mM (pv 1) (mM (pv 2) (mM (pv 4) rq)))))))))) (rC (rL uf)) rS)
   (rn (su (rQ z7 (rN rY (rM rK (pv 4) rD (λ_ _=>rfl)) rD) rD (Ee _)) (rC (rL (rR G_law_shares_well F (by decide) rfl Ec (mM (pv 0) (mM (pv 1) (mM (pv 2) (mM (pv 3) (mM (pv 5) (mM (pv 6) rq))))))))) rS)
   (rn (rF (i:=7) nd rfl (Or.inl rfl) (rR G_law_lowest F (by decide) rfl Ec (mM (rN rY (rM rK (pv 4) rD (λ_ _=>rfl)) (rN sC rD (rN rY (rM rK (pv 4) rD (λ_ _=>rfl)) (rN Cm rD rD)))) (mM (rN sC rD (rN rY (rM rK (pv 4) rD (λ_ _=>rfl)) (rN Cm rD rD))) rq))))
   (rC (rL (rR G_law_deal_well F (by decide) rfl Ec (mM (pv 0) (mM (pv 1) (mM (pv 2) (mM (pv 3) (mM (pv 6) (mM (pv 7) rq))))))))))))))),?_⟩
 have I:(2:Nat)<=sizeLine:=by decide
 have aj:=v.lo
 have ah:=v.hi
 have at0:=vD (ns:=a) (i:=0) (l.symm▸by decide)
 have af:=vD (ns:=a) (i:=1) (l.symm▸by decide)
 have D:=vD (ns:=a) (i:=2) (l.symm▸by decide)
 have ab:=vD (ns:=a) (i:=3) (l.symm▸by decide)
 have aa:=vD (ns:=a) (i:=4) (l.symm▸by decide)
 have W:=vD (ns:=a) (i:=5) (l.symm▸by decide)
 have i0:=dO (a.getD 0 0) (show(p.length:Int)≠0 by omega)
 have i1:=dC (a.getD 0 0) (show(0:Int)<p.length by omega)
 obtain⟨b,Z⟩:∃b:Nat,a.getD 0 0%(p.length:Int)=(b:Int):=⟨(a.getD 0 0%(p.length:Int)).toNat,by omega⟩
 have U:b<p.length:=by omega
 refine⟨_,rfl,o,_,_,_,rfl,rfl,e,at0,_,rfl,z,_,rfl,.inl (SqL.of r),_,_,rfl,rfl,by show(0:Int)<((p.map V.str).length:Int);rw[cx];omega,?_⟩
 dsimp only
 rw[cx,Z]
 refine⟨I,λT ad=>?_⟩
 have j:=rr ad (.lst [V.str "eaten",V.str "turns"])
 have N:upd H T (.lst [V.str "eaten",V.str "turns"]) T=some (.lst [V.str "eaten",V.str "turns"]):=rz
 generalize upd H T (.lst [V.str "eaten",V.str "turns"])=H1 at j N ⊢
 obtain⟨X,Y,ae⟩:=K3 (decide (V.int (a.getD 1 0%5)=V.int 1))
 refine⟨_,rfl,o,_,_,_,rfl,rfl,j.seq e,af,_,_,rfl,rfl,by show(0:Int)<5;decide,rfl,.inr ⟨_,rfl,T,_,_,_,rfl,rfl,SqL.of N,ae,?_⟩⟩
 have p4:(0:Int)<4:=by decide
 refine⟨_,rfl,o,_,_,_,rfl,rfl,j.seq e,D,_,_,rfl,rfl,p4,rfl,_,rfl,EA (λc=>?_) (λc=>?_)⟩
 ·refine⟨_,rfl,_,rfl,_,rfl,_,rfl,_,rfl,_,rfl,o,_,_,_,rfl,rfl,j.seq e,ab,?_⟩
  refine⟨s0,d,w,z,G,p,J,_,m,b,_,rfl,y.mono j,O,v,R,u,j _ _ r,j _ _ t,n1,n2,U,λC U2 k=>⟨rfl,?_⟩⟩
  exact q C ((SameBut2.of j).trans U2) (k.imp (λi _ _=> .inl trivial) (cI _))
 refine⟨_,rfl,o,_,_,_,rfl,rfl,j.seq e,D,_,_,rfl,rfl,p4,rfl,_,rfl,?_⟩
 show if decide (V.int (a.getD 2 0%4)=V.int 1)=true then _ else _
 apply K7 (λC=>Same H1 C) H1 (Same.refl _)
 case hA=>
  intro hG
  refine⟨_,rfl,_,rfl,_,rfl,_,rfl,?_⟩
  exact⟨s0,d,w,z,G,o,p,J,_,m,a,rfl,y.mono j,O,v,R,u,j.seq (SqL.of r),j.seq (SqL.of t),j.seq e,l,λC S2=>⟨_,rfl,Eo (hG C S2)⟩⟩
 intro C S2
 have n:=j.trans S2
 have k:=y.mono n
 refine⟨_,rfl,o,_,_,_,rfl,rfl,n.seq e,D,_,_,rfl,rfl,p4,_,_,rfl,rfl,_,rfl,EA (λc3=>?_) (λc3=>?_)⟩
 ·refine⟨_,rfl,_,rfl,_,rfl,_,rfl,_,rfl,_,rfl,?_⟩
  exact⟨s0,d,w,z,G,p,J,m,b,X,rfl,k,v,R,u,n.seq (SqL.of r),n.seq (SqL.of t),U,Y,λH3 B=>q H3 (SameBut2.of (n.trans B)) ((k.mono B).imp (λi _ h=>h) (ec m))⟩
 have e6:(10:Int)^(6:Int).toNat=1000000:=by decide
 have b0:=dO (a.getD 5 0) (show(1000000:Int)≠0 by decide)
 have b1:=dC (a.getD 5 0) (show(0:Int)<1000000 by decide)
 have cp:LI 10 6:=⟨by decide,by decide,by decide⟩
 have t0:=dO (a.getD 4 0) (show(1+a.getD 5 0%1000000:Int)≠0 by omega)
 have t1:=dC (a.getD 4 0) (show(0:Int)<1+a.getD 5 0%1000000 by omega)
 have S:=n.seq e
 refine⟨_,rfl,o,_,_,_,rfl,rfl,S,aa,_,rfl,o,_,_,_,rfl,rfl,S,W,_,_,rfl,rfl,cp,_,_,rfl,rfl,by show(0:Int)<10^(6:Int).toNat;decide,_,_,rfl,rfl,_,_,rfl,rfl,by show(0:Int)<1+a.getD 5 0%10^(6:Int).toNat;rw[e6];omega,?_⟩
 refine⟨_,rfl,o,_,_,_,rfl,rfl,S,W,_,_,rfl,rfl,cp,_,_,rfl,rfl,by show(0:Int)<10^(6:Int).toNat;decide,_,_,rfl,rfl,?_⟩
 dsimp only
 rw[e6]
 obtain⟨z1,z2,z3⟩:=Lo t0 t1 (by omega)
 refine⟨_,_,rfl,by omega,cU (show _<2^20 by omega) (eA (by decide) (by decide)),λg H3 B hg=>?_⟩
 have L:=n.trans B
 refine⟨_,rfl,_,rfl,_,rfl,_,rfl,_,rfl,_,rfl,?_⟩
 exact⟨s0,d,w,z,G,g,p,J,m,X,_,rfl,k.mono B,v,R,u,L.seq (SqL.of r),L.seq (SqL.of t),Y,⟨g,rfl,SqT.of hg⟩,z1,z2,z3,λH4 S4=>q H4 (SameBut2.of (L.trans S4)) ((k.mono (B.trans S4)).imp (λi _ h=>h) (ec m))⟩
theorem JC:Ea ["_law_script","_law_count","_law_rolls","_law_handed","_law_books","_law_told","_law_j","_law_k","_law_xs","_law_cell","_law_way"] ["_law_script"] (D7 (Eb 67)):=⟨rfl,rfl,rfl,by decide +kernel,rfl,by decide +kernel,by decide +kernel⟩
theorem K5{fl:cG}{fdl:FuncData}(Fl:Fun K "law" "law" (Eb 67) fl fdl)(M:Md K mg x cB)
  (G_law_cell_at:Dn P w K mg base Eh 1 "_law_cell_at" ["_law_script","_law_k"] (IR K))
  (G_law_words:Dn P w K mg base Eh 2 "_law_words" ["_law_script","_law_at","_law_many"] (Hi K))
  (GBook___init__:Bn P w K mg base (FJ P w) 4 cB "Book" ["self","people","things"] (JL K cB x))
  (G_law_mixed:Dn P w K mg base Eh 1 "_law_mixed" ["_law_cell","_law_many"] (Jd))
  (G_law_wish:Dn P w K mg base Eh 3 "_law_wish" ["_law_book","_law_people","_law_things","_law_wishes","_law_place","_law_number"] (GR K cB))
  (G_law_deed:Dn P w K mg base Eh 11 "_law_deed" ["_law_book","_law_people","_law_things","_law_wishes","_law_xs"] (Ih K cB))
  (G_law_shares_well:Dn P w K mg base Eh 10 "_law_shares_well" ["_law_book","_law_people","_law_things","_law_wishes","_law_place","_law_way"] (FO K cB)):FnOk P w K mg base Eh 12 fl fdl ["_law_script"] (Jj K):=by
 have Z:=(JC).nd
 refine Fl.ok JC (λvs H Q E h=>?_) (λcm A cj s H vs Q E hr h=>?_)
 ·obtain⟨a,ns,rfl,hS,b9,q⟩:=h
  rfl
 obtain⟨a,ns,rfl,hS,b9,q⟩:=h
 refine⟨_,(rn (rF (i:=1) Z rfl (Or.inl rfl) (rN sC rD (rN rY (rR G_law_cell_at hr (by decide) rfl Ec (mM (pv 0) (mM rD rq))) rD)))
   (rn (rF (i:=2) Z rfl (Or.inl rfl) (t5 (mM (rR G_law_words hr (by decide) rfl Ec (mM (pv 0) (mM rD (mM (pv 1) rq)))) (mM (rR G_law_words hr (by decide) rfl Ec (mM (pv 0) (mM rD (mM (pv 1) rq)))) rq))))
   (rn (rF (i:=3) Z rfl (Or.inl rfl) (t5 (mM (sd sN rfl M.b_list Boot.«list» (mM (rM rK (pv 2) rD (λ_ _=>rfl)) rq)) (mM (sd sN rfl M.b_list Boot.«list» (mM (rM rK (pv 2) rD (λ_ _=>rfl)) rq)) rq))))
   (rn (rF (i:=4) Z rfl (Or.inl rfl) (t5 (mM (DH GBook___init__ hr (by decide) rfl FG (mM (rM rK (pv 3) rD (λ_ _=>rfl)) (mM (rM rK (pv 3) rD (λ_ _=>rfl)) rq))) (mM (DH GBook___init__ hr (by decide) rfl FG (mM (rM rK (pv 3) rD (λ_ _=>rfl)) (mM (rM rK (pv 3) rD (λ_ _=>rfl)) rq))) rq))))
   (rn (sR (xL dI jm jn wZ (rM rK (pv 3) rD (λ_ _=>rfl))))
   (rn (sR (xL dI PySem.F.slot_list_reverse PySem.F.type_list_reverse zj (rM rK (pv 3) rD (λ_ _=>rfl))))
   (rn (rF (i:=5) Z rfl (Or.inl rfl) (t5 (mM (sr rfl (N:=["_law_k"]) (caps:=[none]) (CompOk.of (by kernel_rfl)) (rV rfl) (rW rfl M.b_range (mM (pv 1) rq)) (λ_ _ _ _=>(rJ (i:=0) (show(["_law_k"]:List Str).Nodup by decide +kernel) rfl (Or.inl rfl) (Or.inr rfl))) (λ_ _ _ _=>sh) (λ_ _ _ _=>(sE rq))) (mM (sr rfl (N:=["_law_k"]) (caps:=[none]) (CompOk.of (by kernel_rfl)) (rV rfl) (rW rfl M.b_range (mM (pv 1) rq)) (λ_ _ _ _=>(rJ (i:=0) (show(["_law_k"]:List Str).Nodup by decide +kernel) rfl (Or.inl rfl) (Or.inr rfl))) (λ_ _ _ _=>sh) (λ_ _ _ _=>(sE rq))) rq))))
   (rn (sP dA rfl (rW rfl M.b_range (mM rD rq)) (rJ (i:=6) Z rfl (Or.inl rfl)) (rC (sP dA rfl (rW rfl M.b_range (mM (pv 1) rq)) (rJ (i:=7) Z rfl (Or.inl rfl)) (rn (rF (i:=8) Z rfl (Or.inl rfl) (rR G_law_mixed hr (by decide) rfl Ec (mM (rR G_law_cell_at hr (by decide) rfl Ec (mM (pv 0) (mM (rN sC rD (pv 7)) rq))) (mM rD rq))))
   (rC (su (rQ zP (rR G_law_wish hr (by decide) rfl Ec (mM (rM rK (pv 4) (pv 6) (λ_ _=>rfl)) (mM (rM rK (pv 2) (pv 6) (λ_ _=>rfl)) (mM (rM rK (pv 2) (rN v4 rD (pv 6)) (λ_ _=>rfl)) (mM (rM rK (pv 5) (pv 6) (λ_ _=>rfl)) (mM (pv 7) (mM (rM rK (pv 8) (pv 6) (λ_ _=>rfl)) rq))))))) vZ (Ee _)) (rC (rL uf)) rS))))))
   (rn (sP dA rfl (sT (u6 C0 (pv 0) (uK rD) (uK rD))) (rJ (i:=9) Z rfl (Or.inl rfl)) (rn (rF (i:=8) Z rfl (Or.inl rfl) (rR G_law_mixed hr (by decide) rfl Ec (mM (pv 9) (mM rD rq))))
   (rn (rF (i:=6) Z rfl (Or.inl rfl) (rN rY (rM rK (pv 8) rD (λ_ _=>rfl)) rD))
   (rC (su (tD (sM (rR G_law_deed hr (by decide) rfl Ec (mM (rM rK (pv 4) (pv 6) (λ_ _=>rfl)) (mM (rM rK (pv 2) (pv 6) (λ_ _=>rfl)) (mM (rM rK (pv 2) (rN v4 rD (pv 6)) (λ_ _=>rfl)) (mM (rM rK (pv 5) (pv 6) (λ_ _=>rfl)) (mM (pv 8) rq)))))))) (rC (rL uf)) rS)))))
   (rn (sP dA rfl (rW rfl M.b_range (mM rD rq)) (rJ (i:=6) Z rfl (Or.inl rfl)) (rC (sP dA rfl (rW rfl M.b_range (mM (pv 1) rq)) (rJ (i:=7) Z rfl (Or.inl rfl)) (rn (rF (i:=10) Z rfl (Or.inl rfl) (rM rK (t5 (mM sB (mM sB rq))) (sd xH rfl M.b_int Boot.«int» (mM (tF tO (pv 7) (rN rY (rR G_law_cell_at hr (by decide) rfl Ec (mM (pv 0) (mM rD rq))) (pv 1)) (Ee _)) rq)) (λ_ _=>rfl)))
   (rC (su (tD (sM (rR G_law_shares_well hr (by decide) rfl Ec (mM (rM rK (pv 4) (pv 6) (λ_ _=>rfl)) (mM (rM rK (pv 2) (pv 6) (λ_ _=>rfl)) (mM (rM rK (pv 2) (rN v4 rD (pv 6)) (λ_ _=>rfl)) (mM (rM rK (pv 5) (pv 6) (λ_ _=>rfl)) (mM (pv 7) (mM (pv 10) rq))))))))) (rC (rL uf)) rS))))))
   (rC (rL uf)))))))))))),?_⟩
 have aM:(0:Nat)<=sizeLine:=by decide
 have O:(2:Nat)<=sizeLine:=by decide
 obtain⟨n,hn,bF,bc⟩:∃n:Nat,1+LM.cellAt ns 0%5=(n:Int)/\1<=n/\n<=5:=by
  have h0:=dO (LM.cellAt ns 0) (show(5:Int)≠0 by decide)
  have h1:=dC (LM.cellAt ns 0) (show(0:Int)<5 by decide)
  exact⟨(1+LM.cellAt ns 0%5).toNat,by omega,by omega,by omega⟩
 have n6:n<=6:=dg bc (by decide)
 have z0:=CC n
 have z1:=Cp (dg bc (by decide))
 refine⟨_,rfl,a,ns,0,rfl,hS,fC 0,_,_,rfl,rfl,by show(0:Int)<5;decide,_,_,rfl,rfl,?_⟩
 dsimp only
 rw[hn]
 refine⟨_,rfl,_,rfl,a,ns,1,n,rfl,hS,bF,n6,λI A H1 S1 _ hA rA bs=>?_⟩
 refine⟨_,rfl,_,rfl,a,ns,3,n,rfl,S1.seq hS,bF,n6,λC B H2 S2 _ hB rB bj=>?_⟩
 have bH:A.length<=60:=dg rA.hi (by decide)
 have bU:B.length<=60:=dg rB.hi (by decide)
 have bN:=bs.trans bj.symm
 refine⟨O,λm a6=>?_⟩
 have bh:=S1.trans (S2.trans (rr a6 (.lst [.ref I,.ref C])))
 have am:=(S2.trans (rr a6 (.lst [.ref I,.ref C]))) _ _ hA
 have au:=(rr a6 (.lst [.ref I,.ref C])) _ _ hB
 have X:upd H2 m (.lst [.ref I,.ref C]) m=some (.lst [.ref I,.ref C]):=rz
 generalize upd H2 m (.lst [.ref I,.ref C])=H3 at bh am au X ⊢
 have ad:=bh.seq hS
 clear bh S1 S2 a6 hA hB hS
 refine⟨_,rfl,m,_,_,_,rfl,rfl,SqL.of X,rfl,I,_,rfl,.inl (SqL.of am),λh0 ar=>?_⟩
 have r:=rr ar (.lst (A.map V.str))
 have ay:upd H3 h0 (.lst (A.map V.str)) h0=some (.lst (A.map V.str)):=rz
 have cg:=SqL.free ad ar
 have b4:I≠h0:=rE am ar
 have bX:C≠h0:=rE au ar
 have bZ:m≠h0:=rE X ar
 generalize upd H3 h0 (.lst (A.map V.str))=H4 at r ay ⊢
 refine⟨_,rfl,m,_,_,_,rfl,rfl,SqL.of (r _ _ X),rfl,C,_,rfl,.inl (SqL.of (r _ _ au)),λh1 ak=>?_⟩
 have T2:=rr ak (.lst (B.map V.str))
 have aB:upd H4 h1 (.lst (B.map V.str)) h1=some (.lst (B.map V.str)):=rz
 have cc:=SqL.free (r.seq ad) ak
 have bD:I≠h1:=rE (r _ _ am) ak
 have b2:C≠h1:=rE (r _ _ au) ak
 have bI:m≠h1:=rE (r _ _ X) ak
 have bO:h0≠h1:=rE ay ak
 have az:=T2 _ _ ay
 have bx:=r.trans T2
 generalize upd H4 h1 (.lst (B.map V.str))=H5 at bx T2 aB az ⊢
 refine⟨O,λR a8=>?_⟩
 have Y:=rr a8 (.lst [.ref h0,.ref h1])
 have ag:upd H5 R (.lst [.ref h0,.ref h1]) R=some (.lst [.ref h0,.ref h1]):=rz
 have S6:=bx.trans Y
 have aA:=Y _ _ az
 have av:=Y _ _ aB
 have b1:R≠h0:=Ne.symm (rE az a8)
 have ca:R≠h1:=Ne.symm (rE aB a8)
 generalize upd H5 R (.lst [.ref h0,.ref h1])=H6 at S6 ag aA av ⊢
 have bT:=S6.seq ad
 have b3:=S6 _ _ am
 have bM:=S6 _ _ au
 have br:=S6 _ _ X
 clear S6 r T2 bx Y ad am au X ar ak a8 ay az aB
 -- the first book
 refine⟨_,rfl,R,_,_,_,rfl,rfl,SqL.of ag,rfl,_,rfl,R,_,_,_,rfl,rfl,SqL.of ag,rfl,λs0 dx ae aD aC=>?_⟩
 have aL:upd H6 dx (.own s0) s0=none:=by rw[rG (Ne.symm aC)];exact ae
 have Y:=(rr aD (.own s0)).trans (rr aL (.ins cB dx []))
 refine⟨s0,h0,h1,dx,A,B,rfl,rz,SqL.of (Y _ _ aA),SqL.of (Y _ _ av),bH,bU,rA.ok,rB.ok,(λz=>absurd ⟨rA,rB,bN⟩ z),λ_ _ _ d0 H7 U7 b8 aN=>⟨rfl,?_⟩⟩
 have S7:Same H6 H7:=λb o e=>U7 b o (rE e ae) (Y b o e)
 have a4:=S7 _ _ aA
 have aU:=S7 _ _ av
 have ax:=S7 _ _ ag
 clear Y aL ae aD aC U7 b8
 -- the second book
 refine⟨_,rfl,R,_,_,_,rfl,rfl,SqL.of ax,rfl,_,rfl,R,_,_,_,rfl,rfl,SqL.of ax,rfl,λU dy ae aD aC=>?_⟩
 have aL:upd H7 dy (.own U) U=none:=by rw[rG (Ne.symm aC)];exact ae
 have Y:=(rr aD (.own U)).trans (rr aL (.ins cB dy []))
 refine⟨U,h1,h0,dy,B,A,rfl,rz,SqL.of (Y _ _ aU),SqL.of (Y _ _ a4),bU,bH,rB.ok,rA.ok,(λz=>absurd ⟨rB,rA,bN.symm⟩ z),λ_ _ _ d1 H8 U8 bp bP=>⟨rfl,?_⟩⟩
 have S8:Same H7 H8:=λb o e=>U8 b o (rE e ae) (Y b o e)
 have dd:d0≠d1:=λz=>by
  obtain⟨_,_,_,_,_,_,_,_,_,_,h6⟩:=aN.ex
  rw[<-z,Y _ _ h6]at bp
  cases bp
 have aN:=aN.mono S8
 have aH:=S7.trans S8
 have aT:=S8 _ _ a4
 have a0:=S8 _ _ aU
 have bn:=S8 _ _ ax
 have b0:=aH.seq bT
 have bL:=aH _ _ b3
 have bW:=aH _ _ bM
 have bi:=aH _ _ br
 clear Y aL ae aD aC U8 bp S7 S8 aH aA av ag bT b3 bM br a4 aU ax
 refine⟨O,λt a9=>?_⟩
 have r:=rr a9 (.lst [.ref s0,.ref U])
 have aS:upd H8 t (.lst [.ref s0,.ref U]) t=some (.lst [.ref s0,.ref U]):=rz
 have bq:t≠h0:=Ne.symm (rE aT a9)
 have bu:t≠h1:=Ne.symm (rE a0 a9)
 generalize upd H8 t (.lst [.ref s0,.ref U])=H9 at r aS ⊢
 -- the lists that were handed are spoilt
 have ah:=r _ _ aT
 have a2:=r _ _ bn
 refine⟨_,rfl,R,_,_,_,rfl,rfl,SqL.of a2,rfl,.inl ⟨rfl,_,SqL.of ah⟩,h0,_,rfl,rfl,ah,?_⟩
 have ac:upd H9 h0 (.lst []) h1=some (.lst (B.map V.str)):=by rw[rG (Ne.symm bO)];exact r _ _ a0
 have a3:upd H9 h0 (.lst []) R=some (.lst [.ref h0,.ref h1]):=by rw[rG b1];exact a2
 have a1:BookAt cB (upd H9 h0 (.lst [])) s0 d0 A B []:=(aN.mono r).overL ah
 have aR:BookAt cB (upd H9 h0 (.lst [])) U d1 B A []:=(bP.mono r).overL ah
 have bz:SqL K (upd H9 h0 (.lst [])) a (ns.map V.int):=SqL.overF cg (r.seq b0)
 have bm:upd H9 h0 (.lst []) I=some (.lst (A.map V.str)):=by rw[rG b4];exact r _ _ bL
 have bB:upd H9 h0 (.lst []) C=some (.lst (B.map V.str)):=by rw[rG bX];exact r _ _ bW
 have aZ:upd H9 h0 (.lst []) m=some (.lst [.ref I,.ref C]):=by rw[rG bZ];exact r _ _ bi
 have aX:upd H9 h0 (.lst []) t=some (.lst [.ref s0,.ref U]):=by rw[rG bq];exact aS
 generalize upd H9 h0 (.lst [])=HA at ac a3 a1 aR bz bm bB aZ aX ⊢
 refine⟨_,rfl,R,_,_,_,rfl,rfl,SqL.of a3,rfl,.inl ⟨rfl,_,SqL.of ac⟩,h1,_,rfl,rfl,ac,?_⟩
 have aW:BookAt cB (upd HA h1 (.lst (B.map V.str).reverse)) s0 d0 A B []:=a1.overL ac
 have a5:BookAt cB (upd HA h1 (.lst (B.map V.str).reverse)) U d1 B A []:=aR.overL ac
 have aO:SqL K (upd HA h1 (.lst (B.map V.str).reverse)) a (ns.map V.int):=SqL.overF cc bz
 have aI:upd HA h1 (.lst (B.map V.str).reverse) I=some (.lst (A.map V.str)):=by rw[rG bD];exact bm
 have aG:upd HA h1 (.lst (B.map V.str).reverse) C=some (.lst (B.map V.str)):=by rw[rG b2];exact bB
 have aj:upd HA h1 (.lst (B.map V.str).reverse) m=some (.lst [.ref I,.ref C]):=by rw[rG bI];exact aZ
 have ai:upd HA h1 (.lst (B.map V.str).reverse) t=some (.lst [.ref s0,.ref U]):=by rw[rG bu];exact aX
 generalize upd HA h1 (.lst (B.map V.str).reverse)=HB at aW a5 aO aI aG aj ai ⊢
 clear ac a3 a1 aR bz bm bB aZ aX ah a2 r aN bP aS aT a0 bn b0 bL bW bi bq bu b1 ca bO b4 bD bX b2 bZ bI a9
 -- nothing told
 refine⟨_,rfl,(n:Int),rfl,z0,z1,?_⟩
 refine sH (n:=n) (λi ys T=>Same HB T/\dr (IsR K T) ys (fw i [])) ⟨Same.refl _,.nil⟩ (λi ys T hi f=>?_) (λys T f J bw=>?_)
 ·obtain⟨S,aJ⟩:=f
  have aF:=Paired.len aJ
  rw[eS]at aF
  refine⟨aM,λp hp=>⟨D8 (aF▸dB (cU hi (dg bc (by decide)))),S.trans (rr hp _),?_⟩⟩
  rw[jQ]
  exact Paired.app (Paired.mapP aJ λ_ _ h=>h.mono (rr hp _)) (.cons ⟨p,rfl,SqT.of rz⟩ .nil)
 obtain⟨S0,bA⟩:=f
 have T0:=rr bw (.lst ys)
 have al:upd T J (.lst ys) J=some (.lst ys):=rz
 have aP:=Paired.mapP bA λ_ _ (h:IsR K T _ _)=>h.mono T0
 have SC:=S0.trans T0
 have ap:HB J=none:=S0.free bw
 generalize upd T J (.lst ys)=HC at SC al aP ⊢
 clear T0 S0 bA bw T
 refine⟨_,rfl,(n:Int),rfl,z0,z1,?_⟩
 refine sH (n:=n) (λi ys T=>Same HC T/\dr (IsR K T) ys (fw i [])) ⟨Same.refl _,.nil⟩ (λi ys T hi f=>?_) (λzs T f G a7=>?_)
 ·obtain⟨S,aJ⟩:=f
  have aF:=Paired.len aJ
  rw[eS]at aF
  refine⟨aM,λp hp=>⟨D8 (aF▸dB (cU hi (dg bc (by decide)))),S.trans (rr hp _),?_⟩⟩
  rw[jQ]
  exact Paired.app (Paired.mapP aJ λ_ _ h=>h.mono (rr hp _)) (.cons ⟨p,rfl,SqT.of rz⟩ .nil)
 obtain⟨S0,bf⟩:=f
 have T0:=S0.trans (rr a7 (.lst zs))
 have aw:upd T G (.lst zs) G=some (.lst zs):=rz
 have aY:=Paired.mapP bf λ_ _ (h:IsR K T _ _)=>h.mono (rr a7 (.lst zs))
 have af:HC G=none:=S0.free a7
 generalize upd T G (.lst zs)=HD at T0 aw aY ⊢
 clear S0 bf a7 T
 refine⟨O,λL an=>?_⟩
 have T2:=T0.trans (rr an (.lst [.ref J,.ref G]))
 have SE:=SC.trans T2
 have bo:upd HD L (.lst [.ref J,.ref G]) L=some (.lst [.ref J,.ref G]):=rz
 have nw:J≠G:=rE al af
 have bV:∀j,a≠pk J G j\/∀H,SqL K H a (ns.map V.int):=ui (P:=λx=>a≠x\/∀H,SqL K H a (ns.map V.int)) (SqL.free aO ap) (SqL.free (SC.seq aO) af)
 have D:LP m t L I C d0 d1 J G:=⟨ui (rE aj ap) (rE (SC _ _ aj) af),ui (rE ai ap) (rE (SC _ _ ai) af),ui (Ne.symm (rE (T0 _ _ al) an)) (Ne.symm (rE aw an)),(λi j=>ui (P:=λy=>y≠pk J G j) (ui (P:=λy=>I≠y) (rE aI ap) (rE (SC _ _ aI) af) j) (ui (P:=λy=>C≠y) (rE aG ap) (rE (SC _ _ aG) af) j) i),dd,nw⟩
 have at0:At52 K cB (upd HD L (.lst [.ref J,.ref G])) m t L I C s0 U d0 d1 J G A B (λ_ _=>False) 0:=by
  refine⟨SE _ _ aj,SE _ _ ai,bo,λj=>?_,λj g=>?_⟩
  ·rcases mO j with z|z
   ·subst z;exact SE _ _ aI
   ·obtain⟨j,rfl⟩:∃i,j=i+1:=⟨j-1,by omega⟩
    exact SE _ _ aG
  ·rcases(show j=0\/j=1 by omega)with rfl|rfl
   ·exact⟨ys,fw n [],[],aW.mono SE,T2 _ _ al,Paired.mapP aP (λ_ _ h=>h.mono T2),by rw[eS];exact bs.symm,cI 0,(λ_ _ _ z=>nomatch z)⟩
   ·exact⟨zs,fw n [],[],a5.mono SE,(rr an _) _ _ aw,Paired.mapP aY (λ_ _ h=>h.mono (rr an _)),by rw[eS];exact bj.symm,cI 0,(λ_ _ _ z=>nomatch z)⟩
 have bC:=SE.seq aO
 generalize upd HD L (.lst [.ref J,.ref G])=HE at at0 bC ⊢
 clear SE T2 T0 SC bo an al aw aP aY ap af aW a5 aO aI aG aj ai nw
 have ao:∀j,Roll (pk A B j):=ui rA rB
 have aa:∀j,(pk A B j).length=n:=ui (P:=λz:List Str=>z.length=n) bs bj
 -- all tell their wishes
 refine⟨2,rfl,by decide,by decide,?_⟩
 refine rZ (n:=2) (λj u H1=>SqL K H1 a (ns.map V.int)/\At52 K cB H1 m t L I C s0 U d0 d1 J G A B (λi _=>i<j) (6*j)/\∃c6 c7 c8,u=[some (.ref a),some (.int n),some (.ref m),some (.ref R),some (.ref t),some (.ref L),c6,c7,c8,none,none])
  ⟨bC,at0.imp (λj _ i _ z=>absurd z (by omega)) (cI _),_,_,_,rfl⟩ (λj u H1 g f=>?_) (λu H1 f=>?_)
 ·obtain⟨aE,ab,c6,c7,c8,rfl⟩:=f
  refine⟨_,rfl,(n:Int),rfl,z0,z1,?_⟩
  refine rZ (n:=n) (λk u H2=>SqL K H2 a (ns.map V.int)/\At52 K cB H2 m t L I C s0 U d0 d1 J G A B (λi x=>i<j\/(i=j/\x<k)) (6*j+k)/\∃c7 c8,u=[some (.ref a),some (.int n),some (.ref m),some (.ref R),some (.ref t),some (.ref L),some (.int (0+(j:Int))),c7,c8,none,none])
   ⟨aE,ab.imp (λi _ x _ z=>by omega) (by omega),_,_,rfl⟩ (λk u H2 hk f=>?_) (λu H2 f=>?_)
  ·obtain⟨ba,aV,c7,c8,rfl⟩:=f
   have mx:=zX (LM.cellAt ns (6+(0+(k:Int)))) g
   refine⟨_,rfl,_,rfl,_,_,rfl,rfl,a,ns,_,rfl,ba,by omega,_,2,rfl,by decide,λxa H3 S3 b6 aK=>?_⟩
   have d:=aV.mono S3
   have ej:(0+(j:Int))=(j:Int):=d3 _
   have ek:(0+(k:Int))=(k:Int):=d3 _
   rw[ej,ek]
   refine⟨_,rfl,_,rfl,t,_,_,_,rfl,rfl,SqL.of d.bl,wT g,_,rfl,_,rfl,m,_,_,_,rfl,rfl,SqL.of d.rl,wT g,_,rfl,_,rfl,_,_,rfl,rfl,m,_,_,_,rfl,rfl,SqL.of d.rl,zV g,_,rfl,_,rfl,L,_,_,_,rfl,rfl,SqL.of d.tl,wT g,_,rfl,_,rfl,_,rfl,xa,_,_,_,rfl,rfl,SqL.of aK,mx,?_⟩
   refine⟨_,_,_,_,_,pk A B j,pk A B (1-j),_,_,k,_,rfl,d.bk j g,by omega,ao j,ao _,by rw[aa,aa],d.ro j,d.ro _,D.ro j j,D.ro _ j,by rw[aa];exact hk,λH4 U4 ch=>⟨rfl,_,rfl,Eo ?_⟩⟩
   have l:=d.step D g U4 ch (ec _)
   obtain⟨kv,hd⟩:=(d.bk j g).dk
   obtain⟨us,hw⟩:=(d.bk j g).wl
   exact⟨SqL.keep2 (bV j) hd U4 (S3.seq ba),l.imp (λi _ x _ z=>KP z) (by omega),_,_,rfl⟩
  ·obtain⟨ba,aV,c7,c8,rfl⟩:=f
   exact⟨ba,aV.imp (λi _ x hx z=>by rw[aa]at hx;omega) (by omega),_,_,_,rfl⟩
 obtain⟨aE,ab,c6,c7,c8,rfl⟩:=f
 -- the deeds
 refine⟨_,rfl,12,rfl,36,rfl,a,_,rfl,aE,λc hc=>?_⟩
 have T5:=rr hc (.lst (Go (ns.map V.int) (some 12) (some 36)))
 have bY:=vA (ns.map V.int) (some 12) (some 36)
 rw[cx]at bY
 have bE:∀i v,(Go (ns.map V.int) (some 12) (some 36))[i]?=some v->∃c:Int,v=V.int c:=λi v h=>Do h
 refine⟨c,rfl,⟨_,SqL.of rz⟩,?_⟩
 have bb:upd H1 c (.lst (Go (ns.map V.int) (some 12) (some 36))) c=some (.lst (Go (ns.map V.int) (some 12) (some 36))):=rz
 have aQ:=ab.mono T5
 have bv:=T5.seq aE
 have cb:∀j,c≠pk J G j:=ui (λz=>by obtain⟨us,hw⟩:=(ab.bk 0 (by decide)).wl;rw[z,show H1 J=some (.lst us)from hw]at hc;cases hc) (λz=>by obtain⟨us,hw⟩:=(ab.bk 1 (by decide)).wl;rw[z,show H1 G=some (.lst us)from hw]at hc;cases hc)
 generalize upd H1 c (.lst (Go (ns.map V.int) (some 12) (some 36)))=H2 at T5 bb aQ bv ⊢
 generalize Go (ns.map V.int) (some 12) (some 36)=xs at bb bY bE ⊢
 refine uX (xs:=xs) (λi u H3=>SqL K H3 a (ns.map V.int)/\H3 c=some (.lst xs)/\At52 K cB H3 m t L I C s0 U d0 d1 J G A B (λ_ _=>True) (12+i)/\∃c6 c8 c9,u=[some (.ref a),some (.int n),some (.ref m),some (.ref R),some (.ref t),some (.ref L),c6,c7,c8,c9,none])
  ⟨bv,bb,aQ.imp (λj g i _ _=>g) (by omega),_,_,_,rfl⟩ (λi u H3 _ f=>SqL.of f.2.1) (λi v u H3 hv f=>?_) (λu H3 f=>?_)
 ·obtain⟨ad,be,d,c6,c8,c9,rfl⟩:=f
  have cp:i<xs.length:=(cL.mp hv).1
  obtain⟨cl,rfl⟩:=bE i v hv
  refine⟨_,rfl,cl,7,rfl,by decide,λxa H4 S4 b6 aK=>?_⟩
  have bG:=LM.mixed_len cl 7
  have bQ:=vD (ns:=LM.mixed cl 7) (i:=6) (by omega)
  have bK:=LM.mixed_bd cl 7
  generalize LM.mixed cl 7=ms at aK bG bQ bK
  have l:=d.mono S4
  have j0:=dO (ms.getD 6 0) (show(2:Int)≠0 by decide)
  have j1:=dC (ms.getD 6 0) (show(0:Int)<2 by decide)
  obtain⟨j,ce⟩:∃j:Nat,ms.getD 6 0%2=(j:Int):=⟨(ms.getD 6 0%2).toNat,by omega⟩
  have g:j<2:=by omega
  refine⟨_,rfl,xa,_,_,_,rfl,rfl,SqL.of aK,bQ,_,_,rfl,rfl,by show(0:Int)<2;decide,?_⟩
  dsimp only
  rw[ce]
  refine⟨_,rfl,_,rfl,t,_,_,_,rfl,rfl,SqL.of l.bl,wT g,_,rfl,_,rfl,m,_,_,_,rfl,rfl,SqL.of l.rl,wT g,_,rfl,_,rfl,_,_,rfl,rfl,m,_,_,_,rfl,rfl,SqL.of l.rl,zV g,_,rfl,_,rfl,L,_,_,_,rfl,rfl,SqL.of l.tl,wT g,_,rfl,?_⟩
  refine⟨_,_,_,_,_,xa,pk A B j,pk A B (1-j),_,ms,rfl,l.bk j g,by omega,ao j,ao _,by rw[aa,aa],l.ro j,l.ro _,D.ro j j,D.ro _ j,SqL.of aK,bG,bK,λH5 U5 cd=>⟨_,rfl,Eo ?_⟩⟩
  obtain⟨kv,hd⟩:=(l.bk j g).dk
  obtain⟨us,hw⟩:=(l.bk j g).wl
  exact⟨SqL.keep2 (bV j) hd U5 (S4.seq ad),U5 _ _ (sI (S4 _ _ be) hd (λz=>nomatch z)) (cb j) (S4 _ _ be),(l.step D g U5 cd (ec _)).imp (λi _ x _ _=>by split <;> trivial) (by omega),_,_,_,rfl⟩
 obtain⟨ad,be,d,c6,c8,c9,rfl⟩:=f
 clear be aQ bv bb T5 hc ab aE
 -- what all get
 refine⟨2,rfl,by decide,by decide,?_⟩
 refine rZ (n:=2) (λj u H4=>Same H3 H4/\∃c6 c7 aq,u=[some (.ref a),some (.int n),some (.ref m),some (.ref R),some (.ref t),some (.ref L),c6,c7,c8,c9,aq]) ⟨Same.refl _,_,_,_,rfl⟩ (λj u H4 g f=>?_) (λu H4 f=>q _)
 obtain⟨S4,ck,bS,aq,rfl⟩:=f
 refine⟨_,rfl,(n:Int),rfl,z0,z1,?_⟩
 refine rZ (n:=n) (λk u H5=>Same H4 H5/\∃c7 aq,u=[some (.ref a),some (.int n),some (.ref m),some (.ref R),some (.ref t),some (.ref L),some (.int (0+(j:Int))),c7,c8,c9,aq]) ⟨Same.refl _,_,_,rfl⟩ (λk u H5 hk f=>?_) (λu H5 f=>?_)
 ·obtain⟨S5,bS,aq,rfl⟩:=f
  have b7:=S4.trans S5
  refine⟨O,λwl bR=>?_⟩
  have S6:=b7.trans (rr bR (.lst [V.str "eaten",V.str "turns"]))
  have bg:upd H5 wl (.lst [V.str "eaten",V.str "turns"]) wl=some (.lst [V.str "eaten",V.str "turns"]):=rz
  have bJ:=rr bR (.lst [V.str "eaten",V.str "turns"])
  generalize upd H5 wl (.lst [V.str "eaten",V.str "turns"])=H6 at S6 bg bJ ⊢
  obtain⟨cf,ci,b5⟩:=K3 (decide (V.int (0+(k:Int))=V.int (LM.cellAt ns 5%(n:Int))))
  refine⟨_,rfl,_,rfl,a,ns,5,rfl,S6.seq ad,by decide,_,rfl,_,_,rfl,rfl,by show(0:Int)<(n:Int);omega,rfl,.inr ⟨_,rfl,wl,_,_,_,rfl,rfl,SqL.of bg,b5,?_⟩⟩
  have W:=d.mono S6
  have ej:(0+(j:Int))=(j:Int):=d3 _
  have ek:(0+(k:Int))=(k:Int):=d3 _
  rw[ej,ek]
  refine⟨_,rfl,_,rfl,t,_,_,_,rfl,rfl,SqL.of W.bl,wT g,_,rfl,_,rfl,m,_,_,_,rfl,rfl,SqL.of W.rl,wT g,_,rfl,_,rfl,_,_,rfl,rfl,m,_,_,_,rfl,rfl,SqL.of W.rl,zV g,_,rfl,_,rfl,L,_,_,_,rfl,rfl,SqL.of W.tl,wT g,_,rfl,_,rfl,?_⟩
  exact⟨_,_,_,_,_,pk A B j,pk A B (1-j),_,k,cf,rfl,W.bk j g,ao j,ao _,by rw[aa,aa],SqL.of (W.ro j),SqL.of (W.ro _),by rw[aa];exact hk,ci,λH7 S7=>⟨_,rfl,Eo ⟨S5.trans (bJ.trans S7),_,_,rfl⟩⟩⟩
 ·obtain⟨S5,bS,aq,rfl⟩:=f
  exact⟨S4.trans S5,_,_,_,rfl⟩
end
open PySem.W
abbrev Kd:String:="wishlots.lots"
abbrev IS:String:="wishlots.turns"
abbrev IN:String:="wishlots.eating"
abbrev HP:String:="wishlots.fractions"
abbrev GC:String:="wishlots.book"
abbrev Fx:String:="law_wishlots_k52_whole_book"
def vs(x:String)(n:Nat):cA:= .str (.ofString x) n
def i(n:Nat):cA:= .int n 0
def en(P:Params)(x:String)(n:Nat)(v:cA):DictEntry:={hash:=PyData.keyHash P (.ofString x),key:=vs x n,val:=v}
def di(l:List DictEntry)(n:Nat):Obj:={cls:= .type "dict",data:= .dict l.toArray n}
def tu(l:List cA):Obj:={cls:= .type "tuple",data:= .seq l.toArray}
def nf(l:List cA):Obj:={cls:= .none,data:= .fields l.toArray}
def ft(k:Nat)(x:String):Obj:={cls:= .none,data:= .func {name:= .ofString x,qualname:= .ofString x,params:=Ej (Eb k),body:= .stmts (Ef (Eb k)),scope:=D7 (Eb k),globals:=0,closure:=[],defaults:= .none,kwdefaults:= .none}}
def fo(k:Nat)(x m:String)(t c:Nat):Obj:={cls:= .type "function",data:= .func {name:= .ofString x,qualname:= .ofString x,params:=Ej (Eb k),body:= .stmts (Ef (Eb k)),scope:=D7 (Eb k),globals:=3,closure:=[],defaults:= .none,kwdefaults:= .none,pyModule:=vs m t,code:= .ref c}}
def co(x:String)(a b c:Nat)(r:List cA)(z:Nat):Obj:={cls:= .type "code",data:= .fields (vs x a::vs x b::vs "/claim/cut.py" c::(r++[vs "/claim/cut.py" z])).toArray}
def fc(k j:Nat)(x q:String):Obj:={cls:= .none,data:= .func {name:= .ofString x,qualname:= .ofString q,params:=Ej (G8 k j),body:= .stmts (Ef (G8 k j)),scope:=D7 (G8 k j),globals:=0,closure:=[],defaults:= .none,kwdefaults:= .none}}
def fm(k j:Nat)(x q m:String)(t c:Nat):Obj:={cls:= .type "function",data:= .func {name:= .ofString x,qualname:= .ofString q,params:=Ej (G8 k j),body:= .stmts (Ef (G8 k j)),scope:=D7 (G8 k j),globals:=3,closure:=[],defaults:= .none,kwdefaults:= .none,pyModule:=vs m t,code:= .ref c}}
def cq(x q:String)(a b c:Nat)(r:List cA)(z:Nat):Obj:={cls:= .type "code",data:= .fields (vs x a::vs q b::vs "/claim/cut.py" c::(r++[vs "/claim/cut.py" z])).toArray}
def KY(P:Params):List DictEntry:=[en P "__name__" 165 (vs Fx 652),en P "__doc__" 166 (.none),en P "__package__" 167 (.none),en P "__loader__" 168 (.builtin "__main__.__loader__#opaque"),en P "__spec__" 169 (.none),en P "__annotations__" 170 (.ref 6),en P "__builtins__" 171 (.ref 4),en P "__file__" 173 (vs "/claim/cut.py" 172),en P "__cached__" 174 (.none),en P "WishError" 206 (.ref 24),en P "NoFraction" 222 (.ref 37),en P "NoWishes" 238 (.ref 49),en P "NoPick" 254 (.ref 61),en P "NoRoll" 270 (.ref 73),en P "NoPerson" 286 (.ref 85),en P "Unready" 302 (.ref 97),en P "NoWay" 318 (.ref 109),en P "NOTHING" 323 (.ref 112),en P "WHOLE" 326 (.ref 113),en P "is_whole" 333 (.ref 120),en P "common_divisor" 344 (.ref 127),en P "fraction" 353 (.ref 134),en P "plus" 361 (.ref 141),en P "minus" 369 (.ref 148),en P "times" 377 (.ref 155),en P "before" 385 (.ref 162),en P "total" 394 (.ref 169),en P "least" 403 (.ref 176),en P "best_left" 411 (.ref 181),en P "time_to_stop" 417 (.ref 186),en P "left_behind" 423 (.ref 191),en P "courses_of" 429 (.ref 196),en P "eaten_of" 435 (.ref 201),en P "eaten_by" 441 (.ref 206),en P "eaten" 447 (.ref 211),en P "deal_within" 461 (.ref 218),en P "row_without" 471 (.ref 225),en P "lots_of" 477 (.ref 230),en P "picked" 487 (.ref 237),en P "MOST_PEOPLE" 491 (.int 6 490),en P "is_listing" 498 (.ref 244),en P "has_people" 505 (.ref 251),en P "best_free" 513 (.ref 256),en P "with_one" 521 (.ref 263),en P "turns_from" 527 (.ref 268),en P "orders_of" 536 (.ref 275),en P "counts_of" 553 (.ref 282),en P "shares_by_turns" 559 (.ref 287),en P "by_turns" 565 (.ref 292),en P "MOST_SIGNS" 569 (.int 12 568),en P "is_word" 575 (.ref 297),en P "is_roll" 581 (.ref 302),en P "Book" 651 (.ref 351),en P "_law_cell_at" 661 (.ref 362),en P "_law_mixed" 672 (.ref 369),en P "_law_perm" 682 (.ref 376),en P "_law_divisor" 691 (.ref 383),en P "_law_lowest" 700 (.ref 390),en P "_law_base" 711 (.ref 397),en P "_law_word" 723 (.ref 404),en P "_law_words" 738 (.ref 411),en P "_law_same" 747 (.ref 418),en P "_law_table_by" 755 (.ref 425),en P "_law_shares_well" 761 (.ref 430),en P "_law_deal_well" 767 (.ref 435),en P "_law_wish" 773 (.ref 440),en P "_law_refused" 779 (.ref 445),en P "_law_deed" 793 (.ref 452),en P "law" 799 (.ref 457)]
def MU:List cA:=[i 2,i 0,.ref 20,i 4,i 0,.ref 33,i 6,i 0,.ref 45,i 8,i 0,.ref 57,i 10,i 0,.ref 69,i 12,i 0,.ref 81,i 14,i 0,.ref 93,i 16,i 0,.ref 105,i 21,i 0,.ref 119,i 23,i 0,.ref 126,i 31,i 0,.ref 133,i 38,i 0,.ref 140,i 40,i 0,.ref 147,i 42,i 0,.ref 154,i 44,i 0,.ref 161,i 46,i 0,.ref 168,i 51,i 0,.ref 175,i 58,i 0,.ref 180,i 60,i 0,.ref 185,i 62,i 0,.ref 190,i 64,i 0,.ref 195,i 74,i 0,.ref 200,i 76,i 0,.ref 205,i 78,i 0,.ref 210,i 82,i 0,.ref 217,i 92,i 0,.ref 224,i 96,i 0,.ref 229,i 107,i 0,.ref 236,i 118,i 0,.ref 243,i 120,i 0,.ref 250,i 123,i 0,.ref 255,i 125,i 0,.ref 262,i 127,i 0,.ref 267,i 130,i 0,.ref 274,i 135,i 0,.ref 281,i 148,i 0,.ref 286,i 151,i 0,.ref 291,i 156,i 0,.ref 296,i 160,i 0,.ref 301,i 162,i 0,.ref 308,i 206,i 0,.ref 361,i 210,i 0,.ref 368,i 223,i 0,.ref 375,i 229,i 0,.ref 382,i 235,i 0,.ref 389,i 242,i 0,.ref 396,i 254,i 0,.ref 403,i 258,i 0,.ref 410,i 269,i 0,.ref 417,i 286,i 0,.ref 424,i 290,i 0,.ref 429,i 299,i 0,.ref 434,i 308,i 0,.ref 439,i 311,i 0,.ref 444,i 325,i 0,.ref 451,i 336,i 0,.ref 456]
noncomputable def obs(P:Params):List Obj:=(jo P).objs.toList++[tu [],
 nf [],
 co "<module>" 182 183 184 [i 1,i 0,i 0,i 0,i 0,.ref 11,.bool false,i 181,.ref 12,.none,.none,.none,.none,i 185,i 1] 186,
 {cls:= .type "frame",slots:= #[some (.ref 13),some (.ref 3),some (.ref 3),none,some (vs "__main__" 164),none,some (.ref 0)]},
 tu [.type "ValueError"],
 {cls:= .type "builtin_function_or_method",data:= .fields #[.builtin "type.__prepare__",.type "type"]},
 di [en P "__module__" 196 (vs "wishlots.errors" 187),en P "__qualname__" 198 (vs "WishError" 197),en P "__firstlineno__" 200 (.int 2 199),en P "__static_attributes__" 201 (.ref 22)] 4,
 tu [],
 nf [],
 co "WishError" 191 192 193 [i 2,i 0,i 0,i 0,i 0,.ref 18,.bool false,i 181,.ref 19,.none,.none,.none,.none,i 194,i 2] 195,
 {cls:= .type "frame",slots:= #[some (.ref 20),some (.ref 3),some (.ref 17),none,some (vs "wishlots.errors" 187),none,some (.ref 0)]},
 tu [],
 di [en P "__module__" 196 (vs "wishlots.errors" 187),en P "__firstlineno__" 200 (.int 2 199),en P "__static_attributes__" 201 (.ref 22),en P "__weakref__" 203 (.ref 25),en P "__doc__" 204 (.none)] 3,
 {cls:= .type "type",data:= .cls {name:="WishError",bases:=[.type "ValueError"],mro:=[.ref 24,.type "ValueError",.type "Exception",.type "BaseException",.type "object"],ns:=23,qualname:="WishError",subclasses:=[.ref 37,.ref 49,.ref 61,.ref 73,.ref 85,.ref 97,.ref 109]},slots:= #[some (.ref 15),none,some (vs "WishError" 189),some (vs "WishError" 197),some (.builtin "ValueError.__new__"),some (.bool true)]},
 {cls:= .type "getset_descriptor",data:= .fields #[vs "__weakref__" 202,.ref 24,.builtin "ExceptionGroup.__weakref__",.none]},
 {cls:= .type "super",data:= .fields #[.ref 24,.ref 24,.ref 24]},
 {cls:= .type "builtin_function_or_method",data:= .fields #[.builtin "object.__init_subclass__",.ref 24]},
 tu [.ref 24],
 {cls:= .type "builtin_function_or_method",data:= .fields #[.builtin "type.__prepare__",.type "type"]},
 di [en P "__module__" 214 (vs "wishlots.errors" 187),en P "__qualname__" 216 (vs "NoFraction" 215),en P "__firstlineno__" 218 (.int 4 217),en P "__static_attributes__" 219 (.ref 35)] 4,
 tu [],
 nf [],
 co "NoFraction" 209 210 211 [i 4,i 0,i 0,i 0,i 0,.ref 31,.bool false,i 181,.ref 32,.none,.none,.none,.none,i 212,i 4] 213,
 {cls:= .type "frame",slots:= #[some (.ref 33),some (.ref 3),some (.ref 30),none,some (vs "wishlots.errors" 187),none,some (.ref 0)]},
 tu [],
 di [en P "__module__" 214 (vs "wishlots.errors" 187),en P "__firstlineno__" 218 (.int 4 217),en P "__static_attributes__" 219 (.ref 35),en P "__doc__" 220 (.none)] 2,
 {cls:= .type "type",data:= .cls {name:="NoFraction",bases:=[.ref 24],mro:=[.ref 37,.ref 24,.type "ValueError",.type "Exception",.type "BaseException",.type "object"],ns:=36,qualname:="NoFraction"},slots:= #[some (.ref 28),none,some (vs "NoFraction" 207),some (vs "NoFraction" 215),some (.builtin "ValueError.__new__"),some (.bool true)]},
 {cls:= .type "super",data:= .fields #[.ref 37,.ref 37,.ref 37]},
 {cls:= .type "builtin_function_or_method",data:= .fields #[.builtin "object.__init_subclass__",.ref 37]},
 tu [.ref 24],
 {cls:= .type "builtin_function_or_method",data:= .fields #[.builtin "type.__prepare__",.type "type"]},
 di [en P "__module__" 230 (vs "wishlots.errors" 187),en P "__qualname__" 232 (vs "NoWishes" 231),en P "__firstlineno__" 234 (.int 6 233),en P "__static_attributes__" 235 (.ref 47)] 4,
 tu [],
 nf [],
 co "NoWishes" 225 226 227 [i 6,i 0,i 0,i 0,i 0,.ref 43,.bool false,i 181,.ref 44,.none,.none,.none,.none,i 228,i 6] 229,
 {cls:= .type "frame",slots:= #[some (.ref 45),some (.ref 3),some (.ref 42),none,some (vs "wishlots.errors" 187),none,some (.ref 0)]},
 tu [],
 di [en P "__module__" 230 (vs "wishlots.errors" 187),en P "__firstlineno__" 234 (.int 6 233),en P "__static_attributes__" 235 (.ref 47),en P "__doc__" 236 (.none)] 2,
 {cls:= .type "type",data:= .cls {name:="NoWishes",bases:=[.ref 24],mro:=[.ref 49,.ref 24,.type "ValueError",.type "Exception",.type "BaseException",.type "object"],ns:=48,qualname:="NoWishes"},slots:= #[some (.ref 40),none,some (vs "NoWishes" 223),some (vs "NoWishes" 231),some (.builtin "ValueError.__new__"),some (.bool true)]},
 {cls:= .type "super",data:= .fields #[.ref 49,.ref 49,.ref 49]},
 {cls:= .type "builtin_function_or_method",data:= .fields #[.builtin "object.__init_subclass__",.ref 49]},
 tu [.ref 24],
 {cls:= .type "builtin_function_or_method",data:= .fields #[.builtin "type.__prepare__",.type "type"]},
 di [en P "__module__" 246 (vs "wishlots.errors" 187),en P "__qualname__" 248 (vs "NoPick" 247),en P "__firstlineno__" 250 (.int 8 249),en P "__static_attributes__" 251 (.ref 59)] 4,
 tu [],
 nf [],
 co "NoPick" 241 242 243 [i 8,i 0,i 0,i 0,i 0,.ref 55,.bool false,i 181,.ref 56,.none,.none,.none,.none,i 244,i 8] 245,
 {cls:= .type "frame",slots:= #[some (.ref 57),some (.ref 3),some (.ref 54),none,some (vs "wishlots.errors" 187),none,some (.ref 0)]},
 tu [],
 di [en P "__module__" 246 (vs "wishlots.errors" 187),en P "__firstlineno__" 250 (.int 8 249),en P "__static_attributes__" 251 (.ref 59),en P "__doc__" 252 (.none)] 2,
 {cls:= .type "type",data:= .cls {name:="NoPick",bases:=[.ref 24],mro:=[.ref 61,.ref 24,.type "ValueError",.type "Exception",.type "BaseException",.type "object"],ns:=60,qualname:="NoPick"},slots:= #[some (.ref 52),none,some (vs "NoPick" 239),some (vs "NoPick" 247),some (.builtin "ValueError.__new__"),some (.bool true)]},
 {cls:= .type "super",data:= .fields #[.ref 61,.ref 61,.ref 61]},
 {cls:= .type "builtin_function_or_method",data:= .fields #[.builtin "object.__init_subclass__",.ref 61]},
 tu [.ref 24],
 {cls:= .type "builtin_function_or_method",data:= .fields #[.builtin "type.__prepare__",.type "type"]},
 di [en P "__module__" 262 (vs "wishlots.errors" 187),en P "__qualname__" 264 (vs "NoRoll" 263),en P "__firstlineno__" 266 (.int 10 265),en P "__static_attributes__" 267 (.ref 71)] 4,
 tu [],
 nf [],
 co "NoRoll" 257 258 259 [i 10,i 0,i 0,i 0,i 0,.ref 67,.bool false,i 181,.ref 68,.none,.none,.none,.none,i 260,i 10] 261,
 {cls:= .type "frame",slots:= #[some (.ref 69),some (.ref 3),some (.ref 66),none,some (vs "wishlots.errors" 187),none,some (.ref 0)]},
 tu [],
 di [en P "__module__" 262 (vs "wishlots.errors" 187),en P "__firstlineno__" 266 (.int 10 265),en P "__static_attributes__" 267 (.ref 71),en P "__doc__" 268 (.none)] 2,
 {cls:= .type "type",data:= .cls {name:="NoRoll",bases:=[.ref 24],mro:=[.ref 73,.ref 24,.type "ValueError",.type "Exception",.type "BaseException",.type "object"],ns:=72,qualname:="NoRoll"},slots:= #[some (.ref 64),none,some (vs "NoRoll" 255),some (vs "NoRoll" 263),some (.builtin "ValueError.__new__"),some (.bool true)]},
 {cls:= .type "super",data:= .fields #[.ref 73,.ref 73,.ref 73]},
 {cls:= .type "builtin_function_or_method",data:= .fields #[.builtin "object.__init_subclass__",.ref 73]},
 tu [.ref 24],
 {cls:= .type "builtin_function_or_method",data:= .fields #[.builtin "type.__prepare__",.type "type"]},
 di [en P "__module__" 278 (vs "wishlots.errors" 187),en P "__qualname__" 280 (vs "NoPerson" 279),en P "__firstlineno__" 282 (.int 12 281),en P "__static_attributes__" 283 (.ref 83)] 4,
 tu [],
 nf [],
 co "NoPerson" 273 274 275 [i 12,i 0,i 0,i 0,i 0,.ref 79,.bool false,i 181,.ref 80,.none,.none,.none,.none,i 276,i 12] 277,
 {cls:= .type "frame",slots:= #[some (.ref 81),some (.ref 3),some (.ref 78),none,some (vs "wishlots.errors" 187),none,some (.ref 0)]},
 tu [],
 di [en P "__module__" 278 (vs "wishlots.errors" 187),en P "__firstlineno__" 282 (.int 12 281),en P "__static_attributes__" 283 (.ref 83),en P "__doc__" 284 (.none)] 2,
 {cls:= .type "type",data:= .cls {name:="NoPerson",bases:=[.ref 24],mro:=[.ref 85,.ref 24,.type "ValueError",.type "Exception",.type "BaseException",.type "object"],ns:=84,qualname:="NoPerson"},slots:= #[some (.ref 76),none,some (vs "NoPerson" 271),some (vs "NoPerson" 279),some (.builtin "ValueError.__new__"),some (.bool true)]},
 {cls:= .type "super",data:= .fields #[.ref 85,.ref 85,.ref 85]},
 {cls:= .type "builtin_function_or_method",data:= .fields #[.builtin "object.__init_subclass__",.ref 85]},
 tu [.ref 24],
 {cls:= .type "builtin_function_or_method",data:= .fields #[.builtin "type.__prepare__",.type "type"]},
 di [en P "__module__" 294 (vs "wishlots.errors" 187),en P "__qualname__" 296 (vs "Unready" 295),en P "__firstlineno__" 298 (.int 14 297),en P "__static_attributes__" 299 (.ref 95)] 4,
 tu [],
 nf [],
 co "Unready" 289 290 291 [i 14,i 0,i 0,i 0,i 0,.ref 91,.bool false,i 181,.ref 92,.none,.none,.none,.none,i 292,i 14] 293,
 {cls:= .type "frame",slots:= #[some (.ref 93),some (.ref 3),some (.ref 90),none,some (vs "wishlots.errors" 187),none,some (.ref 0)]},
 tu [],
 di [en P "__module__" 294 (vs "wishlots.errors" 187),en P "__firstlineno__" 298 (.int 14 297),en P "__static_attributes__" 299 (.ref 95),en P "__doc__" 300 (.none)] 2,
 {cls:= .type "type",data:= .cls {name:="Unready",bases:=[.ref 24],mro:=[.ref 97,.ref 24,.type "ValueError",.type "Exception",.type "BaseException",.type "object"],ns:=96,qualname:="Unready"},slots:= #[some (.ref 88),none,some (vs "Unready" 287),some (vs "Unready" 295),some (.builtin "ValueError.__new__"),some (.bool true)]},
 {cls:= .type "super",data:= .fields #[.ref 97,.ref 97,.ref 97]},
 {cls:= .type "builtin_function_or_method",data:= .fields #[.builtin "object.__init_subclass__",.ref 97]},
 tu [.ref 24],
 {cls:= .type "builtin_function_or_method",data:= .fields #[.builtin "type.__prepare__",.type "type"]},
 di [en P "__module__" 310 (vs "wishlots.errors" 187),en P "__qualname__" 312 (vs "NoWay" 311),en P "__firstlineno__" 314 (.int 16 313),en P "__static_attributes__" 315 (.ref 107)] 4,
 tu [],
 nf [],
 co "NoWay" 305 306 307 [i 16,i 0,i 0,i 0,i 0,.ref 103,.bool false,i 181,.ref 104,.none,.none,.none,.none,i 308,i 16] 309,
 {cls:= .type "frame",slots:= #[some (.ref 105),some (.ref 3),some (.ref 102),none,some (vs "wishlots.errors" 187),none,some (.ref 0)]},
 tu [],
 di [en P "__module__" 310 (vs "wishlots.errors" 187),en P "__firstlineno__" 314 (.int 16 313),en P "__static_attributes__" 315 (.ref 107),en P "__doc__" 316 (.none)] 2,
 {cls:= .type "type",data:= .cls {name:="NoWay",bases:=[.ref 24],mro:=[.ref 109,.ref 24,.type "ValueError",.type "Exception",.type "BaseException",.type "object"],ns:=108,qualname:="NoWay"},slots:= #[some (.ref 100),none,some (vs "NoWay" 303),some (vs "NoWay" 311),some (.builtin "ValueError.__new__"),some (.bool true)]},
 {cls:= .type "super",data:= .fields #[.ref 109,.ref 109,.ref 109]},
 {cls:= .type "builtin_function_or_method",data:= .fields #[.builtin "object.__init_subclass__",.ref 109]},
 tu [.int 0 321,.int 1 322],
 tu [.int 1 324,.int 1 325],
 tu [],
 nf [],
 tu [vs "value" 330],
 tu [],
 ft 12 "is_whole",
 co "is_whole" 327 328 329 [i 21,i 1,i 0,i 0,i 3,.ref 114,.bool true,i 181,.ref 115,.none,.ref 116,.ref 117,.ref 118,i 331,i 21] 332,
 fo 12 "is_whole" HP 319 119,
 tu [],
 nf [],
 tu [vs "one" 337,vs "two" 338,vs "greater" 339,vs "smaller" 340,vs "rest" 341],
 tu [],
 ft 13 "common_divisor",
 co "common_divisor" 334 335 336 [i 23,i 2,i 0,i 0,i 3,.ref 121,.bool true,i 181,.ref 122,.none,.ref 123,.ref 124,.ref 125,i 342,i 23] 343,
 fo 13 "common_divisor" HP 319 126,
 tu [],
 nf [],
 tu [vs "top" 348,vs "bottom" 349,vs "divisor" 350],
 tu [],
 ft 14 "fraction",
 co "fraction" 345 346 347 [i 31,i 2,i 0,i 0,i 3,.ref 128,.bool true,i 181,.ref 129,.none,.ref 130,.ref 131,.ref 132,i 351,i 31] 352,
 fo 14 "fraction" HP 319 133,
 tu [],
 nf [],
 tu [vs "one" 357,vs "two" 358],
 tu [],
 ft 15 "plus",
 co "plus" 354 355 356 [i 38,i 2,i 0,i 0,i 3,.ref 135,.bool true,i 181,.ref 136,.none,.ref 137,.ref 138,.ref 139,i 359,i 38] 360,
 fo 15 "plus" HP 319 140,
 tu [],
 nf [],
 tu [vs "one" 365,vs "two" 366],
 tu [],
 ft 16 "minus",
 co "minus" 362 363 364 [i 40,i 2,i 0,i 0,i 3,.ref 142,.bool true,i 181,.ref 143,.none,.ref 144,.ref 145,.ref 146,i 367,i 40] 368,
 fo 16 "minus" HP 319 147,
 tu [],
 nf [],
 tu [vs "one" 373,vs "two" 374],
 tu [],
 ft 17 "times",
 co "times" 370 371 372 [i 42,i 2,i 0,i 0,i 3,.ref 149,.bool true,i 181,.ref 150,.none,.ref 151,.ref 152,.ref 153,i 375,i 42] 376,
 fo 17 "times" HP 319 154,
 tu [],
 nf [],
 tu [vs "one" 381,vs "two" 382],
 tu [],
 ft 18 "before",
 co "before" 378 379 380 [i 44,i 2,i 0,i 0,i 3,.ref 156,.bool true,i 181,.ref 157,.none,.ref 158,.ref 159,.ref 160,i 383,i 44] 384,
 fo 18 "before" HP 319 161,
 tu [],
 nf [],
 tu [vs "parts" 389,vs "so_far" 390,vs "part" 391],
 tu [],
 ft 19 "total",
 co "total" 386 387 388 [i 46,i 1,i 0,i 0,i 3,.ref 163,.bool true,i 181,.ref 164,.none,.ref 165,.ref 166,.ref 167,i 392,i 46] 393,
 fo 19 "total" HP 319 168,
 tu [],
 nf [],
 tu [vs "parts" 398,vs "smallest" 399,vs "part" 400],
 tu [],
 ft 20 "least",
 co "least" 395 396 397 [i 51,i 1,i 0,i 0,i 3,.ref 170,.bool true,i 181,.ref 171,.none,.ref 172,.ref 173,.ref 174,i 401,i 51] 402,
 fo 20 "least" HP 319 175,
 tu [],
 nf [],
 ft 22 "best_left",
 co "best_left" 406 407 408 [i 58,i 2,i 0,i 0,i 3,.ref 177,.bool true,i 181,.ref 178,.none,.none,.none,.ref 179,i 409,i 58] 410,
 fo 22 "best_left" IN 404 180,
 tu [],
 nf [],
 ft 23 "time_to_stop",
 co "time_to_stop" 412 413 414 [i 60,i 2,i 0,i 0,i 3,.ref 182,.bool true,i 181,.ref 183,.none,.none,.none,.ref 184,i 415,i 60] 416,
 fo 23 "time_to_stop" IN 404 185,
 tu [],
 nf [],
 ft 24 "left_behind",
 co "left_behind" 418 419 420 [i 62,i 3,i 0,i 0,i 3,.ref 187,.bool true,i 181,.ref 188,.none,.none,.none,.ref 189,i 421,i 62] 422,
 fo 24 "left_behind" IN 404 190,
 tu [],
 nf [],
 ft 25 "courses_of",
 co "courses_of" 424 425 426 [i 64,i 1,i 0,i 0,i 3,.ref 192,.bool true,i 181,.ref 193,.none,.none,.none,.ref 194,i 427,i 64] 428,
 fo 25 "courses_of" IN 404 195,
 tu [],
 nf [],
 ft 26 "eaten_of",
 co "eaten_of" 430 431 432 [i 74,i 3,i 0,i 0,i 3,.ref 197,.bool true,i 181,.ref 198,.none,.none,.none,.ref 199,i 433,i 74] 434,
 fo 26 "eaten_of" IN 404 200,
 tu [],
 nf [],
 ft 27 "eaten_by",
 co "eaten_by" 436 437 438 [i 76,i 3,i 0,i 0,i 3,.ref 202,.bool true,i 181,.ref 203,.none,.none,.none,.ref 204,i 439,i 76] 440,
 fo 27 "eaten_by" IN 404 205,
 tu [],
 nf [],
 ft 28 "eaten",
 co "eaten" 442 443 444 [i 78,i 1,i 0,i 0,i 3,.ref 207,.bool true,i 181,.ref 208,.none,.none,.none,.ref 209,i 445,i 78] 446,
 fo 28 "eaten" IN 404 210,
 tu [],
 nf [],
 tu [vs "left" 453,vs "begun" 454,vs "person" 455,vs "thing" 456,vs "part" 457,vs "deal" 458],
 tu [],
 ft 30 "deal_within",
 co "deal_within" 450 451 452 [i 82,i 2,i 0,i 0,i 3,.ref 212,.bool true,i 181,.ref 213,.none,.ref 214,.ref 215,.ref 216,i 459,i 82] 460,
 fo 30 "deal_within" Kd 448 217,
 tu [],
 nf [],
 tu [vs "row" 465,vs "thing" 466,vs "weight" 467,vs "rest" 468],
 tu [],
 ft 31 "row_without",
 co "row_without" 462 463 464 [i 92,i 3,i 0,i 0,i 3,.ref 219,.bool true,i 181,.ref 220,.none,.ref 221,.ref 222,.ref 223,i 469,i 92] 470,
 fo 31 "row_without" Kd 448 224,
 tu [],
 nf [],
 ft 32 "lots_of",
 co "lots_of" 472 473 474 [i 96,i 1,i 0,i 0,i 3,.ref 226,.bool true,i 181,.ref 227,.none,.none,.none,.ref 228,i 475,i 96] 476,
 fo 32 "lots_of" Kd 448 229,
 tu [],
 nf [],
 tu [vs "lots" 481,vs "number" 482,vs "place" 483,vs "so_far" 484],
 tu [],
 ft 33 "picked",
 co "picked" 478 479 480 [i 107,i 2,i 0,i 0,i 3,.ref 231,.bool true,i 181,.ref 232,.none,.ref 233,.ref 234,.ref 235,i 485,i 107] 486,
 fo 33 "picked" Kd 448 236,
 tu [],
 nf [],
 tu [vs "value" 495],
 tu [],
 ft 36 "is_listing",
 co "is_listing" 492 493 494 [i 118,i 1,i 0,i 0,i 3,.ref 238,.bool true,i 181,.ref 239,.none,.ref 240,.ref 241,.ref 242,i 496,i 118] 497,
 fo 36 "is_listing" "wishlots.tables" 488 243,
 tu [],
 nf [],
 tu [vs "rows" 502],
 tu [],
 ft 37 "has_people",
 co "has_people" 499 500 501 [i 120,i 1,i 0,i 0,i 3,.ref 245,.bool true,i 181,.ref 246,.none,.ref 247,.ref 248,.ref 249,i 503,i 120] 504,
 fo 37 "has_people" "wishlots.tables" 488 250,
 tu [],
 nf [],
 ft 39 "best_free",
 co "best_free" 508 509 510 [i 123,i 2,i 0,i 0,i 3,.ref 252,.bool true,i 181,.ref 253,.none,.none,.none,.ref 254,i 511,i 123] 512,
 fo 39 "best_free" IS 506 255,
 tu [],
 nf [],
 tu [vs "numbers" 517,vs "number" 518],
 tu [],
 ft 40 "with_one",
 co "with_one" 514 515 516 [i 125,i 2,i 0,i 0,i 3,.ref 257,.bool true,i 181,.ref 258,.none,.ref 259,.ref 260,.ref 261,i 519,i 125] 520,
 fo 40 "with_one" IS 506 262,
 tu [],
 nf [],
 ft 41 "turns_from",
 co "turns_from" 522 523 524 [i 127,i 3,i 0,i 0,i 3,.ref 264,.bool true,i 181,.ref 265,.none,.none,.none,.ref 266,i 525,i 127] 526,
 fo 41 "turns_from" IS 506 267,
 tu [],
 nf [],
 tu [vs "count" 531,vs "orders" 532,vs "number" 533],
 tu [],
 ft 42 "orders_of",
 co "orders_of" 528 529 530 [i 130,i 1,i 0,i 0,i 3,.ref 269,.bool true,i 181,.ref 270,.none,.ref 271,.ref 272,.ref 273,i 534,i 130] 535,
 fo 42 "orders_of" IS 506 274,
 tu [],
 nf [],
 tu [vs "wishes" 540,vs "counts" 541,vs "beginnings" 542,vs "turn" 543,vs "endings" 544,vs "longer" 545,vs "beginning" 546,vs "number" 547,vs "person" 548,vs "thing" 549,vs "state" 550],
 tu [],
 ft 43 "counts_of",
 co "counts_of" 537 538 539 [i 135,i 1,i 0,i 0,i 3,.ref 276,.bool true,i 181,.ref 277,.none,.ref 278,.ref 279,.ref 280,i 551,i 135] 552,
 fo 43 "counts_of" IS 506 281,
 tu [],
 nf [],
 ft 44 "shares_by_turns",
 co "shares_by_turns" 554 555 556 [i 148,i 3,i 0,i 0,i 3,.ref 283,.bool true,i 181,.ref 284,.none,.none,.none,.ref 285,i 557,i 148] 558,
 fo 44 "shares_by_turns" IS 506 286,
 tu [],
 nf [],
 ft 45 "by_turns",
 co "by_turns" 560 561 562 [i 151,i 1,i 0,i 0,i 3,.ref 288,.bool true,i 181,.ref 289,.none,.none,.none,.ref 290,i 563,i 151] 564,
 fo 45 "by_turns" IS 506 291,
 tu [],
 nf [],
 ft 48 "is_word",
 co "is_word" 570 571 572 [i 156,i 1,i 0,i 0,i 3,.ref 293,.bool true,i 181,.ref 294,.none,.none,.none,.ref 295,i 573,i 156] 574,
 fo 48 "is_word" GC 566 296,
 tu [],
 nf [],
 ft 49 "is_roll",
 co "is_roll" 576 577 578 [i 160,i 1,i 0,i 0,i 3,.ref 298,.bool true,i 181,.ref 299,.none,.none,.none,.ref 300,i 579,i 160] 580,
 fo 49 "is_roll" GC 566 301,
 tu [],
 {cls:= .type "builtin_function_or_method",data:= .fields #[.builtin "type.__prepare__",.type "type"]},
 di [en P "__module__" 589 (vs GC 566),en P "__qualname__" 591 (vs "Book" 590),en P "__firstlineno__" 593 (.int 162 592),en P "__init__" 602 (.ref 316),en P "check_person" 610 (.ref 323),en P "wish" 616 (.ref 328),en P "lacking" 622 (.ref 333),en P "table_by" 628 (.ref 338),en P "shares" 634 (.ref 343),en P "deal" 640 (.ref 348),en P "__static_attributes__" 644 (.ref 349)] 11,
 tu [],
 nf [i 164,i 4,.ref 315,i 171,i 4,.ref 322,i 175,i 4,.ref 327,i 182,i 4,.ref 332,i 185,i 4,.ref 337,i 195,i 4,.ref 342,i 201,i 4,.ref 347],
 co "Book" 584 585 586 [i 162,i 0,i 0,i 0,i 0,.ref 306,.bool false,i 181,.ref 307,.none,.none,.none,.none,i 587,i 162] 588,
 {cls:= .type "frame",slots:= #[some (.ref 308),some (.ref 3),some (.ref 305),none,some (vs GC 566),none,some (.ref 0)]},
 tu [],
 nf [],
 tu [vs "self" 597,vs "people" 598,vs "things" 599],
 tu [],
 fc 50 0 "__init__" "Book.__init__",
 cq "__init__" "Book.__init__" 594 595 596 [i 164,i 3,i 0,i 0,i 3,.ref 310,.bool true,i 181,.ref 311,.none,.ref 312,.ref 313,.ref 314,i 600,i 164] 601,
 fm 50 0 "__init__" "Book.__init__" GC 566 315,
 tu [],
 nf [],
 tu [vs "self" 606,vs "person" 607],
 tu [],
 fc 50 1 "check_person" "Book.check_person",
 cq "check_person" "Book.check_person" 603 604 605 [i 171,i 2,i 0,i 0,i 3,.ref 317,.bool true,i 181,.ref 318,.none,.ref 319,.ref 320,.ref 321,i 608,i 171] 609,
 fm 50 1 "check_person" "Book.check_person" GC 566 322,
 tu [],
 nf [],
 fc 50 2 "wish" "Book.wish",
 cq "wish" "Book.wish" 611 612 613 [i 175,i 3,i 0,i 0,i 3,.ref 324,.bool true,i 181,.ref 325,.none,.none,.none,.ref 326,i 614,i 175] 615,
 fm 50 2 "wish" "Book.wish" GC 566 327,
 tu [],
 nf [],
 fc 50 3 "lacking" "Book.lacking",
 cq "lacking" "Book.lacking" 617 618 619 [i 182,i 1,i 0,i 0,i 3,.ref 329,.bool true,i 181,.ref 330,.none,.none,.none,.ref 331,i 620,i 182] 621,
 fm 50 3 "lacking" "Book.lacking" GC 566 332,
 tu [],
 nf [],
 fc 50 4 "table_by" "Book.table_by",
 cq "table_by" "Book.table_by" 623 624 625 [i 185,i 2,i 0,i 0,i 3,.ref 334,.bool true,i 181,.ref 335,.none,.none,.none,.ref 336,i 626,i 185] 627,
 fm 50 4 "table_by" "Book.table_by" GC 566 337,
 tu [],
 nf [],
 fc 50 5 "shares" "Book.shares",
 cq "shares" "Book.shares" 629 630 631 [i 195,i 3,i 0,i 0,i 3,.ref 339,.bool true,i 181,.ref 340,.none,.none,.none,.ref 341,i 632,i 195] 633,
 fm 50 5 "shares" "Book.shares" GC 566 342,
 tu [],
 nf [],
 fc 50 6 "deal" "Book.deal",
 cq "deal" "Book.deal" 635 636 637 [i 201,i 3,i 0,i 0,i 3,.ref 344,.bool true,i 181,.ref 345,.none,.none,.none,.ref 346,i 638,i 201] 639,
 fm 50 6 "deal" "Book.deal" GC 566 347,
 tu [vs "people" 641,vs "things" 642,vs "wishes_told" 643],
 di [en P "__module__" 589 (vs GC 566),en P "__firstlineno__" 593 (.int 162 592),en P "__init__" 602 (.ref 316),en P "check_person" 610 (.ref 323),en P "wish" 616 (.ref 328),en P "lacking" 622 (.ref 333),en P "table_by" 628 (.ref 338),en P "shares" 634 (.ref 343),en P "deal" 640 (.ref 348),en P "__static_attributes__" 644 (.ref 349),en P "__dict__" 646 (.ref 352),en P "__weakref__" 648 (.ref 353),en P "__doc__" 649 (.none)] 4,
 {cls:= .type "type",data:= .cls {name:="Book",bases:=[.type "object"],mro:=[.ref 351,.type "object"],ns:=350,qualname:="Book"},slots:= #[none,none,some (vs "Book" 582),some (vs "Book" 590),some (.builtin "object.__new__"),some (.bool true)]},
 {cls:= .type "getset_descriptor",data:= .fields #[vs "__dict__" 645,.ref 351,.builtin "function.__dict__",.builtin "function.__dict__#set"]},
 {cls:= .type "getset_descriptor",data:= .fields #[vs "__weakref__" 647,.ref 351,.builtin "ExceptionGroup.__weakref__",.none]},
 {cls:= .type "super",data:= .fields #[.ref 351,.ref 351,.ref 351]},
 {cls:= .type "builtin_function_or_method",data:= .fields #[.builtin "object.__init_subclass__",.ref 351]},
 tu [],
 nf [],
 tu [vs "_law_script" 657,vs "_law_k" 658],
 tu [],
 ft 52 "_law_cell_at",
 co "_law_cell_at" 654 655 656 [i 206,i 2,i 0,i 0,i 3,.ref 356,.bool true,i 181,.ref 357,.none,.ref 358,.ref 359,.ref 360,i 659,i 206] 660,
 fo 52 "_law_cell_at" Fx 652 361,
 tu [],
 nf [],
 tu [vs "_law_cell" 665,vs "_law_many" 666,vs "_law_found" 667,vs "_law_number" 668,vs "_law_k" 669],
 tu [],
 ft 53 "_law_mixed",
 co "_law_mixed" 662 663 664 [i 210,i 2,i 0,i 0,i 3,.ref 363,.bool true,i 181,.ref 364,.none,.ref 365,.ref 366,.ref 367,i 670,i 210] 671,
 fo 53 "_law_mixed" Fx 652 368,
 tu [],
 nf [],
 tu [vs "_law_number" 676,vs "_law_count" 677,vs "_law_found" 678,vs "_law_k" 679],
 tu [],
 ft 54 "_law_perm",
 co "_law_perm" 673 674 675 [i 223,i 2,i 0,i 0,i 3,.ref 370,.bool true,i 181,.ref 371,.none,.ref 372,.ref 373,.ref 374,i 680,i 223] 681,
 fo 54 "_law_perm" Fx 652 375,
 tu [],
 nf [],
 tu [vs "_law_one" 686,vs "_law_other" 687,vs "_law_rest" 688],
 tu [],
 ft 55 "_law_divisor",
 co "_law_divisor" 683 684 685 [i 229,i 2,i 0,i 0,i 3,.ref 377,.bool true,i 181,.ref 378,.none,.ref 379,.ref 380,.ref 381,i 689,i 229] 690,
 fo 55 "_law_divisor" Fx 652 382,
 tu [],
 nf [],
 tu [vs "_law_top" 695,vs "_law_bottom" 696,vs "_law_share" 697],
 tu [],
 ft 56 "_law_lowest",
 co "_law_lowest" 692 693 694 [i 235,i 2,i 0,i 0,i 3,.ref 384,.bool true,i 181,.ref 385,.none,.ref 386,.ref 387,.ref 388,i 698,i 235] 699,
 fo 56 "_law_lowest" Fx 652 389,
 tu [],
 nf [],
 tu [vs "_law_cell" 704,vs "_law_size" 705,vs "_law_found" 706,vs "_law_rest" 707,vs "_law_k" 708],
 tu [],
 ft 57 "_law_base",
 co "_law_base" 701 702 703 [i 242,i 2,i 0,i 0,i 3,.ref 391,.bool true,i 181,.ref 392,.none,.ref 393,.ref 394,.ref 395,i 709,i 242] 710,
 fo 57 "_law_base" Fx 652 396,
 tu [],
 nf [],
 tu [vs "_law_base_here" 715,vs "_law_place" 716,vs "_law_size" 717,vs "_law_k" 718,vs "_law_letters" 719,vs "_law_other" 720],
 tu [],
 ft 58 "_law_word",
 co "_law_word" 712 713 714 [i 254,i 4,i 0,i 0,i 3,.ref 398,.bool true,i 181,.ref 399,.none,.ref 400,.ref 401,.ref 402,i 721,i 254] 722,
 fo 58 "_law_word" Fx 652 403,
 tu [],
 nf [],
 tu [vs "_law_script" 727,vs "_law_at" 728,vs "_law_many" 729,vs "_law_cell" 730,vs "_law_size" 731,vs "_law_base_here" 732,vs "_law_words_here" 733,vs "_law_k" 734,vs "_law_word_here" 735],
 tu [],
 ft 59 "_law_words",
 co "_law_words" 724 725 726 [i 258,i 3,i 0,i 0,i 3,.ref 405,.bool true,i 181,.ref 406,.none,.ref 407,.ref 408,.ref 409,i 736,i 258] 737,
 fo 59 "_law_words" Fx 652 410,
 tu [],
 nf [],
 tu [vs "_law_found" 742,vs "_law_due" 743,vs "_law_k" 744],
 tu [],
 ft 60 "_law_same",
 co "_law_same" 739 740 741 [i 269,i 2,i 0,i 0,i 3,.ref 412,.bool true,i 181,.ref 413,.none,.ref 414,.ref 415,.ref 416,i 745,i 269] 746,
 fo 60 "_law_same" Fx 652 417,
 tu [],
 nf [],
 tu [vs "_law_way" 751,vs "_law_wishes" 752],
 tu [],
 ft 61 "_law_table_by",
 co "_law_table_by" 748 749 750 [i 286,i 2,i 0,i 0,i 3,.ref 419,.bool true,i 181,.ref 420,.none,.ref 421,.ref 422,.ref 423,i 753,i 286] 754,
 fo 61 "_law_table_by" Fx 652 424,
 tu [],
 nf [],
 ft 62 "_law_shares_well",
 co "_law_shares_well" 756 757 758 [i 290,i 6,i 0,i 0,i 3,.ref 426,.bool true,i 181,.ref 427,.none,.none,.none,.ref 428,i 759,i 290] 760,
 fo 62 "_law_shares_well" Fx 652 429,
 tu [],
 nf [],
 ft 63 "_law_deal_well",
 co "_law_deal_well" 762 763 764 [i 299,i 6,i 0,i 0,i 3,.ref 431,.bool true,i 181,.ref 432,.none,.none,.none,.ref 433,i 765,i 299] 766,
 fo 63 "_law_deal_well" Fx 652 434,
 tu [],
 nf [],
 ft 64 "_law_wish",
 co "_law_wish" 768 769 770 [i 308,i 6,i 0,i 0,i 3,.ref 436,.bool true,i 181,.ref 437,.none,.none,.none,.ref 438,i 771,i 308] 772,
 fo 64 "_law_wish" Fx 652 439,
 tu [],
 nf [],
 ft 65 "_law_refused",
 co "_law_refused" 774 775 776 [i 311,i 4,i 0,i 0,i 3,.ref 441,.bool true,i 181,.ref 442,.none,.none,.none,.ref 443,i 777,i 311] 778,
 fo 65 "_law_refused" Fx 652 444,
 tu [],
 nf [],
 tu [vs "_law_book" 783,vs "_law_people" 784,vs "_law_things" 785,vs "_law_wishes" 786,vs "_law_xs" 787,vs "_law_place" 788,vs "_law_way" 789,vs "_law_number" 790],
 tu [],
 ft 66 "_law_deed",
 co "_law_deed" 780 781 782 [i 325,i 5,i 0,i 0,i 3,.ref 446,.bool true,i 181,.ref 447,.none,.ref 448,.ref 449,.ref 450,i 791,i 325] 792,
 fo 66 "_law_deed" Fx 652 451,
 tu [],
 nf [],
 ft 67 "law",
 co "law" 794 795 796 [i 336,i 1,i 0,i 0,i 3,.ref 453,.bool true,i 181,.ref 454,.none,.none,.none,.ref 455,i 797,i 336] 798,
 fo 67 "law" Fx 652 456]
noncomputable def hp(m f e:Nat)(x:cA)(P:Params):Heap:={objs:=((((obs P).take m).set 3 (di (en P "__name__" 165 x::(KY P).tail.take e) (e+1))).set 12 (nf (MU.take f))).toArray}
noncomputable def all(P:Params):List Obj:=(obs P).set 3 (di (KY P) 69)
def LX:List cG:=[3,23,24,25,36,37,48,49,60,61,72,73,84,85,96,97,108,109,112,113,119,120,126,127,133,134,140,141,147,148,154,155,161,162,168,169,175,176,180,181,185,186,190,191,195,196,200,201,205,206,210,211,217,218,224,225,229,230,236,237,243,244,250,251,255,256,262,263,267,268,274,275,281,282,286,287,291,292,296,297,301,302,315,316,322,323,327,328,332,333,337,338,342,343,347,348,350,351,352,353,361,362,368,369,375,376,382,383,389,390,396,397,403,404,410,411,417,418,424,425,429,430,434,435,439,440,444,445,451,452,456,457]
noncomputable def K0(P:Params):cu:=LX.map λa=>(a,(all P).getD a default)
theorem DY:∀P,LX=(K0 P).map (·.1):=λ_=>rfl
noncomputable abbrev hk:Hook:=kHook K0 LX DY
def vw:cT:={cJ with main:={cJ.main with body:=[Eb 1,Eb 2,Eb 3,Eb 4,Eb 5,Eb 6,Eb 7,Eb 8,Eb 10,Eb 11,Eb 12,Eb 13,Eb 14,Eb 15,Eb 16,Eb 17,Eb 18,Eb 19,Eb 20,Eb 22,Eb 23,Eb 24,Eb 25,Eb 26,Eb 27,Eb 28,Eb 30,Eb 31,Eb 32,Eb 33,Eb 35,Eb 36,Eb 37,Eb 39,Eb 40,Eb 41,Eb 42,Eb 43,Eb 44,Eb 45,Eb 47,Eb 48,Eb 49,Eb 50,Eb 52,Eb 53,Eb 54,Eb 55,Eb 56,Eb 57,Eb 58,Eb 59,Eb 60,Eb 61,Eb 62,Eb 63,Eb 64,Eb 65,Eb 66,Eb 67]}}
def MG:List Stmt:=[Eb 0,Eb 1,Eb 2,Eb 3,Eb 4,Eb 5,Eb 6,Eb 7,Eb 8]
def Mw:List Stmt:=[Eb 9,Eb 10,Eb 11,Eb 12,Eb 13,Eb 14,Eb 15,Eb 16,Eb 17,Eb 18,Eb 19,Eb 20,Eb 21,Eb 22,Eb 23,Eb 24]
def MF:List Stmt:=[Eb 25,Eb 26,Eb 27,Eb 28,Eb 29,Eb 30,Eb 31,Eb 32,Eb 33,Eb 34,Eb 35,Eb 36,Eb 37,Eb 38,Eb 39,Eb 40]
def My:List Stmt:=[Eb 41,Eb 42,Eb 43,Eb 44,Eb 45,Eb 46,Eb 47,Eb 48,Eb 49]
def MH:List Stmt:=[Eb 50]
def Mz:List Stmt:=[Eb 51,Eb 52,Eb 53,Eb 54,Eb 55,Eb 56,Eb 57,Eb 58,Eb 59,Eb 60,Eb 61,Eb 62,Eb 63]
def MD:List Stmt:=[Eb 64,Eb 65,Eb 66,Eb 67]
def bd:List Stmt:=MG++(Mw++(MF++(My++(MH++(Mz++(MD++([])))))))
def ev:Env:={scope:=cJ.main.scope,locals:=mainNs,globals:=mainNs,cells:=[],code:= .ref 13,frame:=some 14}
def cE:Code:= .body bd ev
abbrev tf:List Frame:=[topFrame ⟨0,0,0,0⟩]
noncomputable def hA(P:Params):Heap:={objs:=((obs P).take 15).toArray}
theorem pre(w:dc)(os:OsState):topGo treeTable cJ w 11 (some (.ref 6)) 12 ⟨jo w.params,Array.mk [],eh,p9,os⟩ (topStub cJ)=some (⟨hA w.params,Array.mk [],eh,187,os⟩,⟨denote treeTable cE,cE,⟨0,0,0,0⟩,tf⟩):=by kernel_rfl
theorem MS(w:dc)(os:OsState):segRun treeTable cJ w 11 (some (.ref 6)) 1 1 ⟨hA w.params,Array.mk [],eh,187,os⟩ (blockOf bd ev cE ⟨0,0,0,0⟩ tf)=some (.next,⟨hA w.params,Array.mk [],eh,187,os⟩,cE,⟨0,0,0,0⟩):=by kernel_rfl
noncomputable def h0:Params->Heap:=hp 112 24 16 (vs "wishlots.errors" 187)
theorem g0(w:dc)(os:OsState):segRun treeTable cJ w 11 (some (.ref 6)) 1 1687 ⟨hA w.params,Array.mk [],eh,187,os⟩ (piecesOf MG ev cE ⟨0,0,0,0⟩ tf)=some (.next,⟨h0 w.params,Array.mk [],eh,319,os⟩,cE,⟨16,0,17,8⟩):=by kernel_rfl
noncomputable def h1:Params->Heap:=hp 192 60 30 (vs IN 404)
theorem g1(w:dc)(os:OsState):segRun treeTable cJ w 11 (some (.ref 6)) 1 396 ⟨h0 w.params,Array.mk [],eh,319,os⟩ (piecesOf Mw ev cE ⟨16,0,17,8⟩ tf)=some (.next,⟨h1 w.params,Array.mk [],eh,424,os⟩,cE,⟨62,0,63,100⟩):=by kernel_rfl
noncomputable def h2:Params->Heap:=hp 264 96 43 (vs IS 506)
theorem g2(w:dc)(os:OsState):segRun treeTable cJ w 11 (some (.ref 6)) 1 379 ⟨h1 w.params,Array.mk [],eh,424,os⟩ (piecesOf MF ev cE ⟨62,0,63,100⟩ tf)=some (.next,⟨h2 w.params,Array.mk [],eh,522,os⟩,cE,⟨125,0,126,45⟩):=by kernel_rfl
noncomputable def h3:Params->Heap:=hp 303 117 51 (vs GC 566)
theorem g3(w:dc)(os:OsState):segRun treeTable cJ w 11 (some (.ref 6)) 1 219 ⟨h2 w.params,Array.mk [],eh,522,os⟩ (piecesOf My ev cE ⟨125,0,126,45⟩ tf)=some (.next,⟨h3 w.params,Array.mk [],eh,582,os⟩,cE,⟨160,0,161,107⟩):=by kernel_rfl
noncomputable def h4:Params->Heap:=hp 356 120 52 (vs GC 566)
theorem g4(w:dc)(os:OsState):segRun treeTable cJ w 11 (some (.ref 6)) 1 398 ⟨h3 w.params,Array.mk [],eh,582,os⟩ (piecesOf MH ev cE ⟨160,0,161,107⟩ tf)=some (.next,⟨h4 w.params,Array.mk [],eh,652,os⟩,cE,⟨162,0,204,44⟩):=by kernel_rfl
noncomputable def h5:Params->Heap:=hp 436 156 64 (vs Fx 652)
theorem g5(w:dc)(os:OsState):segRun treeTable cJ w 11 (some (.ref 6)) 1 384 ⟨h4 w.params,Array.mk [],eh,652,os⟩ (piecesOf Mz ev cE ⟨162,0,204,44⟩ tf)=some (.next,⟨h5 w.params,Array.mk [],eh,768,os⟩,cE,⟨299,0,307,15⟩):=by kernel_rfl
noncomputable def h6:Params->Heap:=hp 458 168 68 (vs Fx 652)
theorem g6(w:dc)(os:OsState):segRun treeTable cJ w 11 (some (.ref 6)) 1 115 ⟨h5 w.params,Array.mk [],eh,768,os⟩ (piecesOf MD ev cE ⟨299,0,307,15⟩ tf)=some (.next,⟨h6 w.params,Array.mk [],eh,800,os⟩,cE,⟨336,0,359,15⟩):=by kernel_rfl
theorem fin(w:dc)(os:OsState):topRun treeTable cJ w 11 (some (.ref 6)) 2 ⟨h6 w.params,Array.mk [],eh,800,os⟩ (restOf [] ev cE ⟨336,0,359,15⟩ tf)=some ⟨h6 w.params,Array.mk [],eh,800,os⟩:=by kernel_rfl
theorem run(w:dc)(os:OsState):topRun treeTable cJ w 11 (some (.ref 6)) (12+(1+(1687+(396+(379+(219+(398+(384+(115+(2)))))))))) ⟨jo w.params,Array.mk [],eh,p9,os⟩ (topStub cJ)=some ⟨h6 w.params,Array.mk [],eh,800,os⟩:=go_top (pre w os) (piece_block (MS w os) (j6 (g0 w os) (j6 (g1 w os) (j6 (g2 w os) (j6 (g3 w os) (j6 (g4 w os) (j6 (g5 w os) (j6 (g6 w os) (fin w os)))))))))
theorem MM:∀w:dc,(fencedOpening treeTable cJ w 7866).map (λs=>(s.heap,s.gens,s.drawn,s.toks))=some (jo w.params,Array.mk [],eh,p9):=boot_open (by kernel_rfl) rfl λs=>by kernel_rfl
theorem size:∀w:dc,((jo w.params).isNs fB&&(Array.mk []:Array GenState).size==0,(jo w.params).objs.size,(jo w.params).nsMap fB "__annotations__")=(true,11,some (.ref 6)):=λw=>by kernel_rfl
abbrev xt:cD->Bool:=λs=>xlAt vw [] s&&recOk (RowW.records (OpenRow.toRowW f6.row)) s
theorem Lu:∀w:dc,(λos=>((staticsOk (importedModules cJ.main.body) (jo w.params) (h6 w.params)&&namesBound cJ (h6 w.params)&&gensDone ⟨h6 w.params,Array.mk [],eh,800,os⟩&&laidKept (jo w.params) (h6 w.params)),openSeen vw [] (importedModules cJ.main.body) xt true ⟨h6 w.params,Array.mk [],eh,800,os⟩,hk.obs ⟨h6 w.params,Array.mk [],eh,800,os⟩))=λ_=>(true,openGood vw [],hk.val w):=λw=>by kernel_rfl
theorem MP:LeftO cJ vw [] xt hk.obs hk.val 7866:=LeftO.of_pieces MM size run rfl Lu
theorem ES{K:Frag}{h:Heap}{mg:Str->Option cA}{n:Str}{st:Stmt}(f c:cG)(pm:cA)(X:K.In h)(G:h.Ns fB mg)
  (e:(nsIn K fB n,K.lookup f,codeIn K (.ref c) n,keepIn K (.ref f))=(some (some (.ref f)),some ⟨.type "function",none,.func (fnOf n n (Ej st) (Ef st) (D7 st) .none .none .none pm none (.ref c) .none),#[]⟩,true,true)):Def K mg n st:=by
 have b:=Prod.mk.inj e
 have a:=Prod.mk.inj b.2
 have d:=Prod.mk.inj a.2
 exact⟨_,_,yQ (st:=st) a.1 d.1 d.2,kG X G b.1⟩
theorem KR{K:Frag}{C:cG}{m q:Str}{st:Stmt}(f c:cG)(pm:cA)
  (e:((findIn K (.ref C) m,isFn K (.ref f)),K.lookup f,codeIn K (.ref c) q,keepIn K (.ref f))=((some (some (.ref f)),true),some ⟨.type "function",none,.func (fnOf m q (Ej st) (Ef st) (D7 st) .none .none .none pm none (.ref c) .none),#[]⟩,true,true)):MDef K C m q st:=by
 have g:=Prod.mk.inj e
 have b:=Prod.mk.inj g.1
 have d:=Prod.mk.inj g.2
 have a:=Prod.mk.inj d.2
 exact⟨_,_,yQ (st:=st) d.1 a.1 a.2,b.1,b.2,a.2⟩
theorem MI{K:Frag}{h:Heap}{mg:Str->Option cA}{C:cG}{x q:Str}{st:Stmt}(f c:cG)(pm:cA)(X:K.In h)(G:h.Ns fB mg)
  (e0:(makesIn K C,findIn K (.ref C) "__init__",isFn K (.ref f),keepIn K (.ref C),nsIn K fB x)=(true,some (some (.ref f)),true,true,some (some (.ref C))))
  (e:(K.lookup f,codeIn K (.ref c) q,keepIn K (.ref f))=(some ⟨.type "function",none,.func (fnOf "__init__" q (Ej st) (Ef st) (D7 st) .none .none .none pm none (.ref c) .none),#[]⟩,true,true)):BDef K mg C x q st:=by
 have a:=Prod.mk.inj e0
 have j:=Prod.mk.inj a.2
 have b:=Prod.mk.inj j.2
 have d:=Prod.mk.inj b.2
 have g:=Prod.mk.inj e
 have k:=Prod.mk.inj g.2
 exact⟨_,_,yQ (st:=st) g.1 k.1 k.2,⟨a.1,j.1,b.1,d.1⟩,kG X G d.2⟩
theorem all_mk{l:OpenLaw}{w:dc}{K:Frag}{h:Heap}{mg:Str->Option cA}{fa:cG}{x:Xs}{cB:cG}(f c:cG)(pm:cA)(X:K.In h)(G:h.Ns fB mg)(hfa:mg "law"=some (.ref fa))(M:Md K mg x cB)
  (e:(nsIn K fB "law",K.lookup f,codeIn K (.ref c) "law",keepIn K (.ref f))=(some (some (.ref f)),some ⟨.type "function",none,.func (fnOf "law" "law" (Ej (Eb 67)) (Ef (Eb 67)) (D7 (Eb 67)) .none .none .none pm none (.ref c) .none),#[]⟩,true,true)):
  ∃fd:FuncData,(∀(s:cD) (v:cA),BindsTo s fd ⟨[v],[]⟩ [("_law_script",v)])/\∀base:Heap,K.In base->base.Ns fB mg->FnOk l.prog w K mg base Eh 12 fa fd ["_law_script"] (Jj K):=by
 have e1:=Prod.mk.inj e
 have e2:=Prod.mk.inj e1.2
 have e3:=Prod.mk.inj e2.2
 have e4:=hfa.symm.trans (kG X G e1.1)
 cases e4
 refine⟨fnOf "law" "law" (Ej (Eb 67)) (Ef (Eb 67)) (D7 (Eb 67)) .none .none .none pm none (.ref c) .none,λs v=> .of_eq rfl,λbase _ _=>?_⟩
 have ak:=IO (P:=l.prog) (w:=w) (base:=base) M
 have u:=Gd (P:=l.prog) (w:=w) (base:=base) M
 have d:=IG (P:=l.prog) (w:=w) (base:=base) M ak u
 have af:=KH (P:=l.prog) (w:=w) (base:=base) M d
 have ap:=J3 (P:=l.prog) (w:=w) (base:=base) M d
 have al:=J8 (P:=l.prog) (w:=w) (base:=base) M d
 have W:=Jz (P:=l.prog) (w:=w) (base:=base) M
 have am:=J5 (P:=l.prog) (w:=w) (base:=base) M af
 have ao:=J0 (P:=l.prog) (w:=w) (base:=base) M W
 have ab:=Ig (P:=l.prog) (w:=w) (base:=base) M
 have E:=GM (P:=l.prog) (w:=w) (base:=base) M al ao
 have I:=GY (P:=l.prog) (w:=w) (base:=base) M ap al
 have S:=Hu (P:=l.prog) (w:=w) (base:=base) M (am.imp λ_ _ _ _=>DA) ab E I
 have ah:=IV (P:=l.prog) (w:=w) (base:=base) M (am.imp λ_ _ _ _=>DA)
 have aj:=IU (P:=l.prog) (w:=w) (base:=base) M ah
 have ai:=JY (P:=l.prog) (w:=w) (base:=base) M S aj
 have W0:=M.f_deal_within.nothing (P:=l.prog) (w:=w) (base:=base) (ps:=["left","begun"]) (λ_ _ _ _ _ _ us hl=>match us,hl with|[_,_],_=>rfl)
 have W1:=Em (m:=0) M W0
 have W2:=Em (m:=1) M W1
 have W3:=Em (m:=2) M W2
 have W4:=Em (m:=3) M W3
 have W5:=Em (m:=4) M W4
 have W6:=Em (m:=5) M W5
 have H:=Em (m:=6) M W6
 have L:=G7 (P:=l.prog) (w:=w) (base:=base) M ap
 have J:=Jm (P:=l.prog) (w:=w) (base:=base) M H ao L af
 have Y:=JJ (P:=l.prog) (w:=w) (base:=base) M W af
 have T:=HN (P:=l.prog) (w:=w) (base:=base) M
 have V:=Ht (P:=l.prog) (w:=w) (base:=base) M T
 have Z:=Ij (P:=l.prog) (w:=w) (base:=base) M
 have an:=IM (P:=l.prog) (w:=w) (base:=base) M
 have Q:=Hz (P:=l.prog) (w:=w) (base:=base) M Z
 have q:=IB (P:=l.prog) (w:=w) (base:=base) M
 have aa:=HS (P:=l.prog) (w:=w) (base:=base) M q Q an
 have o:=F0 (P:=l.prog) (w:=w) (base:=base) M q d
 have B:=IL (P:=l.prog) (w:=w) (base:=base) M aa o
 have ar:=Jo (P:=l.prog) (w:=w) (base:=base) M
 have aq:=Jn (P:=l.prog) (w:=w) (base:=base) M V ar
 have A:=Gx (P:=l.prog) (w:=w) (base:=base) M aq
 have a:=Fy (P:=l.prog) (w:=w) (base:=base) M
 have y:=HQ (P:=l.prog) (w:=w) (base:=base) M a
 have D:=GN (P:=l.prog) (w:=w) (base:=base) M
 have g:=Gw (P:=l.prog) (w:=w) (base:=base) M D ai B
 have O:=GX (P:=l.prog) (w:=w) (base:=base) M a g
 have ag:=IE (P:=l.prog) (w:=w) (base:=base) M J g Y
 have k:=GO (P:=l.prog) (w:=w) (base:=base) M
 have U:=Hq (P:=l.prog) (w:=w) (base:=base) M
 have r:=Ix (P:=l.prog) (w:=w) (base:=base) M
 have ad:=IC (P:=l.prog) (w:=w) (base:=base) M
 have ac:=HW (P:=l.prog) (w:=w) (base:=base) M
 have R:=HK (P:=l.prog) (w:=w) (base:=base) M k ad ac
 have F:=GI (P:=l.prog) (w:=w) (base:=base) M
 have N:=G3 (P:=l.prog) (w:=w) (base:=base) M F
 have Y0:=M.f__law_same.nothing (P:=l.prog) (w:=w) (base:=base) (ps:=["_law_found","_law_due"]) (λ_ _ _ _ _ _ us hl=>match us,hl with|[_,_],_=>rfl)
 have Y1:=EV (n:=0) M Y0
 have Y2:=EV (n:=1) M Y1
 have Y3:=EV (n:=2) M Y2
 have z:=EV (n:=3) M Y3
 have j:=Gr (P:=l.prog) (w:=w) (base:=base) M ai B
 have b:=FN (P:=l.prog) (w:=w) (base:=base) M j O z
 have t:=Ga (P:=l.prog) (w:=w) (base:=base) M j J Y ag z
 have p:=Ii (P:=l.prog) (w:=w) (base:=base) M r y
 have C:=GP (P:=l.prog) (w:=w) (base:=base) M r y
 have ae:=HR (P:=l.prog) (w:=w) (base:=base) M p C b N t
 exact K5 (yQ (st:=Eb 67) e2.1 e3.1 e3.2) M k R A U p ae b
theorem walk{l:OpenLaw}{q:cT}{loose:List Str}{XP:(Str->Option cA)->Heap->Prop}{YP:dc->Heap->Prop}{d:DefRec}{K:Params->Frag}(hn:l.most=some 63)(hdf:d.params.defaults=[])
  (hY:∀(w:dc) (h:Heap),YP w h->(K w.params).In h)
  (F:∀(w:dc) (mg:Str->Option cA) (fa:cG) (h:Heap),(K w.params).In h->h.Ns fB mg->mg d.name=some (.ref fa)->
   ∃fd:FuncData,(∀(s:cD) (u:cA),BindsTo s fd ⟨[u],[]⟩ [("_law_script",u)])/\∀base:Heap,(K w.params).In base->base.Ns fB mg->FnOk l.prog w (K w.params) mg base Eh 12 fa fd ["_law_script"] (Jj (K w.params))):
  WalkO q loose XP YP l.row.toRowW d [] (λf vs=>oM f vs):=
 L2.walk_of (n:=63) (k:=12) (x:="_law_script") (CX:=λ_=>Eh) (sp:=λw=>Jj (K w.params)) hn (by decide) hdf ⟨rfl,by decide,by decide⟩ hY F (λ_ _ a c b _ e=>⟨a,c,rfl,e,b,λ_=>rfl⟩) λ_ _ _ _ _ z=>z
end Nk52
open PySem PySem.W PyProof.Rows L2 Nk52
set_option maxRecDepth 100000 in
set_option maxHeartbeats 0 in
theorem PySem.Challenge.cw_wishlots_k52_whole_book_holds : PySem.Challenge.rw_wishlots_k52_whole_book.Holds := by
 refine holds_law BJ λc=>?_
 refine holds_open (q:=vw) (loose:=[]) (Xt:=xt) (XP:=XL vw []) (Yf:=Hook.obs hk) (Ya:=Hook.val hk)
  (YP:=Hook.says hk) (N:=7866) ?hl (Hook.of _) (Hook.keeps _) (λs e=>xl_of s (mj.mp e).1)
  XL.keeps (by rfl) (by rfl) (by rfl) (λs e=>recFacts_of (mj.mp e).2) (by rfl) (by first|assumption|decide +kernel) (by decide +kernel) ⟨rfl,rfl,rfl,rfl,rfl,by decide +kernel⟩ ?hw ?hc
 case hl=>exact MP
 case hw=>w_witness2
 refine Nk52.walk (l:=f6) rfl rfl (λw h Y=>kIn_of Y) ?F
 case F=>
  intro w f d h a G b;refine Nk52.all_mk (x:=⟨24,37,49,0,61,0,73,85,97,109⟩) (cB:=351) 457 456 (vs Fx 652) a G b ?_ (by kernel_rfl);exact⟨ES 120 119 (vs HP 319) a G (by kernel_rfl),
   ES 127 126 (vs HP 319) a G (by kernel_rfl),
   ES 134 133 (vs HP 319) a G (by kernel_rfl),
   ES 141 140 (vs HP 319) a G (by kernel_rfl),
   ES 148 147 (vs HP 319) a G (by kernel_rfl),
   ES 155 154 (vs HP 319) a G (by kernel_rfl),
   ES 162 161 (vs HP 319) a G (by kernel_rfl),
   ES 169 168 (vs HP 319) a G (by kernel_rfl),
   ES 176 175 (vs HP 319) a G (by kernel_rfl),
   ES 181 180 (vs IN 404) a G (by kernel_rfl),
   ES 186 185 (vs IN 404) a G (by kernel_rfl),
   ES 191 190 (vs IN 404) a G (by kernel_rfl),
   ES 196 195 (vs IN 404) a G (by kernel_rfl),
   ES 201 200 (vs IN 404) a G (by kernel_rfl),
   ES 206 205 (vs IN 404) a G (by kernel_rfl),
   ES 211 210 (vs IN 404) a G (by kernel_rfl),
   ES 218 217 (vs Kd 448) a G (by kernel_rfl),
   ES 225 224 (vs Kd 448) a G (by kernel_rfl),
   ES 230 229 (vs Kd 448) a G (by kernel_rfl),
   ES 237 236 (vs Kd 448) a G (by kernel_rfl),
   ES 244 243 (vs "wishlots.tables" 488) a G (by kernel_rfl),
   ES 251 250 (vs "wishlots.tables" 488) a G (by kernel_rfl),
   ES 256 255 (vs IS 506) a G (by kernel_rfl),
   ES 263 262 (vs IS 506) a G (by kernel_rfl),
   ES 268 267 (vs IS 506) a G (by kernel_rfl),
   ES 275 274 (vs IS 506) a G (by kernel_rfl),
   ES 282 281 (vs IS 506) a G (by kernel_rfl),
   ES 287 286 (vs IS 506) a G (by kernel_rfl),
   ES 292 291 (vs IS 506) a G (by kernel_rfl),
   ES 297 296 (vs GC 566) a G (by kernel_rfl),
   ES 302 301 (vs GC 566) a G (by kernel_rfl),
   MI 316 315 (vs GC 566) a G (by kernel_rfl) (by kernel_rfl),
   ⟨by kernel_rfl,by kernel_rfl,by kernel_rfl,by kernel_rfl⟩,
   (show findIn _ _ _=some none by kernel_rfl),
   (show findIn _ _ _=some none by kernel_rfl),
   (show findIn _ _ _=some none by kernel_rfl),
   KR 323 322 (vs GC 566) (by kernel_rfl),
   KR 328 327 (vs GC 566) (by kernel_rfl),
   KR 333 332 (vs GC 566) (by kernel_rfl),
   KR 338 337 (vs GC 566) (by kernel_rfl),
   KR 343 342 (vs GC 566) (by kernel_rfl),
   KR 348 347 (vs GC 566) (by kernel_rfl),
   ES 362 361 (vs Fx 652) a G (by kernel_rfl),
   ES 369 368 (vs Fx 652) a G (by kernel_rfl),
   ES 376 375 (vs Fx 652) a G (by kernel_rfl),
   ES 397 396 (vs Fx 652) a G (by kernel_rfl),
   ES 404 403 (vs Fx 652) a G (by kernel_rfl),
   ES 411 410 (vs Fx 652) a G (by kernel_rfl),
   ES 383 382 (vs Fx 652) a G (by kernel_rfl),
   ES 390 389 (vs Fx 652) a G (by kernel_rfl),
   ES 418 417 (vs Fx 652) a G (by kernel_rfl),
   ES 425 424 (vs Fx 652) a G (by kernel_rfl),
   ES 430 429 (vs Fx 652) a G (by kernel_rfl),
   ES 435 434 (vs Fx 652) a G (by kernel_rfl),
   ES 440 439 (vs Fx 652) a G (by kernel_rfl),
   ES 445 444 (vs Fx 652) a G (by kernel_rfl),
   ES 452 451 (vs Fx 652) a G (by kernel_rfl),
   fE a G (by kernel_rfl),
   fE a G (by kernel_rfl),
   fE a G (by kernel_rfl),
   fE a G (by kernel_rfl),
   fE a G (by kernel_rfl),
   fE a G (by kernel_rfl),
   fE a G (by kernel_rfl),
   fE a G (by kernel_rfl),
   fE a G (by kernel_rfl),
   fE a G (by kernel_rfl),
   fE a G (by kernel_rfl),
   fE a G (by kernel_rfl),
   fE a G (by kernel_rfl),
   fE a G (by kernel_rfl),
   fE a G (by kernel_rfl),
   fE a G (by kernel_rfl),
   fE a G (by kernel_rfl),
   fE a G (by kernel_rfl),
   fE a G (by kernel_rfl),
   ⟨112,kG a G (by kernel_rfl),λ_=> .inr ⟨_,_,_,rfl,rfl,rfl,by show 2<=sizeLine;decide,(.cons ⟨_,rfl⟩ (.cons ⟨_,rfl⟩ .nil))⟩⟩,
   ⟨113,kG a G (by kernel_rfl),λ_=> .inr ⟨_,_,_,rfl,rfl,rfl,by show 2<=sizeLine;decide,(.cons ⟨_,rfl⟩ (.cons ⟨_,rfl⟩ .nil))⟩⟩,
   ⟨490,kG a G (by kernel_rfl)⟩,
   ⟨568,kG a G (by kernel_rfl)⟩,
   ⟨kG a G (by kernel_rfl),by kernel_rfl⟩,
   ⟨kG a G (by kernel_rfl),by kernel_rfl⟩,
   ⟨kG a G (by kernel_rfl),by kernel_rfl⟩,
   ⟨kG a G (by kernel_rfl),by kernel_rfl⟩,
   ⟨kG a G (by kernel_rfl),by kernel_rfl⟩,
   ⟨kG a G (by kernel_rfl),by kernel_rfl⟩,
   ⟨kG a G (by kernel_rfl),by kernel_rfl⟩,
   ⟨kG a G (by kernel_rfl),by kernel_rfl⟩,
   by kernel_rfl⟩
#print axioms PySem.Challenge.cw_wishlots_k52_whole_book_holds
