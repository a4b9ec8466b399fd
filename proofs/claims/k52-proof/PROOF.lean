import PyProof.Rows.All
import Wide.All
import OpenK.AllK
import Wide.FinOn
import Lean
import PyProof.EqAt
import PyProof.EqKinds
import PyProof.TupleCall
import PySem.Challenge.RW_wishlots_k52_whole_book
open PySem renaming wpAny_bind->cr,wpAny_pure->cv,Value->cA,Shared->cD,Addr->cG,wpAny_ite_false->cP,Program->cT,World->dc,starEach->dh,Paired->dr,Around->dw,boot_len->dD,wpAny_holding->dG,wpAny_call_entry->dR,wpAny_setState_of->dU,wpAny_callSpecial?_slot->ef,wpAny_field->eF,wpAny_isInstance->eH,wpAny_truthy_bool->eJ,wpAny_setField_rec->eS,mem_of_lookup->eV,codeAny_builtin->eY,wpAny_newObj_type->e9,mainGlobals->fD,wpAny_Call_Name_kw->fI,wpAny_askSetting->fL,wpAny_of_eq->fO,wpAny_seqItems->fR,wpAny_specialOf->gg,wpAny_mono->gj,wpAny_typeNameOfWhole_itemiter->gl,wpAny_setField->gt,wpAny_passesOwn->gQ,call_meets->gZ,wpAny_typeOf->ij,wpAny_execs_nil->io,NameKind->ip,wpAny_attempt->iy,wpAny_pyIter_list->iC,wpAny_call->iJ,PyData->iO,wpAny_rule->iR,wpAny_fieldsOf->iS,wpAny_ite_true->iT,wpAny_newTuple->iU,codeAny_mono->iX,wpAny_newList->ja,wpAny_pyIter_slot->jw,wpAny_isOneOf_itemiter->jz,isSubtype_tuple_tuple->jE,plainId_quiet->jK,wpAny_runValue->kd,entryFor_alias->kh,isSubtype_stop->ki,wpAny_tupleItemsOf->kj,wpAny_letGo->kD,wpAny_dictEntries->kE,wpAny_comprehension_free->kJ,wpAny_handled->kP,wpAny_execs_cons->kU,noFill_tuple_add->kW,wpAny_Call_method0_late->kY,sizeOk_excFields->lb,wpAny_pyIter_zip->lc,wpAny_forIn_list->ld,Within->lp,pushCells_keeps->lG,codeAny_of_tree->lK,wpAny_dictEpoch->lL,wpAny_isTrue_Compare1->lM,weight_type_call_type->lR,builtinLookup_eq_fast->lS,sizeLine_eq->lY,codeAny_call_builtin->l9,wpAny_throw->md,wpAny_updateSeq_pair->me,evalArgs_none->ml,wpAny_standAt->mv,seq_tuple_add->mw,wpAny_onRaise->mE,wpAny_pyIter_tuple->mK,typeIs_str->mL,wpAny_pyHash_tuple->mW,wpAny_eqBool_tuple->mX,wpAny_assign_Name->m6,concat_meets->ng,seqIndex_neg->nh,slot_list_getitem->ni,list_append->nk,wpAny_loadPart_at->nv,wpAny_pyIter_enum->nE,wpAny_storeSet_of->nG,wpAny_Call_method->nM,wpAny_pyHash_str->nO,wpAny_eqBool_int->nP,wpAny_eqBool_str->nQ,check_set_init_1->n7,wpAny_Dict_empty->oa,seqIndex_of->ol,wpAny_alloc->om,call_tuple_list->ou,typeLookup_type->oz,wpAny_Name->oJ,wpAny_Expr_any->oK,call->oM,isSubtype_type->oX,evalPart_none->pK,call_list_seq->pM,signature?_of->pT,strKind->pW,sub_set_self->qi,call_meetsIn->qm
open PySem.W renaming Frag->cu,boot_drawn->eh,mg_none_of->fG,emptyDict->fN,fnOf->f9,findIn->gp,instObj->gw,hideAll_get->gA,kia_one->iq,kia_tup->ir,methodCall_KW->iz,keepIn->iI,callWith_K->jf,boot_heap->jp,plainGet->jH,plainGet_of->j3,piece_app->j7,lookIn->j8,methodObj->ku,hasDictIn->kz,mg_of->kG,excIn->kL,cellsFrom_some->lr,hideAll->lE,takerIn->lF,codeIn->lZ,kitOne->l4,mroIn->mz,of_hideAll->mI,kitx_tuple->mP,isFn->m7,plainOver->m9,kitx_none->nq,kitx_bool->nr,kitx_list->nt,handedIn->nR,kitx_int->nU,kitx_str->nV,makesIn->oq,kitAny->oR,boot_toks->p9
open List renaming length_map->cx,getElem?_eq_getElem->cz,getD_eq_getElem?_getD->cC,getElem?_map->cH,mem_singleton->cK,getElem?_eq_some_iff->cL,mem_cons_self->cM,mem_cons_of_mem->cO,map_append->cS,length_take->cV,getElem_mem->cW,size_toArray->cX,take_add_one->cY,mem_cons->cZ,mem_of_getElem?->da,range->db,take_length->dj,length_append->dq,mem_map->dv,mem_append->dJ,map_cons->dN,length_cons->dQ,lookup_cons->dW,mem_range->dY,all_eq_true->dZ,mem_append_right->d5,length_filter_le->d6,mem_filter->d8,getElem?_range->d9,forIn_cons->eg,take_of_length_le->eK,mem_iff_getElem->eO,take_zero->eP,sum_cons->eR,length_replicate->eT,length_singleton->eU,getElem?_append_right->eZ,length_range->fb,pairwise_cons->fw,nodup_cons->fz,replicate->fA,map_congr_left->fF,append_nil->fV,perm_ext_iff_of_nodup->gc,filterMap_cons->gd,range_succ->gf,getElem?_eq_none->gi,filter_append->gm,forIn_nil->gr,mem_of_mem_take->gu,nodup_append->gv,mem_filterMap->gH,cons_lt_cons_iff->gN,getElem?_append_left->gO,lookup->gR,length_dropLast->gS,filter_congr->gV,getElem?_take_of_lt->gX,any_cons->gY,idxOf_lt_length_iff->g8,not_mem_nil->hU,nodup_nil->hX,eq_nil_of_length_eq_zero->ib,take_append_of_le_length->ic,map_map->ik,mem_iff_getElem?->iA,length_drop->iY,any_eq_true->i3,getElem?_zip_eq_some->i4,length_set->je,getElem_idxOf->jh,length->ji,length_eq_zero_iff->jk,pairwise_map->jt,getElem?_set->jx,getElem?_toArray->jD,all_cons->jJ,mem_append_left->jL,getElem?_set_ne->jM,dropLast_subset->jO,replicate_succ'->jR,of_mem_zip->jS,length_nil->jU,dropLast_concat_getLast->jW,countP_eq_length_filter->jZ,find?_cons->j2,mem_or_eq_of_mem_set->kt,range'->kC,length_erase_of_mem->kR,mem_reverse->k6,ext_getElem->k8,range'_succ->la,getElem?_set_self->lq,pairwise_lt_range->lx,not_of_lt_findIdx->lC,take_append_drop->lO,findSome?_append->lQ,getElem?_zipWith->lU,mem_erase_of_ne->mf,mem_of_mem_drop->mi,Pairwise->my,count_eq_zero->mQ,mem_replicate->mR,map_singleton->m4,reverse_cons->nj,foldl_append->nI,getElem?_inj->nL,perm_middle->nW,filter_cons->nY,cons_append->n8,nodup_range->n9,mem_flatMap->oh,cons_ne_nil->oj,nil_append->oy,mem_range'->oB,sum_append->oC,length_zip->oG,filterMap->oU,findIdx?->pP,map_take->pQ,map_drop->pR,Perm->p7,map_nil->qb,zipWith->qd,map_set->qp,all_map->qr,filter->qD
open PySem.Heap renaming get?_push_of_some->cF,get?_push_size->cN,lt_size->cQ,get?_update_self->eI,get?_update_other->fk,SameBut->fK,size_push->gq,get?_update_ne->i6,push->k9,FlyingW->lu,SetOf->lD,size_update->nX,ExtBut->qE
open Nat renaming le_refl->cI,lt_of_lt_of_le->cU,ne_of_lt->df,le_trans->dg,lt_irrefl->dt,zero_le->du,lt_succ_of_lt->dz,le_of_lt->dB,lt_succ_self->dH,le_succ->ec,pow_le_pow_right->eB,lt_of_le_of_lt->eQ,lt_succ_iff_lt_or_eq->fP,not_lt_zero->gz,le_add_right->gG,lt_of_succ_lt->gW,ne_of_gt->ie,sub_self->il,le_succ_of_le->iD,lt_trichotomy->iE,le_of_not_lt->kZ,le_mul_of_pos_right->k7,lt_trans->lA,add_assoc->mC,eq_zero_or_pos->mO,lt_of_le_of_ne->mY,le_of_eq->na,zero_add->nJ,log2_lt->on,pow_succ->qe,mul_one->qC
open PySem.Challenge renaming pw_wishlots_k52_whole_book->cJ,rw_wishlots_k52_whole_book->f8
open PySem.Value renaming ref->cR,type->dL,int->dX,bool->er,str->iw,bytes->qx,float->qy
open Bool renaming false_ne_true->de,and_eq_true->dn,false_eq_true->fX,eq_iff_iff->gx,not_true->g7,false_and->jq,or_eq_true_iff->j4,or_false->kI,and_eq_true_iff->mj,not_eq_true'->nl,not_false->o0,and_false->o3,false_or->pS,true_and->pX
open PySem.PassesOwn renaming never->dA,leaving->rf
open Int renaming emod_lt_of_pos->dC,mul_ne_zero->dE,emod_nonneg->dO,zero_add->d3,mul_le_mul_of_nonneg_right->e7,le_of_lt->fq,gcd_pos_of_ne_zero_right->fB,le_refl->fE,mul_right_comm->fW,mul_lt_mul_of_pos_right->f6,toNat_natCast->gb,mul_comm->gn,add_zero->gD,mul_zero->gE,sign_eq_neg_one_of_neg->gI,eq_of_mul_eq_mul_right->gJ,lt_of_mul_lt_mul_right->gK,add_mul->gT,mul_pos->gU,ofNat->hV,mul_one->ia,sign_eq_one_of_pos->ig,fdiv_eq_ediv_of_nonneg->iM,mul_nonneg->iQ,natAbs_natCast->jg,mul_add->jl,zero_mul->ju,mul_le_mul->jv,sub_mul->jN,one_mul->jQ,natAbs_mul->ka,ediv_eq_of_eq_mul_left->kb,lt_or_gt_of_ne->kc,natAbs_dvd_natAbs->lN,mul_fdiv_cancel->mo,add_assoc->mB,sub_eq_add_neg->mV,natCast_nonneg->m3,gcd_comm->nu,le_trans->nF,mul_eq_zero->ow,not_lt->oO,mul_assoc->pO,sub_zero->qh,ofNat_le->ql,add_comm->qo,natAbs->rb
open PySem.F renaming plainAttrs_list->dI,slot_dict_itemiterator_next->fe,called_set->fu,slot_list_append->fT,type_list_append->fU,plainAttrs_str->gF,slot_tuple_iterator_next->gL,plain_extend_loop->i8,args_tuple_add_2->i9,slot_tuple_index->jd,entry_tuple_add->jj,slot_list_clear->jn,type_list_clear->jo,slot_tuple_add->jr,slot_tuple_hash->jy,args_dict_itemiterator_next_1->jC,slot_str_join->jF,type_str_join->jG,entry_dict_itemiterator_next->jI,slot_dict_itemiterator_iter->jP,args_tuple_iterator_next_1->jX,slot_tuple_eq->jY,entry_tuple_iterator_next->j5,args_tuple_index_2->kl,args_str_split_2->km,entry_tuple_index->kr,entry_str_split->kF,plainAttrs_dict->lg,slot_dict_items->lh,slot_str_split->lj,slot_list_count->lm,type_list_count->ln,slot_dict_items_iter->lB,entry_proto_collect->lP,slot_dict_get->lV,args_list_append_2->l3,sub_list_frozenset->ma,slot_set_len->mh,entry_list_append->mm,entry_extend_loop->mr,entry_list_iadd->ny,entry_type_call->nH,typeCall_set_1->nZ,entry_set_init->n5,plain_set_new->ox,slot_set_iter->oA,slot_zip_next->oD,sub_list_set->oW
open Classical renaming byContradiction->dM
open PySem.Obj renaming mapSeq->d2,putSet->mS,data_mapFields->mU,mapFields->pU
open PySem.Builtin.SmallTypes renaming nextOf->d4,nextOrEnd->fC,ownedTupleIsFree->fS,ownedTupleHandOut->mq,stopIteration->nK,newRecord->oE,newClass->oI,iterAll->oY
open PyProof.Rows renaming callWith_type1->d7,callWith_builtin1->g9,listUpdate_at->ix,subscriptTail_builtinR->js,size_push'->lw,entry_list_sort->lI,boot_zip->lT,slot_list_sort->l5,args_list_sort->l8,plain_sorted->nA,entry_sorted->nB,args_sorted1->nC,slot_str_getitem->nS,kind_sorted->oo,boot_enumerate->oH,list_sort_tree->oQ,mem_join->o4,sortedAll_old->pN,tupleItemsOf_->pV,isTrue_plain->qa,floordiv_int->qc,listItems_at->qf,sortedAll_at->qg,Call_->rc
open PySem.Str renaming empty->ea,length->fJ,ofString->fM,join->iW
open Array renaming length_toList->eo,getElem?_eq_getElem->fi,getElem?_toList->gh,getElem?_eq_none->gC,forIn_toList->im,getElem?_eq_some_iff->ko,append_assoc->mJ,toList->m5,ext'->oN
open PySem.NameKind renaming free->eA,cell->f7
open PySem.Heap.SameBut renaming update->eX,refl->re
open PySem.Txt renaming join->fh,slice->j6,find->qH
open False renaming elim->fj
open PySem.Calls renaming spliced_cons->fH,callWith_builtin->gB,call_function_entry->gP,Name_function_global->iH,evalArgs_plain->iK,spliced_nil->kA,loadGlobal_global->kT
open PySem.SetTable renaming fresh->fQ,insertAt->iF,grown->kf,insertAt_perm->ly,below->oS
open PySem.Around renaming under_plainId->fY,under_plain->mT,under->nc
open PyProof.Rows.F renaming plain_set_update_loop->fZ,entry_set_update_loop->h8
open PySem.Builtin.List renaming listExtendWith->f5,listLengthHint->iG,listFitsIndex->j9,listSameRef->kQ,listTouch->lz
open PySem.SeqAt renaming shaped->ga,EqAt->q4
open PySem.PyData renaming eqv->gy,str->gM,canLay0->iP,depth->iZ,eqvAll->jb,canLayAll0->kB,depthAll->lJ
open PySem.IsL renaming update->hO
open PySem.Heap.IsTupleIter renaming typeIs->h9
open PySem.Code renaming quiet_builtin->ii
open PySem.Builtin.Dict_items renaming ownsTuple->iu,ownedTupleFields->jc,pairFromOwner->jA,ownedTupleIsFree->mF,newIterator->og,dictOf->pq
open PySem.StrLaws renaming glued_eq_join->iB,join_length_le->jB,join_split->mZ
open PySem.Data renaming seq->iL,fields->lX
open List.Perm renaming refl->iN,eq_of_pairwise->kM,append_left->qu,length_eq->qT,nodup_iff->qV,mem_iff->rd
open Std.Legacy.Range renaming forIn_eq_forIn_range'->iV,size->lW
open PySem.Builtin.Tuple renaming tupleHashOf->i5,tupleItemsOf->oZ
open PySem.Builtin.Str renaming strKind->i7,occurrences->jm,partsBetween->kS
open ForInStep renaming yield->jT
open PySem.Builtin.Frozenset renaming updateFrom->jV,isAnySet->kg,sizeOf->kO,newClass->oV,slot0->p8
open PySem.Manifest renaming sig_set_iterator->kq
open Option renaming isSome_iff_exists->kH,getD_none->kX,bind_some->nT,map_some->oF
open PyProof renaming noPylong_of_log2->kK
open PySem.Shared renaming TypeIs->kN
open PySem.AutoSeq1 renaming list_insert_list_int_val_1->lH
open PySem.Builtin.Int renaming intBits->mn
open PySem.Paired renaming length->mt
open PySem.SeqAt.EqAt renaming int_str->mG,str_int->mH,none_bool->qz,bool_none->qA,bool_bool->qB,none_int->qI,none_str->qJ,bool_int->qK,bool_str->qL,int_none->qM,int_bool->qO,str_none->qQ,str_bool->qS,int_int->q5,str_str->q8,same->rj
open List.Pairwise renaming imp->nD,imp_of_mem->pY
open Nat.Coprime renaming dvd_of_dvd_mul_left->nN
open Std.Legacy renaming Range->oi
open PySem.Walks renaming list->oP,toS->ri
open PySem.EqNone renaming eq_none_none->o5,eq_none_bool->o6,eq_bool_none->o7,ne_none_none->pb,ne_none_bool->pc,ne_bool_none->ph,eq_none_int->pu,eq_none_str->pz,eq_int_none->pA,eq_str_none->pC,ne_none_int->pE,ne_none_str->pF,ne_int_none->pG,ne_str_none->pI
open PySem.EqMixed renaming eq_bool_str->o8,eq_str_bool->o9,ne_bool_str->pi,ne_str_bool->pj,eq_int_str->pB,eq_str_int->pD,ne_int_str->pH,ne_str_int->pJ
open PySem.W.OpenLaw renaming wellSaid->pr
open PySem.Builtin.Range renaming rangeSize->pZ
open PyProof.Rows.IsTup renaming new->p6
open PySem.setAddHashedIn renaming eq_def->qt
open PySem.Builtin.Dict renaming showsAll->qw,noArgs->qX
open PySem.Fin renaming done->qF
open PySem.Flow renaming ret->qG
open PySem.W.Looks renaming here->qY
open PySem.Heap.IsSliceOf renaming new->qZ
open PySem.W.WShape renaming has->q9
open PySem.DictEntry renaming refKey->rg
open PySem.W.WData renaming int->rh
open PySem.Heap.DictOf renaming new->rk
open PySem.pickOrder renaming go->rm
set_option Elab.async false
set_option maxRecDepth 100000 in
set_option maxHeartbeats 0 in
theorem B4:pr f8=true:=by kernel_rfl
set_option Elab.async false
set_option linter.all false
set_option maxRecDepth 100000
namespace RG
end RG
namespace L2
open PySem PySem.Spec PyProof.Rows
abbrev F8:=Sum Int Str
def Kl:F8->cA->Bool
 | .inl k,v=>Value.isInt k v
 | .inr x,v=>Value.isStrOf x v
def L1(w:dc):F8->Int
 | .inl k=>hashInt k
 | .inr x=>hashStr w x
theorem sx:∀{k:F8} {v:cA},Kl k v=true->(∃i t,k=Sum.inl i/\v=dX i t)\/(∃x t,k=Sum.inr x/\v=iw x t)
 | .inl i,v,h=>by
  obtain⟨t,e⟩:=Value.isInt_shape (k:=i) (v:=v) h
  exact .inl ⟨i,t,rfl,e⟩
 | .inr x,v,h=>by
  obtain⟨t,e⟩:=Value.isStrOf_shape (x:=x) (v:=v) h
  exact .inr ⟨x,t,rfl,e⟩
theorem DH(a b:Int):decide ((Sum.inl a:F8)=Sum.inl b)=(a==b):=by
 by_cases e:a=b
 ·subst e;simp
 ·have h:¬(Sum.inl a:F8)=Sum.inl b:=λq=>e (Sum.inl.inj q)
  rw[decide_eq_false h];exact(beq_eq_false_iff_ne.mpr e).symm
theorem Du(a b:Str):decide ((Sum.inr a:F8)=Sum.inr b)=decide (a=b):=by
 by_cases e:a=b
 ·subst e;simp
 ·have h:¬(Sum.inr a:F8)=Sum.inr b:=λq=>e (Sum.inr.inj q)
  rw[decide_eq_false h,decide_eq_false e]
theorem Dz(a:Int)(b:Str):decide ((Sum.inl a:F8)=Sum.inr b)=false:=decide_eq_false (λq=>nomatch q)
theorem DK(a:Str)(b:Int):decide ((Sum.inr a:F8)=Sum.inl b)=false:=decide_eq_false (λq=>nomatch q)
def Gz(prog:cT)(w:dc):PySem.KeyKind prog w F8 where
 is:=Kl
 hash:=L1 w
 inj:=λv a b ha hb=>by
  rcases sx ha with⟨i,t,rfl,rfl⟩|⟨x,t,rfl,rfl⟩
  ·rcases sx hb with⟨j,u,rfl,e⟩|⟨y,u,rfl,e⟩
   ·injection e with e1 _;rw[e1]
   ·exact nomatch e
  ·rcases sx hb with⟨j,u,rfl,e⟩|⟨y,u,rfl,e⟩
   ·exact nomatch e
   ·injection e with e1 _;rw[e1]
 byValue:=λk v h=>by
  rcases sx h with⟨i,t,rfl,rfl⟩|⟨x,t,rfl,rfl⟩ <;> rfl
 pyHash:=λhv h=>by
  rcases sx hv with⟨i,t,rfl,rfl⟩|⟨x,t,rfl,rfl⟩
  ·exact wpAny_pyHash_int h
  ·exact nO h
 eqBool:=λhu hv h=>by
  rcases sx hu with⟨i,t,rfl,rfl⟩|⟨x,t,rfl,rfl⟩
  ·rcases sx hv with⟨j,u,rfl,rfl⟩|⟨y,u,rfl,rfl⟩
   ·rw[DH]at h;exact nP h
   ·rw[Dz]at h;exact mG i t y u _ _ _ _ h
  ·rcases sx hv with⟨j,u,rfl,rfl⟩|⟨y,u,rfl,rfl⟩
   ·rw[DK]at h;exact mH x t j u _ _ _ _ h
   ·rw[Du]at h;exact nQ h
 «strs»:=λk x t v h=>by
  rcases sx h with⟨i,u,rfl,e⟩|⟨y,u,rfl,e⟩
  ·exact nomatch e
  ·injection e with e1 _
   subst e1
   cases v <;> rfl
inductive V where
 | non|bl (b:Bool)|int (i:Int)|str (x:Str)|byt (b:Array UInt8)|flt (b:UInt64)|ref (a:cG)|ty (n:String)
 deriving DecidableEq
def RelV:V->cA->Prop
 | .non,u=>u=cA.none
 | .bl b,u=>u=er b
 | .int i,u=>∃t,u=dX i t
 | .str x,u=>∃t,u=iw x t
 | .byt b,u=>∃t,u=qx b t
 | .flt b,u=>∃t,u=qy b t
 | .ref a,u=>u=cR a
 | .ty n,u=>u=dL n
abbrev Vals:List V->List cA->Prop:=dr RelV
theorem Vals.length{xs:List V}{us:List cA}(r:Vals xs us):xs.length=us.length:=mt r
theorem Vals.get:∀{xs:List V} {us:List cA} {i:Nat} {x:V},Vals xs us->xs[i]?=some x->∃u,us[i]?=some u/\RelV x u
 | _,_,_,_,.nil,e=>by simp at e
 | _,_,0,_,.cons r _,e=>by simp at e;subst e;exact⟨_,rfl,r⟩
 | _,_,i+1,x,.cons _ t,e=>by
  obtain⟨u,h1,h2⟩:=Vals.get (i:=i) (x:=x) t (by simpa using e)
  exact⟨u,by simpa using h1,h2⟩
theorem Vals.set{x:V}{u:cA}(r:RelV x u):∀{xs:List V} {us:List cA} (i:Nat),Vals xs us->Vals (xs.set i x) (us.set i u)
 | _,_,_,.nil=> .nil
 | _,_,0,.cons _ t=> .cons r t
 | _,_,i+1,.cons q t=> .cons q (Vals.set r i t)
theorem Vals.append:∀{xs ys:List V} {us ws:List cA},Vals xs us->Vals ys ws->Vals (xs++ys) (us++ws)
 | _,_,_,_,.nil,s=>s
 | _,_,_,_,.cons r t,s=> .cons r (Vals.append t s)
theorem Vals.take:∀{xs:List V} {us:List cA} (n:Nat),Vals xs us->Vals (xs.take n) (us.take n)
 | _,_,0,_=> .nil
 | _,_,_+1,.nil=> .nil
 | _,_,n+1,.cons r t=> .cons r (Vals.take n t)
theorem Vals.drop:∀{xs:List V} {us:List cA} (n:Nat),Vals xs us->Vals (xs.drop n) (us.drop n)
 | _,_,0,r=>r
 | _,_,_+1,.nil=> .nil
 | _,_,n+1,.cons _ t=>Vals.drop n t
def RelO:Option V->Option cA->Prop
 | some v,some u=>RelV v u
 | none,none=>True
 | _,_=>False
def KV{κ:Type}:List (κ×V)->List (κ×cA)->Prop:=dr λ(p:κ×V) (q:κ×cA)=>p.1=q.1/\RelV p.2 q.2
def kV:F8->V
 | .inl i=> .int i
 | .inr x=> .str x
inductive HO where
 | lst (xs:List V)
 | tup (xs:List V)
 | dK (kvs:List (F8×V))|dT (kvs:List (List F8×V))
 | set (S:Int->Bool) (n:Nat)
 | ins (C dx:cG) (fs:List (Str×V))
 | own (x:cG)
 | xd (fs:List (Str×V))
 | met (f x:cG)
 | rng (lo hi:Int)
 | frz (o:Obj) (u:HO)
 | tbl (ps:Array cA)
 | ext (φ:Heap->Prop)
abbrev Hp:=cG->Option HO
def upd(H:Hp)(a:cG)(o:HO):Hp:=λb=>if b=a then some o else H b
theorem rC{H:Hp}{a:cG}{o:HO}:upd H a o a=some o:=by unfold upd;rw[if_pos rfl]
theorem rH{H:Hp}{a b:cG}{o:HO}(h:b≠a):upd H a o b=H b:=by unfold upd;rw[if_neg h]
theorem sI{H:Hp}{a b:cG}{o u:HO}(h:H a=some o)(h':H b=some u)(d:o≠u):a≠b:=by
 intro e;subst e;rw[h]at h';exact d (Option.some.inj h')
theorem rF{H:Hp}{a b:cG}{o:HO}(h:H a=some o)(h':H b=none):a≠b:=by
 intro e;subst e;rw[h]at h';cases h'
section
variable(P:cT)(w:dc)
def ObjOk(H:Hp)(h:Heap)(a:cG):HO->Prop
 | .lst xs=>xs.length<=sizeLine/\∃(its:List cA) (n:Nat),Vals xs its/\h.get? a=some {cls:= .type "list",data:= .seq its.toArray n}
 | .tup xs=>xs.length<=sizeLine/\∃its:List cA,Vals xs its/\IsTup h a its.toArray
 | .dK kvs=>kvs.length<=sizeLine/\(a==sysModules)=false/\∃vs,KV kvs vs/\h.DictOf (Gz P w) a vs
 | .dT kvs=>kvs.length<=sizeLine/\(a==sysModules)=false/\∃xs:List (List F8×cG×cA),
   dr (λ(p:List F8×V) (q:List F8×cG×cA)=>p.1=q.1/\H q.2.1=some (.tup (p.1.map kV))/\RelV p.2 q.2.2) kvs xs/\
   ∃o es ep,h.get? a=some o/\o.ExactDict/\o.data = .dict es ep/\es.toList=xs.map (entryOfKey (tupleKind (Gz P w)))/\(xs.map (·.1)).Nodup
 | .set S n=>h.SetOf (intKind P w) a S n
 | .ins C dx fs=>H dx=some (.own a)/\fs.length<=1000/\dx≠a/\h.get? a=some (gw C dx)/\
   ∃mA,h.Ns1 dx mA/\(∀f,RelO (fs.lookup f) (mA f))/\lp mA (fs.map (·.1))
 | .own _=>∃o,h.get? a=some o
 | .xd fs=>∃mA,h.Ns1 a mA/\∀f,RelO (fs.lookup f) (mA f)
 | .rng lo hi=>∃t u v,h.get? a=some {cls:= .type "range",data:= .fields #[.int lo t,.int hi u,.int 1 v]}
 | .frz o u=>h.get? a=some o/\ObjOk H h a u
 | .tbl ps=>h.get? a=some {cls:= .none,data:= .fields ps}
 | .met f x=>h.get? a=some (ku (.ref f) (.ref x))
 | .ext φ=>φ h/\(∃o,h.get? a=some o)/\∀h1 h2:Heap,φ h1->(∀o,h1.get? a=some o->h2.get? a=some o)->φ h2
def HOk(H:Hp)(h:Heap):Prop:=∀a o,H a=some o->ObjOk P w H h a o
end
section
variable{P:cT}{w:dc}{H H':Hp}{h h':Heap}{a:cG}{o:HO}
theorem ObjOk.lt(x:ObjOk P w H h a o):a<h.objs.size:=by
 cases o with
 | lst c=>obtain⟨_,_,_,_,e⟩:=x;exact cQ e
 | tup c=>obtain⟨_,_,_,p⟩:=x;exact p.lt
 | dK b=>obtain⟨_,_,_,_,o,_,_,e,_⟩:=x;exact cQ e
 | dT b=>obtain⟨_,_,_,_,o,_,_,e,_⟩:=x;exact cQ e
 | set S n=>obtain⟨o,_,_,_,e,_⟩:=x;exact cQ e
 | ins C q d=>obtain⟨_,_,_,e,_⟩:=x;exact cQ e
 | own y=>obtain⟨_,e⟩:=x;exact cQ e
 | xd d=>obtain⟨_,⟨_,_,_,e,_⟩,_⟩:=x;exact cQ e
 | rng l m=>obtain⟨_,_,_,e⟩:=x;exact cQ e
 | frz k u=>obtain⟨e,_⟩:=x;exact cQ e
 | tbl g=>exact cQ (show h.get? a=some _ from x)
 | met f y=>exact cQ (show h.get? a=some _ from x)
 | ext j=>obtain⟨_,⟨_,e⟩,_⟩:=x;exact cQ e
theorem Paired.mapP{α β:Type}{F G:α->β->Prop}:∀{l₁:List α} {l₂:List β},dr F l₁ l₂->(∀a b,F a b->G a b)->dr G l₁ l₂
 | _,_,.nil,_=> .nil
 | _,_,.cons r t,f=> .cons (f _ _ r) (Paired.mapP t f)
theorem ObjOk.stay(x:ObjOk P w H h a o)(k:∀b u,(b=a\/H b=some (.own a))->h.get? b=some u->h'.get? b=some u)
  (ho:∀b,H b=some (.own a)->H' b=some (.own a))(ht:∀b xs,H b=some (.tup xs)->H' b=some (.tup xs)):ObjOk P w H' h' a o:=by
 induction o with
 | lst xs=>obtain⟨z,m,n,r,e⟩:=x;exact⟨z,m,n,r,k _ _ (.inl rfl) e⟩
 | tup xs=>obtain⟨z,m,r,g,e,c⟩:=x;exact⟨z,m,r,g,k _ _ (.inl rfl) e,c⟩
 | dK B=>obtain⟨z,y,vs,r,g,l,j,e,c⟩:=x;exact⟨z,y,vs,r,g,l,j,k _ _ (.inl rfl) e,c⟩
 | dT B=>
  obtain⟨z,y,xs,r,g,l,j,e,c⟩:=x
  exact⟨z,y,xs,Paired.mapP r λp q z=>⟨z.1,ht _ _ z.2.1,z.2.2⟩,g,l,j,k _ _ (.inl rfl) e,c⟩
 | set S n=>obtain⟨g,l,j,t,e,c⟩:=x;exact⟨g,l,j,t,k _ _ (.inl rfl) e,c⟩
 | ins C M G=>
  obtain⟨d,z,F,e,A,⟨s,l,j,E,c⟩,r⟩:=x
  exact⟨ho _ d,z,F,k _ _ (.inl rfl) e,A,⟨s,l,j,k _ _ (.inr d) E,c⟩,r⟩
 | own y=>obtain⟨g,e⟩:=x;exact⟨g,k _ _ (.inl rfl) e⟩
 | xd G=>obtain⟨A,⟨s,l,j,e,c⟩,r⟩:=x;exact⟨A,⟨s,l,j,k _ _ (.inl rfl) e,c⟩,r⟩
 | rng K L=>obtain⟨t,u,v,e⟩:=x;exact⟨t,u,v,k _ _ (.inl rfl) e⟩
 | frz g u I=>obtain⟨e,q⟩:=x;exact⟨k _ _ (.inl rfl) e,I q⟩
 | tbl D=>
  have e:h.get? a=some {cls:= .none,data:= .fields D}:=x
  show h'.get? a=some {cls:= .none,data:= .fields D}
  exact k a _ (.inl rfl) e
 | met f y=>
  have e:h.get? a=some (ku (.ref f) (.ref y)):=x
  show h'.get? a=some (ku (.ref f) (.ref y))
  exact k a _ (.inl rfl) e
 | ext J=>obtain⟨p,⟨o,e⟩,st⟩:=x;exact⟨st _ _ p λo q=>k _ _ (.inl rfl) q,⟨o,k _ _ (.inl rfl) e⟩,st⟩
theorem HOk.lt(x:HOk P w H h)(e:H a=some o):a<h.objs.size:=(x a o e).lt
theorem HOk.fresh(x:HOk P w H h)(e:h.objs.size<=a):H a=none:=by
 cases q:H a with
 | none=>rfl
 | some u=>exact absurd (cU (x.lt q) e) (dt _)
theorem HOk.kept(x:HOk P w H h)(k:∀b u,h.get? b=some u->h'.get? b=some u):HOk P w H h':=λa o e=>
 (x a o e).stay (λb u _ q=>k b u q) (λ_ q=>q) λ_ _ q=>q
theorem HOk.laid(x:HOk P w H h)(k:∀b u,h.get? b=some u->h'.get? b=some u)(hp:h.objs.size<=a)(new:ObjOk P w (upd H a o) h' a o):HOk P w (upd H a o) h':=λb u e=>by
 have f:=x.fresh hp;by_cases d:b=a
 ·subst d;rw[rC]at e;cases e;exact new
 ·rw[rH d]at e;exact(x b u e).stay (λc v _ q=>k c v q) (λc q=>by rw[rH (rF q f)];exact q) λc g q=>by rw[rH (rF q f)];exact q
end
def Rd(H:Hp)(a:cG)(u:HO):Prop:=H a=some u\/∃o,H a=some (.frz o u)
theorem Rd.ok{P:cT}{w:dc}{H:Hp}{h:Heap}{a:cG}{u:HO}(r:Rd H a u)(x:HOk P w H h):ObjOk P w H h a u:=by
 rcases r with r|⟨o,r⟩
 ·exact x a u r
 ·obtain⟨_,q⟩:=x a _ r;exact q
def LT:Option HO->Prop
 | some (.lst _)=>True
 | some (.dK _)=>True
 | some (.dT _)=>True
 | some (.set _ _)=>True
 | some (.ins _ _ _)=>True
 | some (.ext _)=>True
 | _=>False
section
variable{P:cT}{w:dc}{H:Hp}{h h':Heap}{x e:cG}{o':HO}
theorem HOk.write(ok:HOk P w H h)(mu:LT (H x))(he:e=x\/H e=some (.own x))(k:∀b u,b≠e->h.get? b=some u->h'.get? b=some u)(heo:∃u,h'.get? e=some u)
  (new:ObjOk P w (upd H x o') h' x o'):HOk P w (upd H x o') h':=λb u q=>by
 have d:∀c y,H c=some (.own y)->c≠x:=λc y r z=>by subst z;rw[r]at mu;exact mu
 have l:∀c j,H c=some (.tup j)->c≠x:=λc j r z=>by subst z;rw[r]at mu;exact mu
 by_cases g:b=x
 ·subst g;rw[rC]at q;cases q;exact new
 ·rw[rH g]at q
  by_cases a:b=e
  ·have m:H b=some (.own x):=by
    rcases he with z|z
    ·exact absurd (a.trans z) g
    ·rw[a];exact z
   rw[q]at m;cases m
   obtain⟨v,n⟩:=heo
   exact⟨v,by rw[a];exact n⟩
  ·refine(ok b u q).stay (λc v f r=>k c v ?_ r) (λc r=>by rw[rH (d c b r)];exact r) λc j r=>by rw[rH (l c j r)];exact r
   rcases f with rfl|f
   ·exact a
   ·rintro rfl
    rcases he with z|z
    ·exact d c b f z
    ·rw[f]at z;cases z;exact g rfl
end
structure Un(fs ex:List cG)(H H':Hp)(h h':Heap):Prop where
 keep:∀b o,h.get? b=some o->H b=none->b∉fs->b∉ex->h'.get? b=some o
 slot:∀b o,h.get? b=some o->H b=none->b∈fs->b∉ex->∃sl,h'.get? b=some {o with slots:=sl}
 free:∀b o,h.get? b=some o->H b=none->b∉ex->H' b=none
 there:∀b o,h.get? b=some o->b∉ex->∃o',h'.get? b=some o'
 tups:∀b xs,H b=some (.tup xs)->H' b=some (.tup xs)
 frzs:∀b o u,H b=some (.frz o u)->H' b=some (.frz o u)
 tbls:∀b ps,H b=some (.tbl ps)->∃more,H' b=some (.tbl (ps++more))
section
variable{fs fs' ex ex':List cG}{H H1 H2:Hp}{h h1 h2 h':Heap}{a x e:cG}{o:HO}
theorem Un.any(u:Un fs ex H H1 h h1){b:cG}{ob:Obj}(q:h.get? b=some ob)(n:H b=none)(hx:b∉ex):∃sl,h1.get? b=some {ob with slots:=sl}:=by
 by_cases a:b∈fs
 ·exact u.slot b ob q n a hx
 ·exact⟨ob.slots,u.keep b ob q n a hx⟩
theorem Un.kept(k:∀b u,h.get? b=some u->h'.get? b=some u):Un fs ex H H h h':=
 ⟨λb a q _ _ _=>k b a q,λb a q _ _ _=>⟨a.slots,k b a q⟩,λ_ _ _ n _=>n,λb a q _=>⟨a,k b a q⟩,λ_ _ q=>q,λ_ _ _ q=>q,λ_ c q=>⟨#[],by rw[q];simp⟩⟩
theorem Un.refl:Un fs ex H H h h:=Un.kept λ_ _ q=>q
theorem Un.laid(k:∀b u,h.get? b=some u->h'.get? b=some u)(hp:h.objs.size<=a)(hn:H a=none):Un fs ex H (upd H a o) h h' where
 keep:=λb u q _ _ _=>k b u q
 slot:=λb u q _ _ _=>⟨u.slots,k b u q⟩
 free:=λb u q n _=>by rw[rH (df (cU (cQ q) hp))];exact n
 there:=λb u q _=>⟨u,k b u q⟩
 tups:=λb c q=>by rw[rH (rF q hn)];exact q
 frzs:=λb u c q=>by rw[rH (rF q hn)];exact q
 tbls:=λb d q=>⟨#[],by rw[rH (rF q hn),q];simp⟩
theorem Un.write(mu:LT (H x))(he:e=x\/H e=some (.own x))(k:∀b u,b≠e->h.get? b=some u->h'.get? b=some u)(heo:∃u,h'.get? e=some u):Un fs ex H (upd H x o) h h':=by
 have f:∀b,H b=none->b≠x:=λb n z=>by subst z;rw[n]at mu;exact mu
 have d:∀b,H b=none->b≠e:=λb n z=>by
  subst z;rcases he with r|r
  ·exact f b n r
  ·rw[n]at r;cases r
 have c:∀b u,H b=some u->¬LT (some u)->b≠x:=λb u q j z=>by subst z;rw[q]at mu;exact j mu
 refine⟨λb u q n _ _=>k b u (d b n) q,λb u q n _ _=>⟨u.slots,k b u (d b n) q⟩,λb u q n _=>by rw[rH (f b n)];exact n,λb u q _=>?_,
  λb g q=>by rw[rH (c b _ q λz=>z)];exact q,λb u g q=>by rw[rH (c b _ q λz=>z)];exact q,λb l q=>⟨#[],by rw[rH (c b _ q λz=>z),q];simp⟩⟩
 by_cases a:b=e
 ·subst a;exact heo
 ·exact⟨u,k b u a q⟩
end
def trk(h:Heap)(H:Hp):List cG:=(db h.objs.size).filter λa=>(H a).isSome
def HJ(h:Heap)(H:Hp):Heap:=lE h (trk h H)
theorem AD(h:Heap)(H:Hp):(HJ h H).objs.size=h.objs.size:=PySem.W.hideAll_size _ _
theorem BO{h:Heap}{H:Hp}{b:cG}{o:Obj}(e:h.get? b=some o)(n:H b=none):(HJ h H).get? b=some o:=
 gA _ e λa=>by
  have q:(H b).isSome=true:=(d8.mp a).2
  rw[n]at q;simp at q
theorem C3{h:Heap}{H:Hp}{b:cG}{o:Obj}(e:(HJ h H).get? b=some o):h.get? b=some o/\H b=none:=by
 have a:h.get? b=some o:=mI (trk h H) e;refine⟨a,?_⟩
 cases q:H b with
 | none=>rfl
 | some x=>
  have c:b∈trk h H:=d8.mpr ⟨dY.mpr (cQ a),by simp[q]⟩;have z:(HJ h H).get? b=none:=PySem.W.hideAll_none (trk h H) c;rw[z]at e;cases e
def JX(g h:Heap)(L:cG):List (cG×Obj):=(db h.objs.size).filterMap λa=>if a=L\/(g.get? a).isSome=true then none else(h.get? a).map λo=>(a,o)
def rest(g h:Heap)(L d:cG):List (cG×Obj):=(JX g h L).filter λp=>decide (p.1≠d)
structure Mod(K:cu)(mg:Str->Option cA)(base:Heap):Prop where
 kin:K.In base
 glob:base.Ns fD mg
 blt:∃mb,base.Ns builtinsNs mb/\∀x:Str,x≠"__name__"->mb x=bootBuiltins x
 nolimit:base.NoLimit
structure Cx where
 prog:cT
 w:dc
 K:cu
 mg:Str->Option cA
 base:Heap
 A:dw
 N:List Str
 s₀:cD
 H₀:Hp
 env:Env
 outer:List Env
 stack:List Env
 ex:List cG
 fn:Str->Bool
 calm:Bool
 pn:List (cG×Obj)
 xe:cA->cD->Prop
def Fm(l:List Env):List cG:=l.filterMap (·.frame)
abbrev Cx.fs(X:Cx):List cG:=Fm X.outer
def LW(sc:Scope)(x:Str):Prop:=sc.names.lookup x=some .local\/sc.names.lookup x=some .cell\/sc.names.lookup x=some .free
def LX(sc:Scope)(x:Str):Prop:=sc.names.lookup x=some .local\/sc.names.lookup x=some .cell
def Mp(env:Env)(h:Heap)(m:Str->Option cA)(x:Str)(u:cA):Prop:=
 (env.kindOf x=some .local/\m x=some u)\/((env.kindOf x=some .cell\/env.kindOf x=some .free)/\∃c,env.cells.lookup x=some c/\h.IsCell c (some u))
structure Cx.Ok(X:Cx):Prop where
 mod:Mod X.K X.mg X.base
 kind:X.env.scope.kind = .function
 glob:X.env.globals=fD
 blt:X.env.builtins=builtinsNs
 above:X.s₀.heap.objs.size<=X.env.locals
 inj:∀x y c,X.env.cells.lookup x=some c->X.env.cells.lookup y=some c->x=y
 has:∀x,(X.env.kindOf x=some .cell\/X.env.kindOf x=some .free)->∃c,X.env.cells.lookup x=some c
 cab:∀x c,X.fn x=true->X.env.cells.lookup x=some c->X.s₀.heap.objs.size<=c
 hd:X.calm=true->X.A.handled=none
 frames:X.A.frames=some X.stack
 stk:X.stack=X.outer\/(X.stack=X.env::X.outer/\X.env.frame=some X.env.locals)
 exf:∀b∈X.ex,b≠X.env.locals/\∀x c,X.env.cells.lookup x=some c->c≠b
 bs:∀b o,X.base.get? b=some o->X.s₀.heap.get? b=some o/\X.H₀ b=none
 bsz:X.base.objs.size<=X.s₀.heap.objs.size
 noex:∀b o,X.base.get? b=some o->b∉X.ex
 exfs:∀b∈X.ex,b∉X.fs
 funs:X.s₀.heap.FunFrames X.base X.outer
 frf:∀b∈X.fs,X.H₀ b=none
structure Inv(X:Cx)(pins:List (cG×Obj))(σ:List (Option V))(H:Hp)(s:cD):Prop where
 ok:X.Ok
 os:s.os=X.s₀.os
 bare:AllBare s.gens
 base:Un X.fs X.ex X.H₀ H X.s₀.heap s.heap
 loc:∃m,s.heap.Ns X.env.locals m/\∀(i:Nat) (x:Str) (v:V),X.N[i]?=some x->σ[i]?=some (some v)->LW X.env.scope x->∃u,RelV v u/\Mp X.env s.heap m x u
 cell:∀x c,X.env.cells.lookup x=some c->∃v,s.heap.IsCell c v
 free:H X.env.locals=none
 freeC:∀x c,X.env.cells.lookup x=some c->H c=none
 pin:∀p∈X.pn++pins,s.heap.get? p.1=some p.2/\H p.1=none/\p.1≠X.env.locals/\p.1∉X.fs/\∀v,p.2.data≠ .cell v
 hok:HOk X.prog X.w H s.heap
 len:σ.length=X.N.length
section
variable{X:Cx}{pins:List (cG×Obj)}{σ:List (Option V)}{H H':Hp}{s:cD}{h':Heap}
theorem Cx.Ok.nofr(ok:X.Ok){b:cG}{o:Obj}(e:X.base.get? b=some o):b∉X.fs:=λa=>by
 have:=(ok.funs.mem a).1;rw[e]at this;cases this
theorem Inv.bs(I:Inv X pins σ H s):∀b o,X.base.get? b=some o->s.heap.get? b=some o/\H b=none:=λb o e=>
 ⟨I.base.keep b o (I.ok.bs b o e).1 (I.ok.bs b o e).2 (I.ok.nofr e) (I.ok.noex b o e),I.base.free b o (I.ok.bs b o e).1 (I.ok.bs b o e).2 (I.ok.noex b o e)⟩
theorem Inv.bk(I:Inv X pins σ H s):∀b o,X.base.get? b=some o->s.heap.get? b=some o:=λb o e=>(I.bs b o e).1
theorem Inv.mod(I:Inv X pins σ H s):Mod X.K X.mg X.base:=I.ok.mod
theorem Inv.kIn(I:Inv X pins σ H s):X.K.In s.heap:=I.ok.mod.kin.keeps I.bk
theorem Inv.fr(I:Inv X pins σ H s):∃m,Fr X.base X.env.locals s.heap m:=
 let⟨m,a,_⟩:=I.loc
 ⟨m,a,I.bk,dg I.ok.bsz I.ok.above⟩
theorem Inv.lt(I:Inv X pins σ H s):X.env.locals<s.heap.objs.size:=let⟨_,a,_⟩:=I.loc;a.lt
theorem Inv.sz(I:Inv X pins σ H s):X.s₀.heap.objs.size<=s.heap.objs.size:=dg I.ok.above (dB I.lt)
theorem Inv.nofs(I:Inv X pins σ H s){a:cG}(h:s.heap.objs.size<=a):a∉X.fs:=λc=>by
 obtain⟨_,o,b,_⟩:=I.ok.funs.mem c;exact absurd (cU (cQ b) (dg I.sz h)) (dt _)
theorem Inv.cne(I:Inv X pins σ H s):∀x c,X.env.cells.lookup x=some c->c≠X.env.locals:=λx c e z=>by
 obtain⟨v,o,b,d⟩:=I.cell x c e;obtain⟨m,⟨g,j,h,a,f,_⟩,_⟩:=I.loc;rw[z,a]at b;cases b;rw[f]at d;cases d
theorem Inv.funs(I:Inv X pins σ H s):s.heap.FunFrames X.base X.outer:=by
 have all:∀(l:List Env),(∀b∈Fm l,b∈X.fs)->X.s₀.heap.FunFrames X.base l->s.heap.FunFrames X.base l:=by
  intro l
  induction l with
  | nil=>intro _ _;trivial
  | cons p r m=>
   intro f h;obtain⟨hk,⟨L,o,c,n,g,j⟩,k⟩:=h;have d:L∈X.fs:=f L (by unfold Fm;rw[gd,c];exact cM);obtain⟨q,e⟩:=I.base.slot L o g (I.ok.frf L d) d λz=>I.ok.exfs L z d
   exact⟨hk,⟨L,_,c,n,e,j⟩,m (λb a=>f b (by unfold Fm;rw[gd,c];exact cO _ a)) k⟩
 exact all X.outer (λ_ a=>a) I.ok.funs
theorem Inv.stack(I:Inv X pins σ H s):s.heap.FunFrames X.base X.stack:=by
 rcases I.ok.stk with e|⟨e,a⟩
 ·rw[e];exact I.funs
 ·rw[e];obtain⟨m,b,_⟩:=I.loc;refine .cons (by rw[I.ok.kind];decide) a b ?_ I.funs;exact Heap.get?_none_of_le (dg I.ok.bsz I.ok.above)
theorem Inv.stkSub(I:Inv X pins σ H s):∀b∈Fm X.stack,b∈X.env.locals::X.fs:=λb a=>by
 rcases I.ok.stk with e|⟨e,c⟩
 ·rw[e]at a;exact cO _ a
 ·rw[e]at a;unfold Fm at a;rw[gd,c]at a;exact a
theorem Inv.stkFree(I:Inv X pins σ H s):∀b∈Fm X.stack,H b=none:=λb a=>by
 rcases cZ.mp (I.stkSub b a)with e|a
 ·rw[e];exact I.free
 ·obtain⟨_,o,c,_⟩:=I.ok.funs.mem a;exact I.base.free b o c (I.ok.frf b a) λz=>I.ok.exfs b z a
theorem Inv.step{g':Array GenState}{t':Nat}{d':Drawn}{ch:List cG}(I:Inv X pins σ H s)
  (hch:∀b∈ch,(b∈X.ex\/X.s₀.heap.objs.size<=b)/\b≠X.env.locals/\(∀x c,X.env.cells.lookup x=some c->c≠b)/\∀p∈X.pn++pins,p.1≠b)
  (keep:∀b o,b≠X.env.locals->b∉X.fs->b∉ch->s.heap.get? b=some o->H b=none->h'.get? b=some o)
  (slot:∀b o,b≠X.env.locals->b∈X.fs->b∉ch->s.heap.get? b=some o->H b=none->∃sl,h'.get? b=some {o with slots:=sl})(free:∀b o,b∉ch->s.heap.get? b=some o->H b=none->H' b=none)
  (there:∀b o,b∉ch->s.heap.get? b=some o->∃o',h'.get? b=some o')
  (tups:∀b xs,H b=some (.tup xs)->H' b=some (.tup xs))(frzs:∀b o u,H b=some (.frz o u)->H' b=some (.frz o u))(tbls:∀b ps,H b=some (.tbl ps)->∃more,H' b=some (.tbl (ps++more)))
  (ns:∀m,s.heap.Ns X.env.locals m->h'.Ns X.env.locals m)(hok:HOk X.prog X.w H' h')(hg:AllBare g'):
  Inv X pins σ H' {s with heap:=h',gens:=g',drawn:=d',toks:=t'}:=by
 have B:∀b o,X.s₀.heap.get? b=some o->b≠X.env.locals:=λb o e=>df (cU (cQ e) I.ok.above)
 have j:∀b o,X.s₀.heap.get? b=some o->b∉X.ex->b∉ch:=λb o e a h=>by
  rcases(hch b h).1 with z|z
  ·exact a z
  ·exact absurd (cU (cQ e) z) (dt _)
 have t:∀x c,X.env.cells.lookup x=some c->∀v,s.heap.IsCell c v->h'.IsCell c v:=λx c e v ⟨o,y,C⟩=>by
  have g:c∉ch:=λz=>(hch c z).2.2.1 x c e rfl
  by_cases F:c∈X.fs
  ·obtain⟨sl,q⟩:=slot c o (I.cne x c e) F g y (I.freeC x c e)
   exact⟨_,q,C⟩
  ·exact⟨o,keep c o (I.cne x c e) F g y (I.freeC x c e),C⟩
 refine⟨I.ok,I.os,hg,⟨λb o e n h a=>?_,λb o e n h a=>?_,λb o e n a=>?_,λb o e a=>?_,λb xs e=>tups b xs (I.base.tups b xs e),λb o xs e=>frzs b o xs (I.base.frzs b o xs e),λb ps e=>?_⟩,?_,λx c e=>?_,?_,λx c e=>?_,λp hp=>?_,hok,I.len⟩
 ·exact keep b o (B b o e) h (j b o e a) (I.base.keep b o e n h a) (I.base.free b o e n a)
 ·obtain⟨sl,f⟩:=I.base.slot b o e n h a
  obtain⟨D,A⟩:=slot b _ (B b o e) h (j b o e a) f (I.base.free b o e n a)
  exact⟨D,A⟩
 ·obtain⟨o',f⟩:=I.base.there b o e a
  exact free b o' (j b o e a) f (I.base.free b o e n a)
 ·obtain⟨o',f⟩:=I.base.there b o e a
  exact there b o' (j b o e a) f
 ·obtain⟨J,f⟩:=I.base.tbls b ps e
  obtain⟨L,A⟩:=tbls b _ f
  exact⟨J++L,by rw[A,mJ]⟩
 ·obtain⟨m,M,G⟩:=I.loc
  refine⟨m,ns m M,λi x v f A K=>?_⟩
  obtain⟨u,r,l⟩:=G i x v f A K
  refine⟨u,r,?_⟩
  rcases l with l|⟨k,c,e,z⟩
  ·exact .inl l
  ·exact .inr ⟨k,c,e,t x c e _ z⟩
 ·obtain⟨v,z⟩:=I.cell x c e
  exact⟨v,t x c e v z⟩
 ·obtain⟨m,⟨o,_,_,y,_⟩,_⟩:=I.loc
  exact free _ o (λz=>(hch _ z).2.1 rfl) y I.free
 ·obtain⟨v,o,y,C⟩:=I.cell x c e
  exact free c o (λz=>(hch c z).2.2.1 x c e rfl) y (I.freeC x c e)
 ·obtain⟨e,n,E,nf,d⟩:=I.pin p hp
  have g:p.1∉ch:=λz=>(hch p.1 z).2.2.2 p hp rfl
  exact⟨keep p.1 p.2 E nf g e n,free p.1 p.2 g e n,E,nf,d⟩
theorem Inv.un{t':Nat}(I:Inv X pins σ H s)(u:Un X.fs [] H H' s.heap h')(hok:HOk X.prog X.w H' h'):Inv X pins σ H' {s with heap:=h',toks:=t'}:=by
 obtain⟨m,⟨o,t,q,f,r⟩,_⟩:=id I.loc;obtain⟨v,j⟩:=u.any f I.free (by simp);exact I.step (g':=s.gens) (d':=s.drawn) (ch:=[]) (λ_ z=>nomatch z) (λb o _ c _ e n=>u.keep b o e n c (by simp)) (λb o _ c _ e n=>u.slot b o e n c (by simp)) (λb o _ e n=>u.free b o e n (by simp)) (λb o _ e=>u.there b o e (by simp)) u.tups u.frzs u.tbls (λp k=>by
  obtain⟨l,g,d,a,h⟩:=k;rw[f]at a;cases a;exact⟨_,g,d,j,h⟩) hok I.bare
theorem Inv.call{g':Array GenState}{t':Nat}{d':Drawn}{ch:List cG}(I:Inv X pins σ H s)(u:Un (Fm X.stack) ch H H' s.heap h')(hok:HOk X.prog X.w H' h')(hg:AllBare g')
  (hch:∀b∈ch,(b∈X.ex\/X.s₀.heap.objs.size<=b)/\b≠X.env.locals/\(∀x c,X.env.cells.lookup x=some c->c≠b)/\∀p∈X.pn++pins,p.1≠b):
  Inv X pins σ H' {s with heap:=h',gens:=g',drawn:=d',toks:=t'}:=by
 obtain⟨m,⟨o,A,y,h,r⟩,_⟩:=id I.loc
 obtain⟨B,f⟩:=u.any h I.free λz=>(hch _ z).2.1 rfl
 exact I.step (ch:=ch) hch (λb o f l a e n=>u.keep b o e n (λz=>(cZ.mp (I.stkSub b z)).elim f l) a) (λb o _ _ a e n=>u.any e n a) (λb o a e n=>u.free b o e n a) (λb o a e=>u.there b o e a) u.tups u.frzs u.tbls (λv q=>by
  obtain⟨t,j,g,d,k⟩:=q
  rw[h]at d;cases d
  exact⟨_,j,g,f,k⟩) hok hg
theorem Inv.turned{t':Nat}{it:cG}(I:Inv X pins σ H s)(k:∀b o,b≠it->s.heap.get? b=some o->h'.get? b=some o)(hn:H it=none)(hL:it≠X.env.locals)
  (h1:it∈X.ex\/X.s₀.heap.objs.size<=it)(h2:∀x c,X.env.cells.lookup x=some c->c≠it)(h3:∀p∈X.pn++pins,p.1≠it):Inv X pins σ H {s with heap:=h',toks:=t'}:=by
 have d:∀b u,H b=some u->b≠it:=λb u e z=>by rw[z,hn]at e;cases e
 refine I.step (g':=s.gens) (d':=s.drawn) (ch:=[it]) (λb f=>?_) (λb o _ _ a e _=>k b o (λz=>a (by simp[z])) e) (λb o _ _ a e _=>⟨o.slots,k b o (λz=>a (by simp[z])) e⟩) (λ_ _ _ _ n=>n)
  (λb o a e=>⟨o,k b o (λz=>a (by simp[z])) e⟩) (λ_ _ e=>e) (λ_ _ _ e=>e) (λb t e=>⟨#[],by rw[e];simp⟩) (λm l=>?_) (λb u e=>?_) I.bare
 ·have e:b=it:=by simpa using f
  subst e
  exact⟨h1,hL,h2,h3⟩
 ·obtain⟨o,j,h,g,r⟩:=l
  exact⟨o,j,h,k _ o (Ne.symm hL) g,r⟩
 ·refine(I.hok b u e).stay (λc v a q=>k c v ?_ q) (λ_ q=>q) λ_ _ q=>q
  rcases a with z|z
  ·rw[z];exact d b u e
  ·exact d c _ z
theorem Inv.tok(I:Inv X pins σ H s)(t:Nat):Inv X pins σ H {s with toks:=t}:=I.un (h':=s.heap) (t':=t) Un.refl I.hok
theorem Inv.kept{t':Nat}(I:Inv X pins σ H s)(k:∀b u,s.heap.get? b=some u->h'.get? b=some u):Inv X pins σ H {s with heap:=h',toks:=t'}:=I.un (Un.kept k) (I.hok.kept k)
theorem Inv.laid{a:cG}{o:HO}{t':Nat}(I:Inv X pins σ H s)(k:∀b u,s.heap.get? b=some u->h'.get? b=some u)(hp:s.heap.objs.size<=a)(new:ObjOk X.prog X.w (upd H a o) h' a o):
  Inv X pins σ (upd H a o) {s with heap:=h',toks:=t'}:=I.un (Un.laid k hp (I.hok.fresh hp)) (I.hok.laid k hp new)
theorem Inv.write{x e:cG}{o:HO}{t':Nat}(I:Inv X pins σ H s)(mu:LT (H x))(he:e=x\/H e=some (.own x))(k:∀b u,b≠e->s.heap.get? b=some u->h'.get? b=some u)(heo:∃u,h'.get? e=some u)
  (new:ObjOk X.prog X.w (upd H x o) h' x o):Inv X pins σ (upd H x o) {s with heap:=h',toks:=t'}:=I.un (Un.write mu he k heo) (I.hok.write mu he k heo new)
theorem Inv.weak{σ':List (Option V)}(I:Inv X pins σ H s)(hl:σ'.length=σ.length)(w:∀(i:Nat) v,σ'[i]?=some (some v)->σ[i]?=some (some v)):Inv X pins σ' H s:=
 ⟨I.ok,I.os,I.bare,I.base,let⟨m,e,a⟩:=I.loc;⟨m,e,λi x v b d c=>a i x v b (w i v d) c⟩,I.cell,I.free,I.freeC,I.pin,I.hok,hl.trans I.len⟩
theorem Inv.pins_of{pins':List (cG×Obj)}(I:Inv X pins σ H s)(h:∀p∈pins',s.heap.get? p.1=some p.2/\H p.1=none/\p.1≠X.env.locals/\p.1∉X.fs/\∀v,p.2.data≠ .cell v):Inv X pins' σ H s:=
 ⟨I.ok,I.os,I.bare,I.base,I.loc,I.cell,I.free,I.freeC,λp hp=>(dJ.mp hp).elim (λz=>I.pin p (jL _ z)) (h p),I.hok,I.len⟩
theorem yP{N:List Str}(hN:N.Nodup){i j:Nat}{x:Str}(a:N[i]?=some x)(b:N[j]?=some x):i=j:=by
 obtain⟨h1,d⟩:=cL.mp a;obtain⟨h2,c⟩:=cL.mp b;exact(List.getElem_inj hN).mp (d.trans c.symm)
theorem xJ{M:Model}{A:dw}{E:cA->cD->Prop}{i:Nat}{x:Str}{v:V}{u:cA}{Q:Unit->cD->Prop}(I:Inv X pins σ H s)(hN:X.N.Nodup)(hi:X.N[i]?=some x)(hx:LX X.env.scope x)(r:RelV v u)
  (h:∀s',Inv X pins (σ.set i (some v)) H s'->(∃a,fK a s.heap s'.heap/\(a=X.env.locals\/X.env.cells.lookup x=some a))->Q () s')(hf:X.fn x=true\/X.env.scope.names.lookup x=some .local:=by first|exact .inl rfl|exact .inr rfl|assumption):wpAny M A (storeName X.env x u) Q E s:=by
 obtain⟨m,hn,hl⟩:=id I.loc
 have ab:(X.env.scope.kind == .class||(X.env.scope.kind == .module&&X.env.locals != X.env.globals))=false:=by rw[I.ok.kind];rfl
 have J:i<σ.length:=by rw[I.len];exact(cL.mp hi).1
 have L:=I.cne
 have t:∀{a:cG} {G:Heap},(∃o,s.heap.get? a=some o/\H a=none)->fK a s.heap G->HOk X.prog X.w H G:=λ {a G} ha f b ob e=>by
  obtain⟨_,_,F⟩:=ha
  refine(I.hok b ob e).stay (λc P l q=>(f.2 c ?_).trans q) (λ_ q=>q) λ_ _ q=>q
  rintro rfl
  rcases l with rfl|l
  ·rw[F]at e;cases e
  ·rw[F]at l;cases l
 rcases hx with hk|hk
 ·refine wpAny_storeName_local hk hn (λG ad f=>?_) ab
  obtain⟨oL,_,_,ac,_⟩:=id hn
  refine h _ ⟨I.ok,I.os,I.bare,⟨λb o e n C hx=>?_,λb o e n C hx=>?_,I.base.free,λb o e hx=>?_,I.base.tups,I.base.frzs,I.base.tbls⟩,⟨_,ad,λj y v' g B e3=>?_⟩,λy c e=>?_,I.free,I.freeC,λp hp=>?_,t ⟨oL,ac,I.free⟩ f,by simpa using I.len⟩ ⟨_,f,.inl rfl⟩
  ·exact(f.2 b (df (cU (cQ e) I.ok.above))).trans (I.base.keep b o e n C hx)
  ·obtain⟨sl,g⟩:=I.base.slot b o e n C hx
   exact⟨sl,(f.2 b (df (cU (cQ e) I.ok.above))).trans g⟩
  ·obtain⟨Z,g⟩:=I.base.there b o e hx
   exact⟨Z,(f.2 b (df (cU (cQ e) I.ok.above))).trans g⟩
  ·by_cases D:j=i
   ·subst D
    rw[hi]at g;cases g
    rw[lq J]at B
    cases B
    exact⟨u,r,.inl ⟨hk,by simp⟩⟩
   ·rw[jM (Ne.symm D)]at B
    obtain⟨Y,W,q⟩:=hl j y v' g B e3
    refine⟨Y,W,?_⟩
    rcases q with⟨k,e⟩|⟨k,c,e,z⟩
    ·refine .inl ⟨k,?_⟩
     have:y≠x:=λe=>D (yP hN g (e▸hi))
     simp[this,e]
    ·exact .inr ⟨k,c,e,z.sameBut f (L y c e)⟩
  ·obtain⟨P,z⟩:=I.cell y c e
   exact⟨P,z.sameBut f (L y c e)⟩
  ·obtain⟨e,n,R,nf,d⟩:=I.pin p hp
   exact⟨(f.2 p.1 R).trans e,n,R,nf,d⟩
 ·have K:X.fn x=true:=by
   rcases hf with z|z
   ·exact z
   ·rw[z]at hk;cases hk
  obtain⟨c,l⟩:=I.ok.has x (.inl hk)
  obtain⟨P,z⟩:=I.cell x c l
  refine wpAny_storeName_cell I.ok.kind hk l z (λG S f=>?_)
  obtain⟨oc,U,aa⟩:=id z
  refine h {s with heap:=G} ⟨I.ok,I.os,I.bare,⟨λb o e n C hx=>?_,λb o e n C hx=>?_,I.base.free,λb o e hx=>?_,I.base.tups,I.base.frzs,I.base.tbls⟩,⟨m,hn.sameBut f (Ne.symm (L x c l)),λj y v' g B e3=>?_⟩,λy O e=>?_,I.free,I.freeC,λp hp=>?_,t ⟨oc,U,I.freeC x c l⟩ f,by simpa using I.len⟩ ⟨c,f,.inr l⟩
  ·exact(f.2 b (df (cU (cQ e) (I.ok.cab x c K l)))).trans (I.base.keep b o e n C hx)
  ·obtain⟨sl,g⟩:=I.base.slot b o e n C hx
   exact⟨sl,(f.2 b (df (cU (cQ e) (I.ok.cab x c K l)))).trans g⟩
  ·obtain⟨Z,g⟩:=I.base.there b o e hx
   exact⟨Z,(f.2 b (df (cU (cQ e) (I.ok.cab x c K l)))).trans g⟩
  ·by_cases D:j=i
   ·subst D
    rw[hi]at g;cases g
    rw[lq J]at B
    cases B
    exact⟨u,r,.inr ⟨.inl hk,c,l,S⟩⟩
   ·rw[jM (Ne.symm D)]at B
    obtain⟨Y,W,q⟩:=hl j y v' g B e3
    refine⟨Y,W,?_⟩
    rcases q with q|⟨k,O,e,z'⟩
    ·exact .inl q
    ·refine .inr ⟨k,O,e,z'.sameBut f ?_⟩
     rintro rfl
     exact D (yP hN g (I.ok.inj _ _ _ e l▸hi))
  ·by_cases T:O=c
   ·subst T;exact⟨_,S⟩
   ·obtain⟨w2,z2⟩:=I.cell y O e
    exact⟨w2,z2.sameBut f T⟩
  ·obtain⟨e,n,R,nf,d⟩:=I.pin p hp
   refine⟨(f.2 p.1 ?_).trans e,n,R,nf,d⟩
   intro q
   rw[q,U]at e
   have q':oc=p.2:=Option.some.inj e
   exact d P (by rw[<-q'];exact aa)
theorem y0{M:Model}{A:dw}{E:cA->cD->Prop}{i:Nat}{x:Str}{v:V}{u:cA}{Q:Unit->cD->Prop}(I:Inv X pins σ H s)(hN:X.N.Nodup)(hi:X.N[i]?=some x)(hx:LX X.env.scope x)(r:RelV v u)
  (h:∀s',Inv X pins (σ.set i (some v)) H s'->Q () s')(hf:X.fn x=true\/X.env.scope.names.lookup x=some .local:=by first|exact .inl rfl|exact .inr rfl|assumption):wpAny M A (storeName X.env x u) Q E s:=
 xJ I hN hi hx r (λs' a _=>h s' a) hf
theorem Inv.call'{s':cD}{ch:List cG}(I:Inv X pins σ H s)(ho:s'.os=s.os)(u:Un (Fm X.stack) ch H H' s.heap s'.heap)(hok:HOk X.prog X.w H' s'.heap)(hg:AllBare s'.gens)
  (hch:∀b∈ch,(b∈X.ex\/X.s₀.heap.objs.size<=b)/\b≠X.env.locals/\(∀x c,X.env.cells.lookup x=some c->c≠b)/\∀p∈X.pn++pins,p.1≠b):Inv X pins σ H' s':=by
 obtain⟨d,g',d',t',a⟩:=s'
 have e:a=s.os:=ho
 subst e
 exact I.call (g':=g') (t':=t') (d':=d') u hok hg hch
end
abbrev XK:=cA->Option cG->Hp->Prop
abbrev St:=List (Option V)
abbrev VK:=V->Hp->Prop
abbrev TE:=St->Hp->VK->Prop
abbrev TT:=St->Hp->(Bool->Hp->Prop)->Prop
abbrev TA:=St->Hp->(List V->Hp->Prop)->Prop
structure Gs where
 nx:St->Hp->Prop
 rt:VK
 bk:St->Hp->Prop:=λ_ _=>False
 ct:St->Hp->Prop:=λ_ _=>False
abbrev TS:=Gs->St->Hp->Prop
def EP(X:Cx)(pins:List (cG×Obj))(σ:St)(Q:VK)(u:cA)(s':cD):Prop:=∃v H',Inv X pins σ H' s'/\RelV v u/\Q v H'
def TP(X:Cx)(pins:List (cG×Obj))(σ:St)(Q:Bool->Hp->Prop)(b:Bool)(s':cD):Prop:=∃H',Inv X pins σ H' s'/\Q b H'
def AP(X:Cx)(pins:List (cG×Obj))(σ:St)(Q:List V->Hp->Prop)(us:List cA)(s':cD):Prop:=∃vs H',Inv X pins σ H' s'/\Vals vs us/\Q vs H'
def SP(X:Cx)(pins:List (cG×Obj))(D:Gs)(f:Flow)(s':cD):Prop:=
 match f with
 | .next=>∃σ' H',Inv X pins σ' H' s'/\D.nx σ' H'
 | .brk=>∃σ' H',Inv X pins σ' H' s'/\D.bk σ' H'
 | .cont=>∃σ' H',Inv X pins σ' H' s'/\D.ct σ' H'
 | .ret u=>∃v σ' H',Inv X pins σ' H' s'/\RelV v u/\D.rt v H'
def PE(X:Cx)(e:Expr)(t:TE):Prop:=
 ∀(pins:List (cG×Obj)) (s:cD) (σ:St) (H:Hp) (Q:VK),Inv X pins σ H s->t σ H Q->wpAny (model X.prog X.w) X.A (eval e X.env) (EP X pins σ Q) X.xe s
def PT(X:Cx)(e:Expr)(t:TT):Prop:=
 ∀(pins:List (cG×Obj)) (s:cD) (σ:St) (H:Hp) (Q:Bool->Hp->Prop),Inv X pins σ H s->t σ H Q->wpAny (model X.prog X.w) X.A (isTrue e X.env (eval e X.env)) (TP X pins σ Q) X.xe s
def PW(X:Cx)(e:Expr)(t:TT):Prop:=
 ∀(whole:Sem cA) (pins:List (cG×Obj)) (s:cD) (σ:St) (H:Hp) (Q:Bool->Hp->Prop),Inv X pins σ H s->t σ H Q->wpAny (model X.prog X.w) X.A (isTrue e X.env whole) (TP X pins σ Q) X.xe s
theorem PW.pt{X:Cx}{e:Expr}{t:TT}(h:PW X e t):PT X e t:=h _
def PA(X:Cx)(es:List Expr)(t:TA):Prop:=
 ∀(pos:Pos) (pins:List (cG×Obj)) (s:cD) (σ:St) (H:Hp) (Q:List V->Hp->Prop),Inv X pins σ H s->t σ H Q->wpAny (model X.prog X.w) X.A (spliced (backTo pos (dh es X.env))) (AP X pins σ Q) X.xe s
def PS(X:Cx)(st:Stmt)(t:TS):Prop:=
 ∀(pins:List (cG×Obj)) (s:cD) (σ:St) (H:Hp) (D:Gs),Inv X pins σ H s->t D σ H->wpAny (model X.prog X.w) X.A (exec st X.env) (SP X pins D) X.xe s
def PSs(X:Cx)(st:List Stmt)(t:TS):Prop:=
 ∀(pins:List (cG×Obj)) (s:cD) (σ:St) (H:Hp) (D:Gs),Inv X pins σ H s->t D σ H->wpAny (model X.prog X.w) X.A (execs st X.env) (SP X pins D) X.xe s
theorem Ej{α:Type}{t:Sem α}{Q Q':α->cD->Prop}{M:Model}{A:dw}{E:cA->cD->Prop}{s:cD}(h:wpAny M A t Q E s)(hQ:∀a s,Q a s->Q' a s):wpAny M A t Q' E s:=gj h hQ λ_ _ x=>x
section
variable{X:Cx}
theorem bin{a b:Expr}{ta tb:TE}(ha:PE X a ta)(hb:PE X b tb){pins:List (cG×Obj)}{s:cD}{σ:St}{H:Hp}{R:V->V->Hp->Prop}(I:Inv X pins σ H s)(h:ta σ H λx H1=>tb σ H1 λy H2=>R x y H2)
  {α:Type}{Q:α->cD->Prop}{f:cA->cA->Sem α}
  (hf:∀v u s2 x y H2,Inv X pins σ H2 s2->RelV x v->RelV y u->R x y H2->wpAny (model X.prog X.w) X.A (f v u) Q X.xe s2):
  wpAny (model X.prog X.w) X.A (eval a X.env) (λv s₁=>wpAny (model X.prog X.w) X.A (eval b X.env) (λu s₂=>wpAny (model X.prog X.w) X.A (f v u) Q X.xe s₂) X.xe s₁) X.xe s:=by
 refine Ej (ha pins s σ H _ I h) λv l ⟨x,H1,c,e,d⟩=>?_
 refine Ej (hb pins l σ H1 _ c d) λu s2 ⟨y,H2,j,g,k⟩=>?_
 exact hf v u s2 x y H2 j e g k
def K4(i:Nat):TE:=λσ H Q=>∃v,σ[i]?=some (some v)/\Q v H
def tC(v:V):TE:=λ_ H Q=>Q v H
theorem DU{i:Nat}{x:Str}{pos:Pos}(hN:X.N[i]?=some x)(hv:LW X.env.scope x)(hd:(x==("__debug__":Str))=false:=by decide)(hcd:(x==("__classdict__":Str))=false:=by decide):PE X (.Name x pos) (K4 i):=by
 intro b s f H Q I h;obtain⟨v,e,h⟩:=h;obtain⟨m,k,g⟩:=I.loc;obtain⟨u,r,l⟩:=g i x v hN e hv;have fin:EP X b f Q u s:=⟨v,H,I,r,h⟩;rcases l with⟨hk,j⟩|⟨hk,c,d,a⟩
 ·exact oJ (wpAny_loadName_local I.ok.kind hk k j fin) hd
 ·rcases hk with hk|hk
  ·exact oJ (wpAny_loadName_cell I.ok.kind hk d a fin) hd
  ·exact oJ (wpAny_loadName_free I.ok.kind hk d a fin hcd) hd
theorem rE{i j pos}:PE X (.Constant (.int i) j pos) (tC (.int i)):=λ_ _ _ H _ I h=>wpAny_Constant_int ⟨.int i,H,I.tok _,⟨_,rfl⟩,h⟩
theorem ug{b j pos}:PE X (.Constant (.bool b) j pos) (tC (.bl b)):=λ_ _ _ H _ I h=>Constant_bool ⟨.bl b,H,I,rfl,h⟩
theorem v9{j pos}:PE X (.Constant .none j pos) (tC .non):=λ_ _ _ H _ I h=>Constant_none ⟨.non,H,I,rfl,h⟩
theorem sD{x j pos}:PE X (.Constant (.str x) j pos) (tC (.str x)):=λ_ _ _ H _ I h=>Calls.Constant_str ⟨.str x,H,I.tok _,⟨_,rfl⟩,h⟩
def Gl(X:Cx)(x:Str):Prop:=X.env.kindOf x=some .globalImplicit
theorem vz{E:cA->cD->Prop}{pins:List (cG×Obj)}{s:cD}{σ:St}{H:Hp}{x:Str}{u:cA}{pos:Pos}{Q:cA->cD->Prop}(I:Inv X pins σ H s)(hg:Gl X x)(hm:X.mg x=some u)(h:Q u s)
  (hd:(x==("__debug__":Str))=false:=by decide):wpAny (model X.prog X.w) X.A (eval (.Name x pos) X.env) Q E s:=
 iH I.ok.kind hg (kT (by rw[I.ok.glob];exact I.mod.glob.keeps I.bk) hm h) hd
theorem tI{E:cA->cD->Prop}{pins:List (cG×Obj)}{s:cD}{σ:St}{H:Hp}{x:Str}{u:cA}{pos:Pos}{Q:cA->cD->Prop}(I:Inv X pins σ H s)(hg:Gl X x)(hm:X.mg x=none)(hv:bootBuiltins x=some u)(h:Q u s)
  (hn:x≠"__name__":=by decide)(hd:(x==("__debug__":Str))=false:=by decide):wpAny (model X.prog X.w) X.A (eval (.Name x pos) X.env) Q E s:=by
 obtain⟨a,h1,h2⟩:=I.mod.blt
 exact iH I.ok.kind hg (Calls.loadGlobal_builtin (by rw[I.ok.glob];exact I.mod.glob.keeps I.bk) hm (by rw[I.ok.blt];exact h1.keeps I.bk) ((h2 x hn).trans hv) h) hd
theorem CL{x:Str}{v:V}{u:cA}{pos:Pos}(hg:Gl X x)(hm:X.mg x=none)(hv:bootBuiltins x=some u)(r:RelV v u)(hn:x≠"__name__":=by decide)(hd:(x==("__debug__":Str))=false:=by decide):PE X (.Name x pos) (tC v):=
 λ_ _ _ H _ I h=>tI I hg hm hv ⟨v,H,I,r,h⟩ hn hd
variable{a b:Expr}{ta tb:TE}{pos:Pos}
def PC(X:Cx)(op:CmpOp)(a b:Expr)(t:TE):Prop:=
 ∀(pins:List (cG×Obj)) (s:cD) (σ:St) (H:Hp) (Q:VK),Inv X pins σ H s->t σ H Q->
  wpAny (model X.prog X.w) X.A (eval a X.env) (λv s₁=>wpAny (model X.prog X.w) X.A (eval b X.env) (λu s₂=>wpAny (model X.prog X.w) X.A (compareOp op v u) (EP X pins σ Q) X.xe s₂) X.xe s₁) X.xe s
def tB(t:TE):TT:=λσ H Q=>t σ H λx H1=>∃c,x = .bl c/\Q c H1
theorem pt_cmp{op:CmpOp}{t:TE}(h:PC X op a b t)(h1:behindInMarks op b=false:=by first|exact nobehind _ (by decide) (by decide)|rfl):PT X (.Compare a [op] [b] pos) (tB t):=by
 intro e s f H Q I g;refine lM (Ej (h e s f H _ I g) λv p h1=>Ej h1 λu n h2=>Ej h2 λc o ⟨x,k,l,m,j⟩=>?_) h1;obtain⟨d,rfl,q⟩:=j
 cases m;exact eJ ⟨k,l,q⟩
theorem sQ{e:Expr}{t:TE}(h:PE X e t)(he:∀whole,isTrue e X.env whole=(do let v<-whole;standAt e.pos;holding [v] (truthy v)):=by intro _;rfl):PT X e (tB t):=by
 intro a s f H Q I k;refine qa (Ej (h a s f H _ I k) λv l ⟨x,j,b,g,c⟩=>?_) (he _);obtain⟨d,rfl,q⟩:=c
 cases g;exact eJ ⟨j,b,q⟩
variable{tA tB':TT}{rest:List Expr}
def L7(t u:TT):TT:=λσ H Q=>t σ H λc H1=>if c=true then u σ H1 Q else Q false H1
def MP(t u:TT):TT:=λσ H Q=>t σ H λc H1=>if c=true then Q true H1 else u σ H1 Q
def L9(t:TT):TT:=λσ H Q=>t σ H λc H1=>Q (!c) H1
theorem zQ(ha:PT X a tA):PW X (.BoolOp .And [a] pos) tA:=by
 intro f b s d H Q I h;refine isTrue_and (Ej (ha b s d H Q I h) λc g e=>?_)
 cases c with
 | true=>exact isTrue_and_nil e
 | false=>exact e
theorem wf(ha:PT X a tA):PW X (.BoolOp .Or [a] pos) tA:=by
 intro f b s d H Q I h;refine isTrue_or (Ej (ha b s d H Q I h) λc g e=>?_)
 cases c with
 | false=>exact isTrue_or_nil e
 | true=>exact e
theorem CA(ha:PT X a tA)(hb:PW X (.BoolOp .And (b::rest) pos) tB'):PW X (.BoolOp .And (a::b::rest) pos) (L7 tA tB'):=by
 intro k d s g H Q I h;refine isTrue_and (Ej (ha d s g H _ I h) λc l ⟨j,e,f⟩=>?_)
 cases c with
 | true=>exact hb k d l g j Q e f
 | false=>exact⟨j,e,f⟩
theorem w5(ha:PT X a tA)(hb:PW X (.BoolOp .Or (b::rest) pos) tB'):PW X (.BoolOp .Or (a::b::rest) pos) (MP tA tB'):=by
 intro k d s g H Q I h;refine isTrue_or (Ej (ha d s g H _ I h) λc l ⟨j,e,f⟩=>?_)
 cases c with
 | true=>exact⟨j,e,f⟩
 | false=>exact hb k d l g j Q e f
theorem tE(ha:PT X a tA):PT X (.UnaryOp .Not a pos) (L9 tA):=by
 intro b s d H Q I h;exact isTrue_not (ha b s d H (λc e=>Q (!c) e) I h)
def LC(ta tb:TE):TE:=λσ H Q=>ta σ H λx H1=>∃c,x = .bl c/\if c=true then tb σ H1 Q else Q (.bl false) H1
def LI(ta:TE):TE:=λσ H Q=>ta σ H λx H1=>∃c,x = .bl c/\Q (.bl (!c)) H1
theorem vB{op}{t:TE}(h:PE X a t):PE X (.BoolOp op [a] pos) t:=λb s c H Q I d=>BoolOp_one (h b s c H Q I d)
theorem ut(ha:PE X a ta)(hb:PE X (.BoolOp .And (b::rest) pos) tb):PE X (.BoolOp .And (a::b::rest) pos) (LC ta tb):=by
 intro d s g H Q I h;refine BoolOp_and (Ej (ha d s g H _ I h) λv l ⟨x,j,f,k,e⟩=>?_);obtain⟨c,rfl,e⟩:=e
 cases k;refine eJ ?_
 cases c with
 | true=>exact hb d l g j Q f e
 | false=>exact⟨.bl false,j,f,rfl,e⟩
theorem Cy(ha:PE X a ta):PE X (.UnaryOp .Not a pos) (LI ta):=by
 intro d s f H Q I h;refine UnaryOp_ (Ej (ha d s f H _ I h) λv k ⟨x,j,e,g,b⟩=>?_);obtain⟨c,rfl,b⟩:=b
 cases g;exact not_of (eJ ⟨.bl (!c),j,e,rfl,b⟩)
end
def SqL(K:cu)(H:Hp)(a:cG)(xs:List V):Prop:=
 Rd H a (.lst xs)\/
  ∃(o:Obj) (its:Array cA) (n:Nat),K.lookup a=some o/\o.cls = .type "list"/\o.dict=none/\o.data = .seq its n/\its.size<=sizeLine/\Vals xs its.toList
def SqT(K:cu)(H:Hp)(a:cG)(xs:List V):Prop:=
 Rd H a (.tup xs)\/
  ∃(o:Obj) (its:Array cA) (n:Nat),K.lookup a=some o/\o.cls = .type "tuple"/\o.data = .seq its n/\its.size<=sizeLine/\Vals xs its.toList
def Mt:cA->Option V
 | .none=>some .non
 | .bool b=>some (.bl b)
 | .int i _=>some (.int i)
 | .str x _=>some (.str x)
 | .bytes b _=>some (.byt b)
 | .float b _=>some (.flt b)
 | .ref a=>some (.ref a)
 | .type n=>some (.ty n)
 | _=>none
theorem RelV.abs{x:V}{u:cA}(r:RelV x u):Mt u=some x:=by
 cases x with
 | non=>cases r;rfl
 | bl _=>cases r;rfl
 | int _=>obtain⟨t,rfl⟩:=r;rfl
 | str _=>obtain⟨t,rfl⟩:=r;rfl
 | byt _=>obtain⟨t,rfl⟩:=r;rfl
 | flt _=>obtain⟨t,rfl⟩:=r;rfl
 | ref _=>cases r;rfl
 | ty _=>cases r;rfl
theorem RelV.inj{x y:V}{u:cA}(r:RelV x u)(q:RelV y u):x=y:=Option.some.inj (r.abs.symm.trans q.abs)
theorem Vals.inj:∀{xs ys:List V} {us:List cA},Vals xs us->Vals ys us->xs=ys
 | _,_,_,.nil,.nil=>rfl
 | _,_,_,.cons r t,.cons r' t'=>by rw[r.inj r',Vals.inj t t']
section
variable{X:Cx}{pins:List (cG×Obj)}{σ:St}{H:Hp}{s:cD}{a:cG}{xs ys:List V}
theorem SqL.of{K:cu}(h:H a=some (.lst xs)):SqL K H a xs:= .inl (.inl h)
theorem SqT.of{K:cu}(h:H a=some (.tup xs)):SqT K H a xs:= .inl (.inl h)
theorem Inv.list(I:Inv X pins σ H s)(h:SqL X.K H a xs):∃its:List cA,Vals xs its/\PlainL s.heap a its.toArray/\xs.length<=sizeLine:=by
 rcases h with h|⟨o,its,n,hk,b,c,d,f,r⟩
 ·obtain⟨z,its,n,r,e⟩:=h.ok I.hok;exact⟨its,r,⟨_,n,e,rfl,rfl,rfl⟩,z⟩
 ·refine⟨its.toList,r,⟨o,n,I.kIn a o hk,b,c,by simpa using d⟩,?_⟩;have e:=r.length;simp only[eo]at e;omega
theorem Inv.tuple(I:Inv X pins σ H s)(h:SqT X.K H a xs):∃its:List cA,Vals xs its/\IsTup s.heap a its.toArray/\xs.length<=sizeLine:=by
 rcases h with h|⟨o,its,n,hk,b,c,d,r⟩
 ·obtain⟨z,its,r,p⟩:=h.ok I.hok;exact⟨its,r,p,z⟩
 ·refine⟨its.toList,r,⟨o,I.kIn a o hk,b,n,by simpa using c⟩,?_⟩;have e:=r.length;simp only[eo]at e;omega
theorem Inv.list_inj(I:Inv X pins σ H s)(h:SqL X.K H a xs)(h':SqL X.K H a ys):xs=ys:=by
 obtain⟨g,r,⟨o,n,e,_,_,d⟩,_⟩:=I.list h;obtain⟨b,j,⟨l,k,f,_,_,c⟩,_⟩:=I.list h';rw[e]at f;cases f;rw[d]at c;injection c with d1 _
 have:g=b:=by simpa using congrArg m5 d1
 subst this;exact r.inj j
theorem Inv.tuple_inj(I:Inv X pins σ H s)(h:SqT X.K H a xs)(h':SqT X.K H a ys):xs=ys:=by
 obtain⟨g,r,⟨o,e,_,n,d⟩,_⟩:=I.tuple h;obtain⟨b,j,⟨l,f,_,k,c⟩,_⟩:=I.tuple h';rw[e]at f;cases f;rw[d]at c;injection c with d1 _
 have:g=b:=by simpa using congrArg m5 d1
 subst this;exact r.inj j
end
abbrev Cx.wish(X:Cx)(E:cA->cD->Prop):Cx:={X with xe:=E}
abbrev Cx.nox(X:Cx):Cx:=X.wish λ_ _=>False
theorem Cx.Ok.wish{X:Cx}(ok:X.Ok)(E:cA->cD->Prop):(X.wish E).Ok:=
 ⟨ok.mod,ok.kind,ok.glob,ok.blt,ok.above,ok.inj,ok.has,ok.cab,ok.hd,ok.frames,ok.stk,ok.exf,ok.bs,ok.bsz,ok.noex,ok.exfs,ok.funs,ok.frf⟩
theorem Cx.Ok.unwish{X:Cx}{E:cA->cD->Prop}(ok:(X.wish E).Ok):X.Ok:=
 ⟨ok.mod,ok.kind,ok.glob,ok.blt,ok.above,ok.inj,ok.has,ok.cab,ok.hd,ok.frames,ok.stk,ok.exf,ok.bs,ok.bsz,ok.noex,ok.exfs,ok.funs,ok.frf⟩
section
variable{X:Cx}{pins:List (cG×Obj)}{σ:St}{H:Hp}{s:cD}{E:cA->cD->Prop}
theorem Inv.wish(I:Inv X pins σ H s)(E:cA->cD->Prop):Inv (X.wish E) pins σ H s:=⟨I.ok.wish E,I.os,I.bare,I.base,I.loc,I.cell,I.free,I.freeC,I.pin,I.hok,I.len⟩
theorem Inv.unwish(I:Inv (X.wish E) pins σ H s):Inv X pins σ H s:=⟨I.ok.unwish,I.os,I.bare,I.base,I.loc,I.cell,I.free,I.freeC,I.pin,I.hok,I.len⟩
theorem SP.unwish{D:Gs}{f:Flow}{s':cD}(h:SP (X.wish E) pins D f s'):SP X pins D f s':=by
 cases f with
 | next=>obtain⟨a,b,I,q⟩:=h;exact⟨a,b,I.unwish,q⟩
 | brk=>obtain⟨a,b,I,q⟩:=h;exact⟨a,b,I.unwish,q⟩
 | cont=>obtain⟨a,b,I,q⟩:=h;exact⟨a,b,I.unwish,q⟩
 | ret u=>obtain⟨v,a,b,I,r,q⟩:=h;exact⟨v,a,b,I.unwish,r,q⟩
theorem PSs.nox{st:List Stmt}{t:TS}(h:PSs X.nox st t):PSs X st t:=λa s b H D I c=>
 gj (h a s b H D (I.wish _) c) (λ_ _ q=>q.unwish) λ_ _ z=>fj z
end
section
variable{X:Cx}{st:Stmt}{rest:List Stmt}{t u:TS}{e:Expr}{te:TE}{pos:Pos}
def K1:TS:=λD σ H=>D.nx σ H
def LR(t u:TS):TS:=λD σ H=>t {D with nx:=u D} σ H
theorem rV:PSs X [] K1:=λ_ _ a H _ I h=>io ⟨a,H,I,h⟩
theorem rn(h1:PS X st t)(h2:PSs X rest u):PSs X (st::rest) (LR t u):=by
 intro a s d H D I h;refine kU (Ej (h1 a s d H {D with nx:=u D} I h) λf g q=>?_)
 cases f with
 | next=>
  obtain⟨b,e,c,q⟩:=q;exact h2 a g b e D c q
 | ret v=>exact q
 | brk=>exact q
 | cont=>exact q
theorem rD(h1:PS X st t):PSs X [st] t:=by
 intro a s b H D I h;refine kU (Ej (h1 a s b H D I h) λf c q=>?_)
 cases f with
 | next=>exact io q
 | ret v=>exact q
 | brk=>exact q
 | cont=>exact q
theorem Inv.quiet{pins:List (cG×Obj)}{σ:St}{H:Hp}{s:cD}(I:Inv X pins σ H s):interactive X.env=false:=by simp[interactive,I.ok.kind]
def Kn(te:TE):TS:=λD σ H=>te σ H λ_ H1=>D.nx σ H1
theorem sR(he:PE X e te)(hs:swapsWith e none pos.line X.env=pure false:=by rfl):PS X (.Expr e pos) (Kn te):=by
 intro a s b H D I h;exact oK (Ej (he a s b H _ I h) λv j ⟨x,f,c,g,d⟩=>⟨b,f,c,d⟩) I.quiet hs
def Mr(te:TE):TS:=λD σ H=>te σ H D.rt
theorem rM(he:PE X e te):PS X (.Return (some e) pos) (Mr te):=by
 intro a s b H D I h;exact wpAny_Return_some (Ej (he a s b H _ I h) λv j ⟨x,g,c,f,d⟩=>⟨x,b,g,c,f,d⟩)
def L0(c:TT)(t u:TS):TS:=λD σ H=>c σ H λb H1=>if b=true then t D σ H1 else u D σ H1
theorem sv{c:Expr}{a b:List Stmt}{tc:TT}(hc:PT X c tc)(ha:PSs X a t)(hb:PSs X b u):PS X (.If c a b pos) (L0 tc t u):=by
 intro e s f H D I h;refine wpAny_If (Ej (hc e s f H _ I h) λd l ⟨k,g,j⟩=>?_)
 cases d with
 | true=>exact ha e l f k D g j
 | false=>exact hb e l f k D g j
def Kv:TS:=λ_ _ _=>False
theorem Bd{sts:List Stmt}:PSs X sts Kv:=λ_ _ _ _ _ _ h=>h.elim
end
abbrev TG:=V->St->Hp->(St->Hp->Prop)->Prop
abbrev JR:=List V->St->Hp->(St->Hp->Prop)->Prop
def PG(X:Cx)(target:Expr)(t:TG):Prop:=
 ∀(pins:List (cG×Obj)) (s:cD) (σ:St) (H:Hp) (v:V) (u:cA) (Q:St->Hp->Prop),Inv X pins σ H s->RelV v u->t v σ H Q->
  wpAny (model X.prog X.w) X.A (assign target X.env u) (λ_ s'=>∃σ' H',Inv X pins σ' H' s'/\Q σ' H') X.xe s
def LL(X:Cx)(ts:List Expr)(t:JR):Prop:=
 ∀(pins:List (cG×Obj)) (s:cD) (σ:St) (H:Hp) (vs:List V) (us:List cA) (Q:St->Hp->Prop),Inv X pins σ H s->Vals vs us->t vs σ H Q->
  wpAny (model X.prog X.w) X.A (assignInOrder ((assignEach ts X.env).map (·.2)) us) (λ_ s'=>∃σ' H',Inv X pins σ' H' s'/\Q σ' H') X.xe s
abbrev KG:=V->V->V->Hp->(Hp->Prop)->Prop
def J0(X:Cx)(t:KG):Prop:=
 ∀(pins:List (cG×Obj)) (s:cD) (σ:St) (H:Hp) (o i v:V) (ov iv u:cA) (Q:Hp->Prop),Inv X pins σ H s->RelV o ov->RelV i iv->RelV v u->t o i v H Q->
  wpAny (model X.prog X.w) X.A (setItem ov iv u) (λ_ s'=>∃H',Inv X pins σ H' s'/\Q H') X.xe s
section
variable{X:Cx}{pos:Pos}
def Iq(i:Nat):TG:=λv σ H Q=>Q (σ.set i (some v)) H
theorem rK{i:Nat}{x:Str}(hN:X.N.Nodup)(hi:X.N[i]?=some x)(hx:LX X.env.scope x)(hf:X.fn x=true\/X.env.scope.names.lookup x=some .local:=by first|exact .inl rfl|exact .inr rfl|assumption):PG X (.Name x pos) (Iq i):=by
 intro b s c H v u Q I r h;exact m6 (y0 I hN hi hx r (λd a=>⟨_,H,a,h⟩) hf)
def Lf:JR:=λvs σ H Q=>vs=[]/\Q σ H
def Kp(t:TG)(u:JR):JR:=λvs σ H Q=>∃v r,vs=v::r/\t v σ H λσ' H'=>u r σ' H' Q
theorem uk:LL X [] Lf:=by
 intro b s a H vs c Q I r h;obtain⟨e,h⟩:=h;subst e
 cases r;exact assignInOrder_nil ⟨a,H,I,h⟩
theorem sy{e:Expr}{es:List Expr}{t:TG}{u:JR}(h1:PG X e t)(h2:LL X es u)
  (hs:(assignEach (e::es) X.env).map (·.2)=assign e X.env::(assignEach es X.env).map (·.2):=by rfl):LL X (e::es) (Kp t u):=by
 intro a s d H vs m Q I r h
 obtain⟨v,n,c,h⟩:=h
 subst c
 cases r with
 | cons r l=>
  rw[hs]
  refine assignInOrder_cons (Ej (h1 a s d H _ _ _ I r h) λ_ k ⟨b,g,j,f⟩=>?_)
  exact h2 a k b g _ _ Q j l f
def Ky(K:cu)(n:Nat)(t:JR):TG:=λv σ H Q=>∃a xs,v = .ref a/\SqT K H a xs/\xs.length=n/\t xs σ H Q
theorem yQ{es:List Expr}{k:Nat}{t:JR}{n:Nat}(hc:X.calm=true)(h:LL X es t)
  (hn:(assignEach es X.env).length=n:=by rfl)(hst:(assignEach es X.env).findIdx? (·.1)=none:=by rfl):PG X (.Tuple es k pos) (Ky X.K n t):=by
 intro c s f H v u Q I r d
 obtain⟨a,x,j,m,p,d⟩:=d
 subst j
 cases r
 obtain⟨z,g,l,A⟩:=I.tuple m
 refine assign_Tuple_tuple (I.ok.hd hc) l (by simp[hn,<-p,g.length]) hst λw y=>?_
 have q:Inv X c f H {s with heap:=w}:=I.kept (t':=s.toks) λb o e=>y b o (df (cQ e)) e
 exact h c _ f H x _ Q q (by simpa using g) d
def LY(to ti:TE)(t:KG):TG:=λv σ H Q=>to σ H λo H1=>ti σ H1 λi H2=>t o i v H2 λH3=>Q σ H3
theorem vY{o i:Expr}{to ti:TE}{t:KG}(ho:PE X o to)(hi:PE X i ti)(hs:J0 X t)
  (ha:∀v,assign (.Subscript o i pos) X.env v=(do
   let ov<-holding [v] (eval o X.env)
   let iv<-holding [v,ov] (eval i X.env)
   standAt pos
   holding [v,ov,iv] (setItem ov iv v)
   release [v,ov,iv] []):=by intro _;rfl):PG X (.Subscript o i pos) (LY to ti t):=by
 intro a s b H v u Q I r h
 rw[ha]
 refine cr (dG (Ej (ho a s b H _ I h) λov m ⟨x,f,j,k,e⟩=>?_))
 refine cr (dG (Ej (hi a m b f _ j e) λiv d ⟨y,n,c,p,g⟩=>?_))
 refine cr (mv (cr (dG (Ej (hs a d b n x y v ov iv u _ c k p r g) λ_ z ⟨w,q,l⟩=>?_))))
 exact wpAny_release ⟨b,w,q,l⟩
def Le(te:TE)(g:TG):TS:=λD σ H=>te σ H λx H1=>g x σ H1 D.nx
theorem wj{tg e:Expr}{te:TE}{g:TG}(he:PE X e te)(hg:PG X tg g)(hs:swapsWithSole [tg] e pos.line X.env=pure false:=by rfl)(hw:swappedStores [tg] e X.env=pure none:=by rfl)
  (h1:(assignEach [tg] X.env).map (·.2)=[assign tg X.env]:=by rfl):PS X (.Assign [tg] e pos) (Le te g):=by
 intro a s b H D I h
 refine wpAny_Assign_stores (Ej (he a s b H _ I h) λv k ⟨x,j,c,f,d⟩=>?_) hs hw
 rw[h1]
 exact Ej (hg a k b j x v _ c f d) λ_ l q=>q
theorem rG{i:Nat}{x:Str}{e:Expr}{te:TE}{pos':Pos}(hN:X.N.Nodup)(hi:X.N[i]?=some x)(hx:LX X.env.scope x)(he:PE X e te)(hs:swapsWith e (some (.Name x pos')) pos.line X.env=pure false:=by rfl)(hf:X.fn x=true\/X.env.scope.names.lookup x=some .local:=by first|exact .inl rfl|exact .inr rfl|assumption):
  PS X (.Assign [.Name x pos'] e pos) (Le te (Iq i)):=by
 intro a s d H D I h
 refine wpAny_Assign_Name (Ej (he a s d H _ I h) λv l ⟨y,j,b,f,c⟩=>?_) hs
 exact y0 b hN hi hx f (λk g=>⟨_,j,g,c⟩) hf
end
section
variable{X:Cx}{pos:Pos}
def JF(c:TT)(tb:TS):TS:=λD σ H=>∃W:Nat->St->Hp->Prop,(∃m,W m σ H)/\∀m σ H,W m σ H->
 c σ H λb H1=>if b=true then ∃N:St->Hp->Prop,(∀σ' H',N σ' H'->∃m',m'<m/\W m' σ' H')/\tb {D with nx:=N,ct:=N,bk:=D.nx} σ H1 else D.nx σ H1
theorem uE{c:Expr}{body:List Stmt}{tc:TT}{tb:TS}(hp:PassesOwn (model X.prog X.w) X.A X.env X.xe)(hc:PT X c tc)(hb:PSs X body tb):PS X (.While c body [] pos) (JF tc tb):=by
 intro d s z H D I h;obtain⟨W,⟨J,K⟩,l⟩:=h;refine wpAny_While (codeAny_whileLoop (λn B=>∃σ' H',Inv X d σ' H' B/\W n σ' H') ?_ J ⟨z,H,I,K⟩);rintro n F ⟨e,x,E,G⟩;refine gQ hp (Ej (hc d F e x _ E (l n e x G)) λb C ⟨y,t,j⟩=>?_)
 cases b with
 | true=>
  obtain⟨N,u,j⟩:=j;rw[if_pos rfl];refine gQ hp (Ej (hb d C e y _ t j) λf L k=>?_)
  cases f with
  | next=>
   obtain⟨a,g,q,m⟩:=k;obtain⟨p,r,o⟩:=u a g m;exact⟨p,r,a,g,q,o⟩
  | cont=>
   obtain⟨a,g,q,m⟩:=k;obtain⟨p,r,o⟩:=u a g m;exact⟨p,r,a,g,q,o⟩
  | brk=>exact k
  | ret v=>exact k
 | false=>
  rw[if_neg de];exact io ⟨e,y,t,j⟩
end
structure It where
 go:Nat->Hp->Prop
 yld:Nat->Hp->V->Hp->Prop
 stop:Nat->Hp->Prop
def Gc(X:Cx)(pins:List (cG×Obj))(H:Hp)(b:cG):Prop:=
 H b=none/\b≠X.env.locals/\b∉X.fs/\(b∈X.ex\/X.s₀.heap.objs.size<=b)/\(∀x c,X.env.cells.lookup x=some c->c≠b)/\∀p∈X.pn++pins,p.1≠b
theorem Inv.fpOk{X:Cx}{pins:List (cG×Obj)}{σ:St}{H H':Hp}{s:cD}{b:cG}(I:Inv X pins σ H s)(hb:s.heap.objs.size<=b)(hn:H' b=none):Gc X pins H' b:=by
 refine⟨hn,ie (cU I.lt hb),I.nofs hb,.inr (dg I.sz hb),λx c e z=>?_,λp hp z=>?_⟩
 ·obtain⟨v,q⟩:=I.cell x c e;exact absurd (cU q.lt (by rw[z];exact hb)) (dt _)
 ·exact absurd (cU (cQ (I.pin p hp).1) (by rw[z];exact hb)) (dt _)
structure HW(P:cT)(w:dc)(K:cu)(tg:Expr)(J:It)(fp:List cG)(it:cG)(tn:Nat->Heap->Prop):Prop where
 mem:it∈fp
 obj:∀i h,tn i h->∀b∈fp,∃o,h.get? b=some o/\∀v,o.data≠ .cell v
 keep:∀i h h',tn i h->(∀b∈fp,∀o,h.get? b=some o->h'.get? b=some o)->tn i h'
 item:∀(X:Cx),X.prog=P->X.w=w->X.K=K->X.calm=true->∀(i:Nat) (pins:List (cG×Obj)) (s:cD) (σ:St) (H:Hp) (E:cA->cD->Prop),Inv X pins σ H s->(∀b∈fp,Gc X pins H b)->tn i s.heap->J.go i H->
  wpAny (model P w) X.A (pyNext (.ref it)) (λr s1=>∃u,r=some u/\
   wpAny (model P w) X.A (letOwnedTupleGo tg (.ref it) u) (λ_ s2=>∃x H',Inv X pins σ H' s2/\RelV x u/\J.yld i H x H'/\tn (i+1) s2.heap/\∀b∈fp,H' b=none) E s1) E s
 done:∀(X:Cx),X.prog=P->X.w=w->X.K=K->X.calm=true->∀(i:Nat) (pins:List (cG×Obj)) (s:cD) (σ:St) (H:Hp) (E:cA->cD->Prop),Inv X pins σ H s->(∀b∈fp,Gc X pins H b)->tn i s.heap->J.stop i H->
  wpAny (model P w) X.A (pyNext (.ref it)) (λr s1=>r=none/\Inv X pins σ H s1) E s
 self:∀(A:dw) (i:Nat) (s:cD) (Q:cA->cD->Prop) (E:cA->cD->Prop),tn i s.heap->Q (.ref it) s->wpAny (model P w) A (pyIter (.ref it)) Q E s
abbrev TI:=St->Hp->(It->Hp->Prop)->Prop
def Mv(X:Cx)(pins:List (cG×Obj))(σ:St)(tg:Expr)(R:It->Hp->Prop)(itv:cA)(s2:cD):Prop:=
 ∃(it:cG) (fp:List cG) (tn:Nat->Heap->Prop) (J:It) (H':Hp),itv = .ref it/\Inv X pins σ H' s2/\HW X.prog X.w X.K tg J fp it tn/\tn 0 s2.heap/\(∀b∈fp,Gc X pins H' b)/\R J H'
def PI(X:Cx)(tg iter:Expr)(wi:TI):Prop:=
 ∀(pins:List (cG×Obj)) (s:cD) (σ:St) (H:Hp) (R:It->Hp->Prop),Inv X pins σ H s->wi σ H R->
  wpAny (model X.prog X.w) X.A (eval iter X.env) (λv s1=>wpAny (model X.prog X.w) X.A (pyIter v) (Mv X pins σ tg R) X.xe s1) X.xe s
theorem BL{M:Model}{A:dw}{E:cA->cD->Prop}{s:cD}{tg:Expr}{it:cG}{u:cA}{o:Obj}{n:String}{vs:Array cA}{Q:Unit->cD->Prop}(ho:s.heap.get? it=some o)(hc:o.cls = .type n)(hd:o.data = .fields vs)
  (hn:["enumerate","zip","dict_itemiterator","dict_reverseitemiterator","odict_iterator","itertools.zip_longest","itertools.pairwise"].contains n=false)(hQ:Q () s):wpAny M A (letOwnedTupleGo tg (.ref it) u) Q E s:=by
 unfold letOwnedTupleGo
 cases tg <;> first
  | exact cv hQ
  | (cases u <;> first
    | exact cv hQ
    | (refine cr (wpAny_load ho ?_);rw[hc,hd];show wpAny M A (if(["enumerate","zip","dict_itemiterator","dict_reverseitemiterator","odict_iterator","itertools.zip_longest","itertools.pairwise"].contains n&&vs[0]?==some (rawInt _))=true then _ else _) Q E s;rw[if_neg (by intro h;rw[hn,jq]at h;cases h)];exact cv hQ))
def KF(K:cu)(a:cG):It:=
 ⟨λi H=>∃xs x,SqL K H a xs/\xs[i]?=some x,λi H x H'=>H'=H/\∀xs,SqL K H a xs->xs[i]?=some x,λi H=>∃xs,SqL K H a xs/\xs.length<=i⟩
def Kw(K:cu)(a:cG):It:=
 ⟨λi H=>∃xs x,SqT K H a xs/\xs[i]?=some x,λi H x H'=>H'=H/\∀xs,SqT K H a xs->xs[i]?=some x,λi H=>∃xs,SqT K H a xs/\xs.length<=i⟩
def J6(lo:Int)(n:Nat):It:=⟨λi _=>i<n,λi H x H'=>H'=H/\x = .int (lo+i),λi _=>n<=i⟩
theorem Aa{P:cT}{w:dc}{K:cu}{tg:Expr}(a it:cG):HW P w K tg (KF K a) [it] it (λi h=>h.IsListIter it a i) where
 mem:=by simp
 obj:=λi h st b f=>by
  have e:b=it:=by simpa using f
  subst e
  obtain⟨o,e,c,d⟩:=st
  exact⟨o,e,λv z=>by rw[d]at z;cases z⟩
 keep:=λi h m st k=>st.at λo e=>k it (by simp) o e
 item:=by
  intro X C r t N i g s L H E I j st F
  subst C r t
  obtain⟨U,x,l,B⟩:=F
  obtain⟨M,J,p,O⟩:=I.list l
  obtain⟨u,Y,Z⟩:=J.get B
  obtain⟨G,q,V,y,A,D⟩:=j it (by simp)
  refine wpAny_pyNext_list_item st p.isList (x:=u) (by simpa using Y) λm n R=>?_
  have S:Inv X g L H {s with heap:=m}:=I.turned (t':=s.toks) (λb o f e=>(R.2 b f).trans e) G q y A D
  obtain⟨o,e,c,d⟩:=id n
  exact⟨u,rfl,BL (s:={s with heap:=m}) e c d (by decide) ⟨x,H,S,Z,⟨rfl,λys Q=>by rw[I.list_inj Q l];exact B⟩,n,λb f=>(j b f).1⟩⟩
 done:=by
  intro X C r t N i g s L H E I j st F
  subst C r t
  obtain⟨U,l,B⟩:=F
  obtain⟨M,J,p,O⟩:=I.list l
  obtain⟨G,q,V,y,A,D⟩:=j it (by simp)
  have hl:=J.length
  exact wpAny_pyNext_list_end (I.ok.hd N) st p.isList (by simp;omega) λm T=>⟨rfl,I.turned (t':=s.toks) (λb o f e=>T b o f e) G q y A D⟩
 self:=λ_ _ _ _ _ st h=>wpAny_pyIter_listiter st h
theorem zB{P:cT}{w:dc}{K:cu}{tg:Expr}(a it:cG):HW P w K tg (Kw K a) [it] it (λi h=>h.IsTupleIter it a i) where
 mem:=by simp
 obj:=λi h st b f=>by
  have e:b=it:=by simpa using f
  subst e
  obtain⟨o,e,c,d⟩:=st
  exact⟨o,e,λv z=>by rw[d]at z;cases z⟩
 keep:=λi h n st k=>st.at λo e=>k it (by simp) o e
 item:=by
  intro X D t y N i j s M H E I l st G
  subst D t y
  obtain⟨U,x,m,C⟩:=G
  obtain⟨g,L,p,O⟩:=I.tuple m
  obtain⟨u,Y,Z⟩:=L.get C
  obtain⟨J,r,V,A,B,F⟩:=l it (by simp)
  refine wpAny_pyNext_tuple_item st (show s.heap.IsTuple a g.toArray from p) (x:=u) (by simpa using Y) λn q R=>?_
  have S:Inv X j M H {s with heap:=n}:=I.turned (t':=s.toks) (λb o f e=>(R.2 b f).trans e) J r A B F
  obtain⟨o,e,c,d⟩:=id q
  exact⟨u,rfl,BL (s:={s with heap:=n}) e c d (by decide) ⟨x,H,S,Z,⟨rfl,λys Q=>by rw[I.tuple_inj Q m];exact C⟩,q,λb f=>(l b f).1⟩⟩
 done:=by
  intro X D t y N i j s M H E I l st G
  subst D t y
  obtain⟨U,m,C⟩:=G
  obtain⟨g,L,p,O⟩:=I.tuple m
  obtain⟨J,r,V,A,B,F⟩:=l it (by simp)
  have hl:=L.length
  exact wpAny_pyNext_tuple_end (I.ok.hd N) st (show s.heap.IsTuple a g.toArray from p) (by simp;omega) λn T=>⟨rfl,I.turned (t':=s.toks) (λb o f e=>T b o f e) J r A B F⟩
 self:=λ_ _ _ _ _ st h=>wpAny_pyIter_tupleiter st h
theorem zg{P:cT}{w:dc}{K:cu}{tg:Expr}(it:cG)(lo:Int)(n:Nat):HW P w K tg (J6 lo n) [it] it (λi h=>IsRangeIter h it (lo+(i:Nat)*1) ((n:Int)-(i:Nat)) 1) where
 mem:=by simp
 obj:=λi h st b a=>by
  have e:b=it:=by simpa using a
  subst e
  exact⟨_,st,λv z=>by
   have D:lX _=Data.cell v:=z
   cases D⟩
 keep:=λi h f st k=>k it (by simp) _ st
 item:=by
  intro X r l m u i c s B H E I d st y
  subst r l m
  obtain⟨A,j,L,p,q,x⟩:=d it (by simp)
  have W:=Walks.range (prog:=X.prog) (w:=X.w) (I.ok.hd u) it lo 1 n
  refine W.item i s _ _ y st λv f tk F g C=>?_
  obtain⟨t,rfl⟩:=F
  have G:Inv X c B H {s with heap:=f,toks:=tk}:=I.turned (λb o a e=>C b o (by simpa using a) e) A j p q x
  refine⟨_,rfl,BL (s:={s with heap:=f,toks:=tk}) (n:="range_iterator") g rfl rfl (by decide) ⟨.int (lo+i),H,G,⟨t,?_⟩,⟨rfl,rfl⟩,g,λb a=>(d b a).1⟩⟩
  rw[ia]
 done:=by
  intro X r l m u i c s B H E I d st y
  subst r l m
  obtain⟨A,j,L,p,q,x⟩:=d it (by simp)
  exact wpAny_pyNext_range_end (I.ok.hd u) st (by have:n<=i:=y;omega) λf J=>⟨rfl,I.turned (t':=s.toks) (λb o a e=>J b o a e) A j p q x⟩
 self:=λ_ _ _ _ _ st h=>wpAny_pyIter_rangeiter st h
section
variable{X:Cx}{tg:Expr}
def Ko(K:cu)(tl:TE):TI:=λσ H R=>tl σ H λx H1=>∃a,x = .ref a/\(∃xs,SqL K H1 a xs)/\R (KF K a) H1
def Lk(K:cu)(tl:TE):TI:=λσ H R=>tl σ H λx H1=>∃a,x = .ref a/\(∃xs,SqT K H1 a xs)/\R (Kw K a) H1
theorem sS{l:Expr}{tl:TE}(hl:PE X l tl):PI X tg l (Ko X.K tl):=by
 intro f s g H R I h;refine Ej (hl f s g H _ I h) λv d ⟨x,n,c,r,m⟩=>?_
 obtain⟨a,e,⟨w,k⟩,q⟩:=m;subst e
 cases r;obtain⟨t,y,p,u⟩:=c.list k;refine iC p.isList ?_;refine⟨d.heap.objs.size,[d.heap.objs.size],_,_,n,rfl,c.kept (t':=d.toks) λb o e=>cF _ e,Aa a _,⟨_,cN _ rfl,rfl,rfl⟩,λb j=>?_,q⟩;have e:b=d.heap.objs.size:=by simpa using j
 subst e;exact c.fpOk (cI _) (c.hok.fresh (cI _))
theorem uG{l:Expr}{tl:TE}(hl:PE X l tl):PI X tg l (Lk X.K tl):=by
 intro f s j H R I h;refine Ej (hl f s j H _ I h) λv c ⟨x,r,d,t,n⟩=>?_
 obtain⟨a,e,⟨w,m⟩,q⟩:=n;subst e
 cases t;obtain⟨g,y,p,u⟩:=d.tuple m;refine mK (show c.heap.IsTuple a g.toArray from p) ?_;refine⟨c.heap.objs.size,[c.heap.objs.size],_,_,r,rfl,d.kept (t':=c.toks) λb o e=>cF _ e,zB a _,⟨_,cN _ rfl,rfl,rfl⟩,λb k=>?_,q⟩;have e:b=c.heap.objs.size:=by simpa using k
 subst e;exact d.fpOk (cI _) (d.hok.fresh (cI _))
theorem yV{pins:List (cG×Obj)}{σ:St}{H:Hp}{s:cD}{R:It->Hp->Prop}{E:cA->cD->Prop}{lo hi:Int}{t u v:Tok}{tk:Nat}(I:Inv X pins σ H s)(h1: -(2^62)<=lo)(h2:lo<2^62)(h3: -(2^62)<=hi)(h4:hi<2^62)
  (q:R (J6 lo (hi-lo).toNat) H):wpAny (model X.prog X.w) X.A (pyIter (.ref s.heap.objs.size)) (Mv X pins σ tg R) E {s with heap:=s.heap.push {cls:= .type "range",data:= .fields #[.int lo t,.int hi u,.int 1 v]},toks:=tk}:=by
 refine wpAny_pyIter_range (IsRange.new ..) (small_one h1 h2 h3 h4) ?_
 have a:Inv X pins σ H {s with heap:=s.heap.push {cls:= .type "range",data:= .fields #[.int lo t,.int hi u,.int 1 v]},toks:=tk}:=I.kept λb o e=>cF _ e
 refine⟨(s.heap.push {cls:= .type "range",data:= .fields #[.int lo t,.int hi u,.int 1 v]}).objs.size,[(s.heap.push {cls:= .type "range",data:= .fields #[.int lo t,.int hi u,.int 1 v]}).objs.size],_,_,H,rfl,
  a.kept (t':=tk) λb o e=>cF _ e,zg _ lo (hi-lo).toNat,?_,λb d=>?_,q⟩
 ·have c:lo+((0:Nat):Int)*1=lo:=by simp
  have f:(((hi-lo).toNat:Nat):Int)-((0:Nat):Int)=pZ lo hi 1:=by rw[rangeSize_one];split <;> omega
  show IsRangeIter _ _ (lo+((0:Nat):Int)*1) ((((hi-lo).toNat:Nat):Int)-((0:Nat):Int)) 1
  rw[c,f]
  exact cN _ rfl
 ·have e:b=(s.heap.push {cls:= .type "range",data:= .fields #[.int lo t,.int hi u,.int 1 v]}).objs.size:=by simpa using d
  subst e
  exact a.fpOk (cI _) (a.hok.fresh (cI _))
def Lz(ta:TA):TI:=λσ H R=>ta σ H λvs H1=>∃j:Int,vs=[.int j]/\ -(2^62)<=j/\j<2^62/\R (J6 0 j.toNat) H1
def LH(ta:TA):TI:=λσ H R=>ta σ H λvs H1=>∃i j:Int,vs=[.int i,.int j]/\(-(2^62)<=i/\i<2^62/\ -(2^62)<=j/\j<2^62)/\R (J6 i (j-i).toNat) H1
theorem rX{a:Expr}{ta:TA}{p pos:Pos}(hg:Gl X "range")(hm:X.mg "range"=none)(ha:PA X [a] ta)(hs:dh [a] X.env=[(false,eval a X.env)]:=by rfl):PI X tg (.Call (.Name "range" p) [a] [] pos) (Lz ta):=by
 intro b s d H R I h;refine rc (tI I hg hm boot_range (d7 (Ej (ha pos b s d H _ I h) λm o ⟨vs,n,g,k,c⟩=>?_) hs rfl));obtain⟨j,e,c,f,q⟩:=c;subst e
 cases k with
 | cons r l=>
  cases l;obtain⟨t,rfl⟩:=r;exact call_range_1 (yV g (by omega) (by omega) c f (by simpa using q))
theorem AV{a b:Expr}{ta:TA}{p pos:Pos}(hg:Gl X "range")(hm:X.mg "range"=none)(ha:PA X [a,b] ta)(hs:dh [a,b] X.env=[(false,eval a X.env),(false,eval b X.env)]:=by rfl)(hs2:dh [b] X.env=[(false,eval b X.env)]:=by rfl):
  PI X tg (.Call (.Name "range" p) [a,b] [] pos) (LH ta):=by
 intro c s k H R I h
 refine rc (tI I hg hm boot_range (d7 (Ej (ha pos c s k H _ I h) λv y ⟨vs,w,m,n,d⟩=>?_) (by rw[hs,hs2]) (by rw[hs2];rfl)))
 obtain⟨i,j,e,⟨d,l,o,u⟩,q⟩:=d
 subst e
 cases n with
 | cons r f=>
  cases f with
  | cons g f=>
   cases f
   obtain⟨t,rfl⟩:=r
   obtain⟨x,rfl⟩:=g
   exact call_range_2 (yV m d l o u q)
def Ml(wi:TI)(g:TG)(tb:TS):TS:=λD σ H=>wi σ H λJ H1=>∃W:Nat->Nat->St->Hp->Prop,(∃m,W 0 m σ H1)/\∀i m σ H,W i m σ H->
 (J.stop i H/\D.nx σ H)\/(J.go i H/\∃N:St->Hp->Prop,(∀σ' H',N σ' H'->∃m',m'<m/\W (i+1) m' σ' H')/\∀x H',J.yld i H x H'->g x σ H' λσ2 H2=>tb {D with nx:=N,ct:=N,bk:=D.nx} σ2 H2)
def GD(fp:List cG)(h:Heap):List (cG×Obj):=fp.filterMap λb=>(h.get? b).map λo=>(b,o)
theorem ud{fp:List cG}{h:Heap}{b:cG}{o:Obj}(hb:b∈fp)(e:h.get? b=some o):(b,o)∈GD fp h:=gH.mpr ⟨b,hb,by rw[e];rfl⟩
theorem zX{fp:List cG}{h:Heap}{p:cG×Obj}(hp:p∈GD fp h):p.1∈fp/\h.get? p.1=some p.2:=by
 obtain⟨b,a,e⟩:=gH.mp hp
 cases q:h.get? b with
 | none=>rw[q]at e;cases e
 | some o=>
  rw[q]at e;have c:(b,o)=p:=Option.some.inj e;subst c;exact⟨a,q⟩
theorem Inv.pinned{pins:List (cG×Obj)}{σ:St}{H:Hp}{s:cD}{fp:List cG}(I:Inv X pins σ H s)(hf:∀b∈fp,Gc X pins H b)(ho:∀b∈fp,∃o,s.heap.get? b=some o/\∀v,o.data≠ .cell v):Inv X (pins++GD fp s.heap) σ H s:=
 I.pins_of λp hp=>(dJ.mp hp).elim (λz=>I.pin p (d5 _ z)) λz=>by
  obtain⟨a,e⟩:=zX z
  obtain⟨h,f,g,_⟩:=hf p.1 a
  obtain⟨o,c,d⟩:=ho p.1 a
  rw[e]at c;cases c
  exact⟨e,h,f,g,d⟩
theorem Inv.unpinned{pins pl:List (cG×Obj)}{σ:St}{H:Hp}{s:cD}(I:Inv X (pins++pl) σ H s):Inv X pins σ H s:=I.pins_of λp hp=>I.pin p (d5 _ (jL _ hp))
theorem sN{iter:Expr}{body:List Stmt}{wi:TI}{g:TG}{tb:TS}{pos:Pos}(hp:PassesOwn (model X.prog X.w) X.A X.env X.xe)(hc:X.calm=true)(hi:PI X tg iter wi)(hg:PG X tg g)(hb:PSs X body tb)
  (hs:∀x,foldedSetIterable iter X.env x=pure x:=by intro _;rfl):PS X (.For tg iter body [] pos) (Ml wi g tb):=by
 intro c s Y H D I h
 refine wpAny_For (Ej (hi c s Y H _ I h) λv s1 h1=>Ej h1 λac s2 h2=>?_) hs
 obtain⟨it,y,P,J,H2,e,I2,T,Z,Q,W,⟨m0,w0⟩,K⟩:=h2
 subst e
 have q:∀{H':Hp},(∀b∈y,H' b=none)->∀b∈y,Gc X c H' b:=λhn b hb=>⟨hn b hb,(Q b hb).2⟩
 refine codeAny_forLoop_any (λn s'=>∃i σ' H',Inv X c σ' H' s'/\P i s'.heap/\(∀b∈y,H' b=none)/\W i n σ' H') ?_ m0 ⟨0,Y,H2,I2,Z,λb hb=>(Q b hb).1,w0⟩
 rintro n R ⟨i,l,C,V,F,E,w3⟩
 rcases K i n l C w3 with⟨stop,qn⟩|⟨go,N,hN,M⟩
 ·refine gQ hp (Ej (T.done X rfl rfl rfl hc i c R l C X.xe V (q E) F stop) λr s4 ⟨L,I4⟩=>?_)
  subst L
  exact io ⟨l,C,I4,qn⟩
 ·refine gQ hp (Ej (T.item X rfl rfl rfl hc i c R l C X.xe V (q E) F go) λr s4 ⟨u,L,h4⟩=>?_)
  subst L
  refine gQ hp (Ej h4 λ_ O ⟨x,U,I5,r5,y5,z,ab⟩=>?_)
  have S:=I5.pinned (q ab) (T.obj _ _ z)
  refine gQ hp (Ej (hg _ O l U x u _ S r5 (M x U y5)) λ_ s6 ⟨aa,H6,I6,q6⟩=>?_)
  refine gQ hp (Ej (hb _ s6 aa H6 _ I6 q6) λf G p=>?_)
  have t:∀{a:St} {k:Hp},Inv X (c++GD y O.heap) a k G->N a k->∃m,m<n/\∃i σ' H',Inv X c σ' H' G/\P i G.heap/\(∀b∈y,H' b=none)/\W i m σ' H':=λ {a k} j B=>by
   obtain⟨m',hm,w7⟩:=hN a k B
   refine⟨m',hm,i+1,a,k,j.unpinned,T.keep _ _ _ z λb hb o e=>(j.pin (b,o) (d5 _ (d5 _ (ud hb e)))).1,λb hb=>?_,w7⟩
   obtain⟨o,e,d⟩:=T.obj _ _ z b hb
   exact(j.pin (b,o) (d5 _ (d5 _ (ud hb e)))).2.1
  cases f with
  | next=>obtain⟨a,k,j,B⟩:=p;exact t j B
  | cont=>obtain⟨a,k,j,B⟩:=p;exact t j B
  | brk=>obtain⟨a,k,j,p⟩:=p;exact⟨a,k,j.unpinned,p⟩
  | ret v=>obtain⟨x7,a,k,j,r7,p⟩:=p;exact⟨x7,a,k,j.unpinned,r7,p⟩
end
theorem uZ{K:cu}{a:cG}{xs:List V}{g:TG}{tb:TS}{D:Gs}{σ:St}{H:Hp}(Pv:Nat->St->Hp->Prop)(h0:Pv 0 σ H)(hl:∀i σ H,i<=xs.length->Pv i σ H->SqL K H a xs)
  (hs:∀i x σ H,xs[i]?=some x->Pv i σ H->g x σ H λσ2 H2=>tb {D with nx:=Pv (i+1),ct:=Pv (i+1),bk:=D.nx} σ2 H2)(hd:∀σ H,Pv xs.length σ H->D.nx σ H):
  ∃W:Nat->Nat->St->Hp->Prop,(∃m,W 0 m σ H)/\∀i m σ H,W i m σ H->
   ((KF K a).stop i H/\D.nx σ H)\/((KF K a).go i H/\∃N:St->Hp->Prop,(∀σ' H',N σ' H'->∃m',m'<m/\W (i+1) m' σ' H')/\∀x H',(KF K a).yld i H x H'->g x σ H' λσ2 H2=>tb {D with nx:=N,ct:=N,bk:=D.nx} σ2 H2):=by
 refine⟨λi m σ H=>m=xs.length-i/\i<=xs.length/\Pv i σ H,⟨xs.length,by simp,du _,h0⟩,?_⟩
 rintro i m σ H ⟨rfl,c,p⟩
 have q:=hl i σ H c p
 by_cases b:i<xs.length
 ·refine .inr ⟨⟨xs,xs[i],q,by simp[b]⟩,Pv (i+1),λσ' H' d=>⟨xs.length-(i+1),by omega,rfl,b,d⟩,λx H' y=>?_⟩
  obtain⟨e,y⟩:=y
  subst e
  exact hs i x σ _ (y xs q) p
 ·have e:i=xs.length:=by omega
  subst e
  exact .inl ⟨⟨xs,q,cI _⟩,hd σ H p⟩
theorem CG{K:cu}{a:cG}{xs:List V}{g:TG}{tb:TS}{D:Gs}{σ:St}{H:Hp}(Pv:Nat->St->Hp->Prop)(h0:Pv 0 σ H)(hl:∀i σ H,i<=xs.length->Pv i σ H->SqT K H a xs)
  (hs:∀i x σ H,xs[i]?=some x->Pv i σ H->g x σ H λσ2 H2=>tb {D with nx:=Pv (i+1),ct:=Pv (i+1),bk:=D.nx} σ2 H2)(hd:∀σ H,Pv xs.length σ H->D.nx σ H):
  ∃W:Nat->Nat->St->Hp->Prop,(∃m,W 0 m σ H)/\∀i m σ H,W i m σ H->
   ((Kw K a).stop i H/\D.nx σ H)\/((Kw K a).go i H/\∃N:St->Hp->Prop,(∀σ' H',N σ' H'->∃m',m'<m/\W (i+1) m' σ' H')/\∀x H',(Kw K a).yld i H x H'->g x σ H' λσ2 H2=>tb {D with nx:=N,ct:=N,bk:=D.nx} σ2 H2):=by
 refine⟨λi m σ H=>m=xs.length-i/\i<=xs.length/\Pv i σ H,⟨xs.length,by simp,du _,h0⟩,?_⟩
 rintro i m σ H ⟨rfl,c,p⟩
 have q:=hl i σ H c p
 by_cases b:i<xs.length
 ·refine .inr ⟨⟨xs,xs[i],q,by simp[b]⟩,Pv (i+1),λσ' H' d=>⟨xs.length-(i+1),by omega,rfl,b,d⟩,λx H' y=>?_⟩
  obtain⟨e,y⟩:=y
  subst e
  exact hs i x σ _ (y xs q) p
 ·have e:i=xs.length:=by omega
  subst e
  exact .inl ⟨⟨xs,q,cI _⟩,hd σ H p⟩
theorem sf{lo:Int}{n:Nat}{g:TG}{tb:TS}{D:Gs}{σ:St}{H:Hp}(Pv:Nat->St->Hp->Prop)(h0:Pv 0 σ H)
  (hs:∀i σ H,i<n->Pv i σ H->g (.int (lo+i)) σ H λσ2 H2=>tb {D with nx:=Pv (i+1),ct:=Pv (i+1),bk:=D.nx} σ2 H2)(hd:∀σ H,Pv n σ H->D.nx σ H):
  ∃W:Nat->Nat->St->Hp->Prop,(∃m,W 0 m σ H)/\∀i m σ H,W i m σ H->
   ((J6 lo n).stop i H/\D.nx σ H)\/((J6 lo n).go i H/\∃N:St->Hp->Prop,(∀σ' H',N σ' H'->∃m',m'<m/\W (i+1) m' σ' H')/\∀x H',(J6 lo n).yld i H x H'->g x σ H' λσ2 H2=>tb {D with nx:=N,ct:=N,bk:=D.nx} σ2 H2):=by
 refine⟨λi m σ H=>m=n-i/\i<=n/\Pv i σ H,⟨n,by simp,du _,h0⟩,?_⟩
 rintro i m σ H ⟨rfl,c,p⟩
 by_cases a:i<n
 ·refine .inr ⟨a,Pv (i+1),λσ' H' b=>⟨n-(i+1),by omega,rfl,a,b⟩,λx H' y=>?_⟩
  obtain⟨e,y⟩:=y
  subst e y
  exact hs i σ _ a p
 ·have e:i=n:=by omega
  subst e
  exact .inl ⟨cI _,hd σ H p⟩
abbrev R2:=V->V->Hp->VK->Prop
def Fo(X:Cx)(f:cA->cA->Sem cA)(r:R2):Prop:=
 ∀(pins:List (cG×Obj)) (s:cD) (σ:St) (H:Hp) (x y:V) (v u:cA) (Q:VK),Inv X pins σ H s->RelV x v->RelV y u->r x y H Q->
  wpAny (model X.prog X.w) X.A (f v u) (EP X pins σ Q) X.xe s
def Me(X:Cx)(f:cA->Sem cA)(r:V->Hp->VK->Prop):Prop:=
 ∀(pins:List (cG×Obj)) (s:cD) (σ:St) (H:Hp) (x:V) (v:cA) (Q:VK),Inv X pins σ H s->RelV x v->r x H Q->
  wpAny (model X.prog X.w) X.A (f v) (EP X pins σ Q) X.xe s
def EJ(X:Cx)(f:cA)(r:List V->Hp->VK->Prop):Prop:=
 ∀(pins:List (cG×Obj)) (s:cD) (σ:St) (H:Hp) (xs:List V) (us:List cA) (Q:VK),Inv X pins σ H s->Vals xs us->r xs H Q->
  wpAny (model X.prog X.w) X.A (call f us) (EP X pins σ Q) X.xe s
def Mj(X:Cx)(r:V->Hp->(Bool->Hp->Prop)->Prop):Prop:=
 ∀(pins:List (cG×Obj)) (s:cD) (σ:St) (H:Hp) (x:V) (v:cA) (Q:Bool->Hp->Prop),Inv X pins σ H s->RelV x v->r x H Q->
  wpAny (model X.prog X.w) X.A (truthy v) (TP X pins σ Q) X.xe s
def LU(r:R2)(ta tb:TE):TE:=λσ H Q=>ta σ H λx H1=>tb σ H1 λy H2=>r x y H2 Q
def MS(r:V->Hp->VK->Prop)(ta:TE):TE:=λσ H Q=>ta σ H λx H1=>r x H1 Q
def rI(C:Int->Int->Prop)(g:Int->Int->V):R2:=λx y H Q=>∃i j,x = .int i/\y = .int j/\C i j/\Q (g i j) H
def KQ(g:Int->Int->V):R2:=λx y H Q=>∃i j,x = .int i/\y = .int j/\Q (g i j) H
def rU(g:Int->V):V->Hp->VK->Prop:=λx H Q=>∃i,x = .int i/\Q (g i) H
section
variable{X:Cx}{a b c:Expr}{ta tb tc:TE}{pos:Pos}
theorem KL(ha:PE X a ta)(hb:PE X b tb){pins:List (cG×Obj)}{s:cD}{σ:St}{H:Hp}{R:V->V->Hp->Prop}(I:Inv X pins σ H s)
  (h:ta σ H λx H1=>tb σ H1 λy H2=>R x y H2){Q:cA->cD->Prop}{f:cA->cA->Sem cA}
  (hf:∀v u s2 x y H2,Inv X pins σ H2 s2->RelV x v->RelV y u->R x y H2->wpAny (model X.prog X.w) X.A (f v u) Q X.xe s2):
  wpAny (model X.prog X.w) X.A (eval a X.env) (λv s₁=>wpAny (model X.prog X.w) X.A (eval b X.env) (λu s₂=>wpAny (model X.prog X.w) X.A (f v u) Q X.xe s₂) X.xe s₁) X.xe s:=by
 refine Ej (ha pins s σ H _ I h) λv l ⟨x,H1,c,e,d⟩=>?_
 refine Ej (hb pins l σ H1 _ c d) λu s2 ⟨y,H2,j,g,k⟩=>?_
 exact hf v u s2 x y H2 j e g k
theorem rO{op:Operator}{r:R2}(ho:Fo X (binaryOp op) r)(ha:PE X a ta)(hb:PE X b tb):PE X (.BinOp a op b pos) (LU r ta tb):=by
 intro c s e H Q I h;exact wpAny_BinOp (KL ha hb I h λv u j x y k f g d q=>ho c j e k x y v u Q f g d q)
theorem D5{op:UnaryOp}{r:V->Hp->VK->Prop}(ho:Me X (unaryOp op) r)(ha:PE X a ta):PE X (.UnaryOp op a pos) (MS r ta):=by
 intro b s c H Q I h;exact UnaryOp_ (Ej (ha b s c H _ I h) λv j ⟨x,g,d,f,e⟩=>ho b j c g x v Q d f e)
theorem LF{f:cA->cA->Sem cA}{C:Int->Int->Prop}{g:Int->Int->Int}
  (rule:∀(i j:Int) (t u:Tok) (s:cD) (Q:cA->cD->Prop) (E:cA->cD->Prop),C i j->Q (.int (g i j) s.toks) {s with toks:=s.toks+1}->wpAny (model X.prog X.w) X.A (f (.int i t) (.int j u)) Q E s):
  Fo X f (rI C λi j=> .int (g i j)):=by
 intro a s k H x y v u Q I d b h
 obtain⟨i,j,rfl,rfl,e,q⟩:=h
 obtain⟨t,rfl⟩:=d
 obtain⟨c,rfl⟩:=b
 exact rule i j t c s _ _ e ⟨.int (g i j),H,I.tok _,⟨_,rfl⟩,q⟩
theorem LE{f:cA->cA->Sem cA}{g:Int->Int->Int}
  (rule:∀(i j:Int) (t u:Tok) (s:cD) (Q:cA->cD->Prop) (E:cA->cD->Prop),Q (.int (g i j) s.toks) {s with toks:=s.toks+1}->wpAny (model X.prog X.w) X.A (f (.int i t) (.int j u)) Q E s):
  Fo X f (KQ λi j=> .int (g i j)):=by
 intro a s e H x y v u Q I d b h
 obtain⟨i,j,rfl,rfl,q⟩:=h
 obtain⟨t,rfl⟩:=d
 obtain⟨c,rfl⟩:=b
 exact rule i j t c s _ _ ⟨.int (g i j),H,I.tok _,⟨_,rfl⟩,q⟩
theorem KR{f:cA->cA->Sem cA}{g:Int->Int->Bool}
  (rule:∀(i j:Int) (t u:Tok) (s:cD) (Q:cA->cD->Prop) (E:cA->cD->Prop),Q (.bool (g i j)) s->wpAny (model X.prog X.w) X.A (f (.int i t) (.int j u)) Q E s):
  Fo X f (KQ λi j=> .bl (g i j)):=by
 intro a s e H x y v u Q I d b h
 obtain⟨i,j,rfl,rfl,q⟩:=h
 obtain⟨t,rfl⟩:=d
 obtain⟨c,rfl⟩:=b
 exact rule i j t c s _ _ ⟨.bl (g i j),H,I,rfl,q⟩
def LB(i j:Int):Prop:=0<=j/\j<=1000000/\i.natAbs<2^64
theorem sC:Fo X (binaryOp .Add) (KQ λi j=> .int (i+j)):=LE λ_ _ _ _ _ _ _ q=>add_int q
theorem v7:Fo X (binaryOp .Sub) (KQ λi j=> .int (i-j)):=LE λ_ _ _ _ _ _ _ q=>sub_int q
theorem rZ:Fo X (binaryOp .Mod) (rI (λ_ j=>0<j) λi j=> .int (i%j)):=LF λi j _ _ _ _ _ a q=>by
 have h1:(0:Int)<j:=a;exact mod_int' (by omega) (by rw[Int.fmod_eq_emod_of_nonneg i (by omega)];exact q)
theorem CB:Fo X (binaryOp .Pow) (rI LB λi j=> .int (i^j.toNat)):=LF λ_ _ _ _ _ _ _ a q=>pow_int_small a.1 a.2.1 a.2.2 q
theorem MK{f:cA->Sem cA}{g:Int->Int}
  (rule:∀(i:Int) (t:Tok) (s:cD) (Q:cA->cD->Prop) (E:cA->cD->Prop),Q (.int (g i) s.toks) {s with toks:=s.toks+1}->wpAny (model X.prog X.w) X.A (f (.int i t)) Q E s):
  Me X f (rU λi=> .int (g i)):=by
 intro b s c H x v Q I a h
 obtain⟨i,rfl,q⟩:=h
 obtain⟨t,rfl⟩:=a
 exact rule i t s _ _ ⟨.int (g i),H,I.tok _,⟨_,rfl⟩,q⟩
theorem DE:Me X (unaryOp .USub) (rU λi=> .int (-i)):=MK λ_ _ _ _ _ q=>neg_int q
end
def Lp:V->V->Bool
 | .non,.non=>true | .non,.int _=>true | .int _,.non=>true | .non,.bl _=>true | .bl _,.non=>true | .non,.str _=>true | .str _,.non=>true
 | .int _,.int _=>true | .bl _,.bl _=>true | .str _,.str _=>true | .byt _,.byt _=>true
 | .int _,.str _=>true | .str _,.int _=>true | .bl _,.str _=>true | .str _,.bl _=>true
 | _,_=>false
def MN:R2:=λx y H Q=>Lp x y=true/\Q (.bl (decide (x=y))) H
def MQ:R2:=λx y H Q=>Lp x y=true/\Q (.bl (!decide (x=y))) H
theorem A8{i j:Int}:decide (V.int i=V.int j)=(i==j):=by
 rw[gx];simp
theorem Cq{i j:Bool}:decide (V.bl i=V.bl j)=(i==j):=by
 rw[gx];simp
theorem AR{i j:Str}:decide (V.str i=V.str j)=(i==j):=by
 rw[gx];simp
theorem AC{i j:Array UInt8}:decide (V.byt i=V.byt j)=(i.toList==j.toList):=by
 rw[gx]
 cases i
 cases j;simp
section
variable{X:Cx}{a b c:Expr}{ta tb tc:TE}{pos:Pos}
theorem sg{pins:List (cG×Obj)}{σ:St}{H:Hp}{s:cD}{Q:VK}{k k':Bool}(I:Inv X pins σ H s)(q:Q (.bl k) H)(e:k=k'):EP X pins σ Q (.bool k') s:=by
 subst e;exact⟨.bl k,H,I,rfl,q⟩
theorem tO:Fo X (compareOp .Eq) MN:=by
 intro e s f H x y v u Q I d a h;obtain⟨c,q⟩:=h
 cases x with
 | non=>
  cases d
  cases y with
  | non=>cases a;exact o5 (sg I q (by simp))
  | bl j=>cases a;exact o6 (sg I q (by simp))
  | int j=>obtain⟨b,rfl⟩:=a;exact pu (sg I q (by simp))
  | str j=>obtain⟨b,rfl⟩:=a;exact pz (sg I q (by simp))
  | _=>exact absurd (show false=true from c) de
 | bl i=>
  cases d
  cases y with
  | non=>cases a;exact o7 (sg I q (by simp))
  | bl j=>cases a;exact eq_bool (sg I q Cq)
  | str j=>obtain⟨b,rfl⟩:=a;exact o8 (sg I q (by simp))
  | _=>exact absurd (show false=true from c) de
 | int i=>
  obtain⟨t,rfl⟩:=d
  cases y with
  | non=>cases a;exact pA (sg I q (by simp))
  | int j=>obtain⟨b,rfl⟩:=a;exact eq_int (sg I q A8)
  | str j=>obtain⟨b,rfl⟩:=a;exact pB (sg I q (by simp))
  | _=>exact absurd (show false=true from c) de
 | str i=>
  obtain⟨t,rfl⟩:=d
  cases y with
  | non=>cases a;exact pC (sg I q (by simp))
  | bl j=>cases a;exact o9 (sg I q (by simp))
  | int j=>obtain⟨b,rfl⟩:=a;exact pD (sg I q (by simp))
  | str j=>obtain⟨b,rfl⟩:=a;exact eq_str (sg I q AR)
  | _=>exact absurd (show false=true from c) de
 | byt i=>
  obtain⟨t,rfl⟩:=d
  cases y with
  | byt j=>obtain⟨b,rfl⟩:=a;exact PySem.W.eq_bytes (sg I q AC)
  | _=>exact absurd (show false=true from c) de
 | _=>cases y <;> exact absurd (show false=true from c) de
theorem zd:Fo X (compareOp .NotEq) MQ:=by
 intro e s f H x y v u Q I d a h;obtain⟨c,q⟩:=h
 cases x with
 | non=>
  cases d
  cases y with
  | non=>cases a;exact pb (sg I q (by simp))
  | bl j=>cases a;exact pc (sg I q (by simp))
  | int j=>obtain⟨b,rfl⟩:=a;exact pE (sg I q (by simp))
  | str j=>obtain⟨b,rfl⟩:=a;exact pF (sg I q (by simp))
  | _=>exact absurd (show false=true from c) de
 | bl i=>
  cases d
  cases y with
  | non=>cases a;exact ph (sg I q (by simp))
  | bl j=>cases a;exact ne_bool (sg I q (congrArg not Cq))
  | str j=>obtain⟨b,rfl⟩:=a;exact pi (sg I q (by simp))
  | _=>exact absurd (show false=true from c) de
 | int i=>
  obtain⟨t,rfl⟩:=d
  cases y with
  | non=>cases a;exact pG (sg I q (by simp))
  | int j=>obtain⟨b,rfl⟩:=a;exact ne_int (sg I q (congrArg not A8))
  | str j=>obtain⟨b,rfl⟩:=a;exact pH (sg I q (by simp))
  | _=>exact absurd (show false=true from c) de
 | str i=>
  obtain⟨t,rfl⟩:=d
  cases y with
  | non=>cases a;exact pI (sg I q (by simp))
  | bl j=>cases a;exact pj (sg I q (by simp))
  | int j=>obtain⟨b,rfl⟩:=a;exact pJ (sg I q (by simp))
  | str j=>obtain⟨b,rfl⟩:=a;exact ne_str (sg I q (congrArg not AR))
  | _=>exact absurd (show false=true from c) de
 | byt i=>
  obtain⟨t,rfl⟩:=d
  cases y with
  | byt j=>obtain⟨b,rfl⟩:=a;exact PySem.W.ne_bytes (sg I q (congrArg not AC))
  | _=>exact absurd (show false=true from c) de
 | _=>cases y <;> exact absurd (show false=true from c) de
theorem Az:Fo X (compareOp .Lt) (KQ λi j=> .bl (decide (i<j))):=KR λ_ _ _ _ _ _ _ q=>lt_int q
theorem BH:Fo X (compareOp .LtE) (KQ λi j=> .bl (decide (i<=j))):=KR λ_ _ _ _ _ _ _ q=>le_int q
theorem DY:Fo X (compareOp .Gt) (KQ λi j=> .bl (decide (j<i))):=KR λ_ _ _ _ _ _ _ q=>gt_int q
theorem Bs:Fo X (compareOp .Is) (λx y H Q=>y = .non/\Q (.bl (decide (x = .non))) H):=by
 intro c s d H x y v u Q I a b h;obtain⟨rfl,q⟩:=h
 cases b;refine is_none_gen (sg I q ?_)
 cases x <;> first
  | (cases a;rfl)
  | (obtain⟨t,rfl⟩:=a;rfl)
theorem A1:Fo X (compareOp .IsNot) (λx y H Q=>y = .non/\Q (.bl (!decide (x = .non))) H):=by
 intro c s d H x y v u Q I a b h;obtain⟨rfl,q⟩:=h
 cases b;refine isnot_none_gen (sg I q ?_)
 cases x <;> first
  | (cases a;rfl)
  | (obtain⟨t,rfl⟩:=a;rfl)
theorem Ef(b:Expr){op:CmpOp}(h:op≠ .In:=by decide)(h2:op≠ .NotIn:=by decide):behindInMarks op b=false:=by
 have c:(op==CmpOp.In)=false:=by cases op <;> first|rfl|exact absurd rfl h
 have a:(op==CmpOp.NotIn)=false:=by cases op <;> first|rfl|exact absurd rfl h2
 cases b <;> simp[behindInMarks,c,a]
theorem tG{op:CmpOp}{r:R2}(ho:Fo X (compareOp op) r)(ha:PE X a ta)(hb:PE X b tb)(hm:behindInMarks op b=false):PE X (.Compare a [op] [b] pos) (LU r ta tb):=by
 intro c s e H Q I h;exact wpAny_Compare1 (KL ha hb I h λv u j x y k f g d q=>ho c j e k x y v u Q f g d q) hm
def Kd(t:TE):TT:=λσ H Q=>t σ H λx H'=>∃k,x = .bl k/\Q k H'
theorem rR{op:CmpOp}{r:R2}(ho:Fo X (compareOp op) r)(ha:PE X a ta)(hb:PE X b tb)(hm:behindInMarks op b=false):PT X (.Compare a [op] [b] pos) (Kd (LU r ta tb)):=by
 intro d s f H Q I h;refine lM (Ej (ha d s f H _ I h) λv w ⟨x,n,p,q,m⟩=>Ej (hb d w f n _ p m) λu l ⟨y,A,j,B,o⟩=>
  Ej (ho d l f A x y v u _ j q B o) λc E ⟨z,D,C,g,k,e,t⟩=>?_) hm
 subst e
 cases g;exact eJ ⟨D,C,t⟩
def JG(r r':R2)(ta tb tc:TE):TE:=λσ H Q=>ta σ H λx H1=>tb σ H1 λy H2=>r x y H2 λz H3=>∃k,z = .bl k/\
 (if k=true then tc σ H3 λw' H4=>r' y w' H4 Q else Q (.bl false) H3)
theorem yo{op op':CmpOp}{r r':R2}(ho:Fo X (compareOp op) r)(ho':Fo X (compareOp op') r')(ha:PE X a ta)(hb:PE X b tb)(hc:PE X c tc)
  (hm:lastMarks [op,op'] [b,c]=false:=by with_unfolding_all rfl):PE X (.Compare a [op,op'] [b,c] pos) (JG r r' ta tb tc):=by
 intro f s g H Q I h
 refine Compare_chain (Ej (ha f s g H _ I h) λv L ⟨x,D,G,J,C⟩=>chain_link (Ej (hb f L g D _ G C) λu w ⟨y,M,q,l,F⟩=>
  Ej (ho f w g M x y v u _ q J l F) λd E ⟨z,n,m,p,k,e,j⟩=>?_)) hm
 subst e
 cases p
 refine eJ ?_
 cases k with
 | false=>exact ite_ff ⟨.bl false,n,m,rfl,j⟩
 | true=>exact ite_tt (chain_last (Ej (hc f E g n _ m j) λA K ⟨B,t,O,o,N⟩=>ho' f K g t y B u A Q O l o N))
theorem Ce{op op':CmpOp}{r r':R2}(ho:Fo X (compareOp op) r)(ho':Fo X (compareOp op') r')(ha:PE X a ta)(hb:PE X b tb)(hc:PE X c tc)
  (hm:lastMarks [op,op'] [b,c]=false:=by with_unfolding_all rfl):PT X (.Compare a [op,op'] [b,c] pos) (Kd (JG r r' ta tb tc)):=by
 intro f s g H Q I h
 refine isTrue_chain (Ej (ha f s g H _ I h) λv R ⟨x,F,M,N,E⟩=>test_link (Ej (hb f R g F _ M E) λu B ⟨y,S,q,l,J⟩=>
  Ej (ho f B g S x y v u _ q N l J) λd G ⟨z,n,m,p,k,e,j⟩=>?_)) hm
 subst e
 cases p
 refine eJ ?_
 cases k with
 | false=>
  obtain⟨k',O,L⟩:=j
  cases O
  exact ite_ff ⟨n,m,L⟩
 | true=>
  refine ite_tt (test_last (Ej (hc f G g n _ m j) λC P ⟨D,t,W,o,V⟩=>Ej (ho' f P g t y D u C _ W l o V) λd' Z ⟨Y,T,U,A,k2,K,w⟩=>?_))
  subst K
  cases A
  exact eJ ⟨T,U,w⟩
def Lw(K:cu)(x:V)(H:Hp)(k:Bool):Prop:=
 match x with
 | .non=>k=false
 | .bl b=>k=b
 | .int i=>k=(i != 0)
 | .str y=>y.length<=sizeLine/\k=((y.length:Int) != 0)
 | .byt y=>y.size<=sizeLine/\k=((y.size:Int) != 0)
 | .ref p=>(∃xs,SqL K H p xs/\k = !xs.isEmpty)\/(∃xs,SqT K H p xs/\k = !xs.isEmpty)\/∃kvs,H p=some (.dK kvs)/\k = !kvs.isEmpty
 | _=>False
theorem zo{κ:Type}{kvs:List (κ×V)}{vs:List (κ×cA)}(r:KV kvs vs):(!vs.isEmpty) = !kvs.isEmpty:=by
 cases r <;> rfl
theorem wk{xs:List V}{its:List cA}(r:Vals xs its):(!its.toArray.isEmpty) = !xs.isEmpty:=by
 cases r <;> simp
theorem Ft:(sizeLine:Nat)<2^63:=by rw[lY];decide
theorem DB:Mj X (λx H Q=>∃k,Lw X.K x H k/\Q k H):=by
 intro u s B H x v Q I f h;obtain⟨k,e,q⟩:=h;have C:=Ft;have D:sizeLine=16777216:=lY
 cases x with
 | non=>
  cases f;have a:k=false:=e;subst a;exact truthy_none ⟨H,I,q⟩
 | bl b=>
  cases f;have a:k=b:=e;subst a;exact eJ ⟨H,I,q⟩
 | int i=>
  obtain⟨t,rfl⟩:=f;have a:k=(i != 0):=e;subst a;exact PySem.P.truthy_int ⟨H,I,q⟩
 | str y=>
  obtain⟨t,rfl⟩:=f;obtain⟨z,a⟩:y.length<=sizeLine/\k=((y.length:Int) != 0):=e;subst a;exact PySem.P.truthy_str (by omega) ⟨H,I.tok _,q⟩
 | byt y=>
  obtain⟨t,rfl⟩:=f;obtain⟨z,a⟩:y.size<=sizeLine/\k=((y.size:Int) != 0):=e;subst a;exact PySem.W.truthy_bytes (by omega) ⟨H,I.tok _,q⟩
 | ref p=>
  cases f;have a:(∃d,SqL X.K H p d/\k = !d.isEmpty)\/(∃d,SqT X.K H p d/\k = !d.isEmpty)\/∃c,H p=some (.dK c)/\k = !c.isEmpty:=e;rcases a with⟨d,j,a⟩|⟨d,j,a⟩|⟨c,j,a⟩
  ·subst a;obtain⟨o,r,l,n⟩:=I.list j;have g:=r.length;exact wpAny_truthy_list l.isList (by simp only[cX];omega) ⟨H,I.tok _,by rw[wk r];exact q⟩
  ·subst a;obtain⟨o,r,l,n⟩:=I.tuple j;have g:=r.length;exact truthy_tuple l (by simp only[cX];omega) ⟨H,I.tok _,by rw[wk r];exact q⟩
  ·subst a;obtain⟨n,A,vs,r,m⟩:c.length<=sizeLine/\(p==sysModules)=false/\∃vs,KV c vs/\s.heap.DictOf (Gz X.prog X.w) p vs:=I.hok p _ j;have g:c.length=vs.length:=mt r;exact wpAny_truthy_dict A m (by omega) ⟨H,I.tok _,by rw[zo r];exact q⟩
 | _=>exact(show False from e).elim
theorem BC(ha:PE X a ta)(he:∀whole,isTrue a X.env whole=(do let v<-whole;standAt a.pos;holding [v] (truthy v))):
  PT X a (λσ H Q=>ta σ H λx H'=>∃k,Lw X.K x H' k/\Q k H'):=by
 intro b s σ H Q I h
 exact qa (Ej (ha b s σ H _ I h) λv g ⟨x,f,c,e,d⟩=>DB b g σ f x v Q c e d) (he _)
theorem ue:Fo X (binaryOp .Add) (λx y H Q=>∃i j,x = .str i/\y = .str j/\i.length+j.length<=sizeLine/\Q (.str (i++j)) H):=by
 intro b s f H x y v u Q I e c h;obtain⟨i,j,rfl,rfl,a,q⟩:=h;obtain⟨t,rfl⟩:=e;obtain⟨d,rfl⟩:=c;exact add_str (λd tk=>⟨.str (i++j),H,I.tok _,⟨_,rfl⟩,q⟩) a
theorem EU{x:V}{us:List cA}(r:Vals [x] us):∃u,us=[u]/\RelV x u:=by
 cases r with
 | cons a b=>cases b;exact⟨_,rfl,a⟩
theorem Je{x y:V}{us:List cA}(r:Vals [x,y] us):∃u w',us=[u,w']/\RelV x u/\RelV y w':=by
 cases r with
 | cons b d=>
  cases d with
  | cons c a=>cases a;exact⟨_,_,rfl,b,c⟩
theorem wH:EJ X (.builtin "abs") (λxs H Q=>∃i,xs=[.int i]/\Q (.int (if i<0 then -i else i)) H):=by
 intro a s b H xs c Q I r h;obtain⟨i,rfl,q⟩:=h;obtain⟨u,rfl,t,rfl⟩:=EU r;exact call_abs_int λu tk=>⟨.int (if i<0 then -i else i),H,I.tok _,⟨_,rfl⟩,q⟩
theorem xh:EJ X (.type "int") (λxs H Q=>(∃i,xs=[.int i]/\Q (.int i) H)\/∃k,xs=[.bl k]/\Q (.int (if k then 1 else 0)) H):=by
 intro b s c H xs d Q I r h;rcases h with⟨i,rfl,q⟩|⟨k,rfl,q⟩
 ·obtain⟨u,rfl,t,rfl⟩:=EU r;exact call_int_int ⟨.int i,H,I,⟨_,rfl⟩,q⟩
 ·obtain⟨u,rfl,a⟩:=EU r
  cases a;exact call_int_bool ⟨.int (if k then 1 else 0),H,I.tok _,⟨_,rfl⟩,q⟩
end
structure ObjM(h:Heap)(x dx C:cG)(mA:Str->Option cA):Prop where
 obj:h.get? x=some (gw C dx)
 ns:h.Ns1 dx mA
 ne:dx≠x
theorem Av{h:Heap}{dx:cG}{mA:Str->Option cA}(n:h.Ns1 dx mA):∃od,h.get? dx=some od/\∀name,j8 name od=some (mA name):=by
 obtain⟨o,c,l,d,f,hk,_,j⟩:=n;refine⟨o,d,λname=>?_⟩;have e:=j name;unfold nsFind findBy at e;rw[<-Array.find?_toList]at e;unfold j8;rw[f];dsimp only;split
 ·rename_i y q
  rw[q]at e;exact congrArg some e
 ·rename_i q
  rw[q]at e;have a:c.toList.any (·.refKey)=false:=by
   rw[List.any_eq_false];intro y k;obtain⟨z,t,b⟩:=hk y (Array.mem_toList_iff.mp k);simp[rg,b]
  have g:¬c.toList.any (·.refKey)=true:=by rw[a];exact de
  rw[if_neg g];exact congrArg some e
theorem ObjM.look{h:Heap}{x dx C:cG}{mA:Str->Option cA}(I:ObjM h x dx C mA):∃od,PySem.W.InstAt h x (gw C dx) C (some od)/\∀name,j8 name od=some (mA name):=
 let⟨od,a,b⟩:=Av I.ns
 ⟨od,⟨I.obj,rfl,rfl,a⟩,b⟩
section
variable{prog:cT}{w:dc}{A:dw}{E:cA->cD->Prop}{s:cD}{K:cu}{x dx C f:cG}{mA:Str->Option cA}{name:Str}{v:cA}
theorem Dk{expr:Bool}{Q:cA->cD->Prop}(X:K.In s.heap)(I:ObjM s.heap x dx C mA)(hg:jH K C name=true)(hh:kz K C=true)
  (ha:gp K (.ref C) name=some none)(hv:mA name=some v)(hv':nR v=true)(h:Q v {s with toks:=s.toks+1}):
  wpAny (model prog w) A (getAttr (.ref x) name expr) Q E s:=by
 obtain⟨b,J,a⟩:=I.look
 exact PySem.W.get_value X J (j3 hg).1 (PySem.W.findObj_own hh ha rfl (by rw[a,hv])) hv' h
theorem BG{pl:Sem Bool}{Q:cA×List cA->cD->Prop}(X:K.In s.heap)(I:ObjM s.heap x dx C mA)(hg:jH K C name=true)
  (hf:gp K (.ref C) name=some (some (.ref f)))(ht:m7 K (.ref f)=true)(hv:mA name=none)(h:Q (.ref f,[.ref x]) s):
  wpAny (model prog w) A (getMethod (.ref x) name pl) Q E s:=by
 obtain⟨a,J,b⟩:=I.look
 exact PySem.W.method_fn X J (j3 hg).1 (j3 hg).2 hf (beq_iff_eq.mp ht) (by show(j8 name a).map (·.isSome)=some false;rw[b,hv];rfl) h
theorem CF{ns:List Str}{Q:Unit->cD->Prop}(X:K.In s.heap)(I:ObjM s.heap x dx C mA)
  (hs:gp K (.ref C) "__setattr__"=some (some (.builtin "object.__setattr__")))(hp:m9 K C=true)(ht:lF K C name=some none)(hh:kz K C=true)
  (hw:lp mA ns)(hsz:ns.length<=sizeLine)
  (h:∀h',ObjM h' x dx C (λy=>if y=name then some v else mA y)->fK dx s.heap h'->Q () {s with heap:=h',toks:=s.toks+2}):
  wpAny (model prog w) A (setAttr (.ref x) name v) Q E s:=by
 obtain⟨q,J,t⟩:=I.look
 refine PySem.W.set_plain X J hs (PySem.W.osa_open (s:={s with toks:=s.toks+1}) (r:=none) X J hp ht λb=>?_)
 obtain⟨o,k,g⟩:=PySem.W.any_some hh
 have l:s.heap.get? x=some ⟨.ref C,some dx,.plain,#[]⟩:=I.obj
 refine cr (cv (cr (cr (wpAny_loadPart l (cr (qY (s:={s with toks:=s.toks+1}) (PySem.W.looks_clsIn X k) ?_))))))
 rw[g]
 refine cv (a:=some dx) (cr (cv (cr ?_)))
 refine wpAny_nsSet1 (s:={s with toks:=s.toks+1}) I.ns λh' c d=>?_
 obtain⟨p,n,m,e,f,j⟩:=c.count (lp.cons name v hw)
 refine cr (wpAny_lookBehind e (by rw[f];exact pastItsLine_dict (dg j (by rw[dQ];omega))) ?_)
 exact cv (h _ ⟨(d.2 _ (Ne.symm I.ne)).trans I.obj,c,I.ne⟩ d)
theorem B8{R:Result->cD->Prop}{vs:List cA}{kw:List (Str×cA)}(X:K.In s.heap)(hm:oq K C=true)
  (hi:gp K (.ref C) "__init__"=some (some (.ref f)))(hf:PySem.W.typeIn K (.ref f)=some (.type "function"))
  (h:codeAny (model prog w) (A.under (.builtin "type.__call__" ⟨.ref C::vs,kw⟩)) (.call (.ref f) ⟨.ref (s.heap.objs.size+1)::vs,kw⟩) (PySem.W.InitBack (s.heap.objs.size+1) R)
   {s with heap:=(s.heap.push fN).push (gw C s.heap.objs.size)}):
  codeAny (model prog w) A (.call (.ref C) ⟨vs,kw⟩) R s:=by
 obtain⟨c,g,d,t,b⟩:=s
 exact PySem.W.make_core (PySem.W.makes_of X hm) (PySem.W.looks_findIn X hi) (λa=>PySem.W.bind_fn X a hf) (.inl rfl) h
end
def EI(f:Str)(v:V):List (Str×V)->List (Str×V)
 | []=>[(f,v)]
 | (g,x)::r=>if g=f then(g,v)::r else(g,x)::EI f v r
theorem vj(f g:Str)(v:V):∀fs:List (Str×V),(EI f v fs).lookup g=if g=f then some v else fs.lookup g
 | []=>by
  show gR g [(f,v)]=_
  by_cases h:g=f
  ·have a:(g==f)=true:=beq_iff_eq.mpr h
   simp only[gR,a,if_pos h]
  ·have a:(g==f)=false:=beq_eq_false_iff_ne.mpr h
   simp only[gR,a,if_neg h]
 | (k,x)::r=>by
  have b:=vj f g v r
  rw[show EI f v ((k,x)::r)=(if k=f then(k,v)::r else(k,x)::EI f v r)from rfl]
  by_cases hk:k=f
  ·rw[if_pos hk]
   by_cases h:g=k
   ·have a:(g==k)=true:=beq_iff_eq.mpr h
    simp only[gR,a,if_pos (h.trans hk)]
   ·have a:(g==k)=false:=beq_eq_false_iff_ne.mpr h
    simp only[gR,a,if_neg (λe:g=f=>h (e.trans hk.symm))]
  ·rw[if_neg hk]
   by_cases h:g=k
   ·have a:(g==k)=true:=beq_iff_eq.mpr h
    simp only[gR,a,if_neg (λe:g=f=>hk (h.symm.trans e))]
   ·have a:(g==k)=false:=beq_eq_false_iff_ne.mpr h
    simp only[gR,a]
    exact b
theorem vn(f:Str)(v:V):∀fs:List (Str×V),f∈(EI f v fs).map (·.1)/\∀g,g∈fs.map (·.1)->g∈(EI f v fs).map (·.1)
 | []=>⟨by simp[EI],λg h=>by simp at h⟩
 | (k,x)::r=>by
  obtain⟨a,b⟩:=vn f v r
  rw[show EI f v ((k,x)::r)=(if k=f then(k,v)::r else(k,x)::EI f v r)from rfl]
  by_cases hk:k=f
  ·rw[if_pos hk]
   subst hk
   exact⟨by simp,λg h=>by simpa using h⟩
  ·rw[if_neg hk]
   refine⟨?_,λg h=>?_⟩
   ·rw[dN]
    exact cO _ a
   ·rw[dN]at h ⊢
    rcases cZ.mp h with e|e
    ·exact cZ.mpr (.inl e)
    ·exact cO _ (b g e)
theorem vk(f:Str)(v:V):∀fs:List (Str×V),(EI f v fs).length<=fs.length+1
 | []=>by simp[EI]
 | (k,x)::r=>by
  have a:=vk f v r
  rw[show EI f v ((k,x)::r)=(if k=f then(k,v)::r else(k,x)::EI f v r)from rfl]
  by_cases hk:k=f
  ·rw[if_pos hk,dQ,dQ];omega
  ·rw[if_neg hk,dQ,dQ];omega
theorem RelO.some_of{v:V}{o:Option cA}(r:RelO (some v) o):∃u,o=some u/\RelV v u:=by
 cases o with
 | none=>exact(show False from r).elim
 | some u=>exact⟨u,rfl,r⟩
theorem RelO.none_of{o:Option cA}(r:RelO none o):o=none:=by
 cases o with
 | none=>rfl
 | some u=>exact(show False from r).elim
theorem AW{v:V}{u:cA}(r:RelV v u):nR u=true:=by
 cases v with
 | non=>cases(show u=cA.none from r);rfl
 | bl b=>cases(show u=er b from r);rfl
 | int i=>obtain⟨t,e⟩:=(show ∃t,u=dX i t from r);cases e;rfl
 | str x=>obtain⟨t,e⟩:=(show ∃t,u=iw x t from r);cases e;rfl
 | byt b=>obtain⟨t,e⟩:=(show ∃t,u=qx b t from r);cases e;rfl
 | flt b=>obtain⟨t,e⟩:=(show ∃t,u=qy b t from r);cases e;rfl
 | ref a=>cases(show u=cR a from r);rfl
 | ty n=>cases(show u=dL n from r);rfl
section
variable{P:cT}{w:dc}{H H':Hp}{h h':Heap}{a C dx:cG}{fs fs':List (Str×V)}
theorem ya(hok:HOk P w H h)(e:H a=some (.ins C dx fs)):∃mA,ObjM h a dx C mA/\(∀f,RelO (fs.lookup f) (mA f))/\lp mA (fs.map (·.1))/\fs.length<=1000/\H dx=some (.own a):=by
 obtain⟨d,z,c,b,mA,n,r,q⟩:=(show ObjOk P w H h a (.ins C dx fs)from hok a _ e);exact⟨mA,⟨b,n,c⟩,r,q,z,d⟩
end
structure Cls(K:cu)(C:cG):Prop where
 pg:jH K C ea=true
 hd:kz K C=true
 po:m9 K C=true
 sa:gp K (.ref C) "__setattr__"=some (some (.builtin "object.__setattr__"))
theorem Cls.get{K:cu}{C:cG}(c:Cls K C)(f:Str):jH K C f=true:=c.pg
def NoAttr(K:cu)(C:cG)(f:Str):Prop:=gp K (.ref C) f=some none
theorem NoAttr.taker{K:cu}{C:cG}{f:Str}(n:NoAttr K C f):lF K C f=some none:=by
 unfold lF;rw[show gp K (.ref C) f=some none from n];rfl
structure Jq(K:cu)(C:cG)(m:Str)(f:cG):Prop where
 at_:gp K (.ref C) m=some (some (.ref f))
 fn:m7 K (.ref f)=true
 kp:iI K (.ref f)=true
section
variable{X:Cx}{pins:List (cG×Obj)}{σ:St}{H:Hp}{s:cD}{a C dx:cG}{fs:List (Str×V)}{f:Str}{v:V}{A:dw}{E:cA->cD->Prop}
theorem zk{b:Bool}{Q:cA->cD->Prop}(I:Inv X pins σ H s)(e:H a=some (.ins C dx fs))(c:Cls X.K C)(n:NoAttr X.K C f)(l:fs.lookup f=some v)
  (h:∀u s',Inv X pins σ H s'->RelV v u->Q u s'):wpAny (model X.prog X.w) A (getAttr (.ref a) f b) Q E s:=by
 obtain⟨j,O,r,_,_,_⟩:=ya I.hok e
 obtain⟨u,g,d⟩:=RelO.some_of (v:=v) (o:=j f) (by rw[<-l];exact r f)
 exact Dk I.kIn O (c.get f) c.hd n g (AW d) (h u _ (I.tok _) d)
theorem ua{m:Str}{g:cG}{pl:Sem Bool}{Q:cA×List cA->cD->Prop}(I:Inv X pins σ H s)(e:H a=some (.ins C dx fs))(c:Cls X.K C)(k:Jq X.K C m g)(l:fs.lookup m=none)
  (h:Q (.ref g,[.ref a]) s):wpAny (model X.prog X.w) A (getMethod (.ref a) m pl) Q E s:=by
 obtain⟨b,O,r,_,_,_⟩:=ya I.hok e
 have d:b m=none:=RelO.none_of (by rw[<-l];exact r m)
 exact BG I.kIn O (c.get m) k.at_ k.fn d h
theorem zq{y:V}{u:cA}{Q:Unit->cD->Prop}(I:Inv X pins σ H s)(e:H a=some (.ins C dx fs))(c:Cls X.K C)(n:NoAttr X.K C f)(hl:fs.length<1000)(ry:RelV y u)
  (h:∀s',Inv X pins σ (upd H a (.ins C dx (EI f y fs))) s'->Q () s'):wpAny (model X.prog X.w) A (setAttr (.ref a) f u) Q E s:=by
 obtain⟨j,O,r,l,_,k⟩:=ya I.hok e
 have m:(fs.map (·.1)).length<=sizeLine:=by rw[cx,lY];omega
 refine CF I.kIn O c.sa c.po n.taker c.hd l m λB d t=>h _ ?_
 have D:∃o,B.get? dx=some o:=let⟨o,_,_,v,_⟩:=d.ns;⟨o,v⟩
 refine I.write (x:=a) (e:=dx) (by rw[e];exact True.intro) (.inr k) (λb q p z=>(t.2 b p).trans z) D ?_
 refine⟨by rw[rH O.ne];exact k,?_,O.ne,d.obj,_,d.ns,λg=>?_,λg F=>?_⟩
 ·have:=vk f y fs;omega
 ·show RelO ((EI f y fs).lookup g) (if g=f then some u else j g)
  rw[vj]
  by_cases q:g=f
  ·rw[if_pos q,if_pos q];exact ry
  ·rw[if_neg q,if_neg q];exact r g
 ·by_cases q:g=f
  ·rw[q];exact(vn f y fs).1
  ·refine(vn f y fs).2 g (l g λz=>F ?_)
   show(if g=f then some u else j g)=none
   rw[if_neg q];exact z
theorem Inv.made(I:Inv X pins σ H s):Inv X pins σ (upd (upd H s.heap.objs.size (.own (s.heap.objs.size+1))) (s.heap.objs.size+1) (.ins C s.heap.objs.size []))
  {s with heap:=(s.heap.push fN).push (gw C s.heap.objs.size)}:=by
 have c:(s.heap.push fN).get? s.heap.objs.size=some fN:=cN s.heap rfl
 have j:((s.heap.push fN).push (gw C s.heap.objs.size)).get? (s.heap.objs.size+1)=some (gw C s.heap.objs.size):=by
  have:=cN (s.heap.push fN) (o:=gw C s.heap.objs.size) rfl
  rwa[gq]at this
 have g:(s.heap.push fN).Ns s.heap.objs.size (λ_=>none):=⟨fN,#[],_,c,rfl,(λe h=>absurd h (by simp)),λ_=>rfl⟩
 have f:=I.laid (a:=s.heap.objs.size) (o:= .own (s.heap.objs.size+1)) (h':=s.heap.push fN) (t':=s.toks) (λb u q=>cF _ q) (cI _) ⟨_,c⟩
 refine f.laid (a:=s.heap.objs.size+1) (o:= .ins C s.heap.objs.size []) (t':=s.toks) (λb u q=>cF _ q) (na (gq _ _)) ?_
 have d:s.heap.objs.size≠s.heap.objs.size+1:=df (dH _)
 refine⟨by rw[rH d,rC],du _,d,j,λ_=>none,(Heap.Ns1.of_empty g).at λo q=>cF _ q,λ_=>True.intro,λy k=>absurd rfl k⟩
theorem Dm{prog:cT}{w:dc}{env:Env}{e:Expr}{f:Str}{pos:Pos}{s:cD}{Q:cA->cD->Prop}(hb:attributeBase e f env (eval e env)=eval e env)
  (h:wpAny (model prog w) A (eval e env) (λo s₁=>wpAny (model prog w) A (getAttr o f true) Q E s₁) E s):wpAny (model prog w) A (eval (.Attribute e f pos) env) Q E s:=
 Attribute_any_ h (by rw[arm_eval_Attribute,hb])
end
def Lc(K:cu)(ta:TE)(f:Str):TE:=λσ H Q=>ta σ H λx H1=>∃a C dx fs v,x = .ref a/\H1 a=some (.ins C dx fs)/\Cls K C/\NoAttr K C f/\fs.lookup f=some v/\Q v H1
def L4(K:cu)(ta tv:TE)(f:Str):TS:=λD σ H=>tv σ H λy H1=>ta σ H1 λx H2=>∃a C dx fs,x = .ref a/\H2 a=some (.ins C dx fs)/\Cls K C/\NoAttr K C f/\fs.length<1000/\
 D.nx σ (upd H2 a (.ins C dx (EI f y fs)))
section
variable{X:Cx}{o e value:Expr}{f:Str}{pos pos' tpos:Pos}{ta tv:TE}
theorem uo(he:PE X e ta)(hb:attributeBase e f X.env (eval e X.env)=eval e X.env):PE X (.Attribute e f pos) (Lc X.K ta f):=by
 intro b s d H Q I h;refine Dm hb (Ej (he b s d H _ I h) λu y ⟨x,k,m,p,a,C,A,z,v,g,o,c,n,l,q⟩=>?_);subst g;obtain rfl:u=cR a:=p;exact zk m o c n l λt w j r=>⟨v,k,j,r,q⟩
theorem z7(ha:PE X o ta)(hv:PE X value tv)(hs:swapsWith value (some (.Attribute o f pos')) pos.line X.env=pure false):PS X (.Assign [.Attribute o f pos'] value pos) (L4 X.K ta tv f):=by
 intro b s d H D I h;refine plainObj_wpAny_Assign_Attribute (Ej (hv b s d H _ I h) λu w ⟨y,k,r,j,q⟩=>Ej (ha b w d k _ r q) λp A ⟨x,E,g,v,a,C,G,F,e,t,c,n,l,m⟩=>?_) hs;subst e;obtain rfl:p=cR a:=v;exact zq g t c n l j λB z=>⟨d,_,z,m⟩
theorem methcall_of{pl:Sem Bool}{m:Str}{apos:Pos}{args:List Expr}{pins:List (cG×Obj)}{s:cD}{σ:St}{H:Hp}{Q:cA->cD->Prop}{te:TE}(he:PE X e te)(I:Inv X pins σ H s)
  (h:te σ H λx H1=>∃a C dx fs g,x = .ref a/\H1 a=some (.ins C dx fs)/\Cls X.K C/\Jq X.K C m g/\fs.lookup m=none/\
   ∀s1,Inv X pins σ H1 s1->wpAny (model X.prog X.w) X.A (callWith pos (.ref g) [.ref a] (backTo pos (dh args X.env)) (backToKw pos (keywordEach [] X.env))) Q X.xe s1)
  (ht:eval (.Call (.Attribute e m apos) args [] pos) X.env=(do
   let ov<-eval e X.env
   standAt apos.atName
   let(f,first)<-holding [ov] (getMethod ov m pl)
   callWith pos f first (backTo pos (dh args X.env)) (backToKw pos (keywordEach [] X.env)))):
  wpAny (model X.prog X.w) X.A (eval (.Call (.Attribute e m apos) args [] pos) X.env) Q X.xe s:=by
 refine iz (pl:=pl) (Ej (he pins s σ H _ I h) λu s1 ⟨x,H1,b,n,a,C,dx,fs,g,d,j,c,k,l,q⟩=>?_) ht
 subst d
 obtain rfl:u=cR a:=n
 exact ua b j c k l (q s1 b)
end
structure Room(k:Nat)(A:dw):Prop where
 hd:A.handled=none
 dp:A.depth+3*k+5<recursionLimit
 un:A.units+16*k+200<cLine
theorem Room.mono{j k:Nat}{A:dw}(r:Room k A)(h:j<=k):Room j A:=⟨r.hd,by have:=r.dp;omega,by have:=r.un;omega⟩
theorem Room.deeper{k:Nat}{A:dw}(r:Room (k+1) A)(env:Env):Room k (A.deeper env):=
 ⟨r.hd,by have:=r.dp;show A.depth+1+3*k+5<_;omega,by have:=r.un;show A.units+3+16*k+200<_;omega⟩
theorem zC{A:dw}{C:cG}{us:List cA}{kw:List (Str×cA)}:(A.under (.builtin "type.__call__" ⟨.ref C::us,kw⟩)).depth=A.depth+1:=by
 first|rfl|simp[nc,Code.weight,Code.isCreation,Code.isGuard,Code.isCaller,Code.frames,Code.isFrame,guardIds]
theorem y4{A:dw}{C:cG}{us:List cA}{kw:List (Str×cA)}:(A.under (.builtin "type.__call__" ⟨.ref C::us,kw⟩)).units=A.units+1:=by
 first|rfl|simp[nc,Code.cUnits,Code.frames,Code.isFrame]
theorem Room.make{k:Nat}{A:dw}(r:Room (k+1) A)(C:cG)(us:List cA)(kw:List (Str×cA)):Room k (A.under (.builtin "type.__call__" ⟨.ref C::us,kw⟩)):=
 ⟨r.hd,by have:=r.dp;rw[zC];omega,by have:=r.un;rw[y4];omega⟩
theorem Room.depth{k:Nat}{A:dw}(r:Room k A):A.depth<recursionLimit:=by have:=r.dp;omega
theorem Room.units{k:Nat}{A:dw}(r:Room k A):A.units+64<cLine:=by have:=r.un;omega
def KM:TA:=λ_ H Q=>Q [] H
def Lq(ta:TE)(tr:TA):TA:=λσ H Q=>ta σ H λx H1=>tr σ H1 λxs H2=>Q (x::xs) H2
section
variable{X:Cx}{e:Expr}{es:List Expr}{te:TE}{t:TA}{pos:Pos}
theorem rq:PA X [] KM:=λ_ _ _ _ H Q I h=>kA ⟨[],H,I,.nil,h⟩
theorem mM(ha:PE X e te)(hr:PA X es t)(hs:dh (e::es) X.env=(false,eval e X.env)::dh es X.env:=by rfl):PA X (e::es) (Lq te t):=by
 intro b a s c H Q I h;rw[hs];show wpAny _ _ (spliced ((false,eval e X.env)::backTo b (dh es X.env))) _ _ s;refine fH (Ej (ha a s c H _ I h) λu n ⟨x,g,k,l,f⟩=>?_);exact Ej (hr b a n c g _ k f) λq r ⟨m,o,d,p,j⟩=>⟨x::m,o,d,.cons l p,j⟩
def L8(t:TA):TE:=λσ H Q=>t σ H λxs H1=>xs.length<=sizeLine/\∀p,H1 p=none->Q (.ref p) (upd H1 p (.tup xs))
def Mh(t:TA):TE:=λσ H Q=>t σ H λxs H1=>xs.length<=sizeLine/\∀p,H1 p=none->Q (.ref p) (upd H1 p (.lst xs))
theorem sF{x1}(h:PA X es t):PE X (.Tuple es x1 pos) (L8 t):=by
 intro c s g H Q I l;refine wpAny_Tuple_spliced (Ej (h pos c s g H _ I l) λj a ⟨m,d,f,r,z,q⟩=>⟨by rw[<-r.length];exact z,?_⟩);have k:d a.heap.objs.size=none:=f.hok.fresh (cI _);refine⟨.ref a.heap.objs.size,upd d a.heap.objs.size (.tup m),f.laid (t':=a.toks) (λb u e=>cF _ e) (cI _) ?_,rfl,q _ k⟩;exact⟨z,j,r,⟨_,cN _ rfl,rfl,_,rfl⟩⟩
theorem tU(h:PA X es t):PE X (.List es pos) (Mh t):=by
 intro c s g H Q I l;refine wpAny_List_spliced (Ej (h pos c s g H _ I l) λj a ⟨m,d,f,r,z,q⟩=>⟨by rw[<-r.length];exact z,?_⟩);have k:d a.heap.objs.size=none:=f.hok.fresh (cI _);refine⟨.ref a.heap.objs.size,upd d a.heap.objs.size (.lst m),f.laid (t':=a.toks) (λb u e=>cF _ e) (cI _) ?_,rfl,q _ k⟩;exact⟨z,j,0,r,cN _ rfl⟩
end
abbrev Sp:=List V->Hp->VK->XK->Prop
abbrev Ht:=List Env->Hp->cD->XK->cA->cD->Prop
structure Env0(P:cT)(w:dc)(K:cu)(mg:Str->Option cA)(base:Heap)(A:dw)(outer:List Env)(s:cD)(H:Hp):Prop where
 frames:A.frames=some outer
 mod:Mod K mg base
 bs:∀b o,base.get? b=some o->s.heap.get? b=some o/\H b=none
 bsz:base.objs.size<=s.heap.objs.size
 funs:s.heap.FunFrames base outer
 frf:∀b∈Fm outer,H b=none
 hok:HOk P w H s.heap
 bare:AllBare s.gens
def CE(outer:List Env)(P:cT)(w:dc)(H:Hp)(s:cD)(Q:VK)(u:cA)(s':cD):Prop:=
 ∃v H',s'.os=s.os/\AllBare s'.gens/\Un (Fm outer) [] H H' s.heap s'.heap/\HOk P w H' s'.heap/\RelV v u/\Q v H'
def CR(CX:Ht)(outer:List Env)(P:cT)(w:dc)(H:Hp)(s:cD)(Q:VK)(E:XK)(r:Result)(s':cD):Prop:=
 match r with
 | .ok (.ret u)=>CE outer P w H s Q u s'
 | .ok _=>False
 | .error e=>CX outer H s E e s'
structure FnOk(P:cT)(w:dc)(K:cu)(mg:Str->Option cA)(base:Heap)(CX:Ht)(k:Nat)(f:cG)(fd:FuncData)(ps:List Str)(sp:Sp):Prop where
 len:∀vs H Q E,sp vs H Q E->vs.length=ps.length
 run:∀(A:dw) (outer:List Env) (s:cD) (H:Hp) (args:Args) (us:List cA) (vs:List V) (Q:VK) (E:XK),Room k A->Env0 P w K mg base A outer s H->BindsTo s fd args (ps.zip us)->Vals vs us->sp vs H Q E->
  codeAny (model P w) A (.call (.ref f) args) (CR CX outer P w H s Q E) s
theorem FnOk.imp{P:cT}{w:dc}{K:cu}{mg:Str->Option cA}{base:Heap}{CX:Ht}{k:Nat}{f:cG}{fd:FuncData}{ps:List Str}{sp sp':Sp}(F:FnOk P w K mg base CX k f fd ps sp)
  (h:∀vs H Q E,sp' vs H Q E->sp vs H Q E):FnOk P w K mg base CX k f fd ps sp':=
 ⟨λvs H Q E q=>F.len vs H Q E (h _ _ _ _ q),λA a s H b e vs Q E c g d l j=>F.run A a s H b e vs Q E c g d l (h _ _ _ _ j)⟩
theorem Env0.make{P:cT}{w:dc}{K:cu}{mg:Str->Option cA}{base:Heap}{A:dw}{outer:List Env}{s:cD}{H:Hp}(e:Env0 P w K mg base A outer s H)(C:cG)(us:List cA)(kw:List (Str×cA)):
  Env0 P w K mg base (A.under (.builtin "type.__call__" ⟨.ref C::us,kw⟩)) outer s H:=⟨by first|exact e.frames|(simpa [nc,Code.envs,Code.isFrame,pushEnvs]using e.frames),e.mod,e.bs,e.bsz,e.funs,e.frf,e.hok,e.bare⟩
section
variable{X:Cx}{pins:List (cG×Obj)}{σ:St}{H:Hp}{s s':cD}
theorem Inv.env0(I:Inv X pins σ H s):Env0 X.prog X.w X.K X.mg X.base X.A X.stack s H:=
 ⟨I.ok.frames,I.ok.mod,I.bs,dg I.ok.bsz I.sz,I.stack,I.stkFree,I.hok,I.bare⟩
theorem Inv.after{Q:VK}{u:cA}(I:Inv X pins σ H s)(h:CE X.stack X.prog X.w H s Q u s'):EP X pins σ Q u s':=by
 obtain⟨v,l,f,a,j,c,r,q⟩:=h;obtain⟨k,g,d,t,e⟩:=s';obtain rfl:e=s.os:=f;exact⟨v,l,I.call (h':=k) (g':=g) (d':=d) (t':=t) (ch:=[]) j c a (λb z=>absurd z (by simp)),r,q⟩
end
def Kc(sp:Sp)(dvs:List V)(E:XK)(t:TA):TE:=λσ H Q=>t σ H λvs H1=>sp (vs++dvs) H1 Q E
def Ih(C:cG)(m:Str)(sp:Sp)(dvs:List V)(E:XK)(ta:TE)(t:TA):TE:=λσ H Q=>ta σ H λx H1=>∃a dx fs,x = .ref a/\H1 a=some (.ins C dx fs)/\fs.lookup m=none/\
 t σ H1 λvs H2=>sp (x::(vs++dvs)) H2 Q E
def Kb(C:cG)(sp:Sp)(dvs:List V)(E:XK)(t:TA):TE:=λσ H Q=>t σ H λvs H1=>∀x dx,H1 x=none->H1 dx=none->dx≠x->
 sp (.ref x::(vs++dvs)) (upd (upd H1 dx (.own x)) x (.ins C dx [])) (λv H2=>v = .non/\Q (.ref x) H2) E
def Binds(K:cu)(fd:FuncData)(ps:List Str)(ds:List cA):Prop:=
 ∀(s:cD) (us:List cA),K.In s.heap->(us++ds).length=ps.length->BindsTo s fd ⟨us,[]⟩ (ps.zip (us++ds))
theorem Binds.all{K:cu}{fd:FuncData}{ps:List Str}(h:∀us:List cA,us.length=ps.length->bindArgs fd ⟨us,[]⟩=pure (ps.zip us)):Binds K fd ps []:=λs us _ a=>by
 rw[fV]at a ⊢;exact .of_eq (h us a)
def ED(CX:Ht)(X:Cx)(E:XK):Prop:=∀(pins:List (cG×Obj)) (σ:St) (H:Hp) (s:cD) (e:cA) (s':cD),Inv X pins σ H s->CX X.stack H s E e s'->X.xe e s'
section
variable{X:Cx}{CX:Ht}{k:Nat}{f C:cG}{fd:FuncData}{ps:List Str}{sp:Sp}{dvs:List V}{ds:List cA}{E:XK}{x m:Str}{p pos apos:Pos}{e o:Expr}{es:List Expr}{ta:TE}{t:TA}
theorem Be{pins:List (cG×Obj)}{σ:St}{H:Hp}{s:cD}{Q:VK}{us:List cA}{vs:List V}(F:FnOk X.prog X.w X.K X.mg X.base CX k f fd ps sp)(hr:Room k X.A)(hb:Binds X.K fd ps ds)(hd:Vals dvs ds)(hx:ED CX X E)
  (I:Inv X pins σ H s)(r:Vals vs us)(h:sp (vs++dvs) H Q E):wpAny (model X.prog X.w) X.A (call (.ref f) us) (EP X pins σ Q) X.xe s:=by
 have b:Vals (vs++dvs) (us++ds):=r.append hd
 have d:(us++ds).length=ps.length:=by rw[<-b.length];exact F.len _ _ _ _ h
 refine iJ (iX (F.run X.A X.stack s H ⟨us,[]⟩ (us++ds) (vs++dvs) Q E hr I.env0 (hb s us I.kIn d) b h) λr g a=>?_)
 cases r with
 | error e=>exact hx pins σ H s e g I a
 | ok c=>
  cases c with
  | ret u=>exact I.after a
  | next=>exact fj a
  | brk=>exact fj a
  | cont=>exact fj a
theorem Dh(F:FnOk X.prog X.w X.K X.mg X.base CX k f fd ps sp)(hr:Room k X.A)(hg:Gl X x)(hm:X.mg x=some (.ref f))(hk:iI X.K (.ref f)=true)(hb:Binds X.K fd ps ds)(hd:Vals dvs ds)(hx:ED CX X E)
  (ha:PA X (e::es) t)(hdb:(x==("__debug__":Str))=false:=by decide)(he:dh (e::es) X.env=(false,eval e X.env)::dh es X.env:=by rfl)(hpl:(backTo pos (dh es X.env)).any (·.1)=false:=by rfl):
  PE X (.Call (.Name x p) (e::es) [] pos) (Kc sp dvs E t):=by
 intro a s c H Q I h
 refine fI (vz I hg hm ?_ hdb)
 refine jf (h₀:=X.base) I.ok.mod.kin hk (Ej (ha pos a s c H _ I h) λd j ⟨vs,g,b,r,q⟩=>⟨b.kIn,?_⟩) he hpl
 exact Be F hr hb hd hx b r q
theorem Dj{pl:Sem Bool}(he:PE X o ta)(c:Cls X.K C)(hm:Jq X.K C m f)(F:FnOk X.prog X.w X.K X.mg X.base CX k f fd ps sp)(hr:Room k X.A)(hb:Binds X.K fd ps ds)(hd:Vals dvs ds)(hx:ED CX X E)(ha:PA X (e::es) t)
  (hst:dh (e::es) X.env=(false,eval e X.env)::dh es X.env:=by rfl)(hpl:(backTo pos (dh es X.env)).any (·.1)=false:=by rfl)
  (ht:eval (.Call (.Attribute o m apos) (e::es) [] pos) X.env=(do
   let ov<-eval o X.env
   standAt apos.atName
   let(f,first)<-holding [ov] (getMethod ov m pl)
   callWith pos f first (backTo pos (dh (e::es) X.env)) (backToKw pos (keywordEach [] X.env))):=by rfl):
  PE X (.Call (.Attribute o m apos) (e::es) [] pos) (Ih C m sp dvs E ta t):=by
 intro b s d H Q I h
 refine iz (pl:=pl) (Ej (he b s d H _ I h) λu B ⟨x,p,j,z,a,L,J,n,y,l,q⟩=>?_) ht
 subst n
 obtain rfl:u=cR a:=z
 refine ua j y c hm l ?_
 refine jf (first:=[.ref a]) (h₀:=X.base) I.ok.mod.kin hm.kp (Ej (ha pos b B d p _ j q) λus D ⟨vs,G,g,r,v⟩=>⟨g.kIn,?_⟩) hst hpl
 exact Be (us:= .ref a::us) (vs:= .ref a::vs) F hr hb hd hx g (.cons rfl r) v
theorem By{pl:Sem Bool}(he:PE X o ta)(c:Cls X.K C)(hm:Jq X.K C m f)(F:FnOk X.prog X.w X.K X.mg X.base CX k f fd ps sp)(hr:Room k X.A)(hb:Binds X.K fd ps ds)(hd:Vals dvs ds)(hx:ED CX X E)
  (ht:eval (.Call (.Attribute o m apos) [] [] pos) X.env=(do
   let ov<-eval o X.env
   standAt apos.atName
   let(f,first)<-holding [ov] (getMethod ov m pl)
   callWith pos f first (backTo pos (dh [] X.env)) (backToKw pos (keywordEach [] X.env))):=by rfl):
  PE X (.Call (.Attribute o m apos) [] [] pos) (Ih C m sp dvs E ta KM):=by
 intro b s e H Q I h
 refine iz (pl:=pl) (Ej (he b s e H _ I h) λu r ⟨x,p,d,n,a,v,t,g,j,l,q⟩=>?_) ht
 subst g
 obtain rfl:u=cR a:=n
 refine ua d j c hm l ?_
 exact PySem.W.callWith_K0 (first:=[.ref a]) d.kIn hm.kp (Be (us:=[.ref a]) (vs:=[.ref a]) F hr hb hd hx d (.cons rfl .nil) q)
structure Mk(K:cu)(C f:cG):Prop where
 makes:oq K C=true
 init:gp K (.ref C) "__init__"=some (some (.ref f))
 fn:m7 K (.ref f)=true
 kp:iI K (.ref C)=true
theorem BM{pins:List (cG×Obj)}{σ:St}{H:Hp}{s:cD}{Q:VK}{us:List cA}{vs:List V}(M:Mk X.K C f)(F:FnOk X.prog X.w X.K X.mg X.base CX k f fd ps sp)(hr:Room (k+1) X.A)(hb:Binds X.K fd ps ds)(hd:Vals dvs ds)
  (hx:ED CX X E)(I:Inv X pins σ H s)(r:Vals vs us)
  (h:∀x dx,H x=none->H dx=none->dx≠x->sp (.ref x::(vs++dvs)) (upd (upd H dx (.own x)) x (.ins C dx [])) (λv H2=>v = .non/\Q (.ref x) H2) E):
  wpAny (model X.prog X.w) X.A (call (.ref C) us) (EP X pins σ Q) X.xe s:=by
 have c:=h (s.heap.objs.size+1) s.heap.objs.size (I.hok.fresh (ec _)) (I.hok.fresh (cI _)) (df (dH _))
 have b:=Inv.made (C:=C) I
 have d:Vals (V.ref (s.heap.objs.size+1)::(vs++dvs)) (cR (s.heap.objs.size+1)::(us++ds)):= .cons rfl (r.append hd)
 have j:(cR (s.heap.objs.size+1)::us++ds).length=ps.length:=by
  have e:=d.length
  rw[F.len _ _ _ _ c]at e
  exact e.symm
 refine iJ (B8 (f:=f) I.kIn M.makes M.init (beq_iff_eq.mp M.fn) (iX (F.run _ X.stack _ _ ⟨cR (s.heap.objs.size+1)::us,[]⟩ (cR (s.heap.objs.size+1)::(us++ds)) _ _ E (hr.make C us [])
  (b.env0.make C us []) (hb _ (cR (s.heap.objs.size+1)::us) b.kIn j) d c) λr m a=>?_))
 cases r with
 | error e=>exact hx pins σ _ _ e m b a
 | ok g=>
  cases g with
  | ret u=>
   obtain⟨v,o,n,p,ev,l⟩:=b.after a
   subst ev
   exact⟨p,⟨V.ref (s.heap.objs.size+1),o,n,rfl,l⟩⟩
  | next=>exact fj a
  | brk=>exact fj a
  | cont=>exact fj a
theorem CO(M:Mk X.K C f)(F:FnOk X.prog X.w X.K X.mg X.base CX k f fd ps sp)(hr:Room (k+1) X.A)(hg:Gl X x)(hm:X.mg x=some (.ref C))(hb:Binds X.K fd ps ds)(hd:Vals dvs ds)(hx:ED CX X E)
  (ha:PA X (e::es) t)(hdb:(x==("__debug__":Str))=false:=by decide)(he:dh (e::es) X.env=(false,eval e X.env)::dh es X.env:=by rfl)(hpl:(backTo pos (dh es X.env)).any (·.1)=false:=by rfl):
  PE X (.Call (.Name x p) (e::es) [] pos) (Kb C sp dvs E t):=by
 intro a s c H Q I h
 refine fI (vz I hg hm ?_ hdb)
 refine jf (h₀:=X.base) I.ok.mod.kin M.kp (Ej (ha pos a s c H _ I h) λd j ⟨vs,g,b,r,q⟩=>⟨b.kIn,?_⟩) he hpl
 exact BM M F hr hb hd hx b r q
end
structure Eb(N P:List Str)(sc:Scope):Prop where
 kind:sc.kind = .function
 co:sc.isCoroutine=false
 gen:sc.isGenerator=false
 nd:N.Nodup
 pre:N.take P.length=P
 par:∀x∈P,sc.names.lookup x=some .local\/sc.names.lookup x=some .cell
 nofree:∀y∈sc.names,y.2≠ .free
theorem xn{kindOf:Str->Option ip}{x:Str}:∀{binds:List (Str×cA)} {m:Str->Option cA},(∀v,(x,v)∉binds)->bindL kindOf binds m x=m x
 | [],_,_=>rfl
 | (n,v)::r,m,h=>by
  unfold bindL
  rw[xn λw a=>h w (cO _ a)]
  split
  ·have:x≠n:=by rintro rfl;exact h v cM
   simp[this]
  ·rfl
theorem xz{kindOf:Str->Option ip}{x:Str}:∀{binds:List (Str×cA)} {m:Str->Option cA},(∀v,(x,v)∉binds)->bindC kindOf binds m x=m x
 | [],_,_=>rfl
 | (n,v)::r,m,h=>by
  unfold bindC
  rw[xz λw a=>h w (cO _ a)]
  split
  ·rfl
  ·have:x≠n:=by rintro rfl;exact h v cM
   simp[this]
theorem xb{kindOf:Str->Option ip}{x:Str}{v:cA}:∀{P:List Str} {vs:List cA} {i:Nat} {m:Str->Option cA},P.Nodup->P[i]?=some x->vs[i]?=some v->kindOf x=some .local->
  bindL kindOf (P.zip vs) m x=some v
 | [],_,_,_,_,h,_,_=>by simp at h
 | _::_,[],_,_,_,_,h,_=>by simp at h
 | p::P,w::vs,0,m,nd,h1,h2,hk=>by
  simp at h1 h2;subst h1;subst h2
  show bindL kindOf ((p,w)::P.zip vs) m p=_
  unfold bindL
  rw[xn λv a=>(fz.mp nd).1 (jS a).1,if_pos hk]
  simp
 | p::P,w::vs,i+1,m,nd,h1,h2,hk=>by
  show bindL kindOf ((p,w)::P.zip vs) m x=_
  unfold bindL
  exact xb (i:=i) (fz.mp nd).2 (by simpa using h1) (by simpa using h2) hk
theorem xw{kindOf:Str->Option ip}{x:Str}{v:cA}:∀{P:List Str} {vs:List cA} {i:Nat} {m:Str->Option cA},P.Nodup->P[i]?=some x->vs[i]?=some v->kindOf x≠some .local->
  bindC kindOf (P.zip vs) m x=some v
 | [],_,_,_,_,h,_,_=>by simp at h
 | _::_,[],_,_,_,_,h,_=>by simp at h
 | p::P,w::vs,0,m,nd,h1,h2,hk=>by
  simp at h1 h2;subst h1;subst h2
  show bindC kindOf ((p,w)::P.zip vs) m p=_
  unfold bindC
  rw[xz λv a=>(fz.mp nd).1 (jS a).1,if_neg hk]
  simp
 | p::P,w::vs,i+1,m,nd,h1,h2,hk=>by
  show bindC kindOf ((p,w)::P.zip vs) m x=_
  unfold bindC
  exact xw (i:=i) (fz.mp nd).2 (by simpa using h1) (by simpa using h2) hk
def start(N:List Str)(vs:List V):St:=vs.map some++fA (N.length-vs.length) none
def Hs(CX:Ht)(P:cT)(w:dc)(K:cu)(mg:Str->Option cA)(base:Heap)(N:List Str)(qual:Str)(scope:Scope)(f:cG)(cd:cA)(A:dw)(outer:List Env)(s:cD)(H:Hp)(E:XK):Cx where
 prog:=P
 w:=w
 K:=K
 mg:=mg
 base:=base
 A:=A.deeper (envOfC qual scope s.heap.objs.size f cd)
 N:=N
 s₀:=s
 H₀:=H
 env:=envOfC qual scope s.heap.objs.size f cd
 outer:=outer
 stack:=envOfC qual scope s.heap.objs.size f cd::outer
 ex:=[]
 calm:=true
 fn:=λ_=>true
 pn:=[]
 xe:=λe s'=>wpAny (model P w) (A.deeper (envOfC qual scope s.heap.objs.size f cd)) (leaving (envOfC qual scope s.heap.objs.size f cd) e) (λ_ s''=>CX outer H s E e s'') (λe' s''=>CX outer H s E e' s'') s'
theorem yp{sc:Scope}{n:Nat}{x:Str}(h:sc.names.lookup x=some .cell):∃c,(cellsFrom n sc.names []).lookup x=some c:=by
 have q:=lr sc.names n [] (.inl h);exact kH.mp q
theorem zR{CX:Ht}{P:cT}{w:dc}{K:cu}{mg:Str->Option cA}{base:Heap}{N ps:List Str}{qual:Str}{scope:Scope}{f:cG}{cd:cA}{A:dw}{outer:List Env}{s s1:cD}{H:Hp}{E:XK}{us:List cA}{vs:List V}
  (S:Eb N ps scope)(hd:A.handled=none)(e0:Env0 P w K mg base A outer s H)(hl:vs.length=ps.length)(r:Vals vs us)
  (x:InCallC s s.heap.objs.size (bindL (envOfC qual scope s.heap.objs.size f cd).kindOf (ps.zip us) λ_=>none) (cellsFrom (s.heap.objs.size+1) scope.names []) (bindC (envOfC qual scope s.heap.objs.size f cd).kindOf (ps.zip us) λ_=>none) s1):
  Inv (Hs CX P w K mg base N qual scope f cd A outer s H E) [] (start N vs) H s1:=by
 have B:ps.length<=N.length:=by have:=congrArg ji S.pre;rw[cV]at this;omega
 obtain⟨h1,tk,rfl,hk⟩:=x.done
 have g:∀b:cG,b∉(Hs CX P w K mg base N qual scope f cd A outer s H E).ex:=λb z=>absurd (show b∈([]:List cG)from z) (by simp)
 refine⟨⟨e0.mod,S.kind,rfl,rfl,cI _,λy z c h1 h2=>?_,λy d=>?_,λy c _ h=>?_,λ_=>hd,Around.frames_deeper e0.frames,.inr ⟨rfl,rfl⟩,λb z=>absurd z (g b),e0.bs,e0.bsz,λb _ _=>g b,λb z=>absurd z (g b),e0.funs,e0.frf⟩,
  rfl,e0.bare,Un.kept hk,⟨_,x.toInCall.ns,λi y v h1 h2 h3=>?_⟩,λy c h=>⟨_,x.cell y c h⟩,e0.hok.fresh (cI _),λy c h=>?_,λp hp=>absurd (show p∈([]:List (cG×Obj))from hp) (by simp),e0.hok.kept hk,?_⟩
 ·exact name_of_addr x.apart (eV h1) (eV h2)
 ·have d:scope.names.lookup y=some .cell\/scope.names.lookup y=some .free:=d
  rcases d with d|d
  ·exact yp d
  ·exact absurd rfl (S.nofree _ (eV d))
 ·exact dB (x.above y c (eV h))
 ·have j:i<vs.length:=by
   unfold start at h2
   by_cases j:i<vs.length
   ·exact j
   ·rw[eZ (by simpa using j)]at h2
    rw[List.getElem?_replicate]at h2
    split at h2 <;> cases h2
  have o:vs[i]?=some v:=by
   unfold start at h2
   rw[gO (by simpa using j),cH]at h2
   cases e:vs[i]? with
   | none=>rw[e]at h2;cases h2
   | some a=>rw[e]at h2;cases h2;rfl
  obtain⟨u,m,t⟩:=r.get o
  have hp:ps[i]?=some y:=by
   rw[<-S.pre,gX (by omega)];exact h1
  have l:ps.Nodup:=by rw[<-S.pre];exact S.nd.sublist (List.take_sublist _ _)
  refine⟨u,t,?_⟩
  rcases S.par y (da hp)with k|k
  ·exact .inl ⟨k,xb l hp m k⟩
  ·obtain⟨c,e⟩:=yp (n:=s.heap.objs.size+1) k
   refine .inr ⟨.inl k,c,e,?_⟩
   have q:=x.cell y c e
   rw[xw l hp m (by show scope.names.lookup y≠_;rw[k];decide)]at q
   exact q
 ·exact e0.hok.fresh (dB (x.above y c (eV h)))
 ·unfold start
  show _=N.length
  rw[dq,cx,eT]
  omega
theorem BR{CX:Ht}{P:cT}{w:dc}{K:cu}{mg:Str->Option cA}{base:Heap}{k:Nat}{f:cG}{name qual:Str}{params:Arguments}{body:List Stmt}{scope:Scope}{dV kV doc pm cdv ct oc:cA}{an od:Option cG}
  {osl:Array (Option cA)}{N ps:List Str}{sp:Sp}(lk:K.lookup f=some ⟨oc,od,.func (f9 name qual params body scope dV kV doc pm an cdv ct),osl⟩)(hcd:lZ K cdv qual=true)(S:Eb N ps scope)
  (len:∀vs H Q E,sp vs H Q E->vs.length=ps.length)
  (hbody:∀(A:dw) (outer:List Env) (s:cD) (H:Hp) (vs:List V) (Q:VK) (E:XK),Room k (A.deeper (envOfC qual scope s.heap.objs.size f cdv))->sp vs H Q E->
   ∃t,PSs (Hs CX P w K mg base N qual scope f cdv A outer s H E) body t/\t {nx:=λ_ H'=>Q .non H',rt:=Q} (start N vs) H):
  FnOk P w K mg base CX (k+1) f (f9 name qual params body scope dV kV doc pm an cdv ct) ps sp:=by
 refine⟨len,λA outer s H M F vs Q E l d C r h=>?_⟩
 have T:=len _ _ _ _ h
 have z:K.In s.heap:=d.mod.kin.keeps λb o e=>(d.bs b o e).1
 have p:s.heap.NoLimit:=d.mod.nolimit.keeps λb o e=>(d.bs b o e).1
 have g:∀y∈ps.zip F,scope.names.lookup y.1=some .local\/(scope.names.lookup y.1=some .cell/\((cellsFrom (s.heap.objs.size+1) scope.names []).lookup y.1).isSome=true):=λ⟨n,v⟩ L=>by
  rcases S.par n (jS L).1 with q|q
  ·exact .inl q
  ·exact .inr ⟨q,lr _ _ _ (.inl q)⟩
 refine codeAny_call_function l.depth (z _ _ lk) rfl S.co S.gen rfl (PySem.W.codeRec_of z hcd) (C _ _ _ _ ?_)
 refine wpAny_newFunctionEnv_cells S.kind g λU G B x=>?_
 subst G
 refine⟨p.keeps x.toInCall.keep,codeAny_func ?_⟩
 obtain⟨t,D,R⟩:=hbody A outer s H vs Q E (l.deeper _) h
 have I:Inv (Hs CX P w K mg base N qual scope f cdv A outer s H E) [] (start N vs) H B:=zR S l.hd d T r x
 refine gj (D [] B (start N vs) H _ I R) (λO j c=>?_) λe j c=>c
 have fin:∀{a:St} {H':Hp} {v:V} {u:cA},Inv (Hs CX P w K mg base N qual scope f cdv A outer s H E) [] a H' j->RelV v u->Q v H'->CE outer P w H s Q u j:=
  λ {a H' v u} J m q=>⟨v,H',J.os,J.bare,J.base,J.hok,m,q⟩
 cases O with
 | ret u=>
  obtain⟨v,a,H',J,m,q⟩:=c
  exact fin J m q
 | next=>
  obtain⟨a,H',J,q⟩:=c
  exact fin (v:=V.non) (u:=cA.none) J rfl q
 | brk=>
  obtain⟨_,_,_,q⟩:=c
  exact fj q
 | cont=>
  obtain⟨_,_,_,q⟩:=c
  exact fj q
section
variable{X:Cx}{x:Str}{p pos:Pos}{e:Expr}{es:List Expr}{t:TA}{id T:String}{r:List V->Hp->VK->Prop}
def Mx(r:List V->Hp->VK->Prop)(t:TA):TE:=λσ H Q=>t σ H λvs H1=>r vs H1 Q
theorem rJ(hc:EJ X (.builtin id) r)(hg:Gl X x)(hm:X.mg x=none)(hv:bootBuiltins x=some (.builtin id))(ha:PA X (e::es) t)(hn:x≠"__name__":=by decide)(hdb:(x==("__debug__":Str))=false:=by decide)
  (he:dh (e::es) X.env=(false,eval e X.env)::dh es X.env:=by rfl)(hpl:(backTo pos (dh es X.env)).any (·.1)=false:=by rfl):PE X (.Call (.Name x p) (e::es) [] pos) (Mx r t):=by
 intro a s b H Q I h
 refine fI (tI I hg hm hv ?_ hn hdb)
 exact g9 (Ej (ha pos a s b H _ I h) λg k ⟨vs,j,c,f,d⟩=>hc a k b j vs g Q c f d) he hpl
theorem sd(hc:EJ X (.type T) r)(hg:Gl X x)(hm:X.mg x=none)(hv:bootBuiltins x=some (.type T))(ha:PA X (e::es) t)(hn:x≠"__name__":=by decide)(hdb:(x==("__debug__":Str))=false:=by decide)
  (he:dh (e::es) X.env=(false,eval e X.env)::dh es X.env:=by rfl)(hpl:(backTo pos (dh es X.env)).any (·.1)=false:=by rfl):PE X (.Call (.Name x p) (e::es) [] pos) (Mx r t):=by
 intro a s b H Q I h
 refine fI (tI I hg hm hv ?_ hn hdb)
 exact d7 (Ej (ha pos a s b H _ I h) λg k ⟨vs,j,c,f,d⟩=>hc a k b j vs g Q c f d) he hpl
end
end L2
namespace HT
open PySem PyProof.Rows
section
variable{prog:cT}{w:dc}{A:dw}{E:cA->cD->Prop}{s:cD}
theorem cat_tup{t b:cG}{vs ws:List cA}{Q:cA->cD->Prop}(ht:IsTup s.heap t vs.toArray)(hb:IsTup s.heap b ws.toArray)(hv:vs≠[])
  (h1:ws=[]->Q (.ref t) s)(h2:ws≠[]->Q (.ref s.heap.objs.size) {s with heap:=s.heap.push {cls:= .type "tuple",data:= .seq (vs++ws).toArray}})
  (hsz:vs.length+ws.length<=sizeLine):wpAny (model prog w) A (binaryOp .Add (.ref t) (.ref b)) Q E s:=by
 obtain⟨⟨cls,p,data,l⟩,c,m,n,o⟩:=id ht
 obtain⟨⟨r,g,q,f⟩,a,h,k,j⟩:=id hb
 simp only at m o h j
 subst m o h j
 have e:vs.toArray++ws.toArray=(vs++ws).toArray:=by simp
 by_cases d:ws=[]
 ·exact ng ⟨_,c,rfl⟩ ⟨_,a,rfl⟩ kW mw jr jj (i9 _ _)
   (tuple_addW1 t b vs.toArray ws.toArray n k p g l f (by simpa using hv) (by simp[d])) ⟨c,a,h1 d⟩
 ·refine ng ⟨_,c,rfl⟩ ⟨_,a,rfl⟩ kW mw jr jj (i9 _ _)
   (tuple_addW2 t b vs.toArray ws.toArray n k p g l f (by simpa using hv) (by simpa using d) (by rw[cX,cX];exact hsz)) ⟨c,a,?_⟩
  rw[e]
  exact h2 d
def sIx(n d:Nat):Option Int->Nat
 | none=>d
 | some v=>if v<0 then(v+(n:Int)).toNat else min v.toNat n
end
end HT
namespace L2
open PySem PySem.Spec PyProof.Rows
abbrev TO:=St->Hp->(Option Int->Hp->Prop)->Prop
def PO(X:Cx)(e:Option Expr)(t:TO):Prop:=
 ∀(pins:List (cG×Obj)) (s:cD) (σ:St) (H:Hp) (Q:Option Int->Hp->Prop),Inv X pins σ H s->t σ H Q->
  wpAny (model X.prog X.w) X.A (evalPart e X.env) (λu s'=>∃o H',Inv X pins σ H' s'/\IsPart u o/\Q o H') X.xe s
def J3:TO:=λ_ H Q=>Q none H
def K8(t:TE):TO:=λσ H Q=>t σ H λx H1=>∃i,x = .int i/\Q (some i) H1
section
variable{X:Cx}{e:Expr}{te:TE}{lo hi:Option Expr}{tl th:TO}{pos p2:Pos}
theorem A7:PO X none J3:=by
 intro a s b H Q I h;rw[pK];exact cv ⟨none,H,I,.none,h⟩
theorem uJ(h:PE X e te):PO X (some e) (K8 te):=by
 intro a s d H Q I j;rw[evalPart_some];refine Ej (h a s d H _ I j) λu k ⟨x,g,b,f,c⟩=>?_
 obtain⟨i,rfl,q⟩:=c;obtain⟨t,rfl⟩:=f;exact⟨some i,g,b,.int i t,q⟩
def Mc(X:Cx)(r:V->Option Int->Option Int->Hp->VK->Prop):Prop:=
 ∀(pins:List (cG×Obj)) (s:cD) (σ:St) (H:Hp) (x:V) (v vl vu:cA) (lo hi:Option Int) (sl:cG) (Q:VK),Inv X pins σ H s->RelV x v->s.heap.IsSliceOf sl vl vu .none->IsPart vl lo->IsPart vu hi->r x lo hi H Q->
  ∃T id,typeLookup (.type T) "__getitem__"=pure (some (.builtin id))/\s.TypeIs v T/\wpAny (model X.prog X.w) X.A (getItem v (.ref sl)) (EP X pins σ Q) X.xe s
def MT(r:V->Option Int->Option Int->Hp->VK->Prop)(te:TE)(tl th:TO):TE:=λσ H Q=>te σ H λx H1=>tl σ H1 λl H2=>th σ H2 λu H3=>r x l u H3 Q
theorem u9{r:V->Option Int->Option Int->Hp->VK->Prop}(hr:Mc X r)(he:PE X e te)(hl:PO X lo tl)(hu:PO X hi th):PE X (.Subscript e (.Slice lo hi none p2) pos) (MT r te tl th):=by
 intro a s d H Q I h;refine Subscript_ (Ej (he a s d H _ I h) λv E ⟨x,t,B,C,p⟩=>?_);refine wpAny_Slice (Ej (hl a E d t _ B p) λf n ⟨l,F,m,L,y⟩=>Ej (hu a n d F _ m y) λg c ⟨u,j,K,z,D⟩=>?_);rw[pK];refine cv ?_;have G:Inv X a d j {c with heap:=c.heap.push {cls:= .type "slice",data:= .fields #[f,g,.none]}}:=K.kept (t':=c.toks) λb M q=>cF _ q
 obtain⟨T,id,o,k,J⟩:=hr a {c with heap:=c.heap.push {cls:= .type "slice",data:= .fields #[f,g,.none]}} d j x v f g l u c.heap.objs.size Q G C (qZ ..) L z D;show wpAny (model X.prog X.w) X.A (subscriptTail e (.Slice lo hi none p2) v (.ref c.heap.objs.size)) (EP X a d Q) X.xe {c with heap:=c.heap.push {cls:= .type "slice",data:= .fields #[f,g,.none]}};exact tail_any (ops:=[.ref c.heap.objs.size,v]) k o J (by with_unfolding_all rfl)
def Gy(xs:List V)(lo hi:Option Int):List V:=(xs.drop (HT.sIx xs.length 0 lo)).take (HT.sIx xs.length xs.length hi-HT.sIx xs.length 0 lo)
theorem vv(xs:List V)(lo hi:Option Int):(Gy xs lo hi).length<=xs.length:=by
 unfold Gy;rw[cV,iY];omega
def Lg(K:cu):R2:=λx y H Q=>∃a b xs ys,x = .ref a/\y = .ref b/\SqT K H a xs/\SqT K H b ys/\xs≠[]/\xs.length+ys.length<=sizeLine/\
 (ys=[]->Q (.ref a) H)/\(ys≠[]->∀p,H p=none->Q (.ref p) (upd H p (.tup (xs++ys))))
theorem Vals.nil_iff{xs:List V}{us:List cA}(r:Vals xs us):us=[]↔xs=[]:=by
 cases r with
 | nil=>simp
 | cons _ _=>simp
theorem Dr:Fo X (binaryOp .Add) (Lg X.K):=by
 intro j s E H x y v u Q I p k h;obtain⟨a,b,r,n,rfl,rfl,C,g,t,e,l,m⟩:=h
 cases p
 cases k;obtain⟨D,d,A,_⟩:=I.tuple C;obtain⟨f,c,B,_⟩:=I.tuple g;refine HT.cat_tup A B (λz=>t (d.nil_iff.mp z)) (λz=>⟨.ref a,H,I,rfl,l (c.nil_iff.mp z)⟩) (λz=>?_) (by rw[<-d.length,<-c.length];exact e);refine⟨.ref s.heap.objs.size,_,I.laid (t':=s.toks) (o:= .tup (r++n)) (λb F q=>cF _ q) (cI _) ?_,rfl,m (λw=>z (c.nil_iff.mpr w)) _ (I.hok.fresh (cI _))⟩;exact⟨by rw[dq];exact e,_,d.append c,p6 _ _⟩
end
def Jn(n:Nat)(i:Int):Option Nat:=if 0<=i then(if i<n then some i.toNat else none)else if -(n:Int)<=i then some (i+n).toNat else none
def G6{α:Type}(xs:List α)(i:Int):Option α:=(Jn xs.length i).bind λj=>xs[j]?
theorem AF{n:Nat}{i:Int}{j:Nat}(h:Jn n i=some j):seqIndex? i n=some j/\j<n/\ -(n:Int)<=i/\i<n:=by
 unfold Jn at h;by_cases h0:0<=i
 ·rw[if_pos h0]at h;by_cases h1:i<n
  ·rw[if_pos h1]at h;have e:i.toNat=j:=Option.some.inj h;exact⟨by rw[ol h0 h1,e],by omega,by omega,h1⟩
  ·rw[if_neg h1]at h;cases h
 ·rw[if_neg h0]at h;by_cases h1: -(n:Int)<=i
  ·rw[if_pos h1]at h;have e:(i+n).toNat=j:=Option.some.inj h;exact⟨by rw[nh (by omega) h1,e],by omega,h1,by omega⟩
  ·rw[if_neg h1]at h;cases h
theorem xW{α:Type}{xs:List α}{i:Int}{v:α}(h:G6 xs i=some v):∃j,seqIndex? i xs.length=some j/\xs[j]?=some v/\j<xs.length/\ -(xs.length:Int)<=i/\i<xs.length:=by
 unfold G6 at h
 cases e:Jn xs.length i with
 | none=>rw[e]at h;cases h
 | some j=>
  rw[e]at h;obtain⟨h1,h2,h3,h4⟩:=AF e;exact⟨j,h1,h,h2,h3,h4⟩
theorem si{α:Type}{xs:List α}{j:Nat}{v:α}(h:xs[j]?=some v):G6 xs (j:Int)=some v:=by
 have a:j<xs.length:=(cL.mp h).1;have e:Jn xs.length (j:Int)=some j:=by
  unfold Jn;rw[if_pos (by omega),if_pos (by omega)];simp
 unfold G6;rw[e];exact h
def J7(b:Expr):Prop:=∀o i,subscripted b false o i=operate [o,i] (getItem o i)
def IxR(X:Cx)(r:R2):Prop:=
 ∀(value slice:Expr) (pins:List (cG×Obj)) (s:cD) (σ:St) (H:Hp) (x y:V) (v u:cA) (Q:VK),Inv X pins σ H s->RelV x v->RelV y u->r x y H Q->
  subscripted slice false v u=operate [v,u] (getItem v u)->wpAny (model X.prog X.w) X.A (subscriptTail value slice v u) (EP X pins σ Q) X.xe s
def KT(X:Cx)(id:String)(r:V->List V->Hp->VK->Prop):Prop:=
 ∀(pins:List (cG×Obj)) (s:cD) (σ:St) (H:Hp) (x:V) (xs:List V) (v:cA) (us:List cA) (Q:VK),Inv X pins σ H s->RelV x v->Vals xs us->r x xs H Q->
  wpAny (model X.prog X.w) X.A (call (.builtin id) (v::us)) (EP X pins σ Q) X.xe s
section
variable{X:Cx}{a b:Expr}{ta tb:TE}{pos:Pos}
theorem IxR.or{r r':R2}(h:IxR X r)(h':IxR X r'):IxR X (λx y H Q=>r x y H Q\/r' x y H Q):=by
 intro b a c s e H x y v u Q I f d q g;rcases q with q|q
 ·exact h b a c s e H x y v u Q I f d q g
 ·exact h' b a c s e H x y v u Q I f d q g
theorem rN{r:R2}(hr:IxR X r)(ha:PE X a ta)(hb:PE X b tb)(hs:J7 b):PE X (.Subscript a b pos) (LU r ta tb):=by
 intro c s e H Q I h;exact Subscript_ (KL ha hb I h λv u j x y k f g d q=>hr a b c j e k x y v u Q f g d q (hs _ _))
def KO(K:cu):R2:=λx y H Q=>∃p xs i v,x = .ref p/\y = .int i/\SqL K H p xs/\G6 xs i=some v/\Q v H
def KI(K:cu):R2:=λx y H Q=>∃p xs i v,x = .ref p/\y = .int i/\SqT K H p xs/\G6 xs i=some v/\Q v H
def LJ:R2:=λx y H Q=>∃z i c,x = .str z/\y = .int i/\z.length<=sizeLine/\G6 z.cps.toList i=some c/\Q (.str ⟨#[c]⟩) H
theorem rL:IxR X (KO X.K):=by
 intro l m a s e H x y v u Q I D A h k;obtain⟨p,F,i,z,rfl,rfl,B,n,q⟩:=h
 cases D;obtain⟨t,rfl⟩:=A;obtain⟨f,r,c,E⟩:=I.list B;obtain⟨j,h1,h2,h3,h4,h5⟩:=xW n;obtain⟨w,d,g⟩:=r.get h2;have C:=r.length;have G:=Ft;have fin:EP X a e Q w s:=⟨z,H,I,g,q⟩;by_cases h0:0<=i
 ·have b:i.toNat=j:=by
   rw[ol h0 h5]at h1;exact Option.some.inj h1
  exact item_listR c.isList h0 (by omega) (by rw[b];simpa using d) fin k
 ·have b:(i+(f.toArray.size:Int)).toNat=j:=by
   rw[nh (by omega) h4]at h1;rw[cX,<-C];exact Option.some.inj h1
  exact js (x:=w) c.isList.typeIs ni.lookup
   (wpAny_getItem_list_neg (Q:=λr o=>r=w/\EP X a e Q r o) c.isList (by omega) (by rw[cX] <;> omega) (by omega) (by rw[b];simpa using d) ⟨rfl,fin⟩) k
theorem sk:IxR X (KI X.K):=by
 intro e f a s b H x y v u Q I A m h B;obtain⟨p,E,i,z,rfl,rfl,n,k,q⟩:=h
 cases A;obtain⟨t,rfl⟩:=m;obtain⟨C,r,d,D⟩:=I.tuple n;obtain⟨j,h1,h2,h3,h4,h5⟩:=xW k;obtain⟨w,g,c⟩:=r.get h2;have o:=r.length;have F:=Ft;have fin:EP X a b Q w s:=⟨z,H,I,c,q⟩;exact js (x:=w) d.typeIs slot_tuple_getitem.lookup
  (getItem_tuple (j:=j) (Q:=λr l=>r=w/\EP X a b Q r l) d (by omega) (by omega) (by rw[cX,<-o];exact h1) (by simpa using g) ⟨rfl,fin⟩) B
theorem yM:IxR X LJ:=by
 intro a b f s p H x y v u Q I m g h n;obtain⟨z,i,c,rfl,rfl,o,e,q⟩:=h;obtain⟨t,rfl⟩:=m;obtain⟨r,rfl⟩:=g;obtain⟨j,h1,h2,h3,h4,h5⟩:=xW e;have k:z.cps.toList.length=z.length:=by simp[fJ]
 rw[k]at h1 h4 h5;have w:=Ft;exact tail_any (mL s z t) nS.lookup (getItem_str (c:=c) (by
  have d:decide (i < -(2^63:Int))=false:=decide_eq_false (by omega);have l:decide (i>=2^63)=false:=decide_eq_false (by omega);rw[d,l,kI]) (by rw[h1];simpa using h2) ⟨.str ⟨#[c]⟩,H,I.tok _,⟨_,rfl⟩,q⟩) n
def MU(K:cu):R2:=λx y H Q=>KO K x y H Q\/KI K x y H Q\/LJ x y H Q
theorem Co:IxR X (MU X.K):=rL.or (sk.or yM)
theorem zG(its:List cA)(n j:Nat)(u:cA):d2 (·.setIfInBounds j u) {cls:= .type "list",data:= .seq its.toArray n}={cls:= .type "list",data:= .seq (its.set j u).toArray n}:=by
 simp[d2]
theorem Inv.lst{pins:List (cG×Obj)}{σ:St}{H:Hp}{s:cD}{p:cG}{xs:List V}(I:Inv X pins σ H s)(h:H p=some (.lst xs)):
  ∃(its:List cA) (n:Nat),Vals xs its/\s.heap.get? p=some {cls:= .type "list",data:= .seq its.toArray n}/\xs.length<=sizeLine:=by
 obtain⟨z,its,n,r,e⟩:=I.hok p _ h
 exact⟨its,n,r,e,z⟩
theorem Inv.lstUpd{pins:List (cG×Obj)}{σ:St}{H:Hp}{s:cD}{p:cG}{xs ys:List V}{its its':List cA}{n n':Nat}{f:Obj->Obj}(I:Inv X pins σ H s)(h:H p=some (.lst xs))
  (ho:s.heap.get? p=some {cls:= .type "list",data:= .seq its.toArray n})(hf:f {cls:= .type "list",data:= .seq its.toArray n}={cls:= .type "list",data:= .seq its'.toArray n'})(r:Vals ys its')(hz:ys.length<=sizeLine)(t:Nat):
  Inv X pins σ (upd H p (.lst ys)) {s with heap:=s.heap.update p f,toks:=t}:=by
 have e:(s.heap.update p f).get? p=some {cls:= .type "list",data:= .seq its'.toArray n'}:=by
  rw[eI f ho (by rw[hf] <;> rfl),hf]
 refine I.write (x:=p) (e:=p) (by rw[h];trivial) (.inl rfl) (λb u a q=>(fk _ _ (Ne.symm a)).trans q) ⟨_,e⟩ ?_
 exact⟨hz,its',n',r,e⟩
def Lj:V->V->V->Hp->(Hp->Prop)->Prop:=λo i v H Q=>∃p xs k j,o = .ref p/\i = .int k/\H p=some (.lst xs)/\Jn xs.length k=some j/\Q (upd H p (.lst (xs.set j v)))
theorem wy:J0 X Lj:=by
 intro b s g H o i v z A u Q I m x y h;obtain⟨p,w,k,j,rfl,rfl,hp,l,q⟩:=h
 cases m;obtain⟨t,rfl⟩:=x;obtain⟨a,n,r,c,f⟩:=I.lst hp;obtain⟨h1,h2,h3,h4⟩:=AF l;have d:=r.length;have B:=Ft;have e:Inv X b g (upd H p (.lst (w.set j v))) {s with heap:=s.heap.update p (d2 (·.setIfInBounds j u))}:=
  I.lstUpd hp c (zG a n j u) (r.set y j) (by rw[je];exact f) s.toks
 by_cases h0:0<=k
 ·have hk:k.toNat=j:=by
   rw[ol h0 h4]at h1;exact Option.some.inj h1
  exact PySem.W.ki_setAt c h0 (by omega) (by rw[cX,<-d];exact h4) (by rw[hk];exact⟨_,e,q⟩)
 ·have hk:(k+(a.toArray.size:Int)).toNat=j:=by
   rw[nh (by omega) h3]at h1;rw[cX,<-d];exact Option.some.inj h1
  exact PySem.W.ki_setBack c (by omega) (by rw[cX,<-d];exact h3) (by omega) (by rw[hk];exact⟨_,e,q⟩)
theorem xv(lo hi:Option Int)(n:Nat):(sliceBounds lo hi none n).1=((HT.sIx n 0 lo:Nat):Int)/\(sliceBounds lo hi none n).2.1=((HT.sIx n n hi:Nat):Int)/\(sliceBounds lo hi none n).2.2=1:=by
 refine⟨?_,?_,rfl⟩
 ·cases lo with
  | none=>simp[sliceBounds,HT.sIx]
  | some i=>
   simp only[sliceBounds,HT.sIx,kX,show(1:Int)>0 by decide,if_true];by_cases h:i<0
   ·simp only[h,if_true] <;> omega
   ·simp only[h,if_false] <;> omega
 ·cases hi with
  | none=>simp[sliceBounds,HT.sIx]
  | some i=>
   simp only[sliceBounds,HT.sIx,kX,show(1:Int)>0 by decide,if_true];by_cases h:i<0
   ·simp only[h,if_true] <;> omega
   ·simp only[h,if_false] <;> omega
theorem wU(its:List cA)(lo hi:Option Int):slicePick its.toArray lo hi none=((its.drop (HT.sIx its.length 0 lo)).take (HT.sIx its.length its.length hi-HT.sIx its.length 0 lo)).toArray:=by
 obtain⟨h1,h2,h3⟩:=xv lo hi its.toArray.size;unfold slicePick;rw[h1,h2,h3];simp only[sliceRange_one,pick_run,cX] <;> rfl
def Ma(K:cu):V->Option Int->Option Int->Hp->VK->Prop:=λx lo hi H Q=>∃a xs,x = .ref a/\SqL K H a xs/\∀p,H p=none->Q (.ref p) (upd H p (.lst (Gy xs lo hi)))
theorem CQ:Mc X (Ma X.K):=by
 intro k s w H x v z A d f B Q I m n t l h;obtain⟨a,c,rfl,p,q⟩:=h
 cases m;obtain⟨u,r,g,j⟩:=I.list p;have e:=r.length;refine⟨"list",_,ni.lookup,g.isList.typeIs,?_⟩;refine wpAny_getItem_list_slice g.isList n t l .none (by simp) ?_ (by rw[cX] <;> omega);rw[wU,<-e];refine⟨.ref s.heap.objs.size,_,I.laid (t':=s.toks) (o:= .lst (Gy c d f)) (λb y q=>cF _ q) (cI _) ?_,rfl,q _ (I.hok.fresh (cI _))⟩;exact⟨dg (vv c d f) j,_,0,(r.drop (HT.sIx c.length 0 d)).take (HT.sIx c.length c.length f-HT.sIx c.length 0 d),cN _ rfl⟩
def FE:V->Bool
 | .non=>true
 | .bl _=>true
 | .int _=>true
 | .str _=>true
 | _=>false
def Ju:V->V->Bool
 | .non,.non=>true
 | .bl a,.bl b=>a==b
 | .bl a,.int b=>(if a then 1 else 0)==b
 | .int a,.bl b=>a==(if b then 1 else 0)
 | .int a,.int b=>a==b
 | .str a,.str b=>a==b
 | _,_=>false
theorem DQ{A:dw}{s:cD}{y x:V}{u v:cA}(ry:RelV y u)(rx:RelV x v)(fy:FE y=true)(fx:FE x=true):q4 A s u v (Ju y x):=by
 cases y with
 | non=>
  cases ry
  cases x with
  | non=>cases rx;exact rj _
  | bl b=>cases rx;exact qz b
  | int b=>obtain⟨t,rfl⟩:=rx;exact qI b t
  | str b=>obtain⟨t,rfl⟩:=rx;exact qJ b t
  | _=>exact absurd (show false=true from fx) de
 | bl a=>
  cases ry
  cases x with
  | non=>cases rx;exact qA a
  | bl b=>cases rx;exact qB a b
  | int b=>obtain⟨t,rfl⟩:=rx;exact qK a b t
  | str b=>obtain⟨t,rfl⟩:=rx;exact qL a b t
  | _=>exact absurd (show false=true from fx) de
 | int a=>
  obtain⟨c,rfl⟩:=ry
  cases x with
  | non=>cases rx;exact qM a c
  | bl b=>cases rx;exact qO a c b
  | int b=>obtain⟨t,rfl⟩:=rx;exact q5 a c b t
  | str b=>obtain⟨t,rfl⟩:=rx;exact mG a c b t
  | _=>exact absurd (show false=true from fx) de
 | str a=>
  obtain⟨c,rfl⟩:=ry
  cases x with
  | non=>cases rx;exact qQ a c
  | bl b=>cases rx;exact qS a c b
  | int b=>obtain⟨t,rfl⟩:=rx;exact mH a c b t
  | str b=>obtain⟨t,rfl⟩:=rx;exact q8 a c b t
  | _=>exact absurd (show false=true from fx) de
 | _=>exact absurd (show false=true from fy) de
def JY(x:V)(u:cA):Bool:=match u with
 | .none=>Ju .non x
 | .bool b=>Ju (.bl b) x
 | .int i _=>Ju (.int i) x
 | .str z _=>Ju (.str z) x
 | _=>false
theorem Cz{x y:V}{u:cA}(r:RelV y u)(f:FE y=true):JY x u=Ju y x:=by
 cases y with
 | non=>cases r;rfl
 | bl b=>cases r;rfl
 | int i=>obtain⟨t,rfl⟩:=r;rfl
 | str z=>obtain⟨t,rfl⟩:=r;rfl
 | _=>exact absurd (show false=true from f) de
theorem xS{x:V}:∀{xs:List V} {us:List cA},Vals xs us->xs.all FE=true->us.any (JY x)=xs.any λy=>Ju y x
 | _,_,.nil,_=>rfl
 | y::xs,u::us,.cons r t,f=>by
  rw[jJ,dn]at f
  rw[gY,gY,Cz r f.1,xS t f.2]
theorem wB{A:dw}{s:cD}{x:V}{v:cA}(rx:RelV x v)(fx:FE x=true):∀{xs:List V} {us:List cA},Vals xs us->xs.all FE=true->∀u∈us,q4 A s u v (JY x u)
 | _,_,.nil,_=>λu a=>by cases a
 | y::xs,u::us,.cons r t,f=>λb a=>by
  rw[jJ,dn]at f
  rcases cZ.mp a with rfl|a
  ·rw[Cz r f.1];exact DQ r rx f.1 fx
  ·exact wB rx fx t f.2 b a
def Jv(x:V)(xs:List V):Bool:=xs.any λy=>Ju y x
def Mz(K:cu)(neg:Bool):R2:=λx y H Q=>∃p xs,y = .ref p/\(SqL K H p xs\/SqT K H p xs)/\FE x=true/\xs.all FE=true/\Q (.bl (if neg then !Jv x xs else Jv x xs)) H
theorem tZ:Fo X (compareOp .NotIn) (Mz X.K true):=by
 intro k s m H x y v u Q I f l h;obtain⟨p,n,rfl,b,g,c,q⟩:=h
 cases l;rcases b with b|b
 ·obtain⟨a,r,e,j⟩:=I.list b;refine SeqAt.notIn_listAt (JY x) e.isList (λw d=>wB f g r c w (by simpa using d)) ⟨.bl _,H,I,rfl,?_⟩;rw[show a.toArray.any (JY x)=a.any (JY x)by simp,xS r c];exact q
 ·obtain⟨a,r,e,j⟩:=I.tuple b;refine SeqAt.notIn_tupleAt (JY x) e (λw d=>wB f g r c w (by simpa using d)) ⟨.bl _,H,I,rfl,?_⟩;rw[show a.toArray.any (JY x)=a.any (JY x)by simp,xS r c];exact q
theorem rP:EJ X (.builtin "len") (λxs H Q=>∃p ys,xs=[.ref p]/\(SqL X.K H p ys\/SqT X.K H p ys)/\Q (.int ys.length) H):=by
 intro g s k H xs l Q I r h;obtain⟨p,ys,rfl,b,q⟩:=h;obtain⟨u,rfl,j⟩:=EU r
 cases j;have m:=Ft;rcases b with b|b
 ·obtain⟨e,c,d,f⟩:=I.list b;have a:=c.length;exact Calls.call_len_list d.isList (by simp only[cX] <;> omega) ⟨.int ys.length,H,I.tok _,⟨s.toks+1,by rw[cX,a]⟩,q⟩
 ·obtain⟨e,c,d,f⟩:=I.tuple b;have a:=c.length;exact len_tuple d (by simp only[cX] <;> omega) ⟨.int ys.length,H,I.tok _,⟨s.toks+1,by rw[cX,a]⟩,q⟩
theorem xc:EJ X (.builtin "len") (λxs H Q=>∃z,xs=[.str z]/\z.length<=sizeLine/\Q (.int z.length) H):=by
 intro a s c H xs d Q I r h;obtain⟨z,rfl,b,q⟩:=h;obtain⟨u,rfl,t,rfl⟩:=EU r;have e:=Ft;exact len_str (by omega) ⟨.int z.length,H,I.tok _,⟨_,rfl⟩,q⟩
theorem sO:EJ X (.type "list") (λxs H Q=>∃p ys,xs=[.ref p]/\(SqL X.K H p ys\/SqT X.K H p ys)/\∀l,H l=none->Q (.ref l) (upd H l (.lst ys))):=by
 intro t s A H xs C Q I r h;obtain⟨p,ys,rfl,j,q⟩:=h;obtain⟨u,rfl,B⟩:=EU r
 cases B;have fin:∀(a:List cA),Vals ys a->ys.length<=sizeLine->∀(c:Heap) (f:Nat),(∀b o',s.heap.get? b=some o'->c.get? b=some o')->
   c.get? s.heap.objs.size=some {cls:= .type "list",dict:=none,data:= .seq a.toArray f,slots:= #[]}->EP X t A Q (.ref s.heap.objs.size) {s with heap:=c}:=λa d g c f k e=>
  ⟨.ref s.heap.objs.size,_,I.laid (t':=s.toks) k (cI _) (show ObjOk X.prog X.w _ c _ (.lst ys)from⟨g,a,f,d,e⟩),rfl,q _ (I.hok.fresh (cI _))⟩
 rcases j with j|j
 ·obtain⟨a,d,z,g⟩:=I.list j;have m:=d.length;obtain⟨o,v,x,n,y⟩:=z.isList;exact pM p (.inl rfl) v x y (λc f k e=>fin a d g c f k e) (by simp only[cX] <;> omega)
 ·obtain⟨a,d,z,g⟩:=I.tuple j;have m:=d.length;obtain⟨o,v,x,n,y⟩:=z;exact pM p (.inr rfl) v x y (λc f k e=>fin a d g c f k e) (by simp only[cX] <;> omega)
theorem sG:EJ X (.type "tuple") (λxs H Q=>∃p ys,xs=[.ref p]/\((SqL X.K H p ys/\∀l,H l=none->Q (.ref l) (upd H l (.tup ys)))\/(SqT X.K H p ys/\Q (.ref p) H))):=by
 intro c s m H xs z Q I r h;obtain⟨p,ys,rfl,h⟩:=h;obtain⟨u,rfl,x⟩:=EU r
 cases x;rcases h with⟨g,q⟩|⟨g,q⟩
 ·obtain⟨a,f,j,k⟩:=I.list g;have t:=f.length;refine ou j.isList (λd y=>?_) (by simp only[cX] <;> omega);have n:Inv X c m H {s with heap:=d}:=I.kept (t':=s.toks) y;have v:Inv X c m (upd H d.objs.size (.tup ys)) {s with heap:=d.push {cls:= .type "tuple",data:= .seq a.toArray}}:=
   n.laid (t':=s.toks) (λb o e=>cF _ e) (cI _) (show ObjOk X.prog X.w _ _ _ (.tup ys)from⟨k,a,f,p6 _ _⟩)
  exact⟨.ref d.objs.size,_,v,rfl,q _ (n.hok.fresh (cI _))⟩
 ·obtain⟨a,f,j,k⟩:=I.tuple g;exact call_tuple_same j ⟨.ref p,H,I,rfl,q⟩
def LZ(K:cu)(T:String)(x:V)(H:Hp):Prop:=match x with
 | .str _=>T="str"
 | .int _=>T="int"
 | .ref p=>(T="list"/\∃xs,SqL K H p xs)\/(T="tuple"/\∃o,K.lookup p=some o/\o.cls = .type "tuple"/\o.dict=none)\/
   (T="dict"/\((∃kvs,H p=some (.dK kvs))\/∃kvs,H p=some (.dT kvs)))\/(T="set"/\∃S n,H p=some (.set S n))
 | _=>False
theorem Cu{pins:List (cG×Obj)}{σ:St}{H:Hp}{s:cD}{T:String}{x:V}{v:cA}(I:Inv X pins σ H s)(r:RelV x v)(ty:LZ X.K T x H):
  s.TypeIs v T/\∀a,v = .ref a->∃ob,s.heap.get? a=some ob/\ob.dict=none:=by
 cases x with
 | str z=>
  obtain⟨t,rfl⟩:=r
  cases(show T="str"from ty)
  exact⟨mL s z t,λ_ e=>nomatch e⟩
 | int i=>
  obtain⟨t,rfl⟩:=r
  cases(show T="int"from ty)
  exact⟨typeIs_int s i t,λ_ e=>nomatch e⟩
 | ref p=>
  cases r
  rcases ty with⟨rfl,m,j⟩|⟨rfl,o,hk,k,f⟩|⟨rfl,hk⟩|⟨rfl,S,n,hk⟩
  ·obtain⟨l,_,h,_⟩:=I.list j
   refine⟨h.isList.typeIs,λa e=>?_⟩
   cases e
   obtain⟨o,n,e,c,f,_⟩:=h
   exact⟨o,e,f⟩
  ·refine⟨⟨o,I.kIn p o hk,k⟩,λa e=>?_⟩
   cases e
   exact⟨o,I.kIn _ o hk,f⟩
  ·have z:∃o,s.heap.get? p=some o/\o.ExactDict:=by
    rcases hk with⟨g,hk⟩|⟨g,hk⟩
    ·obtain⟨_,_,_,_,o,_,_,e,b,_⟩:=I.hok p _ hk
     exact⟨o,e,b⟩
    ·obtain⟨_,_,_,_,o,_,_,e,b,_⟩:=I.hok p _ hk
     exact⟨o,e,b⟩
   obtain⟨o,e,b⟩:=z
   refine⟨⟨o,e,b.1⟩,λa d=>?_⟩
   cases d
   exact⟨o,e,b.2.1⟩
  ·obtain⟨o,_,_,_,e,b,_⟩:=I.hok p _ hk
   refine⟨⟨o,e,b.1⟩,λa d=>?_⟩
   cases d
   exact⟨o,e,b.2.1⟩
 | _=>exact fj ty
def L5(K:cu)(T:String)(r:V->List V->Hp->VK->Prop)(to:TE):TE:=λσ H Q=>to σ H λx H1=>LZ K T x H1/\r x [] H1 Q
def MF(K:cu)(T:String)(r:V->List V->Hp->VK->Prop)(to:TE)(t:TA):TE:=λσ H Q=>to σ H λx H1=>LZ K T x H1/\t σ H1 λxs H2=>r x xs H2 Q
variable{o e:Expr}{es:List Expr}{to:TE}{t:TA}{name:Str}{apos cpos:Pos}{T id:String}{r:V->List V->Hp->VK->Prop}
theorem xR(pa:PlainAttrs T)(slot:Slot T name id)(hty:typeOf (.builtin id)=pure (.type "method_descriptor"))(hm:KT X id r)(ho:PE X o to)
  (hbase:attributeBase o name X.env (eval o X.env)=eval o X.env:=by rfl)(hline:(apos.endLine==cpos.line)=true:=by rfl):PE X (.Call (.Attribute o name apos) [] [] cpos) (L5 X.K T r to):=by
 intro a s c H Q I h
 refine kY hbase hline (Ej (ho a s c H _ I h) λv j ⟨x,g,b,d,e,f⟩=>?_)
 obtain⟨h1,h2⟩:=Cu b d e
 exact⟨T,id,pa,slot,hty,h1,h2,gB rfl (ml (hm a j c g x [] v [] Q b d .nil f))⟩
theorem uI(pa:PlainAttrs T)(slot:Slot T name id)(hty:typeOf (.builtin id)=pure (.type "method_descriptor"))(hm:KT X id r)(ho:PE X o to)(ha:PA X (e::es) t)
  (hbase:attributeBase o name X.env (eval o X.env)=eval o X.env:=by rfl)
  (hfew:((backTo cpos (dh (e::es) X.env)).all (λx=>!x.1)&&(backToKw cpos (keywordEach [] X.env)).all (λx=>x.1.isSome)
   && decide ((e::es).length+([]:List Keyword).length+(if([]:List Keyword).isEmpty then 0 else 1)<30))=true:=by rfl)
  (hline:(apos.endLine==cpos.line)=true:=by rfl)(hs:dh (e::es) X.env=(false,eval e X.env)::dh es X.env:=by rfl)(hplain:(backTo cpos (dh es X.env)).any (·.1)=false:=by rfl):
  PE X (.Call (.Attribute o name apos) (e::es) [] cpos) (MF X.K T r to t):=by
 intro a s b H Q I h
 refine wpAny_Call_method_late hbase hfew hline rfl (Ej (ho a s b H _ I h) λv n ⟨x,l,c,d,q,k⟩=>?_)
 obtain⟨h1,h2⟩:=Cu c d q
 refine⟨T,id,pa,slot,hty,h1,h2,?_⟩
 have hA:=ha cpos a n b l _ c k
 rw[hs]at hA ⊢
 refine gB (by show(false||(backTo cpos (dh es X.env)).any (·.1))=false;rw[hplain] <;> rfl) (iK ?_)
 exact Ej hA λg j ⟨vs,p,f,u,m⟩=>hm a j b p x vs v g Q f d u m
end
def Ku(X:Cx)(id:String)(r:V->List V->Hp->VK->Prop):Prop:=
 ∀(pins:List (cG×Obj)) (s:cD) (σ:St) (H:Hp) (x:V) (xs:List V) (v:cA) (us:List cA) (Q:VK),Inv X pins σ H s->RelV x v->Vals xs us->r x xs H Q->
  wpAny (model X.prog X.w) X.A (call (.builtin id) (v::us)) (EP X pins σ Q) X.xe s
theorem Vals.one:∀{x:V} {us:List cA},Vals [x] us->∃u,us=[u]/\RelV x u
 | _,_,.cons r .nil=>⟨_,rfl,r⟩
theorem Vals.two:∀{x y:V} {us:List cA},Vals [x,y] us->∃u v,us=[u,v]/\RelV x u/\RelV y v
 | _,_,_,.cons r (.cons q .nil)=>⟨_,_,rfl,r,q⟩
theorem Vals.zero:∀{us:List cA},Vals [] us->us=[]
 | _,.nil=>rfl
theorem Vals.dropLast{xs:List V}{us:List cA}(h:Vals xs us):Vals xs.dropLast us.dropLast:=by
 induction h with
 | nil=>exact .nil
 | cons r t a=>
  cases t with
  | nil=>exact .nil
  | cons q b=>exact .cons r a
theorem Vals.reverse{xs:List V}{us:List cA}(h:Vals xs us):Vals xs.reverse us.reverse:=by
 induction h with
 | nil=>exact .nil
 | cons r t a=>rw[nj,nj];exact Vals.append a (.cons r .nil)
theorem zz{α:Type}(l:List α):l.eraseIdx (l.length-1)=l.dropLast:=by
 induction l with
 | nil=>rfl
 | cons a r c=>
  cases r with
  | nil=>rfl
  | cons b r=>
   have e:(a::b::r).length-1=((b::r).length-1)+1:=by
    have h1:(a::b::r).length=r.length+2:=rfl;have h2:(b::r).length=r.length+1:=rfl;omega
   rw[e,List.eraseIdx_cons_succ,c]
   all_goals rfl
section
variable{X:Cx}{pins:List (cG×Obj)}{σ:St}{H:Hp}{s:cD}{l b:cG}{xs ys zs:List V}
theorem Inv.lset{its its':List cA}{n:Nat}{f:Array cA->Array cA}{t':Nat}(I:Inv X pins σ H s)(hH:H l=some (.lst xs))
  (e:s.heap.get? l=some {cls:= .type "list",data:= .seq its.toArray n})(hf:f its.toArray=its'.toArray)(hv:Vals ys its')(hz:ys.length<=sizeLine):
  Inv X pins σ (upd H l (.lst ys)) {s with heap:=s.heap.update l (d2 f),toks:=t'}:=by
 have q:=hO e f
 rw[hf]at q
 refine I.write (x:=l) (e:=l) (by rw[hH];exact trivial) (.inl rfl) (λc u b a=>(fk s.heap (d2 f) (Ne.symm b)).trans a) ⟨_,q⟩ ?_
 exact⟨hz,its',_,hv,q⟩
theorem Inv.lnew{its:List cA}{t':Nat}(I:Inv X pins σ H s)(hv:Vals ys its)(hz:ys.length<=sizeLine):
  Inv X pins σ (upd H s.heap.objs.size (.lst ys)) {s with heap:=s.heap.push {cls:= .type "list",data:= .seq its.toArray},toks:=t'}:=
 I.laid (λ_ _ q=>cF _ q) (cI _) ⟨hz,its,0,hv,cN _ rfl⟩
theorem Inv.lstM(I:Inv X pins σ H s)(hH:H l=some (.lst xs)):xs.length<=sizeLine/\∃(its:List cA) (n:Nat),Vals xs its/\xs.length=its.length/\s.heap.get? l=some {cls:= .type "list",data:= .seq its.toArray n}:=by
 obtain⟨z,its,n,r,e⟩:=I.hok l _ hH;exact⟨z,its,n,r,r.length,e⟩
end
section
variable{X:Cx}
def J5:V->List V->Hp->VK->Prop:=λx vs H Q=>∃l xs y,x = .ref l/\vs=[y]/\H l=some (.lst xs)/\xs.length<sizeLine/\Q .non (upd H l (.lst (xs++[y])))
theorem tJ:Ku X "list.append" J5:=by
 intro c s k H x vs v m Q I d g h;obtain⟨l,p,y,rfl,rfl,b,j,q⟩:=h
 cases d;obtain⟨u,rfl,f⟩:=g.one;obtain⟨z,a,n,r,o,e⟩:=I.lstM b;refine gZ fT ⟨_,e,rfl⟩ mm (l3 _ _) (nk l a.toArray n u (by rw[cX];omega)) ⟨e,?_⟩;refine⟨.non,_,I.lset (its':=a++[u]) b e (by simp) (r.append (.cons f .nil)) ?_,rfl,q⟩;rw[dq,eU];omega
def Mu:V->List V->Hp->VK->Prop:=λx vs H Q=>∃l xs y,x = .ref l/\vs=[]/\H l=some (.lst xs)/\xs[xs.length-1]?=some y/\Q y (upd H l (.lst xs.dropLast))
theorem DC:Ku X "list.pop" Mu:=by
 intro f s t H x vs v w Q I k p h;obtain⟨l,A,y,rfl,rfl,b,g,q⟩:=h
 cases k;have c:=p.zero;subst c;obtain⟨z,a,n,r,j,e⟩:=I.lstM b;obtain⟨u,m,o⟩:=r.get g;have d:a.toArray[a.toArray.size-1]?=some u:=by
  show a.toArray[a.length-1]?=some u;rw[<-gh,<-j];exact m
 refine gZ F.slot_list_pop ⟨_,e,rfl⟩ F.entry_list_pop (F.args_list_pop_1 _) (MeetsSeq.list_pop_last l a.toArray n u d (by rw[cX];omega)) ⟨e,?_⟩;refine⟨y,_,I.lset (its':=a.dropLast) b e ?_ r.dropLast ?_,o,q⟩
 ·show a.toArray.eraseIdxIfInBounds (a.toArray.size-1)=a.dropLast.toArray;rw[cX,List.eraseIdxIfInBounds_toArray,zz]
 ·rw[gS];omega
def JA:V->List V->Hp->VK->Prop:=λx vs H Q=>∃l xs,x = .ref l/\vs=[]/\H l=some (.lst xs)/\Q .non (upd H l (.lst xs.reverse))
theorem zf:Ku X "list.reverse" JA:=by
 intro d s j H x vs v k Q I f g h;obtain⟨l,o,rfl,rfl,b,q⟩:=h
 cases f;have c:=g.zero;subst c;obtain⟨z,a,n,r,m,e⟩:=I.lstM b;refine gZ F.slot_list_reverse ⟨_,e,rfl⟩ F.entry_list_reverse (F.args_list_reverse_1 _) (AutoSeq1.list_reverse_list_0 l a.toArray n (by rw[cX];omega)) ⟨e,?_⟩;refine⟨.non,_,I.lset (its':=a.reverse) b e (by simp) r.reverse ?_,rfl,q⟩;rw[List.length_reverse];omega
def KD:V->List V->Hp->VK->Prop:=λx vs H Q=>∃l xs,x = .ref l/\vs=[]/\H l=some (.lst xs)/\Q .non (upd H l (.lst []))
theorem wC:Ku X "list.clear" KD:=by
 intro d s j H x vs v k Q I f g h;obtain⟨l,o,rfl,rfl,a,q⟩:=h
 cases f;have b:=g.zero;subst b;obtain⟨z,c,n,r,m,e⟩:=I.lstM a;refine gZ F.slot_list_clear ⟨_,e,rfl⟩ F.entry_list_clear (F.args_list_clear_1 _) (AutoSeq1.list_clear_list_0 l c.toArray n (by rw[cX];omega)) ⟨e,?_⟩;exact⟨.non,_,I.lset (its':=[]) (ys:=[]) a e rfl .nil (du _),rfl,q⟩
end
end L2
namespace Att
open PySem PySem.W PySem.Calls PyProof.Rows
theorem vg{P:Params}{h:Heap}:∀(ns:List Int) (vs:List cA),WellAll P h vs (ns.map rh)->IntsAre vs ns:=by
 intro ns
 induction ns with
 | nil=>
  intro vs w;rw[qb]at w
  cases w;exact .nil
 | cons n ns c=>
  intro vs w;rw[dN]at w
  cases w with
  | cons a b=>
   cases a;exact .cons _ _ (c _ b)
theorem A9{l:OpenLaw}{n:Nat}(hn:l.most=some n){P:Params}{h:Heap}{args:List WData}{vals:List cA}
  (hpre:l.row.toRowW.claim.pre args=true)(hwl:WellAll P h vals args):
  ∃a vs ns,vals=[cR a]/\args=[WData.list (ns.map rh)]/\h.get? a=some {cls:= .type "list",data:= .seq vs.toArray}/\IntsAre vs ns/\ns.length<=n:=by
 have c:WShape.hasAll [] args [.list .int]=true:=(pre_splitW hpre).1
 have e:l.pre.holds [] {args:=args}=true:=(pre_splitW hpre).2
 obtain⟨d,r,rfl,h1,h2⟩:=hasAllW_cons c
 obtain rfl:=hasAllW_nil h2
 obtain⟨m,rfl,h3⟩:=hasW_list h1
 obtain⟨ns,rfl⟩:=items_int h3
 have b:ns.length<=n:=by
  unfold OpenLaw.pre at e
  have h4:(WTm.not (.lt (.lit (.int (n:Int))) (.len (.arg 0)))).holds [] {args:=[.list (ns.map .int)]}=true:=by
   have h4:=(holds_andW e).1
   rw[hn]at h4
   exact h4
  have h5:=condW_of h4 (w_not (w_lt w_lit (w_len_list (w_arg rfl))))
  rw[cx]at h5
  refine kZ λq=>?_
  have j:(n:Int)<((ns.length:Nat):Int):=by omega
  first
   | (rw[decide_eq_true j]at h5;exact absurd h5 (by decide))
   | (simp at h5;omega)
 cases hwl with
 | cons k f=>
  cases f
  cases k with
  | list g hall=>exact⟨_,_,ns,rfl,rfl,g,vg ns _ hall,b⟩
theorem A3(l:OpenLaw)(args:List WData):l.row.toRowW.claim.post args (.bool true) args=true:=
 postW_of (r:=l.row.toRowW) (X:=(true==true))
  (show q9 [] (.bool true) .bool=true by first|rfl|decide|simp[q9,WShape.arms,WShape.armsAll])
  (show(WTm.eq .res (.lit (.bool true))).value [] {args:=args,res:=some (.bool true),after:=args}=some (.bool (true==true))from w_eq_bool (w_res rfl) w_lit) rfl
theorem attach_call{l:OpenLaw}{n:Nat}{q:cT}{loose:List Str}{XP:(Str->Option cA)->Heap->Prop}{YP:dc->Heap->Prop}{d:DefRec}
  (hn:l.most=some n)(hdf:d.params.defaults=[])
  (call:∀(w:dc) (s₀ s₁:cD) (mg mb:Str->Option cA) (fa:cG) (o:Obj) (pm cd doc:cA) (a:cG) (vs:List cA) (ns:List Int),
   Ground q loose [] XP w s₀ mg mb s₁.heap->YP w s₁.heap->
   s₁.heap.get? fa=some o->o.data = .func (docDef d.name d.params d.body d.scope pm cd doc)->s₁.heap.CodeRec cd d.name->mg d.name=some (.ref fa)->
   s₁.heap.get? a=some {cls:= .type "list",data:= .seq vs.toArray}->IntsAre vs ns->ns.length<=n->s₁.gens = #[]->
   codeAny (model l.prog w) callerA (.call (.ref fa) ⟨[.ref a],[]⟩) (λr s'=>r = .ok (.ret (.bool true))/\OldK s₁.heap s'.heap/\s'.os=s₁.os/\AllBare s'.gens) s₁):
  WalkO q loose XP YP l.row.toRowW d [] (λf vs=>oM f vs):=by
 intro w s₀ s₁ mg mb G Y fa o pm cd doc z kV t x k j h y p v as e u C m B
 obtain rfl:z = .none:=Dflts.none j hdf
 obtain rfl:kV = .none:=Dflts.noKw j
 obtain⟨a,vs,ns,rfl,rfl,g,b,c⟩:=A9 hn e m
 refine enter_call (iX (call w s₀ s₁ mg mb fa o pm cd doc a vs ns G Y t (fd_plain x) k h g b c y) λr s' s=>?_)
 obtain⟨rfl,h2,h3,h4⟩:=s
 exact⟨.inl ⟨.bool true,.bool true,[],rfl,λ_=>rfl,.bool true,A3 l _,λ_=>⟨my.nil,λ_ A=>(nomatch A)⟩⟩,h2,h3,h4⟩
end Att
namespace L2
open PySem PySem.Spec PyProof.Rows
theorem uq:∀{vs:List cA} {ns:List Int},IntsAre vs ns->Vals (ns.map V.int) vs
 | _,_,.nil=> .nil
 | _,_,.cons n t h=> .cons ⟨t,rfl⟩ (uq h)
def KE(H:Hp):Prop:=∀b,H b=none\/∃o xs,H b=some (.frz o (.lst xs))
theorem BS{P:cT}{w:dc}{K:cu}{mg mb:Str->Option cA}{CX:Ht}{k:Nat}{fa a:cG}{fd:FuncData}{x:Str}{sp:Sp}{s₁:cD}{vs:List cA}{ns:List Int}
  (KX:K.In s₁.heap)(hns:s₁.heap.Ns fD mg)(hb:s₁.heap.Ns builtinsNs mb)(hbb:∀x:Str,x≠"__name__"->mb x=bootBuiltins x)(hlim:s₁.heap.NoLimit)(hg:s₁.gens = #[])
  (ha:s₁.heap.get? a=some {cls:= .type "list",data:= .seq vs.toArray})(hi:IntsAre vs ns)(hl:ns.length<=sizeLine)(hr:Room k callerA)
  (F:∀base:Heap,K.In base->base.Ns fD mg->FnOk P w K mg base CX k fa fd [x] sp)(hbind:∀(s:cD) (u:cA),BindsTo s fd ⟨[u],[]⟩ [(x,u)])
  (hsp:∀H:Hp,KE H->SqL K H a (ns.map V.int)->sp [.ref a] H (λv _=>v = .bl true) λ_ _ _=>False)
  (hCX:∀H e s',CX [] H s₁ (λ_ _ _=>False) e s'->False):
  codeAny (model P w) callerA (.call (.ref fa) ⟨[.ref a],[]⟩) (λr s'=>r = .ok (.ret (.bool true))/\OldK s₁.heap s'.heap/\s'.os=s₁.os/\AllBare s'.gens) s₁:=by
 have L:=uq hi
 have D:=hi.length
 have g:∀H:Hp,KE H->SqL K H a (ns.map V.int)->HOk P w H s₁.heap->(∀b,H b≠none->b=a)->(H a≠none->K.lookup a=none)->
   codeAny (model P w) callerA (.call (.ref fa) ⟨[.ref a],[]⟩) (λr s'=>r = .ok (.ret (.bool true))/\OldK s₁.heap s'.heap/\s'.os=s₁.os/\AllBare s'.gens) s₁:=by
  intro H I Z t hA O
  have c:∀{b:cG} {o:Obj},s₁.heap.get? b=some o->H b=none->(HJ s₁.heap H).get? b=some o:=λe n=>BO e n
  have J:∀{b:cG} {o:Obj} {p:Array DictEntry} {l:Nat},s₁.heap.get? b=some o->o.data = .dict p l->H b=none:=λ {b o p l} e d=>by
   cases q:H b with
   | none=>rfl
   | some u=>
    have C:b=a:=hA b (by rw[q];simp)
    subst C
    rw[ha]at e;cases e
    have Y:iL vs.toArray _=Data.dict p l:=d
    cases Y
  have f:∀{b:cG} {m:Str->Option cA},s₁.heap.Ns b m->(HJ s₁.heap H).Ns b m:=λ {b m} ⟨o,p,l,e,d,r⟩=>⟨o,p,l,c e (J e d),d,r⟩
  have y:K.In (HJ s₁.heap H):=λb o e=>c (KX b o e) (by
   cases q:H b with
   | none=>rfl
   | some u=>
    have C:b=a:=hA b (by rw[q];simp)
    subst C
    rw[O (by rw[q];simp)]at e;cases e)
  have T:Mod K mg (HJ s₁.heap H):=⟨y,f hns,⟨mb,f hb,hbb⟩,let⟨mc,h1,h2⟩:=hlim;⟨mc,f h1,h2⟩⟩
  have S:Env0 P w K mg (HJ s₁.heap H) callerA [] s₁ H:=⟨rfl,T,λb o e=>C3 e,na (AD _ _),trivial,λb hb=>absurd (show b∈([]:List cG)from hb) (by simp),t,.of_eq hg⟩
  refine iX ((F _ y (f hns)).run callerA [] s₁ H ⟨[.ref a],[]⟩ [.ref a] [.ref a] _ _ hr S (hbind s₁ (.ref a)) (.cons rfl .nil) (hsp H I Z)) λr s' h=>?_
  cases r with
  | error e=>exact(hCX H e s' h).elim
  | ok Q=>
   cases Q with
   | next=>exact fj h
   | brk=>exact fj h
   | cont=>exact fj h
   | ret u=>
    obtain⟨v,H',os,B,G,A,M,q⟩:=h
    have X:v = .bl true:=q
    subst X
    obtain rfl:u=er true:=M
    refine⟨rfl,OldK.of_keep λb o e=>?_,os,B⟩
    cases q:H b with
    | none=>exact G.keep b o e q (by intro z;exact absurd (show b∈([]:List cG)from z) (by simp)) (by simp)
    | some u=>
     rcases I b with z|⟨R,xs,z⟩
     ·rw[q]at z;cases z
     ·have N:=G.frzs b R _ z
      obtain⟨E,_⟩:=t b _ z
      obtain⟨U,_⟩:=A b _ N
      rw[e]at E;cases E
      exact U
 cases hk:K.lookup a with
 | some o=>
  have e:=KX a o hk
  rw[ha]at e
  cases e
  refine g (λ_=>none) (λ_=> .inl rfl) (.inr ⟨_,vs.toArray,_,hk,rfl,rfl,rfl,by rw[cX,D];exact hl,by simpa using L⟩) (λb u z=>by have j:(none:Option HO)=some u:=z;cases j) (λb z=>absurd rfl z) λz=>absurd rfl z
 | none=>
  refine g (λb=>if b=a then some (.frz {cls:= .type "list",data:= .seq vs.toArray} (.lst (ns.map V.int)))else none) (λb=>?_) (.inl (.inr ⟨{cls:= .type "list",data:= .seq vs.toArray},if_pos rfl⟩)) (λb u z=>?_) (λb z=>?_) λ_=>hk
  ·by_cases hb:b=a
   ·exact .inr ⟨_,_,if_pos hb⟩
   ·exact .inl (if_neg hb)
  ·by_cases hb:b=a
   ·have j:=(if_pos hb).symm.trans z
    cases j
    subst hb
    exact⟨ha,by rw[cx];exact hl,vs,_,L,ha⟩
   ·have j:=(if_neg hb).symm.trans z
    cases j
  ·by_cases hb:b=a
   ·exact hb
   ·exact absurd (if_neg hb) z
theorem walk_of{l:PySem.W.OpenLaw}{n k:Nat}{q:cT}{loose:List Str}{XP:(Str->Option cA)->Heap->Prop}{YP:dc->Heap->Prop}{d:DefRec}{K:Params->cu}{CX:dc->Ht}{sp:dc->Sp}{x:Str}
  (hn:l.most=some n)(hn2:n<=sizeLine)(hdf:d.params.defaults=[])(hr:Room k callerA)
  (hY:∀(w:dc) (h:Heap),YP w h->(K w.params).In h)
  (F:∀(w:dc) (mg:Str->Option cA) (fa:cG) (h:Heap),(K w.params).In h->h.Ns fD mg->mg d.name=some (.ref fa)->
   ∃fd:FuncData,(∀(s:cD) (u:cA),BindsTo s fd ⟨[u],[]⟩ [(x,u)])/\
    ∀base:Heap,(K w.params).In base->base.Ns fD mg->FnOk l.prog w (K w.params) mg base (CX w) k fa fd [x] (sp w))
  (hsp:∀(w:dc) (H:Hp) (a:cG) (ns:List Int),ns.length<=n->KE H->SqL (K w.params) H a (ns.map V.int)->sp w [.ref a] H (λv _=>v = .bl true) λ_ _ _=>False)
  (hCX:∀(w:dc) (H:Hp) (s:cD) (e:cA) (s':cD),CX w [] H s (λ_ _ _=>False) e s'->False):
  PySem.W.WalkO q loose XP YP l.row.toRowW d [] (λf vs=>oM f vs):=by
 refine Att.attach_call hn hdf λw z m mg N fa o J M E a vs ns G Y L O I t p j c C=>?_
 have r:=hY w _ Y
 obtain⟨fd,y,D⟩:=F w mg fa _ r G.T.g t
 exact BS r G.T.g G.T.b G.T.builtins G.T.nolimit C p j (dg c hn2) hr D y (λH A B=>hsp w H a ns c A B) λH e s'=>hCX w H m e s'
def Ek(s:Stmt):Arguments:=match s with
 | .FunctionDef _ a _ _ _ _ _ _ _ _=>a
 | _=>{posonlyargs:=[],args:=[],vararg:=none,kwonlyargs:=[],kw_defaults:=[],kwarg:=none,defaults:=[]}
def Eg(s:Stmt):List Stmt:=match s with
 | .FunctionDef _ _ b _ _ _ _ _ _ _=>b
 | _=>[]
def D8(s:Stmt):Scope:=match s with
 | .FunctionDef _ _ _ _ _ _ sc _ _ _=>sc
 | _=>{kind:= .function,names:=[],isGenerator:=false,isCoroutine:=false}
abbrev Ei:Ht:=λ_ _ _ _ _ _=>False
abbrev E0:XK:=λ_ _ _=>False
theorem Ed{X:Cx}:ED Ei X E0:=λ_ _ _ _ _ _ _ h=>h.elim
structure Fun(K:cu)(x qual:Str)(st:Stmt)(f:cG)(fd:FuncData):Prop where
 ex:∃(oc:cA) (od:Option cG) (kV doc pm:cA) (an:Option cG) (cdv ct:cA) (osl:Array (Option cA)),
  fd=f9 x qual (Ek st) (Eg st) (D8 st) .none kV doc pm an cdv ct/\K.lookup f=some ⟨oc,od,.func fd,osl⟩/\lZ K cdv qual=true
 kp:iI K (.ref f)=true
section
variable{P:cT}{w:dc}{K:cu}{mg:Str->Option cA}{base:Heap}
theorem Fun.ok{x qual:Str}{st:Stmt}{f:cG}{fd:FuncData}{N ps:List Str}{k:Nat}{sp:Sp}(F:Fun K x qual st f fd)(S:Eb N ps (D8 st))(len:∀vs H Q E,sp vs H Q E->vs.length=ps.length)
  (hbody:∀(cdv:cA) (A:dw) (outer:List Env) (s:cD) (H:Hp) (vs:List V) (Q:VK) (E:XK),Room k (A.deeper (envOfC qual (D8 st) s.heap.objs.size f cdv))->sp vs H Q E->
   ∃t,PSs (Hs Ei P w K mg base N qual (D8 st) f cdv A outer s H E).nox (Eg st) t/\t {nx:=λ_ H'=>Q .non H',rt:=Q} (start N vs) H):FnOk P w K mg base Ei (k+1) f fd ps sp:=by
 obtain⟨m,j,kV,d,l,g,cdv,n,e,rfl,lk,a⟩:=F.ex
 refine BR lk a S len λA outer s H vs Q E c b=>?_
 obtain⟨t,h,q⟩:=hbody cdv A outer s H vs Q E c b
 exact⟨t,h.nox,q⟩
theorem Fun.binds{x qual:Str}{st:Stmt}{f:cG}{fd:FuncData}{ps:List Str}(F:Fun K x qual st f fd)
  (h:∀(kV doc pm:cA) (an:Option cG) (cdv ct:cA) (us:List cA),us.length=ps.length->bindArgs (f9 x qual (Ek st) (Eg st) (D8 st) .none kV doc pm an cdv ct) ⟨us,[]⟩=pure (ps.zip us)):Binds K fd ps []:=by
 obtain⟨d,c,kV,doc,pm,an,cdv,ct,a,rfl,lk,b⟩:=F.ex
 exact .all (h kV doc pm an cdv ct)
theorem yz{x qual:Str}{st:Stmt}{f:cG}{oc:cA}{od an:Option cG}{osl:Array (Option cA)}{kV doc pm cdv ct:cA}(l:K.lookup f=some ⟨oc,od,.func (f9 x qual (Ek st) (Eg st) (D8 st) .none kV doc pm an cdv ct),osl⟩)
  (c:lZ K cdv qual=true)(k:iI K (.ref f)=true):Fun K x qual st f (f9 x qual (Ek st) (Eg st) (D8 st) .none kV doc pm an cdv ct):=⟨⟨oc,od,kV,doc,pm,an,cdv,ct,osl,rfl,l,c⟩,k⟩
end
theorem D9{n:Nat}(h:n<=1000):n<sizeLine:=eQ h (by decide)
section
variable{X:Cx}
theorem pv(i:Nat){x:Str}{pos:Pos}(hN:X.N[i]?=some x:=by rfl)(hv:LW X.env.scope x:=by first|exact Or.inl rfl|exact Or.inr (Or.inl rfl)|exact Or.inr (Or.inr rfl))(hd:(x==("__debug__":Str))=false:=by decide)
  (hcd:(x==("__classdict__":Str))=false:=by decide):PE X (.Name x pos) (K4 i):=DU hN hv hd hcd
end
theorem Er{A B:Prop}(h:B):if false=true then A else B:=by
 rw[if_neg de];exact h
theorem EN{A B:Prop}(h:A):if true=true then A else B:=by
 rw[if_pos rfl];exact h
theorem Jm{c A B:Prop}[Decidable c](h1:c->A)(h2:¬c->B):if c then A else B:=by
 by_cases h:c
 ·rw[if_pos h];exact h1 h
 ·rw[if_neg h];exact h2 h
theorem GJ{c A B:Prop}[Decidable c](hc:c)(h:B):if(!decide c)=true then A else B:=by
 rw[decide_eq_true hc];exact Er h
def Same(H H':Hp):Prop:=∀b o,H b=some o->H' b=some o
theorem Same.refl(H:Hp):Same H H:=λ_ _ h=>h
theorem Same.trans{H H1 H2:Hp}(a:Same H H1)(b:Same H1 H2):Same H H2:=λc o h=>b c o (a c o h)
theorem Same.free{H H':Hp}(e:Same H H'){l:cG}(h:H' l=Option.none):H l=Option.none:=by
 cases q:H l with
 | none=>rfl
 | some o=>
  rw[e l o q]at h
  cases h
theorem Same.seq{K:cu}{H H':Hp}{a:cG}{xs:List V}(e:Same H H')(h:SqL K H a xs):SqL K H' a xs:=by
 rcases h with(h|⟨o,h⟩)|h
 ·exact .inl (.inl (e _ _ h))
 ·exact .inl (.inr ⟨o,e _ _ h⟩)
 ·exact .inr h
def F2(scope:Scope)(env:Env):List (Str×cG):=
 (scope.names.filterMap λx=>if x.2==eA then(env.cells.lookup x.1).map λc=>(x.1,c)else none).reverse
theorem yb{env:Env}(f:Str×ip->List (Str×cG)->Sem (ForInStep (List (Str×cG))))
  (hf:∀n k r,f (n,k) r=(if(k==eA)=true then(do let c<-cellOf env n;pure (.yield ((n,c)::r)))else pure (.yield r))):
  ∀(ns:List (Str×ip)) (cs:List (Str×cG)),(∀x∈ns,x.2 = .free->∃c,env.cells.lookup x.1=some c)->
   forIn ns cs f=pure ((ns.filterMap λx=>if x.2==eA then(env.cells.lookup x.1).map λc=>(x.1,c)else none).reverse++cs)
 | [],cs,_=>by rw[gr];rfl
 | (n,k)::r,cs,h=>by
  rw[eg,hf]
  have b:∀x∈r,x.2 = .free->∃c,env.cells.lookup x.1=some c:=λx g=>h x (cO _ g)
  by_cases hk:k = .free
  ·subst hk
   obtain⟨c,a⟩:=h (n,.free) cM rfl
   have e:cellOf env n=pure c:=by unfold cellOf;rw[a]
   rw[if_pos (by rfl),e,pure_bind,pure_bind]
   show forIn r ((n,c)::cs) f=_
   rw[yb f hf r _ b,gd]
   simp[a]
  ·have d:(k==eA)=false:=by simpa using hk
   rw[if_neg (by rw[d];decide),pure_bind]
   show forIn r cs f=_
   rw[yb f hf r _ b,gd]
   simp[d]
theorem zY{scope:Scope}{env:Env}(h:∀x∈scope.names,x.2 = .free->∃c,env.cells.lookup x.1=some c):closureFor scope env=pure (F2 scope env):=by
 simp only[closureFor];rw[yb (env:=env) _ (λn k r=>by cases hk:k==eA <;> simp[hk]) scope.names [] h];rw[fV];rfl
theorem uh{env:Env}{x:Str}:∀{l:List (Str×cG)} {c:cG},(∀p∈l,env.cells.lookup p.1=some p.2)->l.lookup x=some c->env.cells.lookup x=some c
 | [],_,_,e=>by simp at e
 | (n,d)::r,c,h,e=>by
  rw[dW]at e
  cases a:x==n with
  | true=>
   rw[a]at e
   have b:d=c:=Option.some.inj e
   have f:x=n:=by simpa using a
   subst f b
   exact h _ cM
  | false=>
   rw[a]at e
   exact uh (λp hp=>h p (cO _ hp)) e
theorem yS{scope:Scope}{env:Env}{p:Str×cG}(h:p∈F2 scope env):env.cells.lookup p.1=some p.2:=by
 unfold F2 at h;rw[k6,gH]at h;obtain⟨x,_,e⟩:=h;split at e
 ·cases q:env.cells.lookup x.1 with
  | none=>rw[q]at e;cases e
  | some c=>
   rw[q]at e;have a:(x.1,c)=p:=Option.some.inj e;subst a;exact q
 ·cases e
theorem wE{scope:Scope}{env:Env}{x:Str}{c:cG}(h:(x,c)∈F2 scope env):(x,eA)∈scope.names:=by
 unfold F2 at h;rw[k6,gH]at h;obtain⟨⟨y,k⟩,b,e⟩:=h;split at e
 ·rename_i hk
  have a:k = .free:=by simpa using hk
  cases q:env.cells.lookup y with
  | none=>simp[q]at e
  | some d=>
   simp[q]at e;rw[<-e.1,<-a];exact b
 ·cases e
theorem sL{scope:Scope}{env:Env}{x:Str}{c:cG}(e:(F2 scope env).lookup x=some c):env.cells.lookup x=some c:=
 uh (λ_ hp=>yS hp) e
theorem tH{x:Str}:∀{l:List (Str×cG)},(∃c,(x,c)∈l)->∃c,l.lookup x=some c
 | [],⟨_,h⟩=>by cases h
 | (n,d)::r,⟨c,h⟩=>by
  rw[dW]
  cases a:x==n with
  | true=>exact⟨d,rfl⟩
  | false=>
   rcases cZ.mp h with q|q
   ·injection q with q1 _
    rw[q1]at a
    simp at a
   ·exact tH ⟨c,q⟩
theorem yt{scope:Scope}{env:Env}{x:Str}{c:cG}(hm:(x,eA)∈scope.names)(e:env.cells.lookup x=some c):(F2 scope env).lookup x=some c:=by
 have a:(x,c)∈F2 scope env:=by
  unfold F2;rw[k6,gH];exact⟨(x,.free),hm,by simp[e]⟩
 obtain⟨d,b⟩:=tH ⟨c,a⟩;have:=sL b;rw[e]at this
 cases this;exact b
def E5(caps:List (Option Nat))(σ:St):St:=caps.map λo=>o.bind λi=>(σ[i]?).bind id
structure CompOk(scope sc:Scope)(NX N:List Str)(caps:List (Option Nat)):Prop where
 kind:scope.kind = .function
 nd:N.Nodup
 own:∀y∈scope.names,y.2 = .cell->scope.names.lookup y.1=some .cell
 loc:∀y∈scope.names,y.2 = .local->scope.names.lookup y.1=some .local
 free:∀y∈scope.names,y.2 = .free->scope.names.lookup y.1=some .free/\(sc.names.lookup y.1=some .cell\/sc.names.lookup y.1=some .free)
 len:caps.length=N.length
 cap:∀p∈(caps.zip N),∀i,p.1=some i->NX[i]?=some p.2/\scope.names.lookup p.2=some .free
def IZ(scope sc:Scope)(NX N:List Str)(caps:List (Option Nat)):Bool:=
 (scope.kind == .function)&&decide N.Nodup&&scope.names.all (λy=>y.2 != .cell||scope.names.lookup y.1==some .cell)&&scope.names.all (λy=>y.2 != .local||scope.names.lookup y.1==some .local) &&
 scope.names.all (λy=>y.2 != .free||(scope.names.lookup y.1==some .free&&(sc.names.lookup y.1==some .cell||sc.names.lookup y.1==some .free)))&&(caps.length==N.length) &&
 (caps.zip N).all (λp=>match p.1 with|none=>true|some i=>NX[i]?==some p.2&&scope.names.lookup p.2==some .free)
theorem CompOk.of{scope sc:Scope}{NX N:List Str}{caps:List (Option Nat)}(h:IZ scope sc NX N caps=true):CompOk scope sc NX N caps:=by
 unfold IZ at h;simp only[dn]at h;obtain⟨⟨⟨⟨⟨⟨h1,h2⟩,h3⟩,h4⟩,h5⟩,h6⟩,e⟩:=h;refine⟨by simpa using h1,of_decide_eq_true h2,λy a c=>?_,λy a d=>?_,λy a f=>?_,by simpa using h6,λp hp i b=>?_⟩
 ·have:=dZ.mp h3 y a;rw[c]at this;simpa using this
 ·have:=dZ.mp h4 y a;rw[d]at this;simpa using this
 ·have:=dZ.mp h5 y a;rw[f]at this;simpa using this
 ·have:=dZ.mp e p hp;rw[b]at this;simpa using this
def KC(scope:Scope)(C:cG)(env:Env):List (Str×cG):=cellsFrom (C+1) scope.names (F2 scope env)
theorem t7:∀(names:List (Str×ip)) (n:Nat) (acc:List (Str×cG)) {x:Str} {c:cG},(cellsFrom n names acc).lookup x=some c->(n<=c/\(x,f7)∈names)\/acc.lookup x=some c
 | [],_,_,_,_,h=> .inr h
 | (y,k)::r,n,acc,x,c,h=>by
  unfold cellsFrom at h
  split at h
  ·rename_i hk
   have b:k = .cell:=by simpa using hk
   rcases t7 r (n+1) _ h with⟨h1,h2⟩|h2
   ·exact .inl ⟨by omega,cO _ h2⟩
   ·rw[dW]at h2
    cases a:x==y with
    | true=>
     rw[a]at h2
     have e:n=c:=Option.some.inj h2
     have d:x=y:=by simpa using a
     exact .inl ⟨by omega,by rw[d,b];exact cM⟩
    | false=>rw[a]at h2;exact .inr h2
  ·rcases t7 r n acc h with⟨h1,h2⟩|h2
   ·exact .inl ⟨h1,cO _ h2⟩
   ·exact .inr h2
theorem uK:∀(names:List (Str×ip)) (n:Nat) (acc:List (Str×cG)) {x:Str},(x,f7)∉names->(cellsFrom n names acc).lookup x=acc.lookup x
 | [],_,_,_,_=>rfl
 | (y,k)::r,n,acc,x,h=>by
  unfold cellsFrom
  have b:(x,f7)∉r:=λz=>h (cO _ z)
  split
  ·rename_i hk
   have c:k = .cell:=by simpa using hk
   rw[uK r _ _ b,dW]
   have a:(x==y)=false:=by
    cases a:x==y with
    | false=>rfl
    | true=>
     have d:x=y:=by simpa using a
     exact absurd (by rw[d,c];exact cM) h
   rw[a]
  ·exact uK r n acc b
theorem uD:∀(names:List (Str×ip)) (n:Nat) (acc:List (Str×cG)) {x:Str},((x,f7)∈names\/∃c,acc.lookup x=some c)->∃c,(cellsFrom n names acc).lookup x=some c
 | [],_,_,_,h=>by
  rcases h with h|h
  ·cases h
  ·exact h
 | (y,k)::r,n,acc,x,h=>by
  unfold cellsFrom
  split
  ·rename_i hk
   refine uD r _ _ ?_
   by_cases a:x=y
   ·subst a;exact .inr ⟨n,by simp[dW]⟩
   ·rcases h with h|⟨c,h⟩
    ·rcases cZ.mp h with z|z
     ·injection z with z1 _;exact absurd z1 a
     ·exact .inl z
    ·exact .inr ⟨c,by rw[dW,show(x==y)=false by simpa using a];exact h⟩
  ·rename_i hk
   refine uD r _ _ ?_
   rcases h with h|h
   ·rcases cZ.mp h with z|z
    ·injection z with _ z2
     rw[<-z2]at hk
     exact absurd rfl hk
    ·exact .inl z
   ·exact .inr h
theorem vL:∀(names:List (Str×ip)) (n:Nat) (acc:List (Str×cG)),(∀x y c,acc.lookup x=some c->acc.lookup y=some c->x=y)->(∀x c,acc.lookup x=some c->c<n)->
  ∀x y c,(cellsFrom n names acc).lookup x=some c->(cellsFrom n names acc).lookup y=some c->x=y
 | [],_,_,hi,_=>hi
 | (w,k)::r,n,acc,hi,hb=>by
  unfold cellsFrom
  split
  ·refine vL r (n+1) _ (λx y c h1 h2=>?_) (λx c h=>?_)
   ·rw[dW]at h1 h2
    cases a:x==w <;> cases b:y==w <;> rw[a]at h1 <;> rw[b]at h2
    ·exact hi x y c h1 h2
    ·cases h2;exact absurd (hb x _ h1) (dt _)
    ·cases h1;exact absurd (hb y _ h2) (dt _)
    ·have d:x=w:=by simpa using a
     have e:y=w:=by simpa using b
     rw[d,e]
   ·rw[dW]at h
    cases a:x==w <;> rw[a]at h
    ·exact dz (hb x c h)
    ·cases h;exact dH _
  ·exact vL r n acc hi hb
theorem vt:∀(names:List (Str×ip)) (h:Heap) (acc:List (Str×cG)) {x:Str} {c:cG},(x,c)∈cellsFrom h.objs.size names acc->(x,c)∈acc\/(h.objs.size<=c/\(pushCells h names).IsCell c none)
 | [],_,_,_,_,hm=> .inl hm
 | (y,k)::r,h,acc,x,c,hm=>by
  unfold cellsFrom at hm
  unfold pushCells
  split at hm
  ·rename_i hk
   rw[if_pos hk]
   have b:(x,c)∈cellsFrom (h.push {cls:= .type "cell",data:= .cell none}).objs.size r ((y,h.objs.size)::acc):=by rw[gq];exact hm
   rcases vt r _ _ b with z|⟨d,a⟩
   ·rcases cZ.mp z with z|z
    ·injection z with _ a
     subst a
     refine .inr ⟨cI _,_,lG r _ _ _ (cN _ rfl),rfl⟩
    ·exact .inl z
   ·rw[gq]at d
    exact .inr ⟨by omega,a⟩
  ·rename_i hk
   rw[if_neg hk]
   exact vt r h acc hm
theorem xV{M:Model}{A:dw}{E:cA->cD->Prop}{s:cD}{scope:Scope}{globals:cG}{cl:List (Str×cG)}{qual:Str}{env:Env}{Q:Env->cD->Prop}(hcl:∀x c,(x,c)∈cl->c<s.heap.objs.size)
  (h:∀h':Heap,h'.Ns s.heap.objs.size (λ_=>none)->(∀b o,s.heap.get? b=some o->h'.get? b=some o)->(∀x c,(cellsFrom (s.heap.objs.size+1) scope.names cl).lookup x=some c->s.heap.objs.size+1<=c->h'.IsCell c none)->
   Q {scope:=scope,locals:=s.heap.objs.size,globals:=globals,cells:=cellsFrom (s.heap.objs.size+1) scope.names cl,qual:=qual,func:=none,code:=env.code,frame:=env.frame,builtins:=env.builtins} {s with heap:=h'}):
  wpAny M A (newFunctionEnv scope globals cl [] qual none .none (some env)) Q E s:=by
 simp only[newFunctionEnv,Option.isSome_some,if_true]
 refine cr (om ?_)
 refine cr (wpAny_layCells _ (λk a cells=>by cases f:a==f7 <;> simp[f]) _ _ _ _ ?_)
 rw[show({s with heap:=s.heap.push {cls:= .type "dict",data:= .dict #[]}}:cD).heap.objs.size=s.heap.objs.size+1 from gq ..]
 refine cr ?_
 rw[gr]
 refine cv (cv (h _ ?_ (λb o e=>lG _ _ _ _ (cF _ e)) λx c e g=>?_))
 ·refine⟨_,#[],0,lG _ _ _ _ (cN _ rfl),rfl,?_,λx=>rfl⟩
  first|exact λe j=>by simp at j|simp
 ·have l:=eV e
  have d:(x,c)∈cellsFrom (s.heap.push {cls:= .type "dict",data:= .dict #[]}).objs.size scope.names cl:=by rw[gq];exact l
  rcases vt _ _ _ d with z|z
  ·exact absurd (cU (hcl x c z) (Nat.le_of_succ_le g)) (dt _)
  ·exact z.2
def Em(X:Cx)(scope:Scope)(N:List Str)(C:cG)(s₀:cD)(H₀:Hp)(ex:List cG):Cx where
 prog:=X.prog
 w:=X.w
 K:=X.K
 mg:=X.mg
 base:=X.base
 A:=X.A
 N:=N
 s₀:=s₀
 H₀:=H₀
 env:=compEnvC scope (KC scope C X.env) C X.env
 outer:=X.stack
 stack:=X.stack
 ex:=ex
 fn:=λx=>scope.names.lookup x==some .cell
 calm:=X.calm
 pn:=[]
 xe:=λ_ _=>False
theorem uS{scope:Scope}{env:Env}{x:Str}{k:ip}(hk:k = .cell\/k = .free)(h:(relabel scope env).names.lookup x=some k):(x,eA)∈scope.names\/(x,f7)∈scope.names:=by
 have b:(x,k)∈(relabel scope env).names:=eV h;unfold relabel at b;rw[dv]at b;obtain⟨⟨n,d⟩,c,e⟩:=b;dsimp only at e;by_cases a:(d==eA&&env.scope.kind == .function&&env.kindOf n==some .cell)=true
 ·rw[if_pos a]at e;injection e with e1 e2
  have:d = .free:=by
   rw[dn,dn]at a;simpa using a.1.1
  subst this e1;exact .inl c
 ·rw[if_neg a]at e;injection e with e1 e2
  subst e1 e2;rcases hk with hk|hk
  ·subst hk;exact .inr c
  ·subst hk;exact .inl c
theorem tz{env:Env}:∀{names:List (Str×ip)} {x:Str},names.lookup x=some .free->
  (names.map λ(n,k)=>if(k==eA&&env.scope.kind == .function&&env.kindOf n==some .cell)then(n,f7)else(n,k)).lookup x=some .cell\/
  (names.map λ(n,k)=>if(k==eA&&env.scope.kind == .function&&env.kindOf n==some .cell)then(n,f7)else(n,k)).lookup x=some .free
 | [],_,h=>by simp at h
 | (n,k)::r,x,h=>by
  have c:=@tz env r x
  rw[dN]
  dsimp only
  cases a:x==n with
  | true=>
   simp only[dW,a]at h
   cases h
   by_cases b:(eA==eA&&env.scope.kind == .function&&env.kindOf n==some .cell)=true
   ·rw[if_pos b];left;simp[dW,a]
   ·rw[if_neg b];right;simp[dW,a]
  | false=>
   simp only[dW,a]at h
   by_cases b:(k==eA&&env.scope.kind == .function&&env.kindOf n==some .cell)=true
   ·rw[if_pos b];simp only[dW,a];exact c h
   ·rw[if_neg b];simp only[dW,a];exact c h
section
variable{X:Cx}{pins:List (cG×Obj)}{σ:St}{H:Hp}{s:cD}{scope:Scope}{N:List Str}{caps:List (Option Nat)}{fp:List cG}
theorem za{h1:Heap}{tk:Nat}(I:Inv X pins σ H s)(O:CompOk scope X.env.scope X.N N caps)(f2:∀b∈fp,Gc X pins H b)(hob:∀b∈fp,b<s.heap.objs.size)
  (hns:h1.Ns (s.heap.objs.size+1) (λ_=>none))(hD:h1.get? s.heap.objs.size=some {cls:= .type "list",data:= .seq #[]})(old:∀b o,s.heap.get? b=some o->h1.get? b=some o)
  (hnew:∀x c,(KC scope (s.heap.objs.size+1) X.env).lookup x=some c->s.heap.objs.size+1+1<=c->h1.IsCell c none):
  Inv (Em X scope N (s.heap.objs.size+1) s H fp) [(s.heap.objs.size,{cls:= .type "list",data:= .seq #[]})] (E5 caps σ) H {s with heap:=h1,toks:=tk}:=by
 have M:∀b∈Fm X.stack,b<s.heap.objs.size:=λb f=>by
  obtain⟨_,o,t,_⟩:=I.stack.mem f
  exact cQ t
 have h:∀x c,X.env.cells.lookup x=some c->c<s.heap.objs.size:=λx c e=>by
  obtain⟨v,o,t,_⟩:=I.cell x c e
  exact cQ t
 have E:∀x c,(KC scope (s.heap.objs.size+1) X.env).lookup x=some c->(s.heap.objs.size+1+1<=c/\(x,f7)∈scope.names)\/X.env.cells.lookup x=some c:=λx c e=>by
  rcases t7 _ _ _ e with z|z
  ·exact .inl z
  ·exact .inr (sL z)
 have B:∀x,(x,eA)∈scope.names->∃c,X.env.cells.lookup x=some c:=λx d=>by
  rcases(O.free _ d rfl).2 with q|q
  ·exact I.ok.has x (.inl q)
  ·exact I.ok.has x (.inr q)
 have n:∀x,(x,eA)∈scope.names->(x,f7)∉scope.names:=λx d J=>by
  have h1:=(O.free _ d rfl).1
  have h2:=O.own _ J rfl
  dsimp only at h1 h2
  rw[h1]at h2
  cases h2
 refine⟨⟨I.ok.mod,O.kind,I.ok.glob,I.ok.blt,ec _,λx y c h1 h2=>?_,λx C=>?_,λx c D e=>?_,I.ok.hd,I.ok.frames,.inl rfl,λb f=>⟨df (dz (hob b f)),λx c e=>?_⟩,I.bs,?_,λb o e f=>?_,λb f S=>?_,I.stack,I.stkFree⟩,
  rfl,I.bare,Un.kept old,⟨_,hns,λi x v T A e3=>?_⟩,λx c e=>?_,I.hok.fresh (ec _),λx c e=>?_,λp hp=>?_,I.hok.kept old,?_⟩
 ·exact vL scope.names _ (F2 scope X.env) (λx y c a b=>I.ok.inj x y c (sL a) (sL b)) (λx c a=>dz (dz (h x c (sL a)))) x y c h1 h2
 ·have d:(x,eA)∈scope.names\/(x,f7)∈scope.names:=by
   rcases C with C|C
   ·exact uS (.inl rfl) C
   ·exact uS (.inr rfl) C
  rcases d with d|d
  ·obtain⟨c,J⟩:=B x d
   exact uD _ _ _ (.inr ⟨c,yt d J⟩)
  ·exact uD _ _ _ (.inl d)
 ·have P:scope.names.lookup x=some .cell:=by simpa [Em]using D
  rcases E x c e with z|z
  ·exact dB (cU (dz (dH _)) z.1)
  ·exfalso
   have d:=eV P
   rcases t7 _ _ _ e with w|w
   ·exact absurd (cU (h x c z) (dg (iD (ec _)) w.1)) (dt _)
   ·have G:=wE (eV w)
    exact n x G d
 ·rcases E x c e with z|z
  ·exact λw=>absurd (cU (hob b f) (dg (iD (ec _)) (w▸z.1))) (dt _)
  ·exact(f2 b f).2.2.2.2.1 x c z
 ·exact dg I.ok.bsz I.sz
 ·rcases(f2 b f).2.2.2.1 with z|z
  ·exact I.ok.noex b o e z
  ·exact absurd (cU (cQ (I.ok.bs b o e).1) z) (dt _)
 ·rcases cZ.mp (I.stkSub b S)with z|z
  ·exact(f2 b f).2.1 z
  ·exact(f2 b f).2.2.1 z
 · -- a captured name
  have hi:i<caps.length:=by
   have:=(cL.mp A).1
   unfold E5 at this
   rwa[cx]at this
  have L:∃j,caps[i]?=some (some j)/\σ[j]?=some (some v):=by
   unfold E5 at A
   rw[cH]at A
   cases q:caps[i]? with
   | none=>rw[q]at A;cases A
   | some o=>
    rw[q]at A
    have g:(o.bind λi=>(σ[i]?).bind id)=some v:=Option.some.inj A
    cases o with
    | none=>cases g
    | some j=>
     refine⟨j,rfl,?_⟩
     cases Q:σ[j]? with
     | none=>rw[nT,Q]at g;cases g
     | some o2=>
      rw[nT,Q]at g
      cases o2 with
      | none=>cases g
      | some v2=>cases g;rfl
  obtain⟨j,hj,Z⟩:=L
  have V:N[i]?=some x:=T
  have U:(some j,x)∈caps.zip N:=by
   have:(caps.zip N)[i]?=some (some j,x):=by
    rw[i4]
    exact⟨hj,V⟩
   exact da this
  obtain⟨Y,D⟩:=O.cap _ U j rfl
  have d:(x,eA)∈scope.names:=eV D
  have F:LW X.env.scope x:=by
   rcases(O.free _ d rfl).2 with q|q
   ·exact .inr (.inl q)
   ·exact .inr (.inr q)
  obtain⟨m,hn,W⟩:=I.loc
  obtain⟨u,r,l⟩:=W j x v Y Z F
  refine⟨u,r,?_⟩
  rcases l with⟨k,_⟩|⟨_,c,e,⟨o,t,K⟩⟩
  ·exfalso
   rcases(O.free _ d rfl).2 with q|q
   ·have:X.env.scope.names.lookup x=some .local:=k
    rw[q]at this;cases this
   ·have:X.env.scope.names.lookup x=some .local:=k
    rw[q]at this;cases this
  ·have R:(Em X scope N (s.heap.objs.size+1) s H fp).env.kindOf x=some .cell\/(Em X scope N (s.heap.objs.size+1) s H fp).env.kindOf x=some .free:=tz D
   exact .inr ⟨R,c,(uK _ _ _ (n x d)).trans (yt d e),⟨o,old c o t,K⟩⟩
 ·rcases E x c e with z|z
  ·exact⟨none,hnew x c e z.1⟩
  ·obtain⟨v,o,t,K⟩:=I.cell x c z
   exact⟨v,o,old c o t,K⟩
 ·rcases E x c e with z|z
  ·exact I.hok.fresh (dg (iD (ec _)) z.1)
  ·exact I.freeC x c z
 ·have e:p=(s.heap.objs.size,{cls:= .type "list",data:= .seq #[]}):=by simpa [Em]using hp
  subst e
  refine⟨hD,I.hok.fresh (cI _),df (dH _),λf=>absurd (M _ f) (dt _),λv z=>by cases z⟩
 ·show(E5 caps σ).length=N.length
  unfold E5
  rw[cx]
  exact O.len
end
def K2(X:Cx)(ifs:List Expr)(t:TT):Prop:=
 ∀(pins:List (cG×Obj)) (s:cD) (σ:St) (H:Hp) (Q:Bool->Hp->Prop),Inv X pins σ H s->t σ H Q->
  wpAny (model X.prog X.w) X.A (forIn ifs true λc r=>if r=true then do let ok<-isTrue c X.env (eval c X.env);pure (jT ok)else pure (jT r)) (TP X pins σ Q) X.xe s
def FY:TT:=λ_ H Q=>Q true H
theorem sj{X:Cx}:K2 X [] FY:=λ_ _ _ H _ I h=>wpAny_tests_nil ⟨H,I,h⟩
theorem tX{X:Cx}{c:Expr}{t:TT}(h:PT X c t):K2 X [c] t:=λa s b H Q I d=>wpAny_tests_one (h a s b H Q I d)
section
variable{prog:cT}{w:dc}{A:dw}{R:Result->cD->Prop}{s:cD}
theorem Ay{elt target iter:Expr}{ifs:List Expr}{scope:Scope}{pos:Pos}{it acc:cA}{env:Env}(I:Nat->cD->Prop)
  (turn:∀n s,I n s->wpAny (model prog w) A (pyNext it) (λr s₁=>match r with
   | none=>R (.ok .next) s₁
   | some v=>wpAny (model prog w) A (letOwnedTupleGo target it v) (λ_ s₀=>wpAny (model prog w) A (assign target env v) (λ_ s₂=>
     wpAny (model prog w) A (forIn ifs true λc r=>if r=true then do let ok<-isTrue c env (eval c env);pure (jT ok)else pure (jT r)) (λok s₃=>
      if ok=true then wpAny (model prog w) A (eval elt env) (λx s₄=>
       wpAny (model prog w) A (call (.builtin "list.append") [acc,x]) (λ_ s₅=>∃m,m<n/\I m s₅) (λ_ _=>False) s₄) (λ_ _=>False) s₃
      else ∃m,m<n/\I m s₃) (λ_ _=>False) s₂) (λ_ _=>False) s₀) (λ_ _=>False) s₁) (λ_ _=>False) s)
  (n:Nat)(h:I n s):codeAny (model prog w) A (.compLoop (.ListComp elt [⟨target,iter,ifs,0⟩] scope pos) 0 it acc env) R s:=by
 refine codeAny_loop rfl I (λn s j=>?_) n h
 show wpAny _ A ((compTurn (.ListComp elt [⟨target,iter,ifs,0⟩] scope pos) 0 it acc env).onRaise (λx=>do noteFrame x env;theTreesLotGoes x)) _ _ s
 refine wpAny_noted (wpAny_noRaise ?_)
 rw[compTurn_list]
 refine cr (mv (cr (Ej (turn n s j) λr s₁ a=>?_)))
 cases r with
 | none=>exact cv a
 | some v=>
  refine cr (Ej a λ_ s₀ e=>?_)
  refine cr (Ej e λ_ s₂ f=>cr (Ej f λok s₃ b=>?_))
  cases ok with
  | false=>exact cv ⟨rfl,b⟩
  | true=>exact cr (cr (Ej b λx s₄ g=>cr (Ej g λ_ s₅ d=>cv (cv ⟨rfl,d⟩))))
end
def Keep(caps:List (Option Nat))(σ σ':St):Prop:=∀(j:Nat) (v:V),(E5 caps σ)[j]?=some (some v)->σ'[j]?=some (some v)
def GK(caps:List (Option Nat))(g:TG):Prop:=∀σ σ1 x H (Q:St->Hp->Prop),Keep caps σ σ1->g x σ1 H Q->g x σ1 H λσ2 H2=>Keep caps σ σ2/\Q σ2 H2
def LS(caps:List (Option Nat))(g:JR):Prop:=∀σ σ1 xs H (Q:St->Hp->Prop),Keep caps σ σ1->g xs σ1 H Q->g xs σ1 H λσ2 H2=>Keep caps σ σ2/\Q σ2 H2
theorem Keep.set{caps:List (Option Nat)}{σ σ':St}{i:Nat}{x:Option V}(k:Keep caps σ σ')(h:caps[i]?=some none):Keep caps σ (σ'.set i x):=λj v e=>by
 by_cases a:i=j
 ·subst a;unfold E5 at e;rw[cH,h]at e
  cases e
 ·rw[jM a];exact k j v e
theorem rW{caps:List (Option Nat)}{i:Nat}(h:caps[i]?=some none):GK caps (Iq i):=λ_ _ _ _ _ k q=>⟨k.set h,q⟩
theorem wY{caps:List (Option Nat)}:LS caps Lf:=λ_ _ _ _ _ k q=>⟨q.1,k,q.2⟩
theorem sZ{caps:List (Option Nat)}{t:TG}{u:JR}(mono:∀x σ H (Q Q':St->Hp->Prop),(∀σ H,Q σ H->Q' σ H)->t x σ H Q->t x σ H Q')(h1:GK caps t)(h2:LS caps u):LS caps (Kp t u):=λσ b g H Q k q=>by
 obtain⟨v,r,e,q⟩:=q;refine⟨v,r,e,?_⟩;exact mono _ _ _ _ _ (λa c ⟨d,f⟩=>h2 σ a r c Q d f) (h1 σ b v H _ k q)
theorem sH{i:Nat}:∀x σ H (Q Q':St->Hp->Prop),(∀σ H,Q σ H->Q' σ H)->Iq i x σ H Q->Iq i x σ H Q':=λ_ _ _ _ _ h q=>h _ _ q
theorem yZ{K:cu}{caps:List (Option Nat)}{n:Nat}{t:JR}(h:LS caps t):GK caps (Ky K n t):=λf c x H Q k q=>by
 obtain⟨a,b,e,d,g,q⟩:=q;exact⟨a,b,e,d,g,h f c b H Q k q⟩
def IW(its:List cA)(n:Nat):Obj:={cls:= .type "list",data:= .seq its.toArray n}
def EC(caps:List (Option Nat))(g:TG)(tt:TT)(te:TE)(σ:St)(QQ:List V->Hp->Prop)(J:It)(H1:Hp):Prop:=
 ∃W:Nat->Nat->List V->Hp->Prop,(∃m,W 0 m [] H1)/\∀i m ys H,W i m ys H->
  (J.stop i H/\QQ ys H)\/(J.go i H/\∃N:List V->Hp->Prop,(∀ys' H',N ys' H'->∃m',m'<m/\W (i+1) m' ys' H')/\
   ∀x H',J.yld i H x H'->g x (E5 caps σ) H' λσ2 H2=>tt σ2 H2 λb H3=>if b=true then te σ2 H3 λy H4=>ys.length<sizeLine/\N (ys++[y]) H4 else N ys H3)
def LK(caps:List (Option Nat))(wi:TI)(g:TG)(tt:TT)(te:TE):TE:=λσ H Q=>
 wi σ H (EC caps g tt te σ λys H'=>∀D,H' D=none->Q (.ref D) (upd H' D (.lst ys)))
section
variable{X:Cx}{pins:List (cG×Obj)}{σ:St}{scope:Scope}{N:List Str}{caps:List (Option Nat)}{fp:List cG}
theorem Cb{H H':Hp}{s s':cD}{σ':St}{its:List cA}{n:Nat}{ys:List V}(I:Inv X pins σ H s)(f2:∀b∈fp,Gc X pins H b)
  (J:Inv (Em X scope N (s.heap.objs.size+1) s H fp) [(s.heap.objs.size,IW its n)] σ' H' s')(hv:Vals ys its)(hz:ys.length<=sizeLine):
  Inv X pins σ (upd H' s.heap.objs.size (.lst ys)) s'/\H' s.heap.objs.size=none/\H' (s.heap.objs.size+1)=none:=by
 have f:=J.pin (s.heap.objs.size,IW its n) (d5 _ (cK.mpr rfl))
 obtain⟨m,c,t,_,_⟩:=f
 have d:H s.heap.objs.size=none:=I.hok.fresh (cI _)
 have h:∀b o,s.heap.get? b=some o->b≠s.heap.objs.size:=λb o e=>df (cQ e)
 refine⟨I.call' (ch:=fp) J.os ⟨J.base.keep,J.base.slot,λb o e p r=>?_,J.base.there,λb g e=>?_,λb o u e=>?_,λb l e=>?_⟩ (λa o e=>?_) J.bare (λb k=>?_),c,J.free⟩
 ·rw[rH (h b o e)];exact J.base.free b o e p r
 ·rw[rH (rF e d)];exact J.base.tups b g e
 ·rw[rH (rF e d)];exact J.base.frzs b o u e
 ·rw[rH (rF e d)];exact J.base.tbls b l e
 ·by_cases j:a=s.heap.objs.size
  ·subst j
   rw[rC]at e
   cases e
   exact⟨hz,its,n,hv,m⟩
  ·rw[rH j]at e
   exact(J.hok a o e).stay (λb u _ q=>q) (λb q=>by rw[rH (rF q c)];exact q) λb g q=>by rw[rH (rF q c)];exact q
 ·obtain⟨_,h1,_,h3,h4,h5⟩:=f2 b k
  exact⟨h3,h1,h4,h5⟩
theorem wh{elt tg iter:Expr}{ifs:List Expr}{pos:Pos}{g:TG}{tt:TT}{te:TE}{QQ:List V->Hp->Prop}{R:cA->cG->Result->cD->Prop}{itv:cA}{s2:cD}(hc:X.calm=true)(O:CompOk scope X.env.scope X.N N caps)(gk:GK caps g)
  (hg:∀C s H fp,PG (Em X scope N C s H fp) tg g)(ht:∀C s H fp,K2 (Em X scope N C s H fp) ifs tt)(he:∀C s H fp,PE (Em X scope N C s H fp) elt te)
  (h2:Mv X pins σ tg (EC caps g tt te σ QQ) itv s2)
  (fin:∀(D C:cG) (s':cD) (H':Hp) (ys:List V) (m:Str->Option cA),Inv X pins σ (upd H' D (.lst ys)) s'->s'.heap.Ns C m->H' D=none->H' C=none->C≠D->X.s₀.heap.objs.size<=C->C≠X.env.locals->(∀x c,X.env.cells.lookup x=some c->c≠C)->(∀p∈X.pn++pins,p.1≠C)->
   QQ ys H'->R (.ref D) C (.ok .next) s'):
  wpAny (model X.prog X.w) X.A (newList []) (λacc s₃=>wpAny (model X.prog X.w) X.A (newFunctionEnv scope X.env.globals (F2 scope X.env) [] X.env.qual none .none (some X.env)) (λcenv s₄=>
   codeAny (model X.prog X.w) X.A (.compStart (.ListComp elt [⟨tg,iter,ifs,0⟩] scope pos) 0 itv acc {cenv with scope:=relabel scope X.env}) (R acc cenv.locals) s₄) X.xe s₃) X.xe s2:=by
 obtain⟨it,fp,tn,J,L,e,G,T,al,f2,W,⟨m0,w0⟩,aq⟩:=h2
 subst e
 have I:∀x c,X.env.cells.lookup x=some c->c<s2.heap.objs.size:=λx c e=>by
  obtain⟨v,o,ho,_⟩:=G.cell x c e
  exact cQ ho
 refine e9 (xV (λx c Q=>by rw[gq];exact dz (I x c (yS Q))) (λB j l h=>?_))
 dsimp only at j l h ⊢
 have P:∀b∈fp,b<s2.heap.objs.size:=λb a=>by
  obtain⟨o,ho,_⟩:=T.obj _ _ al b a
  exact cQ ho
 generalize hH2:s2.heap.push {cls:= .type "list",dict:=none,data:= .seq ([]:List cA).toArray}=G2 at j l h ⊢
 have hC:G2.objs.size=s2.heap.objs.size+1:=by rw[<-hH2,gq]
 rw[hC]at j h ⊢
 have am:∀b o,s2.heap.get? b=some o->B.get? b=some o:=λb o e=>l b o (hH2▸cF _ e)
 have hD:B.get? s2.heap.objs.size=some {cls:= .type "list",data:= .seq #[]}:=l _ _ (hH2▸cN _ rfl)
 have I0:=za (scope:=scope) (N:=N) (caps:=caps) (fp:=fp) (tk:=s2.toks) G O f2 P j hD am h
 have ah:tn 0 B:=T.keep _ _ _ al λb _ o e=>am b o e
 have f0:∀{pins':List (cG×Obj)} {H':Hp},(∀p∈pins',p.1=s2.heap.objs.size)->(∀b∈fp,H' b=none)->∀b∈fp,Gc (Em X scope N (s2.heap.objs.size+1) s2 L fp) pins' H' b:=λ {pins' H'} hp hn b a=>by
  obtain⟨_,k1,k2,k3,k4,k5⟩:=f2 b a
  refine⟨hn b a,df (dz (P b a)),λQ=>?_,.inl a,λx c e=>by
   rcases t7 _ _ _ e with z|z
   ·exact λw=>absurd (cU (P b a) (dg (iD (ec _)) (w▸z.1))) (dt _)
   ·exact k4 x c (sL z),λp Q=>?_⟩
  ·rcases cZ.mp (G.stkSub b Q)with z|z
   ·exact k1 z
   ·exact k2 z
  ·have q:=hp p (by simpa [Em]using Q)
   rw[q]
   exact ie (P b a)
 have aa:codeAny (model X.prog X.w) X.A (.compLoop (.ListComp elt [⟨tg,iter,ifs,0⟩] scope pos) 0 (.ref it) (.ref s2.heap.objs.size) (Em X scope N (s2.heap.objs.size+1) s2 L fp).env)
   (R (.ref s2.heap.objs.size) (s2.heap.objs.size+1)) {s2 with heap:=B}:=by
  refine Ay (λn s'=>∃i ys f k H',Inv (Em X scope N (s2.heap.objs.size+1) s2 L fp) [(s2.heap.objs.size,IW f k)] (E5 caps σ) H' s'/\Vals ys f/\ys.length<=sizeLine/\tn i s'.heap/\(∀b∈fp,H' b=none)/\W i n ys H')
   ?_ m0 ⟨0,[],[],0,L,I0,.nil,du _,ah,λb a=>(f2 b a).1,w0⟩
  rintro n s3 ⟨i,ys,f,k,H3,I3,v3,z3,ao,an,w3⟩
  have af:∀p∈[(s2.heap.objs.size,IW f k)],p.1=s2.heap.objs.size:=λp hp=>by rw[cK.mp hp]
  rcases aq i n ys H3 w3 with⟨stop,qn⟩|⟨go,M,hM,ar⟩
  ·refine Ej (T.done (Em X scope N (s2.heap.objs.size+1) s2 L fp) rfl rfl rfl hc i _ s3 _ H3 _ I3 (f0 af an) ao stop) λr s4 ⟨hr,I4⟩=>?_
   subst hr
   obtain⟨E1,E2,E3⟩:=Cb G f2 I4 v3 z3
   obtain⟨m,Q,_⟩:=I4.loc
   refine fin _ _ s4 H3 ys m E1 Q E2 E3 (ie (dH _)) (iD G.sz) (ie (dz G.lt)) (λx c e=>?_) (λp hp=>?_) qn
   ·obtain⟨v,o,ho,_⟩:=G.cell x c e
    exact df (dz (cQ ho))
   ·exact df (dz (cQ (G.pin p hp).1))
  ·refine Ej (T.item (Em X scope N (s2.heap.objs.size+1) s2 L fp) rfl rfl rfl hc i _ s3 _ H3 _ I3 (f0 af an) ao go) λr s4 ⟨u,hr,h4⟩=>?_
   subst hr
   refine Ej h4 λ_ s5 ⟨x,H5,I5,r5,y5,ae,ax⟩=>?_
   have av:=I5.pinned (f0 af ax) (T.obj _ _ ae)
   refine Ej (hg _ _ _ _ _ s5 _ H5 x u _ av r5 (gk σ _ x H5 _ (λ_ _ e=>e) (ar x H5 y5))) λ_ s6 ⟨S,H6,I6,kp,q6⟩=>?_
   refine Ej (ht _ _ _ _ _ s6 S H6 _ I6 q6) λok s7 ⟨H7,I7,q7⟩=>?_
   have ag:∀{ak:St} {E:Hp} {t:cD} {ab:List V},Inv (Em X scope N (s2.heap.objs.size+1) s2 L fp) ([(s2.heap.objs.size,IW f k)]++GD fp s5.heap) ak E t->M ab E->
     tn (i+1) t.heap/\(∀b∈fp,E b=none)/\∃U,U<n/\W (i+1) U ab E:=λ {ak E t ab} Y m8=>by
    refine⟨T.keep _ _ _ ae λb a o e=>(Y.pin (b,o) (d5 _ (d5 _ (ud a e)))).1,λb a=>?_,hM _ _ m8⟩
    obtain⟨o,e,d⟩:=T.obj _ _ ae b a
    exact(Y.pin (b,o) (d5 _ (d5 _ (ud a e)))).2.1
   have ac:(E5 caps σ).length=S.length:=by rw[I6.len];exact I3.len
   cases ok with
   | false=>
    have ad:M ys H7:=q7
    obtain⟨b1,b2,U,Z,w'⟩:=ag I7 ad
    exact⟨U,Z,i+1,ys,f,k,H7,(I7.weak ac kp).unpinned,v3,z3,b1,b2,w'⟩
   | true=>
    have ad:te S H7 λy H4=>ys.length<sizeLine/\M (ys++[y]) H4:=q7
    refine Ej (he _ _ _ _ _ s7 S H7 _ I7 ad) λK t ⟨y,E,Y,r8,ay,m8⟩=>?_
    obtain⟨b1,b2,U,Z,w'⟩:=ag Y m8
    have ap:=Y.pin (s2.heap.objs.size,IW f k) (d5 _ (jL _ (cK.mpr rfl)))
    obtain⟨e8,ai,aj,au,_⟩:=ap
    have az:=v3.length
    refine gZ fT ⟨_,e8,rfl⟩ mm (l3 _ _) (nk s2.heap.objs.size f.toArray k K (by rw[cX];omega)) ⟨e8,?_⟩
    have q:=hO e8 (·.push K)
    rw[show f.toArray.push K=(f++[K]).toArray by simp]at q
    obtain⟨k',q⟩:∃k',(t.heap.update s2.heap.objs.size (d2 (·.push K))).get? s2.heap.objs.size=some (IW (f++[K]) k'):=⟨_,q⟩
    have I9:Inv (Em X scope N (s2.heap.objs.size+1) s2 L fp) [] (E5 caps σ) E t:=(Y.weak ac kp).pins_of (pins':=[]) λp hp=>nomatch hp
    have aw:=I9.turned (h':=t.heap.update s2.heap.objs.size (d2 (·.push K))) (t':=t.toks) (it:=s2.heap.objs.size) (λb o a e=>(fk t.heap _ (Ne.symm a)).trans e) ai aj (.inr (cI _))
     (λx c e z=>by
      rcases t7 _ _ _ e with w|w
      ·exact absurd (cU (dz (dH _)) (z▸w.1)) (dt _)
      ·exact absurd (I x c (sL w)) (by rw[z];exact dt _)) (λp hp=>nomatch hp)
    refine⟨U,Z,i+1,ys++[y],f++[K],k',E,aw.pins_of λp hp=>?_,v3.append (.cons r8 .nil),by rw[dq,eU];omega,T.keep _ _ _ b1 λb a o e=>?_,b2,w'⟩
    ·rw[cK.mp hp]
     exact⟨q,ai,aj,au,λv z=>by cases z⟩
    ·exact(fk t.heap _ (ie (P b a))).trans e
 exact codeAny_compStart_list aa (T.self _ _ _ _ _ ah aa)
theorem su{elt tg iter:Expr}{ifs:List Expr}{pos:Pos}{wi:TI}{g:TG}{tt:TT}{te:TE}(hc:X.calm=true)(O:CompOk scope X.env.scope X.N N caps)(gk:GK caps g)(hi:PI X tg iter wi)
  (hg:∀C s H fp,PG (Em X scope N C s H fp) tg g)(ht:∀C s H fp,K2 (Em X scope N C s H fp) ifs tt)(he:∀C s H fp,PE (Em X scope N C s H fp) elt te)
  (hs:∀x,foldedSetIterable iter X.env x=pure x:=by intro _;rfl):PE X (.ListComp elt [⟨tg,iter,ifs,0⟩] scope pos) (LK caps wi g tt te):=by
 intro a s c H Q I h
 rw[eval_ListComp]
 have j:closureFor scope X.env=pure (F2 scope X.env):=zY λx G y=>by
  rcases(O.free x G y).2 with q|q
  ·exact I.ok.has x.1 (.inl q)
  ·exact I.ok.has x.1 (.inr q)
 refine kJ (use:=none) rfl hs j O.kind O.loc (Ej (hi a s c H _ I h) λv S h1=>Ej h1 λL M h2=>?_)
 refine wh (R:=λp C=>compPost (model X.prog X.w) X.A X.xe none (EP X a c Q) p C) hc O gk hg ht he h2 ?_
 intro D C z T P m K B J t r l f n d F
 refine⟨m,B,λh' k=>?_⟩
 have E:=K.turned (h':=h') (t':=z.toks) (it:=C) (λb o u e=>k.extBut b o u e) (by rw[rH r];exact t) f (.inr l) n d
 exact⟨.ref D,_,E,rfl,F D J⟩
def JE(i:Nat)(caps:List (Option Nat))(wi:TI)(g:TG)(tt:TT)(te:TE):TS:=λD σ H=>
 wi σ H (EC caps g tt te σ λys H'=>∀d,H' d=none->D.nx (σ.set i (some (.ref d))) (upd H' d (.lst ys)))
theorem sB{i:Nat}{y:Str}{py spos:Pos}{elt tg iter:Expr}{ifs:List Expr}{pos:Pos}{wi:TI}{g:TG}{tt:TT}{te:TE}(hN:X.N.Nodup)(hy:X.N[i]?=some y)(hl:X.env.scope.names.lookup y=some .local)
  (hsw:swapsWith (.ListComp elt [⟨tg,iter,ifs,0⟩] scope pos) (some (.Name y py)) spos.line X.env=pure true)
  (hc:X.calm=true)(O:CompOk scope X.env.scope X.N N caps)(gk:GK caps g)(hi:PI X tg iter wi)
  (hg:∀C s H fp,PG (Em X scope N C s H fp) tg g)(ht:∀C s H fp,K2 (Em X scope N C s H fp) ifs tt)(he:∀C s H fp,PE (Em X scope N C s H fp) elt te)
  (hs:∀x,foldedSetIterable iter X.env x=pure x:=by intro _;rfl):PS X (.Assign [.Name y py] (.ListComp elt [⟨tg,iter,ifs,0⟩] scope pos) spos) (JE i caps wi g tt te):=by
 intro c s K H D I h
 rw[exec_Assign_Name_used _ _ _ _ hsw]
 refine cr (mv (cr ?_))
 show wpAny _ X.A (do let _<-comprehension (.ListComp elt [⟨tg,iter,ifs,0⟩] scope pos) scope X.env _ (newList []) false (eval iter X.env) (some (assign (.Name y py) X.env))) _ _ s
 have t:closureFor scope X.env=pure (F2 scope X.env):=zY λx V M=>by
  rcases(O.free x V M).2 with q|q
  ·exact I.ok.has x.1 (.inl q)
  ·exact I.ok.has x.1 (.inr q)
 refine cr (Ej (kJ (use:=some (assign (.Name y py) X.env)) (Q:=λ_ f=>SP X c D .next f) rfl hs t O.kind O.loc
  (Ej (hi c s K H _ I h) λv s1 h1=>Ej h1 λaa s2 h2=>?_)) λ_ f S=>cv (cv S))
 refine wh (R:=λG C=>compPost (model X.prog X.w) X.A X.xe (some (assign (.Name y py) X.env)) (λ_ f=>SP X c D .next f) G C) hc O gk hg ht he h2 ?_
 intro d C f H' ys m Z P W J p B j k r U
 show wpAny _ X.A (assign (.Name y py) X.env (.ref d)) _ _ _
 refine m6 (xJ (v:= .ref d) Z hN hy (.inl hl) rfl (λF E ⟨a,l,Y⟩=>?_) (.inr hl))
 have n:C≠a:=by
  rcases Y with z|z
  ·rw[z];exact j
  ·exact λq=>k y a z q.symm
 refine⟨m,P.sameBut l n,λh' u=>?_⟩
 have T:=E.turned (h':=h') (t':=F.toks) (it:=C) (λb o L e=>u.extBut b o L e) (by rw[rH p];exact J) j (.inr B) k r
 exact⟨_,_,T,U d W⟩
end
structure Dn(P:cT)(w:dc)(K:cu)(mg:Str->Option cA)(base:Heap)(CX:Ht)(k:Nat)(x:Str)(ps:List Str)(sp:Sp):Prop where
 ex:∃f fd,FnOk P w K mg base CX k f fd ps sp/\mg x=some (.ref f)/\iI K (.ref f)=true/\Binds K fd ps []
theorem rS{X:Cx}{CX:Ht}{k j:Nat}{x:Str}{ps:List Str}{sp:Sp}{E:XK}{p pos:Pos}{e:Expr}{es:List Expr}{t:TA}(D:Dn X.prog X.w X.K X.mg X.base CX k x ps sp)(hr:Room j X.A)(hk:k<=j)(hg:Gl X x)(hx:ED CX X E)
  (ha:PA X (e::es) t)(hdb:(x==("__debug__":Str))=false:=by decide)(he:dh (e::es) X.env=(false,eval e X.env)::dh es X.env:=by rfl)(hpl:(backTo pos (dh es X.env)).any (·.1)=false:=by rfl):
  PE X (.Call (.Name x p) (e::es) [] pos) (Kc sp [] E t):=by
 obtain⟨f,c,F,m,a,b⟩:=D.ex
 exact Dh F (hr.mono hk) hg m a b .nil hx ha hdb he hpl
def Def(K:cu)(mg:Str->Option cA)(x:Str)(st:Stmt):Prop:=∃f fd,Fun K x x st f fd/\mg x=some (.ref f)
section
variable{P:cT}{w:dc}{K:cu}{mg:Str->Option cA}{base:Heap}
theorem Def.ok{x:Str}{st:Stmt}{N ps:List Str}{k:Nat}{sp:Sp}(F:Def K mg x st)(S:Eb N ps (D8 st))(len:∀vs H Q E,sp vs H Q E->vs.length=ps.length)
  (hb:∀(kV doc pm:cA) (an:Option cG) (cdv ct:cA) (us:List cA),us.length=ps.length->bindArgs (f9 x x (Ek st) (Eg st) (D8 st) .none kV doc pm an cdv ct) ⟨us,[]⟩=pure (ps.zip us))
  (hbody:∀(f:cG) (cdv:cA) (A:dw) (outer:List Env) (s:cD) (H:Hp) (vs:List V) (Q:VK) (E:XK),Room k (A.deeper (envOfC x (D8 st) s.heap.objs.size f cdv))->sp vs H Q E->
   ∃t,PSs (Hs Ei P w K mg base N x (D8 st) f cdv A outer s H E).nox (Eg st) t/\t {nx:=λ_ H'=>Q .non H',rt:=Q} (start N vs) H):Dn P w K mg base Ei (k+1) x ps sp:=by
 obtain⟨f,a,F,m⟩:=F
 exact⟨f,a,F.ok S len (hbody f),m,F.kp,F.binds hb⟩
theorem Def.nothing{x:Str}{st:Stmt}{ps:List Str}(F:Def K mg x st)
  (hb:∀(kV doc pm:cA) (an:Option cG) (cdv ct:cA) (us:List cA),us.length=ps.length->bindArgs (f9 x x (Ek st) (Eg st) (D8 st) .none kV doc pm an cdv ct) ⟨us,[]⟩=pure (ps.zip us)):
  Dn P w K mg base Ei 0 x ps (λ_ _ _ _=>False):=by
 obtain⟨f,a,F,m⟩:=F
 exact⟨f,a,⟨λ_ _ _ _ h=>h.elim,λ_ _ _ _ _ _ _ _ _ _ _ _ _ h=>h.elim⟩,m,F.kp,F.binds hb⟩
theorem Dn.imp{CX:Ht}{k:Nat}{x:Str}{ps:List Str}{sp sp':Sp}(D:Dn P w K mg base CX k x ps sp)(h:∀vs H Q E,sp' vs H Q E->sp vs H Q E):Dn P w K mg base CX k x ps sp':=by
 obtain⟨f,a,F,r⟩:=D.ex;exact⟨f,a,F.imp h,r⟩
end
def JV(K:cu)(mg:Str->Option cA)(x:Str)(xs:List V):Prop:=∃a,mg x=some (.ref a)/\∀H,SqT K H a xs
def Kg(K:cu)(xs:List V):TE:=λ_ H Q=>∀a,(∀H,SqT K H a xs)->Q (.ref a) H
theorem tW{X:Cx}{x:Str}{xs:List V}{pos:Pos}(h:JV X.K X.mg x xs)(hg:Gl X x:=by rfl)(hd:(x==("__debug__":Str))=false:=by decide):PE X (.Name x pos) (Kg X.K xs):=λ_ _ _ H _ I q=>by
 obtain⟨a,m,r⟩:=h;exact vz I hg m ⟨.ref a,H,I,rfl,q a r⟩ hd
theorem Bh{X:Cx}{x:Str}{i:Int}{pos:Pos}(h:∃t,X.mg x=some (.int i t))(hg:Gl X x:=by rfl)(hd:(x==("__debug__":Str))=false:=by decide):PE X (.Name x pos) (tC (.int i)):=λ_ _ _ H _ I q=>by
 obtain⟨t,m⟩:=h;exact vz I hg m ⟨.int i,H,I,⟨t,rfl⟩,q⟩ hd
theorem Hj{c A B:Prop}[Decidable c](hc:¬c)(h:B):if decide c=true then A else B:=by rw[if_neg (by simpa using hc)];exact h
theorem Ji{c A B:Prop}[Decidable c](hc:c)(h:A):if decide c=true then A else B:=by rw[if_pos (by simpa using hc)];exact h
theorem Ey{c A B:Prop}[Decidable c](h1:c->A)(h2:¬c->B):if decide c=true then A else B:=by
 by_cases h:c
 ·exact Ji h (h1 h)
 ·exact Hj h (h2 h)
theorem GP{c A B:Prop}[Decidable c](h1:¬c->A)(h2:c->B):if(!decide c)=true then A else B:=by
 by_cases h:c
 ·rw[if_neg (by simpa using h)];exact h2 h
 ·rw[if_pos (by simpa using h)];exact h1 h
theorem MH{i j:Int}(h:i≠j):V.int i≠V.int j:=λz=>h (V.int.inj z)
theorem Ki{i j:Int}(h:V.int i=V.int j):i=j:=V.int.inj h
theorem ub{k:Int}{m:Nat}(h:k.natAbs<2^m):mn k<=m:=by
 unfold mn;split
 ·exact du _
 ·rcases mO k.natAbs with h0|hp
  ·rename_i hz
   exact absurd (by simpa using h0) (by simpa using hz)
  ·have:k.natAbs.log2<m:=(on (ie hp)).mpr h;omega
theorem KZ{i j:Int}{m n:Nat}(hi:i.natAbs<2^m)(hj:j.natAbs<2^n)(h:m+n<=134217728):IntMulOk i j:=IntMulOk.of_le (ub hi) (ub hj) h
section
variable{X:Cx}
theorem sw:Fo X (binaryOp .Mult) (rI IntMulOk λi j=> .int (i*j)):=LF λ_ _ _ _ _ _ _ c h=>mul_int h c
theorem Bg:Fo X (binaryOp .FloorDiv) (rI (λ_ j=>j≠0/\j.natAbs<2^9000) λi j=> .int (i.fdiv j)):=LF λi j _ _ _ _ _ c h=>
 qc c.1 h (Or.inl (kK ((on (by have:=c.1;omega)).mpr c.2)))
theorem tF:Fo X (binaryOp .FloorDiv) (rI (λ_ j=>0<j/\j.natAbs<2^9000) λi j=> .int (i/j)):=LF λi j _ _ _ _ _ c h=>
 qc (by have:=c.1;omega) (by rw[iM _ (by have:=c.1;omega)];exact h) (Or.inl (kK ((on (by have:=c.1;omega)).mpr c.2)))
theorem c9{n:Int}(h0:0<n)(h:n.natAbs<2^64):0<n/\n.natAbs<2^9000:=⟨h0,cU h (eB (by decide) (by decide))⟩
theorem JO{i j:Int}(h:i.natAbs<2^64):IntMulOk i j:=IntMulOk.of_left (ub h)
theorem J8{i j:Int}(h:j.natAbs<2^64):IntMulOk i j:=IntMulOk.of_right (ub h)
theorem tS{x:Str}{T:String}{pos:Pos}(hg:Gl X x)(hm:X.mg x=none)(hv:bootBuiltins x=some (.type T))(hn:x≠"__name__":=by decide)(hd:(x==("__debug__":Str))=false:=by decide):PE X (.Name x pos) (tC (.ty T)):=CL hg hm hv rfl hn hd
def J2:V->List V->Hp->VK->Prop:=λx vs H Q=>∃l xs i y,x = .ref l/\vs=[.int i,y]/\H l=some (.lst xs)/\0<=i/\i<=(xs.length:Int)/\xs.length<sizeLine/\Q .non (upd H l (.lst (xs.take i.toNat++y::xs.drop i.toNat)))
theorem A6:Ku X "list.insert" J2:=by
 intro g s p H x vs v t Q I k m h;obtain⟨l,A,i,y,rfl,rfl,d,h0,h1,o,q⟩:=h
 cases k;obtain⟨u,b,rfl,⟨tk,rfl⟩,j⟩:=m.two;obtain⟨z,a,n,r,w,e⟩:=I.lstM d;have B:=Ft;have c:¬(!j9 i)=true:=by
  unfold j9;simp only[nl,Bool.not_eq_false];simp only[dn,decide_eq_true_eq];omega
 refine gZ F.slot_list_insert ⟨_,e,rfl⟩ F.entry_list_insert (F.args_list_insert_3 _ _ _) (lH l a.toArray n i tk b c (by rw[cX];omega)) ⟨e,?_⟩;refine⟨.non,_,I.lset (its':=a.take i.toNat++b::a.drop i.toNat) d e ?_ (Vals.append (r.take _) (.cons j (r.drop _))) ?_,rfl,q⟩
 ·have f:(if i<0 then(i+(a.toArray.size:Int)).toNat else min i.toNat a.toArray.size)=i.toNat:=by
   rw[if_neg (by omega),cX];omega
  show(a.toArray.extract 0 _).push b++a.toArray.extract _=_;rw[f];apply oN;simp[Array.toList_extract,List.extract];exact eK (by rw[iY];omega)
 ·rw[dq,dQ,cV,iY];omega
def tyOf(K:cu)(H:Hp)(x:V)(t:String):Prop:=match x with
 | .non=>t="NoneType"
 | .bl _=>t="bool"
 | .int _=>t="int"
 | .str _=>t="str"
 | .ref a=>(t="list"/\∃xs,SqL K H a xs)\/(t="tuple"/\∃xs,SqT K H a xs)
 | _=>False
def Go(t T:String):Bool:=t==T||(t=="bool"&&T=="int")
def JD:List String:=["NoneType","bool","int","str","list","tuple"]
def JQ:List String:=["bool","int","str","list","tuple"]
theorem zT{pins:List (cG×Obj)}{σ:St}{H:Hp}{s:cD}{A:dw}{E:cA->cD->Prop}{Q:cA->cD->Prop}{c:cA}{b:Bool}{x:V}{u:cA}{t:String}(I:Inv X pins σ H s)(rx:RelV x u)(ty:tyOf X.K H x t)
  (e:l4 X.K (.type t) c=some b)(h:∀tk,Q (.bool b) {s with toks:=tk}):wpAny (model X.prog X.w) A (call (.builtin "isinstance") [u,c]) Q E s:=by
 cases x with
 | non=>cases(show u=cA.none from rx);cases(show t="NoneType"from ty);exact iq nq I.kIn True.intro e (λz=>nomatch z) h
 | bl y=>cases(show u=er y from rx);cases(show t="bool"from ty);exact iq nr I.kIn True.intro e (λz=>nomatch z) h
 | int i=>obtain⟨tk,q⟩:=(show ∃t,u=dX i t from rx);cases q;cases(show t="int"from ty);exact iq nU I.kIn True.intro e (λz=>nomatch z) h
 | str y=>obtain⟨tk,q⟩:=(show ∃t,u=iw y t from rx);cases q;cases(show t="str"from ty);exact iq nV I.kIn True.intro e (λz=>nomatch z) h
 | ref a=>
  cases(show u=cR a from rx)
  rcases ty with⟨rfl,g,d⟩|⟨rfl,g,d⟩
  ·obtain⟨f,_,⟨o,n,h1,h2,_⟩,_⟩:=I.list d
   exact iq nt I.kIn ⟨o,h1,h2⟩ e (λz=>nomatch z) h
  ·obtain⟨f,_,⟨o,h1,h2,_⟩,_⟩:=I.tuple d
   exact iq mP I.kIn ⟨o,h1,h2⟩ e (λz=>nomatch z) h
 | byt _=>exact ty.elim
 | flt _=>exact ty.elim
 | ty _=>exact ty.elim
theorem vx{K:cu}{H:Hp}{x:V}{t:String}(h:tyOf K H x t):t∈JD:=by
 cases x with
 | non=>cases(show t="NoneType"from h);decide
 | bl _=>cases(show t="bool"from h);decide
 | int _=>cases(show t="int"from h);decide
 | str _=>cases(show t="str"from h);decide
 | ref a=>rcases h with⟨rfl,_⟩|⟨rfl,_⟩ <;> decide
 | byt _=>exact h.elim
 | flt _=>exact h.elim
 | ty _=>exact h.elim
theorem AN{K:cu}{t T:String}(ht:t∈JD)(hT:T∈JQ):l4 K (.type t) (.type T)=some (Go t T):=by
 simp only[JD,JQ,cZ,hU,or_false]at ht hT;rcases ht with rfl|rfl|rfl|rfl|rfl|rfl <;> rcases hT with rfl|rfl|rfl|rfl|rfl <;> (unfold l4 PySem.W.kitCls PySem.W.subIn;kernel_rfl)
theorem sr:EJ X (.builtin "isinstance") (λxs H Q=>∃x T t,xs=[x,.ty T]/\T∈JQ/\tyOf X.K H x t/\Q (.bl (Go t T)) H):=by
 intro a s f H xs g Q I r h;obtain⟨x,T,t,rfl,c,ty,q⟩:=h;obtain⟨u,b,rfl,e,d⟩:=Je r
 cases(show b=dL T from d);exact zT I e ty (AN (vx ty) c) λtk=>⟨.bl _,H,I.tok tk,rfl,q⟩
end
theorem Same.tup{K:cu}{H H':Hp}{a:cG}{xs:List V}(e:Same H H')(h:SqT K H a xs):SqT K H' a xs:=by
 rcases h with(h|⟨o,h⟩)|h
 ·exact .inl (.inl (e _ _ h))
 ·exact .inl (.inr ⟨o,e _ _ h⟩)
 ·exact .inr h
theorem rr{H:Hp}{p:cG}(h:H p=none)(o:HO):Same H (upd H p o):=λb u q=>by rw[rH (rF q h)];exact q
theorem Same.over{H H':Hp}{p:cG}(e:Same H H')(h:H p=none)(o:HO):Same H (upd H' p o):=λb u q=>by
 rw[rH (rF q h)];exact e b u q
def IsF(K:cu)(H:Hp)(v:V)(p:Int×Int):Prop:=∃a,v = .ref a/\SqT K H a [.int p.1,.int p.2]
theorem IsF.mono{K:cu}{H H':Hp}{v:V}{p:Int×Int}(e:Same H H')(h:IsF K H v p):IsF K H' v p:=by
 obtain⟨a,rfl,q⟩:=h;exact⟨a,rfl,e.tup q⟩
theorem uF{K:cu}{H:Hp}{a p:cG}{xs ys zs:List V}(h:SqT K H a xs)(hp:H p=some (.lst ys)):SqT K (upd H p (.lst zs)) a xs:=by
 rcases h with(h|⟨o,h⟩)|h
 ·exact .inl (.inl (by rw[rH (sI h hp (by intro z;cases z))];exact h))
 ·exact .inl (.inr ⟨o,by rw[rH (sI h hp (by intro z;cases z))];exact h⟩)
 ·exact .inr h
theorem IsF.over{K:cu}{H:Hp}{v:V}{p:cG}{ys zs:List V}{q:Int×Int}(h:IsF K H v q)(hp:H p=some (.lst ys)):IsF K (upd H p (.lst zs)) v q:=by
 obtain⟨a,rfl,h⟩:=h;exact⟨a,rfl,uF h hp⟩
theorem Paired.get{α β:Type}{F:α->β->Prop}:∀{xs:List α} {ys:List β} {i:Nat} {y:β},dr F xs ys->ys[i]?=some y->∃x,xs[i]?=some x/\F x y
 | _,_,_,_,.nil,e=>by simp at e
 | _,_,0,_,.cons r _,e=>by simp at e;subst e;exact⟨_,rfl,r⟩
 | _,_,i+1,y,.cons _ t,e=>by
  obtain⟨x,h1,h2⟩:=Paired.get (i:=i) t (by simpa using e)
  exact⟨x,by simpa using h1,h2⟩
theorem Paired.get'{α β:Type}{F:α->β->Prop}:∀{xs:List α} {ys:List β} {i:Nat} {x:α},dr F xs ys->xs[i]?=some x->∃y,ys[i]?=some y/\F x y
 | _,_,_,_,.nil,e=>by simp at e
 | _,_,0,_,.cons r _,e=>by simp at e;subst e;exact⟨_,rfl,r⟩
 | _,_,i+1,y,.cons _ t,e=>by
  obtain⟨x,h1,h2⟩:=Paired.get' (i:=i) t (by simpa using e)
  exact⟨x,by simpa using h1,h2⟩
theorem Paired.app{α β:Type}{F:α->β->Prop}:∀{xs xs':List α} {ys ys':List β},dr F xs ys->dr F xs' ys'->dr F (xs++xs') (ys++ys')
 | _,_,_,_,.nil,t=>t
 | _,_,_,_,.cons r s,t=> .cons r (Paired.app s t)
theorem sE{α:Type}{xs:List α}{i:Int}{v:α}(h0:0<=i)(h:xs[i.toNat]?=some v):G6 xs i=some v:=by
 have e:i=((i.toNat:Nat):Int):=by omega
 rw[e];exact si h
theorem tw{ns:List Int}{i:Nat}(h:i<ns.length):(ns.map V.int)[i]?=some (.int (ns.getD i 0)):=by
 simp[h]
theorem yJ{c:TT}{tb:TS}{D:Gs}{σ:St}{H:Hp}(Pv:Nat->St->Hp->Prop)(h0:∃m,Pv m σ H)
  (hs:∀m σ H,Pv m σ H->c σ H λb H1=>if b=true then tb {D with nx:=λσ' H'=>∃m',m'<m/\Pv m' σ' H',ct:=λσ' H'=>∃m',m'<m/\Pv m' σ' H',bk:=D.nx} σ H1 else D.nx σ H1)
  (mono:∀σ H Q Q',(∀b H1,Q b H1->Q' b H1)->c σ H Q->c σ H Q'):JF c tb D σ H:=by
 refine⟨Pv,h0,λm σ H p=>?_⟩
 refine mono σ H _ _ (λb H1 q=>?_) (hs m σ H p)
 cases b with
 | true=>exact⟨_,λσ' H' z=>z,q⟩
 | false=>exact q
end L2
namespace FQ
structure LV(p:Int×Int):Prop where
 pos:0<p.2
 cop:Int.gcd p.1 p.2=1
def red(t b:Int):Int×Int:=(t*b.sign/(Int.gcd t b:Int),b*b.sign/(Int.gcd t b:Int))
theorem gcd_turn{a b:Int}:Int.gcd b (a%b)=Int.gcd a b:=by
 have h:=Int.gcd_add_mul_left_right b (a%b) (a/b);rw[Int.emod_add_mul_ediv]at h;rw[<-h,nu]
theorem v8{k m n:Int}(h:Int.gcd k m=1)(d:k ∣ m*n):k ∣ n:=by
 have h1:k.natAbs ∣ m.natAbs*n.natAbs:=by
  have:=lN.mpr d;rwa[ka]at this
 exact lN.mp (nN h h1)
theorem u6{t b:Int}(hb:b≠0):∃u v:Int,t*b.sign=u*(Int.gcd t b:Int)/\b*b.sign=v*(Int.gcd t b:Int)/\red t b=(u,v)/\0<v/\Int.gcd u v=1:=by
 have l:0<Int.gcd t b:=fB _ hb;have d:(0:Int)<(Int.gcd t b:Int):=by omega
 have f:(Int.gcd t b:Int) ∣ t:=Int.gcd_dvd_left ..;have g:(Int.gcd t b:Int) ∣ b:=Int.gcd_dvd_right ..;obtain⟨u,c⟩:=f;obtain⟨v,a⟩:=g;refine⟨u*b.sign,v*b.sign,?_,?_,?_,?_,?_⟩
 ·rw[fW,gn u,<-c]
 ·rw[fW,gn v,<-a]
 ·unfold red
  congr 1
  ·apply kb (by omega);rw[fW,gn u,<-c]
  ·apply kb (by omega);rw[fW,gn v,<-a]
 ·have h1:0<b*b.sign:=by rw[Int.mul_sign_self];omega
  have h2:b*b.sign=(v*b.sign)*(Int.gcd t b:Int):=by rw[fW,gn v,<-a]
  rw[h2]at h1;rcases Int.lt_or_le 0 (v*b.sign)with h|h
  ·exact h
  ·exact absurd h1 (oO.mpr (Int.mul_nonpos_of_nonpos_of_nonneg h (fq d)))
 ·have k:b.sign=1\/b.sign = -1:=by
   rcases kc hb with h|h
   ·exact .inr (gI h)
   ·exact .inl (ig h)
  have j:Int.gcd u v=1:=by
   have e:=Int.gcd_mul_left (Int.gcd t b:Int) u v;rw[<-c,<-a,jg]at e;have:Int.gcd t b*1=Int.gcd t b*Int.gcd u v:=by rw[qC];exact e
   exact(Nat.eq_of_mul_eq_mul_left l this).symm
  rcases k with h|h <;> rw[h] <;> simp[j]
theorem red_low{t b:Int}(hb:b≠0):LV (red t b):=by
 obtain⟨u,v,_,_,e,h1,h2⟩:=u6 (t:=t) hb;rw[e];exact⟨h1,h2⟩
theorem red_worth{t b:Int}(hb:b≠0):(red t b).1*b=t*(red t b).2:=by
 obtain⟨u,v,h1,h2,e,_,_⟩:=u6 (t:=t) hb;rw[e];have d:(Int.gcd t b:Int)≠0:=by have:=fB t hb;omega
 have c:b.sign≠0:=by simpa using hb
 have a:(u*b)*((Int.gcd t b:Int)*b.sign)=(t*v)*((Int.gcd t b:Int)*b.sign):=by
  calc (u*b)*((Int.gcd t b:Int)*b.sign)=(u*(Int.gcd t b:Int))*(b*b.sign):=by ac_rfl
   _=(t*b.sign)*(v*(Int.gcd t b:Int)):=by rw[<-h1,<-h2]
   _=(t*v)*((Int.gcd t b:Int)*b.sign):=by ac_rfl
 exact gJ (dE d c) a
theorem wn{p q:Int×Int}(hp:LV p)(hq:LV q)(h:p.1*q.2=q.1*p.2):p=q:=by
 obtain⟨a,b⟩:=p;obtain⟨c,d⟩:=q;obtain⟨l,f⟩:=hp;obtain⟨m,g⟩:=hq;dsimp only at *;have j:b ∣ d:=by
  have:b ∣ a*d:=⟨c,by rw[h,gn]⟩;exact v8 (by rw[nu];exact f) this
 have k:d ∣ b:=by
  have:d ∣ c*b:=⟨a,by rw[<-h,gn]⟩;exact v8 (by rw[nu];exact g) this
 have e:b=d:=Int.dvd_antisymm (by omega) (by omega) j k;subst e;have:a=c:=gJ (by omega) h;rw[this]
theorem red_eq{t b t' b':Int}(hb:b≠0)(hb':b'≠0)(h:t*b'=t'*b):red t b=red t' b':=by
 refine wn (red_low hb) (red_low hb') ?_;have d:=red_worth (t:=t) hb;have c:=red_worth (t:=t') hb';have a:((red t b).1*(red t' b').2)*(b*b')=((red t' b').1*(red t b).2)*(b*b'):=by
  calc ((red t b).1*(red t' b').2)*(b*b')=((red t b).1*b)*((red t' b').2*b'):=by ac_rfl
   _=(t*(red t b).2)*((red t' b').2*b'):=by rw[d]
   _=(t*b')*((red t b).2*(red t' b').2):=by ac_rfl
   _=(t'*b)*((red t b).2*(red t' b').2):=by rw[h]
   _=(t'*(red t' b').2)*((red t b).2*b):=by ac_rfl
   _=((red t' b').1*b')*((red t b).2*b):=by rw[c]
   _=((red t' b').1*(red t b).2)*(b*b'):=by ac_rfl
 exact gJ (dE hb hb') a
theorem red_eq_iff{t b:Int}(hb:b≠0){p:Int×Int}(hp:LV p)(h:p.1*b=t*p.2):red t b=p:=by
 refine wn (red_low hb) hp ?_;have c:=red_worth (t:=t) hb;have a:((red t b).1*p.2)*b=(p.1*(red t b).2)*b:=by
  calc ((red t b).1*p.2)*b=((red t b).1*b)*p.2:=by ac_rfl
   _=(t*p.2)*(red t b).2:=by rw[c];ac_rfl
   _=(p.1*(red t b).2)*b:=by rw[<-h];ac_rfl
 exact gJ hb a
theorem red_small{t b:Int}(hb:b≠0):(red t b).1.natAbs<=t.natAbs/\(red t b).2.natAbs<=b.natAbs:=by
 obtain⟨u,v,h1,h2,e,_,_⟩:=u6 (t:=t) hb;rw[e];have d:1<=Int.gcd t b:=fB _ hb;have f:b.sign.natAbs=1:=by
  rcases kc hb with h|h
  ·rw[gI h];rfl
  ·rw[ig h];rfl
 have c:=congrArg rb h1;have a:=congrArg rb h2;rw[ka,ka,f,qC,jg]at c a;constructor
 ·show u.natAbs<=_;rw[c];exact k7 _ d
 ·show v.natAbs<=_;rw[a];exact k7 _ d
theorem fdiv_red{t b:Int}(hb:b≠0):((t.fdiv ((Int.gcd t b:Int)*b.sign),b.fdiv ((Int.gcd t b:Int)*b.sign)):Int×Int)=red t b:=by
 obtain⟨u,v,h1,h2,e,_,_⟩:=u6 (t:=t) hb;rw[e];have k:(Int.gcd t b:Int)≠0:=by have:=fB t hb;omega
 have j:b.sign≠0:=by simpa using hb
 have c:b.sign*b.sign=1:=by
  rcases kc hb with h|h
  ·rw[gI h];rfl
  ·rw[ig h];rfl
 have g:t=u*((Int.gcd t b:Int)*b.sign):=by
  calc t=t*(b.sign*b.sign):=by rw[c,ia]
   _=(t*b.sign)*b.sign:=by ac_rfl
   _=u*((Int.gcd t b:Int)*b.sign):=by rw[h1];ac_rfl
 have f:b=v*((Int.gcd t b:Int)*b.sign):=by
  calc b=b*(b.sign*b.sign):=by rw[c,ia]
   _=(b*b.sign)*b.sign:=by ac_rfl
   _=v*((Int.gcd t b:Int)*b.sign):=by rw[h2];ac_rfl
 generalize hd:(Int.gcd t b:Int)*b.sign=d at g f ⊢;have a:d≠0:=by rw[<-hd];exact dE k j
 rw[g,f,mo _ a,mo _ a]
end FQ
namespace LM
def cellAt(ns:List Int)(k:Int):Int:=if k<ns.length then ns.getD k.toNat 0 else 0
def oddGo(n:Int):Nat->List Int×Int
 | 0=>([],n)
 | k+1=>((oddGo n k).1++[(oddGo n k).2%5040],(oddGo n k).2/5040)
def evenX(n k:Int):Int:=(n*n+48271*n+k+1)%2147483647
def evenGo(n:Int):Nat->List Int×Int
 | 0=>([],n)
 | k+1=>((evenGo n k).1++[evenX (evenGo n k).2 k],evenX (evenGo n k).2 k)
def mixed(c:Int)(m:Nat):List Int:=if c%2=1 then(oddGo (c/2) m).1 else(evenGo ((c/2%2147483647*16807+11)%2147483647) m).1
theorem oddGo_len(n:Int):∀m,(oddGo n m).1.length=m
 | 0=>rfl
 | m+1=>by simp[oddGo,oddGo_len n m]
theorem evenGo_len(n:Int):∀m,(evenGo n m).1.length=m
 | 0=>rfl
 | m+1=>by simp[evenGo,evenGo_len n m]
theorem mixed_len(c:Int)(m:Nat):(mixed c m).length=m:=by
 unfold mixed;split <;> simp[oddGo_len,evenGo_len]
theorem yA(n:Int):∀m,∀x∈(oddGo n m).1,0<=x/\x<2147483647
 | 0,x,h=>by cases h
 | m+1,x,h=>by
  rcases dJ.mp h with h|h
  ·exact yA n m x h
  ·rw[cK.mp h];omega
theorem yX(n k:Int):0<=evenX n k/\evenX n k<2147483647:=⟨dO _ (by decide),dC _ (by decide)⟩
theorem xq(n:Int):∀m,∀x∈(evenGo n m).1,0<=x/\x<2147483647
 | 0,x,h=>by cases h
 | m+1,x,h=>by
  rcases dJ.mp h with h|h
  ·exact xq n m x h
  ·rw[cK.mp h];exact yX _ _
theorem evenGo_num(n:Int)(h0:0<=n)(h1:n<2147483647):∀m,0<=(evenGo n m).2/\(evenGo n m).2<2147483647
 | 0=>⟨h0,h1⟩
 | m+1=>yX _ _
theorem mixed_bd(c:Int)(m:Nat):∀x∈mixed c m,0<=x/\x<2147483647:=by
 unfold mixed;split
 ·exact yA _ _
 ·exact xq _ _
def ins(xs:List Int)(i:Nat)(x:Int):List Int:=xs.take i++x::xs.drop i
theorem Cl(xs:List Int)(i:Nat)(x:Int):(ins xs i x).Perm (x::xs):=by
 unfold ins;refine nW.trans ?_;rw[lO]
def permGo(num:Int):Nat->List Int×Int
 | 0=>([],num)
 | k+1=>(ins (permGo num k).1 ((permGo num k).2%(k+1)).toNat k,(permGo num k).2/(k+1))
def perm(num:Int)(n:Nat):List Int:=(permGo num n).1
theorem perm_succ_perm:∀(num:Int) (n:Nat),(perm num n).Perm ((db n).map hV)
 | _,0=>iN _
 | num,n+1=>by
  unfold perm
  rw[gf,cS]
  refine(Cl _ _ _).trans ?_
  refine p7.trans ?_ List.perm_append_comm
  exact(perm_succ_perm num n).cons _
theorem perm_len(num:Int)(n:Nat):(perm num n).length=n:=by
 have:=(perm_succ_perm num n).length_eq;simpa using this
theorem vU(row:List Int):(db row.length).map (λi=>row.getD i 0)=row:=by
 apply k8
 ·simp
 ·intro i h1 h2;simp at h1;simp[h1]
def addOne(r:List Int)(t:Int)(w:Int):List Int:=r.set t.toNat (r.getD t.toNat 0+w)
theorem zr(r:List Int)(t w:Int):(addOne r t w).length=r.length:=by simp[addOne]
def addDeal(M:List (List Int))(o:List Int)(w:Int):List (List Int):=qd (λr t=>addOne r t w) M o
end LM
namespace L2
open PySem PySem.Spec PyProof.Rows
def Jg:Sp:=λvs H Q _=>∃i:Int,vs=[.int i]/\Q (.bl true) H
def Km:Sp:=λvs H Q _=>∃i j:Int,vs=[.int i,.int j]/\Q (.int (Int.gcd i j:Int)) H
def JN(p:Int×Int):HO:= .tup [.int p.1,.int p.2]
def Sz(n:Nat)(p:Int×Int):Prop:=p.1.natAbs<2^n/\p.2.natAbs<2^n/\p.2≠0
def FN(x y:Int×Int):Int×Int:=FQ.red (x.1*y.2+y.1*x.2) (x.2*y.2)
def IK(x y:Int×Int):Int×Int:=FQ.red (x.1*y.2-y.1*x.2) (x.2*y.2)
def IR(x y:Int×Int):Int×Int:=FQ.red (x.1*y.1) (x.2*y.2)
def G4(f:(Int×Int)->(Int×Int)->(Int×Int))(K:cu):Sp:=λvs H Q _=>∃a b x y,vs=[.ref a,.ref b]/\SqT K H a [.int x.1,.int x.2]/\SqT K H b [.int y.1,.int y.2]/\Sz 4000 x/\Sz 4000 y/\
 ∀p H',Same H H'->H' p=some (JN (f x y))->Q (.ref p) H'
def IS(K:cu):Sp:=λvs H Q _=>∃a ns k,vs=[.ref a,.int k]/\SqL K H a (ns.map V.int)/\0<=k/\Q (.int (LM.cellAt ns k)) H
def Jh:Sp:=λvs H Q _=>∃(c:Int) (m:Nat),vs=[.int c,.int m]/\m<=63/\∀p H',Same H H'->H p=none->H' p=some (.lst ((LM.mixed c m).map V.int))->Q (.ref p) H'
def IM:Sp:=λvs H Q _=>∃(num:Int) (n:Nat),vs=[.int num,.int n]/\n<=63/\∀p H',Same H H'->H p=none->H' p=some (.lst ((LM.perm num n).map V.int))->Q (.ref p) H'
def Hd:Sp:=λvs H Q _=>∃i j:Int,vs=[.int i,.int j]/\0<=j/\Q (.int (Int.gcd i j:Int)) H
def Ir:Sp:=λvs H Q _=>∃t b:Int,vs=[.int t,.int b]/\0<b/\b.natAbs<2^9000/\∀p H',Same H H'->H' p=some (JN (FQ.red t b))->Q (.ref p) H'
theorem Dt{t b:Int}(hb:b≠0):Int.gcd t b<=b.natAbs:=Nat.le_of_dvd (by omega) (Int.gcd_dvd_natAbs_right ..)
theorem uV{t b:Int}(hb:b≠0)(hz:b.natAbs<2^9000):
  (b<0->(-(Int.gcd t b:Int)≠0/\(-(Int.gcd t b:Int)).natAbs<2^9000)/\t.fdiv (-(Int.gcd t b:Int))=(FQ.red t b).1/\b.fdiv (-(Int.gcd t b:Int))=(FQ.red t b).2)/\
  (¬b<0->((Int.gcd t b:Int)≠0/\(Int.gcd t b:Int).natAbs<2^9000)/\t.fdiv (Int.gcd t b:Int)=(FQ.red t b).1/\b.fdiv (Int.gcd t b:Int)=(FQ.red t b).2):=by
 have d:0<Int.gcd t b:=fB _ hb
 have a:=Dt (t:=t) hb
 have e:=FQ.fdiv_red (t:=t) hb
 constructor
 ·intro c
  rw[gI c,Int.mul_neg_one]at e
  exact⟨⟨by omega,by rw[Int.natAbs_neg,jg];exact eQ a hz⟩,congrArg Prod.fst e,congrArg Prod.snd e⟩
 ·intro c
  rw[ig (by omega),ia]at e
  exact⟨⟨by omega,by rw[jg];exact eQ a hz⟩,congrArg Prod.fst e,congrArg Prod.snd e⟩
theorem zb{a b m n:Nat}(h1:a<2^m)(h2:b<2^n):a*b<2^(m+n):=by
 rw[Nat.pow_add];exact Nat.mul_lt_mul'' h1 h2
theorem u8{a b:Int}{m n:Nat}(h1:a.natAbs<2^m)(h2:b.natAbs<2^n):(a*b).natAbs<2^(m+n):=by
 rw[ka];exact zb h1 h2
theorem vy{a:Int}{m n:Nat}(h:a.natAbs<2^m)(hmn:m<=n):a.natAbs<2^n:=cU h (eB (by decide) hmn)
theorem G0{a b:Int}(h1:a.natAbs<2^4000)(h2:b.natAbs<2^4000):IntMulOk a b:=KZ h1 h2 (by decide)
theorem Kx{a b:Int}(h1:a.natAbs<2^4000)(h2:b.natAbs<2^4000):(a*b).natAbs<2^9000:=vy (u8 h1 h2) (by decide)
mutual
inductive Rep(K:cu)(H:Hp):V->iO->Prop
 | non:Rep K H .non .none
 | bl (b:Bool):Rep K H (.bl b) (.bool b)
 | int (i:Int):Rep K H (.int i) (.int i)
 | str (x:Str):Rep K H (.str x) (.str x)
 | lst {a:cG} {xs:List V} {ds:List iO}:SqL K H a xs->Reps K H xs ds->xs.length<=1000->Rep K H (.ref a) (.list ds)
 | tup {a:cG} {xs:List V} {ds:List iO}:SqT K H a xs->Reps K H xs ds->xs.length<=1000->Rep K H (.ref a) (.tuple ds)
inductive Reps(K:cu)(H:Hp):List V->List iO->Prop
 | nil:Reps K H [] []
 | cons {x:V} {d:iO} {xs:List V} {ds:List iO}:Rep K H x d->Reps K H xs ds->Reps K H (x::xs) (d::ds)
end
section
variable{X:Cx}{pins:List (cG×Obj)}{σ:St}{H:Hp}{s:cD}
mutual
theorem Rep.reads(I:Inv X pins σ H s){x:V}{d:iO}{u:cA}(r:Rep X.K H x d)(q:RelV x u):∃as,Reads s.heap u d as:=by
 cases r with
 | non=>cases(show u=cA.none from q);exact⟨_,.none⟩
 | bl b=>cases(show u=er b from q);exact⟨_,.bool b⟩
 | int i=>obtain⟨t,e⟩:=(show ∃t,u=dX i t from q);cases e;exact⟨_,.int i t⟩
 | str x=>obtain⟨t,e⟩:=(show ∃t,u=iw x t from q);cases e;exact⟨_,.str x t⟩
 | @lst a xs ds hq hs hl=>
  cases(show u=cR a from q);obtain⟨g,f,⟨o,n,h1,h2,_,h3⟩,_⟩:=I.list hq;obtain⟨as,c⟩:=Reps.reads I hs f;exact⟨_,.list h1 h2 h3 (by simpa using c)⟩
 | @tup a xs ds hq hs hl=>
  cases(show u=cR a from q);obtain⟨g,f,⟨o,h1,h2,n,h3⟩,_⟩:=I.tuple hq;obtain⟨as,c⟩:=Reps.reads I hs f;exact⟨_,.tuple h1 h2 h3 (by simpa using c)⟩
theorem Reps.reads(I:Inv X pins σ H s){xs:List V}{ds:List iO}{us:List cA}(r:Reps X.K H xs ds)(q:Vals xs us):∃as,ReadsAll s.heap us ds as:=by
 cases r with
 | nil=>cases q;exact⟨_,.nil⟩
 | cons r b=>
  cases q with
  | cons q a=>
   obtain⟨as,h1⟩:=Rep.reads I r q;obtain⟨c,h2⟩:=Reps.reads I b a;exact⟨_,.cons h1 h2⟩
end
def Lb(K:cu):R2:=λx y H Q=>∃d e,Rep K H x d/\Rep K H y e/\ga d=true/\ga e=true/\Q (.bl (gy d e)) H
def Lv(K:cu):R2:=λx y H Q=>∃d e,Rep K H x d/\Rep K H y e/\ga d=true/\ga e=true/\Q (.bl (!gy d e)) H
theorem yn{k:Nat}(hr:Room k X.A):Fo X (compareOp .Eq) (Lb X.K):=by
 intro a s m H x y v u Q I g c h;obtain⟨d,e,f,l,j,b,q⟩:=h;obtain⟨as,h1⟩:=f.reads I g;obtain⟨n,h2⟩:=l.reads I c;exact eq_dataH h1 h2 j b hr.units ⟨.bl _,H,I,rfl,q⟩
theorem xj{k:Nat}(hr:Room k X.A):Fo X (compareOp .NotEq) (Lv X.K):=by
 intro a s m H x y v u Q I g c h;obtain⟨d,e,f,l,j,b,q⟩:=h;obtain⟨as,h1⟩:=f.reads I g;obtain⟨n,h2⟩:=l.reads I c;exact ne_dataH h1 h2 j b hr.units ⟨.bl _,H,I,rfl,q⟩
end
theorem Reps.length{K:cu}{H:Hp}:∀{xs:List V} {ds:List iO},Reps K H xs ds->xs.length=ds.length
 | _,_,.nil=>rfl
 | _,_,.cons _ r=>by simp[Reps.length r]
theorem Reps.get{K:cu}{H:Hp}:∀{xs:List V} {ds:List iO} {i:Nat} {d:iO},Reps K H xs ds->ds[i]?=some d->∃x,xs[i]?=some x/\Rep K H x d
 | _,_,_,_,.nil,e=>by simp at e
 | _,_,0,_,.cons r _,e=>by simp at e;subst e;exact⟨_,rfl,r⟩
 | _,_,i+1,d,.cons _ t,e=>by
  obtain⟨x,h1,h2⟩:=Reps.get (i:=i) t (by simpa using e)
  exact⟨x,by simpa using h1,h2⟩
def dF(p:Int×Int):iO:= .tuple [.int p.1,.int p.2]
theorem IsF.rep{K:cu}{H:Hp}{v:V}{p:Int×Int}(h:IsF K H v p):Rep K H v (dF p):=by
 obtain⟨a,rfl,q⟩:=h;exact .tup q (.cons (.int _) (.cons (.int _) .nil)) (by simp)
theorem Paired.len{α β:Type}{F:α->β->Prop}{xs:List α}{ys:List β}(h:dr F xs ys):xs.length=ys.length:=mt h
theorem vW{lo:Int}{n:Nat}{caps:List (Option Nat)}{g:TG}{tt:TT}{te:TE}{σ:St}{QQ:List V->Hp->Prop}{H:Hp}(Pv:Nat->List V->Hp->Prop)(h0:Pv 0 [] H)
  (hs:∀i ys H,i<n->Pv i ys H->g (.int (lo+i)) (E5 caps σ) H λσ2 H2=>tt σ2 H2 λb H3=>if b=true then te σ2 H3 λy H4=>ys.length<sizeLine/\Pv (i+1) (ys++[y]) H4 else Pv (i+1) ys H3)
  (hd:∀ys H,Pv n ys H->QQ ys H):EC caps g tt te σ QQ (J6 lo n) H:=by
 refine⟨λi m ys H=>m=n-i/\i<=n/\Pv i ys H,⟨n,by simp,du _,h0⟩,?_⟩
 rintro i m ys H ⟨rfl,h,p⟩
 by_cases a:i<n
 ·refine .inr ⟨a,Pv (i+1),λf d c=>⟨n-(i+1),by omega,rfl,a,c⟩,λx d y=>?_⟩
  obtain⟨e,y⟩:=y
  subst e y
  exact hs i ys _ a p
 ·have e:i=n:=by omega
  subst e
  exact .inl ⟨cI _,hd ys H p⟩
theorem vm{K:cu}{a:cG}{xs:List V}{caps:List (Option Nat)}{g:TG}{tt:TT}{te:TE}{σ:St}{QQ:List V->Hp->Prop}{H:Hp}(Pv:Nat->List V->Hp->Prop)(h0:Pv 0 [] H)
  (hl:∀i ys H,i<=xs.length->Pv i ys H->SqL K H a xs)
  (hs:∀i x ys H,xs[i]?=some x->Pv i ys H->g x (E5 caps σ) H λσ2 H2=>tt σ2 H2 λb H3=>if b=true then te σ2 H3 λy H4=>ys.length<sizeLine/\Pv (i+1) (ys++[y]) H4 else Pv (i+1) ys H3)
  (hd:∀ys H,Pv xs.length ys H->QQ ys H):EC caps g tt te σ QQ (KF K a) H:=by
 refine⟨λi m ys H=>m=xs.length-i/\i<=xs.length/\Pv i ys H,⟨xs.length,by simp,du _,h0⟩,?_⟩
 rintro i m ys H ⟨rfl,d,p⟩
 have q:=hl i ys H d p
 by_cases c:i<xs.length
 ·refine .inr ⟨⟨xs,xs[i],q,by simp[c]⟩,Pv (i+1),λj h f=>⟨xs.length-(i+1),by omega,rfl,c,f⟩,λx h y=>?_⟩
  obtain⟨e,y⟩:=y
  subst e
  exact hs i x ys _ (y xs q) p
 ·have e:i=xs.length:=by omega
  subst e
  exact .inl ⟨⟨xs,q,cI _⟩,hd ys H p⟩
theorem uf{K:cu}{a:cG}{xs:List V}{caps:List (Option Nat)}{g:TG}{tt:TT}{te:TE}{σ:St}{QQ:List V->Hp->Prop}{H:Hp}(Pv:Nat->List V->Hp->Prop)(h0:Pv 0 [] H)
  (hl:∀i ys H,i<=xs.length->Pv i ys H->SqT K H a xs)
  (hs:∀i x ys H,xs[i]?=some x->Pv i ys H->g x (E5 caps σ) H λσ2 H2=>tt σ2 H2 λb H3=>if b=true then te σ2 H3 λy H4=>ys.length<sizeLine/\Pv (i+1) (ys++[y]) H4 else Pv (i+1) ys H3)
  (hd:∀ys H,Pv xs.length ys H->QQ ys H):EC caps g tt te σ QQ (Kw K a) H:=by
 refine⟨λi m ys H=>m=xs.length-i/\i<=xs.length/\Pv i ys H,⟨xs.length,by simp,du _,h0⟩,?_⟩
 rintro i m ys H ⟨rfl,d,p⟩
 have q:=hl i ys H d p
 by_cases c:i<xs.length
 ·refine .inr ⟨⟨xs,xs[i],q,by simp[c]⟩,Pv (i+1),λj h f=>⟨xs.length-(i+1),by omega,rfl,c,f⟩,λx h y=>?_⟩
  obtain⟨e,y⟩:=y
  subst e
  exact hs i x ys _ (y xs q) p
 ·have e:i=xs.length:=by omega
  subst e
  exact .inl ⟨⟨xs,q,cI _⟩,hd ys H p⟩
theorem tK{σ:St}{H:Hp}{A:Hp->Prop}{B:Hp->Prop}:(FY σ H λb H3=>if b=true then A H3 else B H3)=A H:=by
 unfold FY;exact if_pos rfl
theorem sK{lo:Int}{n:Nat}{caps:List (Option Nat)}{g:TG}{te:TE}{σ:St}{QQ:List V->Hp->Prop}{H:Hp}(Pv:Nat->List V->Hp->Prop)(h0:Pv 0 [] H)
  (hs:∀i ys H,i<n->Pv i ys H->g (.int (lo+i)) (E5 caps σ) H λσ2 H2=>te σ2 H2 λy H4=>ys.length<sizeLine/\Pv (i+1) (ys++[y]) H4)
  (hd:∀ys H,Pv n ys H->QQ ys H):EC caps g FY te σ QQ (J6 lo n) H:=
 vW Pv h0 (λi ys H a p=>by simp only[tK];exact hs i ys H a p) hd
theorem sP{K:cu}{a:cG}{xs:List V}{caps:List (Option Nat)}{g:TG}{te:TE}{σ:St}{QQ:List V->Hp->Prop}{H:Hp}(Pv:Nat->List V->Hp->Prop)(h0:Pv 0 [] H)
  (hl:∀i ys H,i<=xs.length->Pv i ys H->SqL K H a xs)
  (hs:∀i x ys H,xs[i]?=some x->Pv i ys H->g x (E5 caps σ) H λσ2 H2=>te σ2 H2 λy H4=>ys.length<sizeLine/\Pv (i+1) (ys++[y]) H4)
  (hd:∀ys H,Pv xs.length ys H->QQ ys H):EC caps g FY te σ QQ (KF K a) H:=
 vm Pv h0 hl (λi x ys H b p=>by simp only[tK];exact hs i x ys H b p) hd
theorem vJ{K:cu}{a:cG}{xs:List V}{caps:List (Option Nat)}{g:TG}{te:TE}{σ:St}{QQ:List V->Hp->Prop}{H:Hp}(Pv:Nat->List V->Hp->Prop)(h0:Pv 0 [] H)
  (hl:∀i ys H,i<=xs.length->Pv i ys H->SqT K H a xs)
  (hs:∀i x ys H,xs[i]?=some x->Pv i ys H->g x (E5 caps σ) H λσ2 H2=>te σ2 H2 λy H4=>ys.length<sizeLine/\Pv (i+1) (ys++[y]) H4)
  (hd:∀ys H,Pv xs.length ys H->QQ ys H):EC caps g FY te σ QQ (Kw K a) H:=
 uf Pv h0 hl (λi x ys H b p=>by simp only[tK];exact hs i x ys H b p) hd
theorem wx{a b T:Int}(hT:T≠0):FN (FQ.red a T) (FQ.red b T)=FQ.red (a+b) T:=by
 have h1:=FQ.red_worth (t:=a) hT;have h2:=FQ.red_worth (t:=b) hT;have c:=(FQ.red_low (t:=a) hT).pos;have d:=(FQ.red_low (t:=b) hT).pos;unfold FN;refine FQ.red_eq (dE (by omega) (by omega)) hT ?_;generalize FQ.red a T=p at *;generalize FQ.red b T=q at *
 calc (p.1*q.2+q.1*p.2)*T=(p.1*T)*q.2+(q.1*T)*p.2:=by rw[gT];ac_rfl
  _=(a*p.2)*q.2+(b*q.2)*p.2:=by rw[h1,h2]
  _=(a+b)*(p.2*q.2):=by rw[gT];ac_rfl
theorem u7{T:Int}(hT:T≠0):FQ.red 0 T=(0,1):=FQ.red_eq_iff hT ⟨by decide,by decide⟩ (by simp)
theorem x6{T:Int}(hT:T≠0):FQ.red T T=(1,1):=FQ.red_eq_iff hT ⟨by decide,by decide⟩ (by simp)
theorem vA{a T:Int}(hT:T≠0)(h1:a.natAbs<2^100)(h2:T.natAbs<2^100):Sz 4000 (FQ.red a T):=by
 have s:=FQ.red_small (t:=a) hT;have p:=(FQ.red_low (t:=a) hT).pos;refine⟨eQ s.1 (cU h1 (eB (by decide) (by decide))),eQ s.2 (cU h2 (eB (by decide) (by decide))),by omega⟩
def Jj(K:cu):Sp:=λvs H Q _=>∃(a:cG) (ns:List Int),vs=[.ref a]/\SqL K H a (ns.map V.int)/\ns.length<=63/\∀H',Q (.bl true) H'
def F9:Nat->iO->Bool
 | _,.none=>true
 | _,.bool _=>true
 | _,.int _=>true
 | _,.str x=>ga (.str x)
 | n+1,.tuple ds=>ds.all (F9 n)
 | n+1,.list ds=>ds.all (F9 n)
 | _,_=>false
def Hu(K:cu)(n:Nat):Sp:=λvs H Q _=>∃v u d,vs=[v,u]/\Rep K H v d/\Rep K H u d/\F9 n d=true/\Q (.bl true) H
def Jz(sp:Nat->Sp):Nat->Sp
 | 0=>λ_ _ _ _=>False
 | n+1=>sp n
structure Flies(P:cT)(w:dc)(outer:List Env)(H:Hp)(s:cD)(a C:cG)(B:Heap)(a0:cA)(H':Hp)(s':cD):Prop where
 os:s'.os=s.os
 bare:AllBare s'.gens
 un:Un (Fm outer) [] H H' s.heap s'.heap
 hok:HOk P w H' B
 keep:∀b o,s.heap.get? b=some o->H b=none->b∉Fm outer->B.get? b=some o
 has:∀b o,s.heap.get? b=some o->b∉Fm outer->∃o',B.get? b=some o'
 fly:lu B outer a (.ref C) a0 s'.heap
def FD(P:cT)(w:dc):Ht:=λouter H s E e s'=>∃a C B a0 H',e = .ref a/\Flies P w outer H s a C B a0 H' s'/\E (.ref C) none H'
theorem ObjOk.is{P:cT}{w:dc}{H:Hp}{h:Heap}{a:cG}{o:HO}(x:ObjOk P w H h a o):∃u,h.get? a=some u:=by
 cases o with
 | lst d=>obtain⟨_,_,_,_,e⟩:=x;exact⟨_,e⟩
 | tup d=>obtain⟨_,_,_,o,e,_⟩:=x;exact⟨_,e⟩
 | dK b=>obtain⟨_,_,_,_,o,_,_,e,_⟩:=x;exact⟨_,e⟩
 | dT b=>obtain⟨_,_,_,_,o,_,_,e,_⟩:=x;exact⟨_,e⟩
 | set S n=>obtain⟨o,_,_,_,e,_⟩:=x;exact⟨_,e⟩
 | ins C l c=>obtain⟨_,_,_,e,_⟩:=x;exact⟨_,e⟩
 | own y=>obtain⟨_,e⟩:=x;exact⟨_,e⟩
 | xd c=>obtain⟨_,⟨_,_,_,e,_⟩,_⟩:=x;exact⟨_,e⟩
 | rng g j=>obtain⟨_,_,_,e⟩:=x;exact⟨_,e⟩
 | frz k u=>obtain⟨e,_⟩:=x;exact⟨_,e⟩
 | tbl m=>exact⟨_,(show h.get? a=some _ from x)⟩
 | met f y=>exact⟨_,(show h.get? a=some _ from x)⟩
 | ext p=>obtain⟨_,⟨_,e⟩,_⟩:=x;exact⟨_,e⟩
theorem Flies.free{P:cT}{w:dc}{outer:List Env}{H H':Hp}{s s':cD}{a C:cG}{B:Heap}{a0:cA}(f:Flies P w outer H s a C B a0 H' s'):H' a=none:=by
 cases q:H' a with
 | none=>rfl
 | some o=>
  obtain⟨x,b⟩:=(f.hok a o q).is;rw[f.fly.2.1]at b;cases b
theorem B2{P:cT}{w:dc}{H:Hp}{h:Heap}{l:List cG}(x:HOk P w H h)(n:∀b∈l,H b=none):HOk P w H (lE h l):=λa o e=>
 (x a o e).stay (λb u c q=>gA _ q λz=>by
  rcases c with rfl|c
  ·rw[n _ z]at e;cases e
  ·rw[n _ z]at c;cases c) (λ_ q=>q) λ_ _ q=>q
section
variable{P:cT}{w:dc}{K:cu}{mg:Str->Option cA}{base:Heap}{N:List Str}{qual:Str}{scope:Scope}{f:cG}{cd:cA}{A:dw}{outer:List Env}{s₀:cD}{H₀:Hp}{E:XK}
abbrev HV(P:cT)(w:dc)(K:cu)(mg:Str->Option cA)(base:Heap)(N:List Str)(qual:Str)(scope:Scope)(f:cG)(cd:cA)(A:dw)(outer:List Env)(s₀:cD)(H₀:Hp)(E:XK):Cx:=Hs (FD P w) P w K mg base N qual scope f cd A outer s₀ H₀ E
theorem wZ{env:Env}{l:List Env}{L:cG}(h:env.frame=some L):Fm (env::l)=L::Fm l:=by unfold Fm;rw[gd,h]
theorem ye{pins:List (cG×Obj)}{σ:St}{H:Hp}{s:cD}{h':Heap}{e C:cG}{vs:List cA}(I:Inv (HV P w K mg base N qual scope f cd A outer s₀ H₀ E) pins σ H s)(hx:Heap.MadeExcOf s.heap h' e (.ref C) vs)(hE:E (.ref C) none H):
  (HV P w K mg base N qual scope f cd A outer s₀ H₀ E).xe (.ref e) {s with heap:=h'}:=by
 have x:(envOfC qual scope s₀.heap.objs.size f cd).frame=some s₀.heap.objs.size:=rfl
 have Q:(HV P w K mg base N qual scope f cd A outer s₀ H₀ E).stack=envOfC qual scope s₀.heap.objs.size f cd::outer:=rfl
 have F:∀k∈(envOfC qual scope s₀.heap.objs.size f cd::outer),∀b,k.frame=some b->b∈Fm (envOfC qual scope s₀.heap.objs.size f cd::outer):=λk G b a=>gH.mpr ⟨k,G,a⟩
 have J:s.heap.FunFrames base (envOfC qual scope s₀.heap.objs.size f cd::outer):=I.stack
 have B:∀b∈Fm (envOfC qual scope s₀.heap.objs.size f cd::outer),H b=none:=I.stkFree
 have c:∀b o,s₀.heap.get? b=some o->b∉Fm outer->b∉Fm (envOfC qual scope s₀.heap.objs.size f cd::outer):=λb o q nb=>by
  rw[wZ x]
  intro z
  rcases cZ.mp z with z|z
  ·exact absurd (cQ q) (by rw[z];exact dt _)
  ·exact nb z
 have U:Un (Fm outer) [] H₀ H s₀.heap s.heap:=I.base
 show wpAny _ _ (leaving _ _) _ _ _
 refine wpAny_leaves_madeW (base:=lE s.heap (Fm (envOfC qual scope s₀.heap.objs.size f cd::outer))) (h:=s.heap) I.ok.frames x (λb o q=>mI _ q) (PySem.W.funFrames_hide J F) hx λO t y _ _ D=>?_
 have l:=y.1
 refine⟨e,C,_,_,H,rfl,⟨I.os,I.bare,⟨λb o q n nb _=>?_,λb o q n a _=>?_,λb o q n v=>U.free b o q n v,λb o q _=>?_,U.tups,U.frzs,U.tbls⟩,B2 I.hok B,λb o q n nb=>?_,λb o q nb=>?_,y⟩,hE⟩
 ·exact l _ _ (gA _ (U.keep b o q n nb (by simp)) (c b o q nb))
 ·obtain⟨M,j⟩:=U.slot b o q n a (by simp)
  obtain⟨_,p,d,g⟩:=I.funs.mem a
  have L:p={o with slots:=M}:=Option.some.inj (d.symm.trans j)
  obtain⟨r,m⟩:=D b p (hx.keeps _ _ d) g
  rw[L]at m
  exact⟨r,m⟩
 ·obtain⟨u,j⟩:=U.there b o q (by simp)
  by_cases a:b∈Fm outer
  ·obtain⟨_,p,d,g⟩:=I.funs.mem a
   obtain⟨r,m⟩:=D b p (hx.keeps _ _ d) g
   exact⟨_,m⟩
  ·exact⟨u,l _ _ (gA _ j (c b o q a))⟩
 ·exact gA _ (U.keep b o q n nb (by simp)) (c b o q nb)
 ·obtain⟨u,j⟩:=U.there b o q (by simp)
  exact⟨u,gA _ j (c b o q nb)⟩
theorem Iw{E':XK}(hE:∀c d H',E' c d H'->E c d H'):ED (FD P w) (HV P w K mg base N qual scope f cd A outer s₀ H₀ E) E':=by
 intro W σ H s e G I hc;obtain⟨a,C,B,T,H',rfl,F,q⟩:=hc;have x:(envOfC qual scope s₀.heap.objs.size f cd).frame=some s₀.heap.objs.size:=rfl;have t:∀b o,s₀.heap.get? b=some o->b∉Fm outer->b∉Fm (envOfC qual scope s₀.heap.objs.size f cd::outer):=λb o q nb=>by
  rw[wZ x];intro z;rcases cZ.mp z with z|z
  ·exact absurd (cQ q) (by rw[z];exact dt _)
  ·exact nb z
 have r:∀b∈Fm outer,b∈Fm (envOfC qual scope s₀.heap.objs.size f cd::outer):=λb g=>by rw[wZ x];exact cO _ g
 have U:Un (Fm outer) [] H₀ H s₀.heap s.heap:=I.base;have m:Un (Fm (envOfC qual scope s₀.heap.objs.size f cd::outer)) [] H H' s.heap G.heap:=F.un;have ff:G.heap.FunFrames B (envOfC qual scope s₀.heap.objs.size f cd::outer):=F.fly.2.2.1;show wpAny _ _ (leaving _ _) _ _ _;refine wpAny_leaves_onW I.ok.frames x F.fly λS L Y=>?_
 have p:=L.1;have R:∀b o,s₀.heap.get? b=some o->H₀ b=none->b∉Fm outer->B.get? b=some o:=λb o q n nb=>F.keep b o (U.keep b o q n nb (by simp)) (U.free b o q n (by simp)) (t b o q nb)
 have O:∀b o,s₀.heap.get? b=some o->b∉Fm outer->∃j,B.get? b=some j:=λb o q nb=>by
  obtain⟨j,h⟩:=U.there b o q (by simp);exact F.has b j h (t b o q nb)
 have k:∀b o,s₀.heap.get? b=some o->H₀ b=none->b∈Fm outer->∃k,S.get? b=some {o with slots:=k}:=λb o q n g=>by
  obtain⟨k,h⟩:=U.slot b o q n g (by simp);obtain⟨aa,Z⟩:=m.slot b _ h (U.free b o q n (by simp)) (r b g) (by simp);obtain⟨_,o2,v,J⟩:=ff.mem (r b g);have y:=Option.some.inj (v.symm.trans Z);obtain⟨D,M⟩:=Y b o2 v J;rw[y]at M;exact⟨D,M⟩
 refine⟨a,C,B,T,H',rfl,⟨F.os.trans I.os,F.bare,⟨λb o q n nb _=>p _ _ (R b o q n nb),λb o q n g _=>k b o q n g,λb o q n l=>?_,λb o q _=>?_,λb Q q=>m.tups b Q (U.tups b Q q),λb o u q=>m.frzs b o u (U.frzs b o u q),λb X q=>?_⟩,F.hok,R,O,L⟩,hE _ _ _ q⟩
 ·obtain⟨j,h⟩:=U.there b o q l;exact m.free b j h (U.free b o q n l) l
 ·by_cases g:b∈Fm outer
  ·obtain⟨k,h⟩:=k b o q (I.ok.frf b g) g;exact⟨_,h⟩
  ·obtain⟨j,h⟩:=O b o q g;exact⟨j,p _ _ h⟩
 ·obtain⟨m1,V⟩:=U.tbls b X q;obtain⟨m2,y⟩:=m.tbls b _ V;exact⟨m1++m2,by rw[y,mJ]⟩
end
def Mb:List cA:=[.type "ValueError",.type "Exception",.type "BaseException",.type "object"]
structure G5(K:cu)(mg:Str->Option cA)(x:Str)(C:cG):Prop where
 bound:mg x=some (.ref C)
 exc:kL K C Mb "ValueError.__new__"=true
theorem AO{K:cu}{h:Heap}{C:cG}{bmB:List cA}{nid:String}(X:K.In h)(q:kL K C bmB nid=true):
  ∃bm N nm qn bs hdct sn sub ab col dd k0 k1 k2 k3 k5 mN,h.get? C=some (excClassObj nm qn C N bs bm hdct sn sub ab col dd k0 k1 k2 k3 k5 nid)/\h.Ns N mN/\mN "__init__"=none/\OwnTail h bmB bm:=by
 unfold kL at q
 split at q
 ·rename_i dd cd sl hlk
  split at q
  ·rename_i C' bm u0 u1 u2 u3 n u5 hmro hsl
   simp only[dn,beq_iff_eq,nl]at q
   obtain⟨⟨⟨⟨⟨rfl,rfl⟩,b⟩,d⟩,a⟩,c⟩:=q
   obtain⟨nm,bs,j,f,qn,e,sn,sub,ab,col,g⟩:=cd
   dsimp only at hmro b a c
   subst hmro b
   obtain⟨l⟩:=sl
   simp only at hsl
   subst hsl
   exact⟨bm,f,nm,qn,bs,e,sn,sub,ab,col,dd,u0,u1,u2,u3,u5,_,X _ _ hlk,.of_isNs (PySem.W.isNs_of_in X a),PySem.W.nsMap_none_of_in X a c,PySem.W.tail_of_in X d⟩
  ·cases q
 ·cases q
section
variable{P:cT}{w:dc}{K:cu}{mg:Str->Option cA}{base:Heap}{N:List Str}{qual:Str}{scope:Scope}{f:cG}{cd:cA}{A:dw}{outer:List Env}{s₀:cD}{H₀:Hp}{E:XK}
def KA(C:cG)(E:XK)(t:TA):TS:=λ_ σ H=>t σ H λvs H1=>vs.length<=sizeLine/\E (.ref C) none H1
theorem tR{x:Str}{C:cG}{e₀:Expr}{es:List Expr}{np cpos pos:Pos}{t:TA}(hC:G5 K mg x C)(hg:Gl (HV P w K mg base N qual scope f cd A outer s₀ H₀ E) x)
  (ha:PA (HV P w K mg base N qual scope f cd A outer s₀ H₀ E).nox (e₀::es) t)
  (hd:(x==("__debug__":Str))=false:=by decide)(he:dh (e₀::es) (HV P w K mg base N qual scope f cd A outer s₀ H₀ E).env=(false,eval e₀ (HV P w K mg base N qual scope f cd A outer s₀ H₀ E).env)::dh es (HV P w K mg base N qual scope f cd A outer s₀ H₀ E).env:=by rfl)
  (hpl:(backTo cpos (dh es (HV P w K mg base N qual scope f cd A outer s₀ H₀ E).env)).any (·.1)=false:=by rfl):
  PS (HV P w K mg base N qual scope f cd A outer s₀ H₀ E) (.Raise (some (.Call (.Name x np) (e₀::es) [] cpos)) none pos) (KA C E t):=by
 intro b s j H D I h
 obtain⟨bm,m,nm,n,bs,hdct,sn,sub,ab,col,dd,k0,k1,k2,k3,k5,mN,d,l,g,T⟩:=AO I.ok.mod.kin hC.exc
 refine wpAny_Raise_call_subT (C:=C) (nm:=nm) (q:=n) (N:=m) (bs:=bs) (bm:=bm) (hdct:=hdct) (sn:=sn) (sub:=sub) (ab:=ab) (col:=col) (dd:=dd) (k0:=k0) (k1:=k1) (k2:=k2) (k3:=k3) (k5:=k5) (mN:=mN) (bmB:=Mb) (newId:="ValueError.__new__")
  PySem.F.excBase_ValueError (T.hasType (by decide)) (I.ok.hd rfl) (by rw[he];exact hpl) g (vz I hg hC.bound ⟨rfl,?_⟩ hd)
 have z:=ha cpos b s j H _ (I.wish _) h
 have c:dh (e₀::es) (HV P w K mg base N qual scope f cd A outer s₀ H₀ E).nox.env=(false,eval e₀ (HV P w K mg base N qual scope f cd A outer s₀ H₀ E).env)::dh es (HV P w K mg base N qual scope f cd A outer s₀ H₀ E).env:=he
 rw[c]at z
 rw[he]
 refine iK ?_
 refine gj z (λu B h1=>?_) λ_ _ z=>fj z
 obtain⟨vs,v,a,r,o,p⟩:=h1
 have a:=a.unwish
 exact⟨rfl,by rw[<-r.length];exact o,a.bk _ _ d,l.keeps a.bk,T.keeps a.bk,λy e k=>ye a k p⟩
end
section
variable{M:Model}{A:dw}{E:cA->cD->Prop}{K:cu}{h:Heap}{g:Array GenState}{d:Drawn}{t:Nat}{os:OsState}{a C CW:cG}{oe:Obj}
theorem xD{Q:Bool->cD->Prop}(X:K.In h)(qW:kL K CW Mb "ValueError.__new__"=true)(hm:mz K C (.ref CW)=some true)(ha:h.get? a=some oe)(hc:oe.cls = .ref C)
  (hq:Q true ⟨h,g,d,t,os⟩):wpAny M A (excMatches (.ref a) (.ref CW)) Q E ⟨h,g,d,t,os⟩:=by
 obtain⟨e,u,F,w,r,j,n,k,y,m,p,D,v,B,o,q,x,b,s,l,T⟩:=AO X qW
 have f:e.contains (.type "BaseException")=true:=T.hasType (by decide)
 have c:(cR CW::e).contains (.type "BaseException")=true:=by rw[List.contains_cons,f,Bool.or_true]
 have z:=tc_notTuple
 have L:=PySem.W.looks_mroIn (M:=M) X hm
 unfold excMatches
 repeat (first|(with_reducible refine nv ha ?_;rw[hc])|with_reducible refine nv b ?_|(with_reducible refine wpAny_isSubtype_exc b ?_;rw[c])|with_reducible refine L.at ?_|wp_step)
 exact hq
end
def LO(C a:cG):HO:= .ext λh=>∃o,h.get? a=some o/\o.cls = .ref C/\∃vs,o.data = .fields vs
section
variable{X:Cx}{pins:List (cG×Obj)}{σ:St}{H:Hp}{s:cD}
theorem Inv.caught{a C:cG}{B:Heap}{a0:cA}{H':Hp}{s':cD}{h6:Heap}(I:Inv X pins σ H s)(F:Flies X.prog X.w X.stack H s a C B a0 H' s')(fl:lu B X.stack a (.ref C) a0 h6)(up:s'.heap.UpToSlots h6):
  Inv X pins σ (upd H' a (LO C a)) {s' with heap:=h6}:=by
 have fr:=F.free
 have m:=F.un
 have O:=F.fly.2.2.1
 obtain⟨E,vs,j,G,r,_⟩:=fl.first
 have l:∀b u,H' b=some u->b≠a:=λb u q z=>by rw[z,fr]at q;cases q
 have A:∀b o,s.heap.get? b=some o->H b=none->b≠a:=λb o q n z=>by
  by_cases d:b∈Fm X.stack
  ·obtain⟨_,x,e,g⟩:=fl.2.2.1.mem d
   rw[z,j]at e
   cases e
   exact g _ r
  ·have:=F.keep b o q n d
   rw[z,fl.2.1]at this
   cases this
 refine I.call' (s':={s' with heap:=h6}) (ch:=[]) F.os ⟨λb o q n nb _=>fl.1 _ _ (F.keep b o q n nb),λb o q n d _=>?_,λb o q n N=>?_,λb o q _=>?_,λb D q=>?_,λb o u q=>?_,λb K q=>?_⟩ ?_ F.bare (λb z=>absurd z (by simp))
 ·obtain⟨P,h⟩:=m.slot b o q n d (by simp)
  obtain⟨_,x,e,g⟩:=O.mem d
  have L:=Option.some.inj (e.symm.trans h)
  obtain⟨y,p⟩:=up b x e g
  rw[L]at p
  exact⟨y,p⟩
 ·rw[rH (A b o q n)]
  exact m.free b o q n N
 ·by_cases d:b∈Fm X.stack
  ·obtain⟨_,x,e,g⟩:=fl.2.2.1.mem d
   exact⟨_,e⟩
  ·obtain⟨J,h⟩:=F.has b o q d
   exact⟨J,fl.1 _ _ h⟩
 ·have f:=m.tups b D q
  rw[rH (l _ _ f)];exact f
 ·have f:=m.frzs b o u q
  rw[rH (l _ _ f)];exact f
 ·obtain⟨t,f⟩:=m.tbls b K q
  exact⟨t,by rw[rH (l _ _ f)];exact f⟩
 ·intro b u q
  by_cases d:b=a
  ·subst d
   rw[rC]at q
   cases q
   exact⟨⟨E,j,G,vs,r⟩,⟨E,j⟩,λh1 h2 ⟨o,h,p,M⟩ k=>⟨o,k o h,p,M⟩⟩
  ·rw[rH d]at q
   exact(F.hok b u q).stay (λc v _ z=>fl.1 _ _ z) (λc z=>by rw[rH (l _ _ z)];exact z) λc D z=>by rw[rH (l _ _ z)];exact z
end
def Cx.hold(X:Cx)(a:cG):Cx:={X with A:=X.A.mark (some (.ref a)),calm:=false,xe:=λ_ _=>False}
theorem Cx.Ok.hold{X:Cx}(ok:X.Ok)(a:cG):(X.hold a).Ok:=
 ⟨ok.mod,ok.kind,ok.glob,ok.blt,ok.above,ok.inj,ok.has,ok.cab,(λz=>by cases z),ok.frames,ok.stk,ok.exf,ok.bs,ok.bsz,ok.noex,ok.exfs,ok.funs,ok.frf⟩
section
variable{X:Cx}{pins:List (cG×Obj)}{σ:St}{H:Hp}{s:cD}
theorem Inv.hold(I:Inv X pins σ H s)(a:cG):Inv (X.hold a) pins σ H s:=⟨I.ok.hold a,I.os,I.bare,I.base,I.loc,I.cell,I.free,I.freeC,I.pin,I.hok,I.len⟩
theorem Inv.unhold{a:cG}(ok:X.Ok)(I:Inv (X.hold a) pins σ H s):Inv X pins σ H s:=⟨ok,I.os,I.bare,I.base,I.loc,I.cell,I.free,I.freeC,I.pin,I.hok,I.len⟩
end
def MI(X:Cx)(e:Expr)(t:XK->TE):Prop:=∀(pins:List (cG×Obj)) (s:cD) (σ:St) (H:Hp) (Q:VK) (E:XK) (xe:cA->cD->Prop),Inv X pins σ H s->
 (∀H1 s1 e' s',Inv X pins σ H1 s1->FD X.prog X.w X.stack H1 s1 E e' s'->xe e' s')->t E σ H Q->wpAny (model X.prog X.w) X.A (eval e X.env) (EP X pins σ Q) xe s
def MB(X:Cx)(sts:List Stmt)(t:XK->TS):Prop:=∀(pins:List (cG×Obj)) (s:cD) (σ:St) (H:Hp) (D:Gs) (E:XK) (xe:cA->cD->Prop),Inv X pins σ H s->
 (∀H1 s1 e' s',Inv X pins σ H1 s1->FD X.prog X.w X.stack H1 s1 E e' s'->xe e' s')->t E D σ H->wpAny (model X.prog X.w) X.A (execs sts X.env) (SP X pins D) xe s
section
variable{X:Cx}
theorem C5{e:Expr}{te:XK->TE}{pos:Pos}(he:MI X e te)(hs:swapsWith e none pos.line X.env=pure false:=by rfl):MB X [.Expr e pos] (λE=>Kn (te E)):=by
 intro a s b H D E j I l h;refine kU (gj (Q:=SP X a D) (oK (Ej (he a s b H _ E j I l h) λv k ⟨x,d,g,m,c⟩=>⟨b,d,g,c⟩) I.quiet hs) (λf k q=>?_) λ_ _ z=>z)
 cases f with
 | next=>exact io q
 | ret v=>exact q
 | brk=>exact q
 | cont=>exact q
end
section
variable{P:cT}{w:dc}{K:cu}{mg:Str->Option cA}{base:Heap}
theorem Def.okE{x:Str}{st:Stmt}{N ps:List Str}{k:Nat}{sp:Sp}(F:Def K mg x st)(S:Eb N ps (D8 st))(len:∀vs H Q E,sp vs H Q E->vs.length=ps.length)
  (hb:∀(kV doc pm:cA) (an:Option cG) (cdv ct:cA) (us:List cA),us.length=ps.length->bindArgs (f9 x x (Ek st) (Eg st) (D8 st) .none kV doc pm an cdv ct) ⟨us,[]⟩=pure (ps.zip us))
  (hbody:∀(f:cG) (cdv:cA) (A:dw) (outer:List Env) (s:cD) (H:Hp) (vs:List V) (Q:VK) (E:XK),Room k (A.deeper (envOfC x (D8 st) s.heap.objs.size f cdv))->sp vs H Q E->
   ∃t,PSs (HV P w K mg base N x (D8 st) f cdv A outer s H E) (Eg st) t/\t {nx:=λ_ H'=>Q .non H',rt:=Q} (start N vs) H):Dn P w K mg base (FD P w) (k+1) x ps sp:=by
 obtain⟨f,j,F,m⟩:=F
 have a:=F.binds hb
 have d:=F.kp
 obtain⟨l,h,kV,doc,pm,an,cdv,ct,g,rfl,lk,b⟩:=F.ex
 exact⟨f,_,BR lk b S len λA outer s H vs Q E e c=>hbody f cdv A outer s H vs Q E e c,m,d,a⟩
theorem FJ{X:Cx}:ED (FD X.prog X.w) X E0:=λ_ _ _ _ _ _ _ ⟨_,_,_,_,_,_,_,z⟩=>z.elim
end
structure Xs where
 WishError:cG
 NoFraction:cG
 NoWishes:cG
 NoTable:cG
 NoPick:cG
 NoOrder:cG
 NoRoll:cG
 NoPerson:cG
 Unready:cG
 NoWay:cG
def EF(x:Xs):Sp:=λvs H Q E=>∃t b:Int,vs=[.int t,.int b]/\(b=0->E (.ref x.NoFraction) none H)/\(b≠0->b.natAbs<2^9000/\∀p H',Same H H'->H' p=some (JN (FQ.red t b))->Q (.ref p) H')
def GL(K:cu):Sp:=λvs H Q _=>∃a b x y,vs=[.ref a,.ref b]/\SqT K H a [.int x.1,.int x.2]/\SqT K H b [.int y.1,.int y.2]/\Sz 4000 x/\Sz 4000 y/\Q (.bl (decide (x.1*y.2<y.1*x.2))) H
theorem Sz.up{m n:Nat}{p:Int×Int}(h:Sz m p)(hmn:m<=n):Sz n p:=⟨vy h.1 hmn,vy h.2.1 hmn,h.2.2⟩
theorem Cj{a b:Int}{m:Nat}(h1:a.natAbs<2^m)(h2:b.natAbs<2^m):(a+b).natAbs<2^(m+1):=by
 have:=Int.natAbs_add_le a b;rw[qe];omega
section
variable{X:Cx}
theorem C9{xs:List V}{us:List cA}(r:Vals xs us){i:Nat}{u:cA}(h:us[i]?=some u):∃x,xs[i]?=some x/\RelV x u:=by
 have b:=r.length;have a:i<us.length:=(cL.mp h).1;have e:xs[i]?=some xs[i]:=by simp[show i<xs.length by omega]
 obtain⟨c,h1,h2⟩:=r.get e;rw[h]at h1
 cases h1;exact⟨_,e,h2⟩
theorem yq(hc:X.calm=true):EJ X (.builtin "all") (λxs H Q=>∃(p:cG) (bs:List Bool),xs=[.ref p]/\SqL X.K H p (bs.map V.bl)/\Q (.bl (bs.all id)) H):=by
 intro C s G H xs J Q I r h;obtain⟨p,bs,rfl,D,q⟩:=h;obtain⟨u,rfl,l⟩:=EU r
 cases(show u=cR p from l);obtain⟨c,z,m,F⟩:=I.list D;have t:=z.length;rw[cx]at t;have hp:p<s.heap.objs.size:=by obtain⟨_,e,_⟩:=m.isList;exact cQ e
 have y:TruthOf X.prog X.w X.A.in1 (λi v=>c.toArray[i]?=some v) (λi=>bs.getD i false):=λi v s Q E k j=>by
  dsimp only at k j;rw[jD]at k;obtain⟨x,a,l⟩:=C9 z k;rw[cH]at a
  cases g:bs[i]? with
  | none=>rw[g]at a;cases a
  | some b=>
   rw[g]at a
   cases a
   cases(show v=er b from l);have e:bs.getD i false=b:=by simp[cC,g]
   rw[e]at j;exact cv j
 refine call_all_walk (iC m.isList ⟨s.heap.objs.size,_,_,_,_,_,_,rfl,oP (A:=X.A.in1) (I.ok.hd hc) s.heap.objs.size p (df hp) c.toArray,⟨⟨_,cN _ rfl,rfl,rfl⟩,m.isList.push _⟩,y,λL tk hk=>?_⟩);have e:(db c.toArray.size).all (λi=>bs.getD i false)=bs.all id:=by
  rw[cX,<-t];apply gx.mpr;rw[dZ,dZ];constructor
  ·intro h x a;obtain⟨i,d,rfl⟩:=eO.mp a;have:=h i (dY.mpr d);simpa [d]using this
  ·intro h i d;have f:=dY.mp d;have:=h bs[i] (cW f);simpa [f]using this
 rw[e];refine⟨.bl _,H,I.kept λb o n=>hk b o (λB=>?_) (cF _ n),rfl,q⟩;rw[cK]at B;subst B;exact absurd (cQ n) (dt _)
theorem u4{ns:List Int}:∀{vs:List cA},Vals (ns.map V.int) vs->IntsAre vs ns:=by
 induction ns with
 | nil=>intro vs r;cases r;exact .nil
 | cons n ns a=>
  intro vs r
  cases r with
  | cons r b=>
   obtain⟨t,rfl⟩:=(show ∃t,_=dX n t from r);exact .cons _ _ (a b)
theorem vM{prog:cT}{w:dc}{A:dw}{E:cA->cD->Prop}{s:cD}{l:cG}{vs:List cA}{Q:List cA->cD->Prop}(ht:IsTup s.heap l vs.toArray)(hsz:vs.length<=sizeLine)
  (h:Q vs {s with heap:=(s.heap.push (seqObj "list" #[] 0)).update s.heap.objs.size (d2 (· ++ vs.toArray))}):wpAny (model prog w) A (collect (.ref l)) Q E s:=by
 obtain⟨o,d,c,n,f⟩:=ht
 have b:(s.heap.push (seqObj "list" #[] 0)).get? l=some o:=cF _ d
 have a:(s.heap.push (seqObj "list" #[] 0)).get? s.heap.objs.size=some (seqObj "list" #[] 0):=cN _ rfl
 unfold collect
 refine cr (kd (eY lP ?_))
 change wpAny _ _ (do again (.builtin "list.__iadd__" ⟨[<-newList [],.ref l],[]⟩)) _ _ s
 refine cr (ja (cv ⟨ii _ (by decide +kernel),eY ny ?_⟩))
 change wpAny _ _ (f5 (.ref s.heap.objs.size) (.ref l) (.ref s.heap.objs.size)) _ _ {s with heap:=s.heap.push (seqObj "list" #[] 0)}
 unfold f5
 refine cr (ij (T:="tuple") ⟨o,b,c⟩ ?_)
 rw[if_pos (by rw[show(dL "tuple"==dL "tuple")=true from rfl];simp)]
 refine cr (qf b f ?_)
 refine cr (qf (xs:= #[]) (n:=0) a rfl ?_)
 rw[if_neg (by simp)]
 refine cr (ix (xs:= #[]) (n:=0) a rfl ?_ (du _) (by change (#[]++vs.toArray).size<=sizeLine+1;simp only[Array.size_append,cX,jU];omega))
 refine cv ?_
 change wpAny (model prog w) A (do
   let o<-load s.heap.objs.size
   match o.data with
   | .seq xs _=>pure xs.toList
   | _=>unsupported "internal:collect") Q E {s with heap:=(s.heap.push (seqObj "list" #[] 0)).update s.heap.objs.size (d2 (· ++ vs.toArray))}
 refine cr (wpAny_load (get?_update_seq a _) ?_)
 change wpAny _ _ (pure ((#[]:Array cA)++vs.toArray).toList) Q E _
 have e:((#[]:Array cA)++vs.toArray).toList=vs:=by simp
 rw[e]
 exact cv h
theorem zx{prog:cT}{w:dc}{A:dw}{E:cA->cD->Prop}{s:cD}{l:cG}{vs:List cA}{ns:List Int}{Q:cA->cD->Prop}(ht:IsTup s.heap l vs.toArray)(hI:IntsAre vs ns)(h64:vs.length<64)
  (h:∀(out:Array cA) (ns':List Int),IntsAre out.toList ns'->ns'.Perm ns->ns'.Pairwise (· <= ·)->Q (.ref (s.heap.objs.size+1)) {s with heap:=sortedAll s.heap vs out}):
  wpAny (model prog w) A (call (.builtin "sorted") [.ref l]) Q E s:=by
 have a:((s.heap.push (seqObj "list" #[] 0)).update s.heap.objs.size (d2 (· ++ vs.toArray))).objs.size=s.heap.objs.size+1:=by rw[nX,lw]
 have b:(((s.heap.push (seqObj "list" #[] 0)).update s.heap.objs.size (d2 (· ++ vs.toArray))).push (seqObj "list" vs.toArray 0)).get? (s.heap.objs.size+1)=some (seqObj "list" vs.toArray 0):=by
  rw[<-a];exact cN _ rfl
 refine gP oo nA nB (nC _) ?_
 unfold Builtin.«sorted»
 refine cr (m:=checkCount "sorted" 1 1 _) (cv ?_)
 have f:vs.length<=sizeLine:=dB (D9 (by omega))
 refine cr (vM ht f (cr (ja ?_)))
 change wpAny _ _ _ _ _ {s with heap:=((s.heap.push (seqObj "list" #[] 0)).update s.heap.objs.size (d2 (· ++ vs.toArray))).push (seqObj "list" vs.toArray 0)}
 rw[a]
 refine cr (dG (dR l5 ⟨_,b,rfl⟩ lI (oQ b hI h64 λout ns' c e d=>⟨_,rfl,?_⟩) (l8 _)))
 exact cv ⟨_,rfl,h out ns' c e d⟩
theorem xX:EJ X (.builtin "sorted") (λxs H Q=>∃(p:cG) (ns:List Int),xs=[.ref p]/\(SqL X.K H p (ns.map V.int)\/SqT X.K H p (ns.map V.int))/\ns.length<64/\∀(l:cG) (ns':List Int),H l=none->ns'.Perm ns->ns'.Pairwise (· <= ·)->Q (.ref l) (upd H l (.lst (ns'.map V.int)))):=by
 intro g s t H xs C Q I r h;obtain⟨p,ns,rfl,f,B,q⟩:=h;obtain⟨u,rfl,A⟩:=EU r
 cases(show u=cR p from A);have fin:∀(a:List cA),Vals (ns.map V.int) a->∀(c:Array cA) (ns':List Int),IntsAre c.toList ns'->ns'.Perm ns->ns'.Pairwise (· <= ·)->EP X g t Q (.ref (s.heap.objs.size+1)) {s with heap:=sortedAll s.heap a c}:=λa d c ns' x m y=>by
  obtain⟨e,v⟩:=qg s.heap a c;refine⟨.ref (s.heap.objs.size+1),_,I.laid (t':=s.toks) (λb o z=>pN z) (ec _) (show ObjOk X.prog X.w _ _ _ (.lst (ns'.map V.int))from⟨?_,c.toList,e,uq x,by rw[v]⟩),rfl,q _ ns' (I.hok.fresh (ec _)) m y⟩;rw[cx,m.length_eq];exact dB (D9 (by omega))
 rcases f with f|f
 ·obtain⟨a,d,k,n⟩:=I.list f;have j:=d.length;rw[cx]at j;exact sorted_ints k.isList (u4 d) (by omega) (fin a d)
 ·obtain⟨a,d,k,n⟩:=I.tuple f;have j:=d.length;rw[cx]at j;exact zx k (u4 d) (by omega) (fin a d)
theorem ze{pins:List (cG×Obj)}{σ:St}{H:Hp}{s:cD}{A:dw}{E:cA->cD->Prop}{Q:cA->cD->Prop}{tp:cG}{dd:Option cG}{its:List cA}{n:Nat}{sl:Array (Option cA)}{b:Bool}{x:V}{u:cA}{t:String}(I:Inv X pins σ H s)(rx:RelV x u)(ty:tyOf X.K H x t)
  (htp:s.heap.get? tp=some ⟨.type "tuple",dd,.seq its.toArray n,sl⟩)(e:oR X.K (.type t) its=some b)(h:∀tk,Q (.bool b) {s with toks:=tk}):wpAny (model X.prog X.w) A (call (.builtin "isinstance") [u,.ref tp]) Q E s:=by
 cases x with
 | non=>cases(show u=cA.none from rx);cases(show t="NoneType"from ty);exact ir nq I.kIn True.intro htp e (λz=>nomatch z) h
 | bl y=>cases(show u=er y from rx);cases(show t="bool"from ty);exact ir nr I.kIn True.intro htp e (λz=>nomatch z) h
 | int i=>obtain⟨tk,q⟩:=(show ∃t,u=dX i t from rx);cases q;cases(show t="int"from ty);exact ir nU I.kIn True.intro htp e (λz=>nomatch z) h
 | str y=>obtain⟨tk,q⟩:=(show ∃t,u=iw y t from rx);cases q;cases(show t="str"from ty);exact ir nV I.kIn True.intro htp e (λz=>nomatch z) h
 | ref a=>
  cases(show u=cR a from rx)
  rcases ty with⟨rfl,f,c⟩|⟨rfl,f,c⟩
  ·obtain⟨d,_,⟨o,g,h1,h2,_⟩,_⟩:=I.list c
   exact ir nt I.kIn ⟨o,h1,h2⟩ htp e (λz=>nomatch z) h
  ·obtain⟨d,_,⟨o,h1,h2,_⟩,_⟩:=I.tuple c
   exact ir mP I.kIn ⟨o,h1,h2⟩ htp e (λz=>nomatch z) h
 | byt _=>exact ty.elim
 | flt _=>exact ty.elim
 | ty _=>exact ty.elim
theorem z9:EJ X (.builtin "isinstance") (λxs H Q=>∃x p t,xs=[x,.ref p]/\SqT X.K H p [.ty "list",.ty "tuple"]/\tyOf X.K H x t/\Q (.bl (Go t "list"||Go t "tuple")) H):=by
 intro d s C H xs D Q I r h;obtain⟨x,p,t,rfl,g,ty,q⟩:=h;obtain⟨u,f,rfl,v,k⟩:=Je r
 cases(show f=cR p from k);obtain⟨c,y,⟨o,h1,h2,n,h3⟩,_⟩:=I.tuple g;have e:c=[dL "list",dL "tuple"]:=by
  cases y with
  | cons m a=>
   cases a with
   | cons w a=>
    cases a
    cases(show _=dL "list"from m)
    cases(show _=dL "tuple"from w);rfl
 subst e;obtain⟨E,B,z,A⟩:=o;dsimp only at h2 h3;subst h2 h3;refine ze I v ty h1 (b:=Go t "list"||Go t "tuple") ?_ λtk=>⟨.bl _,H,I.tok tk,rfl,q⟩
 have j:=AN (K:=X.K) (T:="list") (vx ty) (by decide);have l:=AN (K:=X.K) (T:="tuple") (vx ty) (by decide);simp only[oR,j,l]
 cases Go t "list" <;> cases Go t "tuple" <;> rfl
end
mutual
theorem Bo:∀(n:Nat) (d:iO),F9 n d=true->d.canLay0=true/\d.depth<=n
 | _,.none,_=>by simp[iP,iZ]
 | _,.bool _,_=>by simp[iP,iZ]
 | _,.int _,_=>by simp[iP,iZ]
 | n,.str x,h=>by
  have a:ga (.str x)=true:=by cases n <;> simpa [F9]using h
  exact⟨SeqAt.canLay_of_shaped a,by simp[iZ]⟩
 | n+1,.tuple ds,h=>by
  have:=wJ n ds (by simpa [F9]using h)
  simp[iP,iZ,this]
 | n+1,.list ds,h=>by
  have:=wJ n ds (by simpa [F9]using h)
  simp[iP,iZ,this]
 | 0,.tuple _,h=>by simp[F9]at h
 | 0,.list _,h=>by simp[F9]at h
 | 0,.dict _,h=>by simp[F9]at h
 | _+1,.dict _,h=>by simp[F9]at h
theorem wJ:∀(n:Nat) (ds:List iO),(∀d∈ds,F9 n d=true)->kB ds=true/\lJ ds<=n
 | n,[],_=>by simp[kB,lJ]
 | n,d::ds,h=>by
  have h1:=Bo n d (h d cM)
  have h2:=wJ n ds λx a=>h x (cO _ a)
  simp only[kB,lJ,h1.1,h2.1,Bool.and_self,true_and]
  omega
end
theorem vE{n:Nat}{d:iO}(h:F9 n d=true)(hn:n<=64):ga d=true:=by
 have:=Bo n d h;unfold ga;rw[this.1];simp;omega
theorem tyOf.mono{K:cu}{H H':Hp}{x:V}{t:String}(e:Same H H')(h:tyOf K H x t):tyOf K H' x t:=by
 cases x with
 | ref a=>
  rcases h with⟨h1,c,b⟩|⟨h1,c,b⟩
  ·exact .inl ⟨h1,c,e.seq b⟩
  ·exact .inr ⟨h1,c,e.tup b⟩
 | non=>exact h
 | bl _=>exact h
 | int _=>exact h
 | str _=>exact h
 | byt _=>exact h
 | flt _=>exact h
 | ty _=>exact h
theorem DN{X:Cx}{tg l:Expr}{tl:TE}(hl:PE X l tl):PI X tg l (λσ H R=>Ko X.K tl σ H R\/Lk X.K tl σ H R):=by
 intro a s σ H R I h;rcases h with h|h
 ·exact sS hl a s σ H R I h
 ·exact uG hl a s σ H R I h
section
variable{X:Cx}{K:cu}
theorem w4(h:X.K=K):EJ X (.type "list") (λxs H Q=>∃p ys,xs=[.ref p]/\(SqL K H p ys\/SqT K H p ys)/\∀l,H l=none->Q (.ref l) (upd H l (.lst ys))):=by subst h;exact sO
theorem sU(h:X.K=K):IxR X (KO K):=by subst h;exact rL
theorem tY(h:X.K=K):IxR X (KI K):=by subst h;exact sk
theorem ux(h:X.K=K):EJ X (.builtin "len") (λxs H Q=>∃p ys,xs=[.ref p]/\(SqL K H p ys\/SqT K H p ys)/\Q (.int ys.length) H):=by subst h;exact rP
theorem CH{k:Nat}(h:X.K=K)(hr:Room k X.A):Fo X (compareOp .Eq) (Lb K):=by subst h;exact yn hr
theorem As{k:Nat}(h:X.K=K)(hr:Room k X.A):Fo X (compareOp .NotEq) (Lv K):=by subst h;exact xj hr
theorem uC(h:X.K=K):Fo X (compareOp .NotIn) (Mz K true):=by subst h;exact tZ
theorem uY{x:Str}{xs:List V}{pos:Pos}(e:X.K=K)(h:JV K X.mg x xs)(hg:Gl X x:=by rfl)(hd:(x==("__debug__":Str))=false:=by decide):PE X (.Name x pos) (Kg K xs):=by subst e;exact tW h hg hd
end
end L2
namespace LM
def rng(n:Nat):List Int:=(db n).map hV
theorem rng_len(n:Nat):(rng n).length=n:=by simp[rng]
theorem mem_rng{n:Nat}{x:Int}:x∈rng n↔0<=x/\x<n:=by
 unfold rng;simp only[dv,dY];constructor
 ·rintro⟨a,h,rfl⟩;simp;omega
 ·rintro⟨h0,h1⟩;exact⟨x.toNat,by omega,by simp;omega⟩
theorem zE(n:Nat):(rng n).Pairwise (· <= ·):=by
 unfold rng;rw[jt];refine nD ?_ (lx (n:=n));intro a b h;simp;omega
theorem rng_nodup(n:Nat):(rng n).Nodup:=by
 unfold rng;rw[List.nodup_iff_pairwise_ne,jt];refine nD ?_ (lx (n:=n));intro a b h z;have:a=b:=hV.inj z;omega
theorem yf{a b r:List Int}(ha:a.Perm r)(hs:a.Pairwise (· <= ·))(hr:r.Pairwise (· <= ·)):a=r:=
 kM (λx y _ _ h1 h2=>Int.le_antisymm h1 h2) hs hr ha
end LM
namespace L2
open PySem PySem.Spec PyProof.Rows
def He(K:cu):Sp:=λvs H Q _=>∃v t,vs=[v]/\tyOf K H v t/\∀H',Same H H'->Q (.bl (Go t "list"||Go t "tuple")) H'
def HX(K:cu):Sp:=λvs H Q _=>∃a us,vs=[.ref a]/\(SqL K H a us\/SqT K H a us)/\∀H',Same H H'->Q (.bl (decide (1<=us.length/\us.length<=6))) H'
theorem SqL.over{K:cu}{H:Hp}{a p:cG}{o:HO}{xs:List V}(h:SqL K H a xs)(hne:a≠p):SqL K (upd H p o) a xs:=by
 rcases h with(h|⟨u,h⟩)|h
 ·exact .inl (.inl (by rw[rH hne];exact h))
 ·exact .inl (.inr ⟨u,by rw[rH hne];exact h⟩)
 ·exact .inr h
def fr(T:Int)(m:List Int):List (Int×Int):=m.map λx=>FQ.red x T
def RwFT(K:cu)(H:Hp)(T:Int)(v:V)(m:List Int):Prop:=∃a gs,v = .ref a/\SqT K H a gs/\dr (IsF K H) gs (fr T m)
theorem rQ{K:cu}{H H':Hp}{gs:List V}{ps:List (Int×Int)}(e:Same H H')(h:dr (IsF K H) gs ps):dr (IsF K H') gs ps:=Paired.mapP h λ_ _ q=>q.mono e
theorem RwFT.mono{K:cu}{H H':Hp}{T:Int}{v:V}{m:List Int}(e:Same H H')(h:RwFT K H T v m):RwFT K H' T v m:=by
 obtain⟨a,b,rfl,q,c⟩:=h;exact⟨a,b,rfl,e.tup q,rQ e c⟩
end L2
namespace LN
open LM
def Pm(n:Nat)(l:List Int):Prop:=l.Perm (rng n)
theorem Pm.len{n:Nat}{l:List Int}(h:Pm n l):l.length=n:=by rw[qT h,rng_len]
theorem Pm.mem{n:Nat}{l:List Int}(h:Pm n l){x:Int}:x∈l↔0<=x/\x<n:=by rw[rd h];exact mem_rng
theorem Pm.nodup{n:Nat}{l:List Int}(h:Pm n l):l.Nodup:=(qV h).mpr (rng_nodup n)
theorem findSome_snoc{α:Type}{f:Nat->Option α}{i:Nat}(h:(db i).findSome? f=none):(db (i+1)).findSome? f=f i:=by
 rw[gf,lQ,h];simp
theorem findSome_up{α:Type}{f:Nat->Option α}{i n:Nat}{r:α}(h:(db i).findSome? f=some r)(hn:i<=n):(db n).findSome? f=some r:=by
 have e:db n=db i++(db (n-i)).map (i + ·):=by
  rw[<-List.range_add]
  congr 1
  omega
 rw[e,lQ,h];rfl
end LN
namespace L2
open PySem PySem.Spec PyProof.Rows
section
variable{X:Cx}{pins:List (cG×Obj)}{σ:St}{H:Hp}{s:cD}{h':Heap}
theorem Inv.turnedL{t':Nat}{fp:List cG}(I:Inv X pins σ H s)(k:∀b o,b∉fp->s.heap.get? b=some o->h'.get? b=some o)(hf:∀b∈fp,Gc X pins H b):Inv X pins σ H {s with heap:=h',toks:=t'}:=by
 have d:∀b u,H b=some u->b∉fp:=λb u e z=>by rw[(hf b z).1]at e;cases e
 refine I.step (g':=s.gens) (d':=s.drawn) (ch:=fp) (λb g=>?_) (λb o _ _ a e _=>k b o a e) (λb o _ _ a e _=>⟨o.slots,k b o a e⟩) (λ_ _ _ _ n=>n)
  (λb o a e=>⟨o,k b o a e⟩) (λ_ _ e=>e) (λ_ _ _ e=>e) (λb y e=>⟨#[],by rw[e];simp⟩) (λm x=>?_) (λb u e=>?_) I.bare
 ·obtain⟨B,f,A,j,l,w⟩:=hf b g;exact⟨j,f,l,w⟩
 ·obtain⟨o,t,p,h,r⟩:=x;exact⟨o,t,p,k _ o (λz=>(hf _ z).2.1 rfl) h,r⟩
 ·refine(I.hok b u e).stay (λc v a q=>k c v ?_ q) (λ_ q=>q) λ_ _ q=>q
  rcases a with z|z
  ·rw[z];exact d b u e
  ·exact d c _ z
theorem tD{h:Heap}{o u:Obj}{b:cG}(e:(h.push o).get? b=some u)(ho:o.isFreed=false):h.get? b=some u\/(b=h.objs.size/\u=o):=by
 rcases iE b h.objs.size with q|q|q
 ·left
  cases a:h.get? b with
  | some f=>rw[cF _ a]at e;exact e
  | none=>
   exfalso;unfold Heap.get? at a e;unfold k9 at e;simp only[Array.getElem?_push]at e;rw[if_neg (by omega)]at e;rw[a]at e
   cases e
 ·right
  subst q;rw[cN _ ho]at e
  cases e;exact⟨rfl,rfl⟩
 ·exfalso;have d:(h.push o).objs.size=h.objs.size+1:=by unfold k9;simp
  have c:b<h.objs.size+1:=by rw[<-d];exact cQ e
  exact dt _ (cU q (Nat.le_of_lt_succ c))
def KJ(K:cu)(a:cG):It:=
 ⟨λi H=>∃xs x,SqL K H a xs/\xs[i]?=some x,λi H x H'=>∃y t,(∀xs,SqL K H a xs->xs[i]?=some y)/\x = .ref t/\H t=none/\H'=upd H t (.tup [.int i,y]),λi H=>∃xs,SqL K H a xs/\xs.length<=i⟩
theorem z5{P:cT}{w:dc}{K:cu}{elts:List Expr}{x1:Nat}{pos:Pos}(a it e:cG)(hne:e≠it):HW P w K (.Tuple elts x1 pos) (KJ K a) [e,it] e (λi h=>(∃old,IsEnum h e it i old)/\h.IsListIter it a i) where
 mem:=by simp
 obj:=λi h st b f=>by
  obtain⟨⟨old,j⟩,o,l,c,d⟩:=st
  rcases cZ.mp f with z|z
  ·subst z
   exact⟨_,j,λv z=>by cases z⟩
  ·have e:=cK.mp z
   subst e
   exact⟨o,l,λv z=>by rw[d]at z;cases z⟩
 keep:=λi h n st k=>by
  obtain⟨⟨old,j⟩,l⟩:=st
  exact⟨⟨old,k e (by simp) _ j⟩,l.at λo q=>k it (by simp) o q⟩
 item:=by
  intro X D y B N i g s r H E I A st F
  subst D y B
  obtain⟨xs,x,t,C⟩:=F
  obtain⟨L,G,p,R⟩:=I.list t
  obtain⟨u,hu,ru⟩:=G.get C
  obtain⟨⟨old,j⟩,l⟩:=st
  refine wpAny_pyNext_enum_item j l p.isList (x:=u) (by simpa using hu) hne λn so Q S aa Y=>?_
  have J:∀b o,s.heap.get? b=some o->b≠s.heap.objs.size:=λb o q=>df (cQ q)
  have Z:e≠s.heap.objs.size:=J _ _ j
  have li:it≠s.heap.objs.size:=by obtain⟨o,q,_⟩:=l;exact J _ _ q
  have hn:H s.heap.objs.size=none:=I.hok.fresh (cI _)
  have I0:Inv X g r (upd H s.heap.objs.size (.tup [.int i,x])) {s with heap:=s.heap.push {cls:= .type "tuple",data:= .seq #[.int i s.toks,u]},toks:=s.toks}:=
   I.laid (t':=s.toks) (λb o q=>cF _ q) (cI _) ⟨by show 2<=sizeLine;decide,[.int i s.toks,u],.cons ⟨_,rfl⟩ (.cons ru .nil),⟨_,cN _ rfl,rfl,_,rfl⟩⟩
  have m:∀b∈[e,it],Gc X g (upd H s.heap.objs.size (.tup [.int i,x])) b:=λb f=>by
   have q:=A b f
   refine⟨?_,q.2⟩
   have O:b≠s.heap.objs.size:=by
    rcases cZ.mp f with z|z
    ·rw[z];exact Z
    ·rw[cK.mp z];exact li
   rw[rH O]
   exact q.1
  have I1:Inv X g r (upd H s.heap.objs.size (.tup [.int i,x])) {s with heap:=n,toks:=s.toks+1}:=
   Inv.turnedL (s:={s with heap:=s.heap.push {cls:= .type "tuple",data:= .seq #[.int i s.toks,u]},toks:=s.toks}) I0 (fp:=[e,it]) (t':=s.toks+1) (λb o f q=>by
    rcases tD q rfl with q|⟨rfl,rfl⟩
    ·exact Y b o (λz=>f (by simp[z])) (λz=>f (by simp[z])) q
    ·exact S) m
  refine⟨_,rfl,wpAny_letOwnedTupleGo_enum (s:={s with heap:=n,toks:=s.toks+1}) so λh2 U M=>?_⟩
  have T:Inv X g r (upd H s.heap.objs.size (.tup [.int i,x])) {s with heap:=h2,toks:=s.toks+1}:=
   Inv.turnedL (s:={s with heap:=n,toks:=s.toks+1}) I1 (fp:=[e,it]) (t':=s.toks+1) (λb o f q=>(M.2 b (λz=>f (by simp[z]))).trans q) m
  refine⟨.ref s.heap.objs.size,_,T,rfl,⟨x,_,λys V=>by rw[I.list_inj V t];exact C,rfl,hn,rfl⟩,⟨⟨_,U⟩,Q.at λo q=>(M.2 it (Ne.symm hne)).trans q⟩,λb f=>(m b f).1⟩
 done:=by
  intro X D y B N i g s r H E I A st F
  subst D y B
  obtain⟨xs,t,C⟩:=F
  obtain⟨L,G,p,R⟩:=I.list t
  obtain⟨⟨old,j⟩,l⟩:=st
  have hl:=G.length
  exact wpAny_pyNext_enum_end (I.ok.hd N) j l p.isList (by simp;omega) λn eb=>⟨rfl,I.turnedL (fp:=[e,it]) (t':=s.toks) (λb o f q=>eb b o (λz=>f (by simp[z])) q) A⟩
 self:=λ_ _ _ _ _ st h=>by
  obtain⟨⟨old,j⟩,l⟩:=st
  exact nE j h
def K7(K:cu)(ta:TA):TI:=λσ H R=>ta σ H λvs H1=>∃a,vs=[.ref a]/\(∃xs,SqL K H1 a xs)/\R (KJ K a) H1
theorem Ai{elts:List Expr}{x1:Nat}{tpos:Pos}{a:Expr}{ta:TA}{p pos:Pos}(hg:Gl X "enumerate")(hm:X.mg "enumerate"=none)(ha:PA X [a] ta)(hs:dh [a] X.env=[(false,eval a X.env)]:=by rfl):
  PI X (.Tuple elts x1 tpos) (.Call (.Name "enumerate" p) [a] [] pos) (K7 X.K ta):=by
 intro d s g H R I h
 refine rc (tI I hg hm oH (d7 (Ej (ha pos d s g H _ I h) λE f ⟨vs,k,c,x,w⟩=>?_) hs rfl))
 obtain⟨l,e,⟨F,v⟩,q⟩:=w
 subst e
 cases x with
 | cons r y=>
  cases y
  cases r
  obtain⟨B,G,A,D⟩:=c.list v
  refine call_enumerate_list A.isList λm j n C u=>?_
  refine nE (s:={f with heap:=m}) j ?_
  have t:Inv X d g k {f with heap:=m}:=c.kept (t':=f.toks) u
  refine⟨_,[f.heap.objs.size+1,f.heap.objs.size],_,_,k,rfl,t,z5 l _ _ (Nat.succ_ne_self _),⟨⟨_,j⟩,n⟩,λb o=>?_,q⟩
  rcases cZ.mp o with z|z
  ·subst z
   exact c.fpOk (ec _) (c.hok.fresh (ec _))
  ·rw[cK.mp z]
   exact c.fpOk (cI _) (c.hok.fresh (cI _))
end
section
variable{X:Cx}{K:cu}
theorem wQ{es:List Expr}{k:Nat}{pos:Pos}{t:JR}(hK:X.K=K)(n:Nat)(hc:X.calm=true)(h:LL X es t)(hn:(assignEach es X.env).length=n:=by rfl)(hst:(assignEach es X.env).findIdx? (·.1)=none:=by rfl):
  PG X (.Tuple es k pos) (Ky K n t):=by subst hK;exact yQ hc h hn hst
theorem Cv{T:String}{name:Str}{id:String}{r:V->List V->Hp->VK->Prop}{o e:Expr}{es:List Expr}{apos cpos:Pos}{to:TE}{t:TA}(hK:X.K=K)(pa:PlainAttrs T)(slot:Slot T name id)(hty:typeOf (.builtin id)=pure (.type "method_descriptor"))(hm:KT X id r)(ho:PE X o to)(ha:PA X (e::es) t)
  (hbase:attributeBase o name X.env (eval o X.env)=eval o X.env:=by rfl)
  (hfew:((backTo cpos (dh (e::es) X.env)).all (λx=>!x.1)&&(backToKw cpos (keywordEach [] X.env)).all (λx=>x.1.isSome)
   && decide ((e::es).length+([]:List Keyword).length+(if([]:List Keyword).isEmpty then 0 else 1)<30))=true:=by rfl)
  (hline:(apos.endLine==cpos.line)=true:=by rfl)(hs:dh (e::es) X.env=(false,eval e X.env)::dh es X.env:=by rfl)(hplain:(backTo cpos (dh es X.env)).any (·.1)=false:=by rfl):
  PE X (.Call (.Attribute o name apos) (e::es) [] cpos) (MF K T r to t):=by subst hK;exact uI pa slot hty hm ho ha hbase hfew hline hs hplain
end
theorem BU{K:cu}{a:cG}{xs:List V}{g:TG}{tb:TS}{D:Gs}{σ:St}{H:Hp}(Pv:Nat->St->Hp->Prop)(h0:Pv 0 σ H)(hl:∀i σ H,i<=xs.length->Pv i σ H->SqL K H a xs)
  (hs:∀i x σ H t,xs[i]?=some x->H t=none->Pv i σ H->g (.ref t) σ (upd H t (.tup [.int i,x])) λσ2 H2=>tb {D with nx:=Pv (i+1),ct:=Pv (i+1),bk:=D.nx} σ2 H2)(hd:∀σ H,Pv xs.length σ H->D.nx σ H):
  ∃W:Nat->Nat->St->Hp->Prop,(∃m,W 0 m σ H)/\∀i m σ H,W i m σ H->
   ((KJ K a).stop i H/\D.nx σ H)\/((KJ K a).go i H/\∃N:St->Hp->Prop,(∀σ' H',N σ' H'->∃m',m'<m/\W (i+1) m' σ' H')/\∀x H',(KJ K a).yld i H x H'->g x σ H' λσ2 H2=>tb {D with nx:=N,ct:=N,bk:=D.nx} σ2 H2):=by
 refine⟨λi m σ H=>m=xs.length-i/\i<=xs.length/\Pv i σ H,⟨xs.length,by simp,du _,h0⟩,?_⟩
 rintro i m σ H ⟨rfl,c,p⟩
 have q:=hl i σ H c p
 by_cases b:i<xs.length
 ·refine .inr ⟨⟨xs,xs[i],q,by simp[b]⟩,Pv (i+1),λσ' H' d=>⟨xs.length-(i+1),by omega,rfl,b,d⟩,λx H' y=>?_⟩
  obtain⟨y,t,h1,rfl,h3,rfl⟩:=y
  exact hs i y σ H t (h1 xs q) h3 p
 ·have e:i=xs.length:=by omega
  subst e
  exact .inl ⟨⟨xs,q,cI _⟩,hd σ H p⟩
theorem zU{K:cu}{a:cG}{xs:List V}{caps:List (Option Nat)}{g:TG}{tt:TT}{te:TE}{σ:St}{QQ:List V->Hp->Prop}{H:Hp}(Pv:Nat->List V->Hp->Prop)(h0:Pv 0 [] H)
  (hl:∀i ys H,i<=xs.length->Pv i ys H->SqL K H a xs)
  (hs:∀i x ys H t,xs[i]?=some x->H t=none->Pv i ys H->g (.ref t) (E5 caps σ) (upd H t (.tup [.int i,x])) λσ2 H2=>tt σ2 H2 λb H3=>if b=true then te σ2 H3 λy H4=>ys.length<sizeLine/\Pv (i+1) (ys++[y]) H4 else Pv (i+1) ys H3)
  (hd:∀ys H,Pv xs.length ys H->QQ ys H):EC caps g tt te σ QQ (KJ K a) H:=by
 refine⟨λi m ys H=>m=xs.length-i/\i<=xs.length/\Pv i ys H,⟨xs.length,by simp,du _,h0⟩,?_⟩
 rintro i m ys H ⟨rfl,d,p⟩
 have q:=hl i ys H d p
 by_cases c:i<xs.length
 ·refine .inr ⟨⟨xs,xs[i],q,by simp[c]⟩,Pv (i+1),λj h f=>⟨xs.length-(i+1),by omega,rfl,c,f⟩,λx h y=>?_⟩
  obtain⟨y,t,h1,rfl,h3,rfl⟩:=y
  exact hs i y ys H t (h1 xs q) h3 p
 ·have e:i=xs.length:=by omega
  subst e
  exact .inl ⟨⟨xs,q,cI _⟩,hd ys H p⟩
theorem zF{K:cu}{a:cG}{xs:List V}{caps:List (Option Nat)}{g:TG}{te:TE}{σ:St}{QQ:List V->Hp->Prop}{H:Hp}(Pv:Nat->List V->Hp->Prop)(h0:Pv 0 [] H)
  (hl:∀i ys H,i<=xs.length->Pv i ys H->SqL K H a xs)
  (hs:∀i x ys H t,xs[i]?=some x->H t=none->Pv i ys H->g (.ref t) (E5 caps σ) (upd H t (.tup [.int i,x])) λσ2 H2=>te σ2 H2 λy H4=>ys.length<sizeLine/\Pv (i+1) (ys++[y]) H4)
  (hd:∀ys H,Pv xs.length ys H->QQ ys H):EC caps g FY te σ QQ (KJ K a) H:=
 zU Pv h0 hl (λi x ys H t c b p=>by simp only[tK];exact hs i x ys H t c b p) hd
def IsR(K:cu)(H:Hp)(v:V)(row:List Int):Prop:=∃a,v = .ref a/\SqT K H a (row.map V.int)
theorem IsR.mono{K:cu}{H H':Hp}{v:V}{row:List Int}(e:Same H H')(h:IsR K H v row):IsR K H' v row:=by
 obtain⟨a,rfl,q⟩:=h;exact⟨a,rfl,e.tup q⟩
def Ev(x y:Int×Int):Bool:=decide (x.1*y.2<y.1*x.2)
end L2
namespace EM
open LM
def at0(ms:List Int)(t:Int):Int:=ms.getD t.toNat 0
def best(ms:List Int)(w:List Int):Int:=(w.filter λt=>decide (at0 ms t≠0)).headD 0
def dishes(W:List (List Int))(ms:List Int):List Int:=W.map (best ms)
def cnt(ds:List Int)(t:Int):Int:=(ds.count t:Nat)
def E6(ds ms:List Int):Int->List Int->Int
 | s,[]=>s
 | s,t::r=>E6 ds ms (if at0 ms t*cnt ds s<at0 ms s*cnt ds t then t else s) r
def pick(ds ms:List Int):Int:=E6 ds ms (ds.headD 0) ds
def nextMs(ds ms:List Int):List Int:=(rng ms.length).map λj=>at0 ms j*cnt ds (pick ds ms)-cnt ds j*at0 ms (pick ds ms)
structure Course where
 m:Int
 D:Int
 ds:List Int
 gone:List Int
def goneOf(ds ms':List Int):List Int:=(rng ms'.length).filter λt=>decide (t∈ds)&&decide (at0 ms' t=0)
def FO(W:List (List Int))(D:Int)(ms:List Int):Course:=
 ⟨at0 ms (pick (dishes W ms) ms),D*cnt (dishes W ms) (pick (dishes W ms) ms),dishes W ms,goneOf (dishes W ms) (nextMs (dishes W ms) ms)⟩
def nz(ms:List Int):Nat:=((rng ms.length).filter λt=>decide (at0 ms t≠0)).length
theorem at0_mem{ms:List Int}{t:Int}(h0:0<=t)(h:t<ms.length):at0 ms t∈ms:=by
 unfold at0;have h1:t.toNat<ms.length:=by omega
 rw[cC,cz h1];exact cW h1
theorem Ar{ms w:List Int}(h:∃t∈w,at0 ms t≠0):best ms w∈w/\at0 ms (best ms w)≠0:=by
 obtain⟨t,d,f⟩:=h;have c:t∈w.filter λt=>decide (at0 ms t≠0):=d8.mpr ⟨d,decide_eq_true f⟩
 unfold best
 cases b:w.filter λt=>decide (at0 ms t≠0)with
 | nil=>rw[b]at c;cases c
 | cons a r=>
  have e:a∈w.filter λt=>decide (at0 ms t≠0):=by rw[b];exact cM
  have:=d8.mp e;exact⟨this.1,of_decide_eq_true this.2⟩
theorem xf{a b e c d f:Int}(hd:0<d)(hc:0<=c)(hf:0<=f)(h1:a*d<=b*c)(h2:b*f<=e*d):a*f<=e*c:=by
 have h3:a*d*f<=b*c*f:=e7 h1 hf;have h4:b*f*c<=e*d*c:=e7 h2 hc;refine Int.le_of_mul_le_mul_right (a:=d) ?_ hd;have g:a*f*d=a*d*f:=by rw[fW]
 have j:b*c*f=b*f*c:=by rw[fW]
 have h:e*c*d=e*d*c:=by rw[fW]
 rw[g,h];rw[j]at h3;exact nF h3 h4
theorem cnt_pos{ds:List Int}{t:Int}(h:t∈ds):0<cnt ds t:=by
 have:=List.count_pos_iff.mpr h;unfold cnt;omega
theorem cnt_nn(ds:List Int)(t:Int):0<=cnt ds t:=by unfold cnt;omega
theorem wL{ds:List Int}{t:Int}(h:t∉ds):cnt ds t=0:=by
 unfold cnt;rw[mQ.mpr h];rfl
theorem cnt_le(ds:List Int)(t:Int):cnt ds t<=ds.length:=by
 have:=List.count_le_length (a:=t) (l:=ds);unfold cnt;omega
theorem ul{ds ms:List Int}:∀(r:List Int) (s:Int),s∈ds->(∀t∈r,t∈ds)->
  E6 ds ms s r∈ds/\at0 ms (E6 ds ms s r)*cnt ds s<=at0 ms s*cnt ds (E6 ds ms s r)/\∀t∈r,at0 ms (E6 ds ms s r)*cnt ds t<=at0 ms t*cnt ds (E6 ds ms s r)
 | [],s,hs,_=>⟨hs,fE _,λt f=>by cases f⟩
 | t::r,s,hs,hr=>by
  have f:=hr t cM
  have g:∀u∈r,u∈ds:=λu e=>hr u (cO _ e)
  unfold E6
  by_cases c:at0 ms t*cnt ds s<at0 ms s*cnt ds t
  ·rw[if_pos c]
   obtain⟨a,b,d⟩:=ul (ms:=ms) r t f g
   refine⟨a,?_,λu e=>?_⟩
   ·exact xf (cnt_pos f) (cnt_nn _ _) (cnt_nn _ _) b (fq c)
   ·rcases cZ.mp e with rfl|e
    ·exact b
    ·exact d u e
  ·rw[if_neg c]
   obtain⟨a,b,d⟩:=ul (ms:=ms) r s hs g
   refine⟨a,b,λu e=>?_⟩
   rcases cZ.mp e with rfl|e
   ·exact xf (cnt_pos hs) (cnt_nn _ _) (cnt_nn _ _) b (oO.mp c)
   ·exact d u e
theorem xM{ds ms:List Int}(h:ds≠[]):pick ds ms∈ds/\∀t∈ds,at0 ms (pick ds ms)*cnt ds t<=at0 ms t*cnt ds (pick ds ms):=by
 cases ds with
 | nil=>exact absurd rfl h
 | cons a r=>
  have:=ul (ds:=a::r) (ms:=ms) (a::r) a cM λ_ h=>h
  exact⟨this.1,this.2.2⟩
theorem AX(ms:List Int):(rng ms.length).map (at0 ms)=ms:=by
 conv=>rhs;rw[<-vU ms]
 unfold rng;rw[ik];rfl
theorem Ci(ds ms:List Int):(nextMs ds ms).length=ms.length:=by
 unfold nextMs;rw[cx,rng_len]
theorem rng_get{n k:Nat}(h:k<n):(rng n)[k]?=some (k:Int):=by
 unfold rng;rw[cH,d9 h];rfl
theorem at0_next{ds ms:List Int}{t:Int}(h0:0<=t)(h:t<ms.length):at0 (nextMs ds ms) t=at0 ms t*cnt ds (pick ds ms)-cnt ds t*at0 ms (pick ds ms):=by
 have h1:t.toNat<ms.length:=by omega
 have e:((t.toNat:Nat):Int)=t:=by omega
 conv=>lhs;unfold at0 nextMs
 rw[cC,cH,rng_get h1,e];rfl
theorem sum_zero:∀{ms:List Int},(∀m∈ms,0<=m)->ms.sum=0->∀m∈ms,m=0
 | [],_,_,m,h=>by cases h
 | a::r,hn,hs,m,h=>by
  have f:=hn a cM
  have e:0<=r.sum:=by
   have:∀{r:List Int},(∀m∈r,0<=m)->0<=r.sum:=by
    intro r
    induction r with
    | nil=>intro _;exact fE 0
    | cons b q d=>intro h;rw[eR];have:=h b cM;have:=d λm c=>h m (cO _ c);omega
   exact this λm c=>hn m (cO _ c)
  rw[eR]at hs
  rcases cZ.mp h with rfl|h
  ·omega
  ·exact sum_zero (λm c=>hn m (cO _ c)) (by omega) m h
theorem tT:∀{ms:List Int},(∀m∈ms,m=0)->ms.sum=0
 | [],_=>rfl
 | a::r,h=>by rw[eR,h a cM,tT λm b=>h m (cO _ b)];rfl
theorem some_left{ms:List Int}(h:ms.sum≠0):∃t:Int,0<=t/\t<ms.length/\at0 ms t≠0:=
 dM λc=>h (tT λm a=>by
  obtain⟨k,hk,e⟩:=eO.mp a
  refine dM λz=>c ⟨(k:Nat),by omega,by omega,?_⟩
  unfold at0
  rw[cC,gb,cz hk,e]
  exact z)
theorem Ab{d:Int}:∀{l:List Int},l.Nodup->((d∈l->(l.map λj=>if d=j then(1:Int)else 0).sum=1)/\(d∉l->(l.map λj=>if d=j then(1:Int)else 0).sum=0))
 | [],_=>⟨λh=>(by cases h),λ_=>rfl⟩
 | a::r,hn=>by
  obtain⟨h1,h2⟩:=fz.mp hn
  obtain⟨c,b⟩:=Ab (d:=d) h2
  rw[dN,eR]
  by_cases e:d=a
  ·subst e
   exact⟨λ_=>by rw[if_pos rfl,b h1];rfl,λh=>absurd cM h⟩
  ·rw[if_neg e]
   exact⟨λh=>by rw[c ((cZ.mp h).resolve_left e)];rfl,λh=>by rw[b λz=>h (cO _ z)];rfl⟩
theorem vd{f g:Int->Int}:∀l:List Int,(l.map λj=>f j+g j).sum=(l.map f).sum+(l.map g).sum
 | []=>rfl
 | a::r=>by rw[dN,dN,dN,eR,eR,eR,vd r];omega
theorem vc{f g:Int->Int}{a b:Int}:∀l:List Int,(l.map λj=>f j*a-g j*b).sum=(l.map f).sum*a-(l.map g).sum*b
 | []=>by simp
 | x::r=>by
  rw[dN,dN,dN,eR,eR,eR,vc r,gT,gT]
  omega
theorem BD(d:Int)(ds:List Int)(j:Int):cnt (d::ds) j=cnt ds j+if d=j then 1 else 0:=by
 unfold cnt;rw[List.count_cons];by_cases e:d=j
 ·rw[if_pos e,if_pos (by simp[e])];rfl
 ·rw[if_neg e,if_neg (by simp[e])];rfl
theorem AU{n:Nat}:∀{ds:List Int},(∀d∈ds,0<=d/\d<n)->((rng n).map (cnt ds)).sum=ds.length
 | [],_=>tT λm c=>by
  obtain⟨j,_,rfl⟩:=dv.mp c
  rfl
 | d::ds,h=>by
  have a:=AU (n:=n) (ds:=ds) λx b=>h x (cO _ b)
  have e:(rng n).map (cnt (d::ds))=(rng n).map λj=>cnt ds j+if d=j then 1 else 0:=fF λj _=>BD d ds j
  rw[e,vd,a,(Ab (rng_nodup n)).1 (mem_rng.mpr (h d cM)),dQ]
  omega
theorem xK{p q:Int->Bool}:∀{l:List Int},(∀x∈l,q x=true->p x=true)->(l.filter q).length<=(l.filter p).length/\((∃x∈l,p x=true/\q x=false)->(l.filter q).length<(l.filter p).length)
 | [],_=>⟨cI _,λ⟨x,h,_⟩=>by cases h⟩
 | a::r,h=>by
  obtain⟨g,f⟩:=xK (p:=p) (q:=q) (l:=r) λx b=>h x (cO _ b)
  have j:=h a cM
  rw[nY,nY]
  cases d:q a with
  | true=>
   rw[if_pos rfl,if_pos (j d),dQ,dQ]
   refine⟨by omega,λ⟨x,b,hp,c⟩=>?_⟩
   rcases cZ.mp b with rfl|b
   ·rw[d]at c;cases c
   ·have:=f ⟨x,b,hp,c⟩;omega
  | false=>
   rw[if_neg (by decide)]
   cases e:p a with
   | true=>rw[if_pos rfl,dQ];exact⟨by omega,λ_=>by omega⟩
   | false=>
    rw[if_neg (by decide)]
    refine⟨g,λ⟨x,b,hp,c⟩=>?_⟩
    rcases cZ.mp b with rfl|b
    ·rw[e]at hp;cases hp
    ·exact f ⟨x,b,hp,c⟩
structure St(n:Nat)(D:Int)(ms:List Int)(T:Int)(G:List Int):Prop where
 pos:0<D
 len:ms.length=n
 nn:∀m∈ms,0<=m
 le:∀m∈ms,m<=D
 sum:ms.sum=n*(D-T)
 T0:0<=T
 gone:∀t:Int,0<=t->t<n->(t∈G↔at0 ms t=0)
 inG:∀t∈G,0<=t/\t<n
 nd:G.Nodup
 big:D<=8^(n-nz ms)
theorem DF(ms:List Int):nz ms<=ms.length:=by
 unfold nz;exact dg (d6 ..) (by rw[rng_len];exact cI _)
theorem St.start{n:Nat}:St n 1 (fA n 1) 0 []:=by
 have a:∀t:Int,0<=t->t<n->at0 (fA n (1:Int)) t=1:=λt h0 h=>by
  unfold at0;rw[cC,List.getElem?_replicate_of_lt (by omega)];rfl
 refine⟨by decide,eT,λm h=>?_,λm h=>?_,?_,fE 0,λt h0 h=>⟨λz=>(by cases z),λz=>?_⟩,λt h=>(by cases h),hX,?_⟩
 ·rw[(mR.mp h).2];decide
 ·rw[(mR.mp h).2];decide
 ·have:∀n:Nat,(fA n (1:Int)).sum=n:=by
   intro n
   induction n with
   | zero=>rfl
   | succ k b=>rw[List.replicate_succ,eR,b];omega
  rw[this];omega
 ·rw[a t h0 h]at z;cases z
 ·exact_mod_cast Nat.one_le_pow _ _ (by decide)
section
variable{n:Nat}{W:List (List Int)}{D T:Int}{ms G:List Int}
theorem Dp(S:St n D ms T G)(hW:∀w∈W,w.Perm (rng n))(hs:ms.sum≠0){w:List Int}(hw:w∈W):(0<=best ms w/\best ms w<n)/\at0 ms (best ms w)≠0/\best ms w∈w:=by
 obtain⟨t,h0,h1,c⟩:=some_left hs;rw[S.len]at h1;obtain⟨a,b⟩:=Ar (ms:=ms) (w:=w) ⟨t,(hW w hw).mem_iff.mpr (mem_rng.mpr ⟨h0,h1⟩),c⟩;exact⟨mem_rng.mp ((hW w hw).mem_iff.mp a),b,a⟩
theorem dish_ok(S:St n D ms T G)(hW:∀w∈W,w.Perm (rng n))(hs:ms.sum≠0){d:Int}(hd:d∈dishes W ms):(0<=d/\d<n)/\at0 ms d≠0:=by
 obtain⟨w,a,rfl⟩:=dv.mp hd;have:=Dp S hW hs a;exact⟨this.1,this.2.1⟩
theorem A2(S:St n D ms T G)(hl:W.length=n)(hn1:1<=n)(hn6:n<=6)(hW:∀w∈W,w.Perm (rng n))(hs:ms.sum≠0):
  0<(FO W D ms).m/\0<cnt (dishes W ms) (pick (dishes W ms) ms)/\cnt (dishes W ms) (pick (dishes W ms) ms)<=6/\pick (dishes W ms) ms∈(FO W D ms).gone/\
  nz (nextMs (dishes W ms) ms)<nz ms/\
  St n (FO W D ms).D (nextMs (dishes W ms) ms) (T*cnt (dishes W ms) (pick (dishes W ms) ms)+(FO W D ms).m) (G++(FO W D ms).gone):=by
 have o:(dishes W ms).length=n:=by unfold dishes;rw[cx,hl]
 have L:dishes W ms≠[]:=λz=>by rw[z]at o;simp at o;omega
 have A:=λ {d:Int} (h:d∈dishes W ms)=>dish_ok S hW hs h
 unfold FO
 dsimp only
 generalize dishes W ms=f at *
 obtain⟨H,I⟩:=xM (ms:=ms) L
 have g:=cnt_pos H
 have N:=cnt_le f (pick f ms)
 rw[o]at N
 obtain⟨⟨y,v⟩,pn⟩:=A H
 have C:0<at0 ms (pick f ms):=by
  have:=S.nn _ (at0_mem y (by rw[S.len];exact v));omega
 have s:∀t:Int,0<=t->t<n->at0 (nextMs f ms) t=at0 ms t*cnt f (pick f ms)-cnt f t*at0 ms (pick f ms):=λt h0 h1=>at0_next h0 (by rw[S.len];exact h1)
 have p:(nextMs f ms).length=n:=by rw[Ci,S.len]
 have l:∀t:Int,0<=t->t<n->at0 ms t=0->at0 (nextMs f ms) t=0:=λt h0 h1 z=>by
  have:t∉f:=λq=>(A q).2 z
  rw[s t h0 h1,z,wL this];omega
 have F:∀t:Int,0<=t->t<n->at0 ms t≠0->at0 (nextMs f ms) t=0->t∈f:=λt h0 h1 z q=>dM λc=>by
  rw[s t h0 h1,wL c,ju,qh]at q
  rcases ow.mp q with q|q
  ·exact z q
  ·omega
 have E:at0 (nextMs f ms) (pick f ms)=0:=by
  rw[s _ y v,gn];omega
 have k:∀t:Int,t∈goneOf f (nextMs f ms)↔(0<=t/\t<n)/\t∈f/\at0 (nextMs f ms) t=0:=λt=>by
  unfold goneOf
  rw[d8,p,mem_rng,dn,decide_eq_true_iff,decide_eq_true_iff]
 have M:nz (nextMs f ms)<nz ms:=by
  unfold nz
  rw[p,S.len]
  refine(xK λx U h=>?_).2 ⟨pick f ms,mem_rng.mpr ⟨y,v⟩,decide_eq_true pn,by rw[E];rfl⟩
  have B:=mem_rng.mp U
  exact decide_eq_true λz=>of_decide_eq_true h (l x B.1 B.2 z)
 refine⟨C,g,by omega,(k _).mpr ⟨⟨y,v⟩,H,E⟩,M,gU S.pos g,p,?_,?_,?_,?_,λt h0 h1=>?_,λt h=>?_,?_,?_⟩
 ·intro m u
  unfold nextMs at u
  obtain⟨j,r,rfl⟩:=dv.mp u
  rw[S.len]at r
  obtain⟨J,K⟩:=mem_rng.mp r
  by_cases c:j∈f
  ·have:=I j c
   rw[gn (cnt f j)];omega
  ·rw[wL c,ju]
   have:=iQ (S.nn _ (at0_mem J (by rw[S.len];exact K))) (fq g)
   omega
 ·intro m u
  unfold nextMs at u
  obtain⟨j,r,rfl⟩:=dv.mp u
  rw[S.len]at r
  obtain⟨J,K⟩:=mem_rng.mp r
  have h1:=e7 (S.le _ (at0_mem J (by rw[S.len];exact K))) (fq g)
  have h2:=iQ (cnt_nn f j) (fq C)
  omega
 ·unfold nextMs
  rw[vc,AX,S.len,AU (n:=n) (λd h=>(A h).1),o,S.sum]
  rw[pO,<-Int.mul_sub,jN,Int.sub_sub]
 ·have:=iQ S.T0 (fq g);omega
 ·rw[dJ,S.gone t h0 h1,k]
  constructor
  ·rintro(z|z)
   ·exact l t h0 h1 z
   ·exact z.2.2
  ·intro z
   by_cases c:at0 ms t=0
   ·exact .inl c
   ·exact .inr ⟨⟨h0,h1⟩,F t h0 h1 c z,z⟩
 ·rcases dJ.mp h with h|h
  ·exact S.inG t h
  ·exact((k t).mp h).1
 ·refine gv.mpr ⟨S.nd,?_,λa V b P e=>?_⟩
  ·unfold goneOf
   exact(rng_nodup _).filter _
  ·subst e
   obtain⟨q,Q,_⟩:=(k a).mp P
   exact(A Q).2 ((S.gone a q.1 q.2).mp V)
 ·have R:cnt f (pick f ms)<=8:=by omega
  have h1:=jv S.big R (fq g) (by exact_mod_cast du _)
  refine nF h1 ?_
  have e:(8:Int)^(n-nz ms)*8=8^(n-nz ms+1):=(Int.pow_succ ..).symm
  rw[e]
  have O:=DF ms
  rw[S.len]at O
  exact_mod_cast eB (by decide) (show n-nz ms+1<=n-nz (nextMs f ms)by omega)
theorem CU(S:St n D ms T G)(hn1:1<=n)(hs:ms.sum=0):T=D/\G.Perm (rng n):=by
 have a:=sum_zero S.nn hs;refine⟨?_,?_⟩
 ·have:=S.sum;rw[hs]at this;rcases ow.mp this.symm with h|h <;> omega
 ·refine(gc S.nd (rng_nodup n)).mpr λt=>?_
  rw[mem_rng];exact⟨S.inG t,λh=>(S.gone t h.1 h.2).mpr (a _ (at0_mem h.1 (by rw[S.len];exact h.2)))⟩
end
end EM
namespace EM
open LM
structure KK where
 D:Int
 ms:List Int
 T:Int
 G:List Int
def s0(n:Nat):KK:=⟨1,fA n 1,0,[]⟩
def cs(W:List (List Int))(s:KK):Course:=FO W s.D s.ms
def cn(W:List (List Int))(s:KK):Int:=cnt (dishes W s.ms) (pick (dishes W s.ms) s.ms)
def nxt(W:List (List Int))(s:KK):KK:=⟨s.D*cn W s,nextMs (dishes W s.ms) s.ms,s.T*cn W s+(cs W s).m,s.G++(cs W s).gone⟩
def st(W:List (List Int))(n:Nat):Nat->KK
 | 0=>s0 n
 | i+1=>nxt W (st W n i)
def Upto(W:List (List Int))(n N:Nat):Prop:=∀i,i<N->(st W n i).ms.sum≠0
theorem Upto.mono{W:List (List Int)}{n N M:Nat}(h:Upto W n N)(hM:M<=N):Upto W n M:=λi a=>h i (by omega)
theorem Upto.snoc{W:List (List Int)}{n N:Nat}(h:Upto W n N)(hs:(st W n N).ms.sum≠0):Upto W n (N+1):=λi a=>by
 rcases fP.mp a with z|z
 ·exact h i z
 ·rw[z];exact hs
structure Stops(W:List (List Int))(n N:Nat):Prop where
 up:Upto W n N
 last:(st W n N).ms.sum=0
theorem Stops.uniq{W:List (List Int)}{n N M:Nat}(h:Stops W n N)(h':Stops W n M):N=M:=by
 rcases iE N M with z|z|z
 ·exact absurd h.last (h'.up N z)
 ·exact z
 ·exact absurd h'.last (h.up M z)
structure Ws(n:Nat)(W:List (List Int)):Prop where
 n1:1<=n
 n6:n<=6
 len:W.length=n
 pm:∀w∈W,w.Perm (rng n)
section
variable{W:List (List Int)}{n:Nat}
theorem st_ok(h:Ws n W):∀i,Upto W n i->St n (st W n i).D (st W n i).ms (st W n i).T (st W n i).G/\nz (st W n i).ms+i<=n
 | 0,_=>⟨St.start,by
  have:=DF (fA n 1)
  rw[eT]at this
  exact this⟩
 | i+1,hu=>by
  obtain⟨S,d⟩:=st_ok h i (hu.mono (by omega))
  have a:=hu i (by omega)
  obtain⟨_,_,_,_,c,b⟩:=A2 S h.len h.n1 h.n6 h.pm a
  refine⟨b,?_⟩
  show nz (nextMs (dishes W (st W n i).ms) (st W n i).ms)+(i+1)<=n
  omega
theorem upto_le(h:Ws n W){i:Nat}(hu:Upto W n i):i<=n:=by have:=(st_ok h i hu).2;omega
theorem D_le{D T:Int}{ms G:List Int}(S:St n D ms T G)(hn:n<=6):D<=262144:=by
 have h:=S.big;have h2:(8:Int)^(n-nz ms)<=8^6:=by
  have:(8:Nat)^(n-nz ms)<=8^6:=eB (by decide) (by omega)
  exact_mod_cast this
 have e:(8:Int)^6=262144:=by decide
 omega
structure Mg(W:List (List Int))(n:Nat)(s:KK):Prop where
 S:St n s.D s.ms s.T s.G
 S':St n (nxt W s).D (nxt W s).ms (nxt W s).T (nxt W s).G
 m0:0<(cs W s).m
 mD:(cs W s).m<=s.D
 c0:0<cn W s
 c6:cn W s<=6
 ne:(cs W s).gone≠[]
 dl:(dishes W s.ms).length=n
 dm:∀d∈dishes W s.ms,(0<=d/\d<n)/\at0 s.ms d≠0
theorem step_of(h:Ws n W){i:Nat}(hu:Upto W n i)(hs:(st W n i).ms.sum≠0):Mg W n (st W n i):=by
 obtain⟨S,_⟩:=st_ok h i hu;obtain⟨a,b,c,d,_,k⟩:=A2 S h.len h.n1 h.n6 h.pm hs;have e:(dishes W (st W n i).ms).length=n:=by unfold dishes;rw[cx,h.len]
 have f:∀d∈dishes W (st W n i).ms,(0<=d/\d<n)/\at0 (st W n i).ms d≠0:=λd j=>dish_ok S h.pm hs j
 have g:dishes W (st W n i).ms≠[]:=λz=>by rw[z]at e;have:=h.n1;simp at e;omega
 have hp:=f _ (xM (ms:=(st W n i).ms) g).1;refine⟨S,k,a,?_,b,c,(λz=>by unfold cs at z;rw[z]at d;cases d),e,f⟩;exact S.le _ (at0_mem hp.1.1 (by rw[S.len];exact hp.1.2))
def et(W:List (List Int))(n:Nat):Nat->Nat->Int->Int
 | 0,_,_=>0
 | i+1,p,t=>et W n i p t*cn W (st W n i)+if(dishes W (st W n i).ms).getD p 0=t then(cs W (st W n i)).m else 0
theorem et_bd(h:Ws n W)(p:Nat)(t:Int):∀i,Upto W n i->0<=et W n i p t/\et W n i p t<=(st W n i).T
 | 0,_=>⟨fE _,fE _⟩
 | i+1,hu=>by
  obtain⟨a,b⟩:=et_bd h p t i (hu.mono (by omega))
  have s:=step_of h (hu.mono (ec i)) (hu i (dH i))
  have h1:=iQ a (fq s.c0)
  have h2:=e7 b (fq s.c0)
  have h3:=s.m0
  show 0<=et W n i p t*cn W (st W n i)+_/\et W n i p t*cn W (st W n i)+_<=(st W n i).T*cn W (st W n i)+(cs W (st W n i)).m
  split <;> omega
theorem all_gone(h:Ws n W){N:Nat}(hN:Stops W n N):(st W n N).T=(st W n N).D/\(st W n N).G.Perm (rng n):=CU (st_ok h N hN.up).1 h.n1 hN.last
end
theorem nodup_len:∀(n:Nat) {l:List Int},l.Nodup->(∀x∈l,0<=x/\x<(n:Int))->l.length<=n
 | 0,l,_,h=>by
  cases l with
  | nil=>exact cI _
  | cons x r=>have:=h x cM;omega
 | n+1,l,hn,h=>by
  have c:=nodup_len n (l:=l.erase (n:Int)) (hn.erase _) λx b=>by
   have h1:=h x (List.mem_of_mem_erase b)
   have h2:x≠(n:Int):=λz=>by rw[z]at b;exact(hn.not_mem_erase) b
   omega
  have:=List.length_erase (a:=(n:Int)) (l:=l)
  split at this <;> omega
theorem gone_eq{ns ds ms:List Int}(hm:∀i,i∈ns↔i∈ds)(hn:ns.Nodup)(hs:ns.Pairwise (· <= ·))(hd:∀d∈ds,0<=d/\d<ms.length):ns.filter (λt=>decide (at0 ms t=0))=goneOf ds ms:=by
 refine yf (b:=[]) ?_ (hs.filter _) ((zE _).filter _);refine(gc (hn.filter _) ((rng_nodup _).filter _)).mpr λt=>?_
 rw[d8,d8,hm,mem_rng];constructor
 ·rintro⟨a,b⟩;exact⟨hd t a,by rw[decide_eq_true a,b];rfl⟩
 ·rintro⟨_,b⟩;have:=(dn _ _).mp b;exact⟨of_decide_eq_true this.1,this.2⟩
end EM
namespace L2
open PySem PySem.Spec PyProof.Rows
def Ea(b:Nat->Bool):List Nat:=(db 6).filter b
def Eu(S:List Nat)(led:Bool):SetTable:=⟨if S.length<=4 then 7 else 31,S.toArray,#[],0,led,if S.length<=4 then 0 else 1,true⟩
def IC:List Nat->List (List Nat)
 | []=>[[]]
 | a::r=>IC r++(IC r).map (a :: ·)
theorem wN:∀{l S:List Nat},S.Sublist l->S∈IC l
 | _,_,.slnil=>cK.mpr rfl
 | _,_,.cons a h=>dJ.mpr (.inl (wN h))
 | _,_,.cons₂ a h=>dJ.mpr (.inr (dv.mpr ⟨_,wN h,rfl⟩))
theorem tM(b:Nat->Bool):Ea b∈IC (db 6):=wN List.filter_sublist
def FH(S:List Nat)(v:Nat):Nat:=(S.filter (· < v)).length
def GW(S:List Nat)(v:Nat):List Nat:=S.take (FH S v)++v::S.drop (FH S v)
def HN(S:List Nat)(v:Nat)(led:Bool):Bool:=
 match(Eu S led).freeSlot (v:Int)with
 | some (j,d)=>
  let q:=(Eu S led).put j
  decide (j=v) && !d&&decide (q.2=FH S v)&&q.1.fits (S.length+1)&&decide (q.1.plain=true) &&
  (if q.1.tooFull then
   match q.1.relaid ((GW S v).map hV).toArray (kf (S.length+1))with
   | some (t',o)=>decide (t'=Eu (GW S v) led)&&decide (o=(db (S.length+1)).toArray)&&t'.fits (S.length+1)&&coversAll o (S.length+1)
   | none=>false
  else decide (q.1=Eu (GW S v) led))
 | none=>false
theorem Di:∀S∈IC (db 6),∀v∈db 6,v∉S->HN S v true=true/\HN S v false=true:=by decide +kernel
theorem CT:∀S∈IC (db 6),∀v∈db 6,v∉S->GW S v=(db 6).filter λx=>decide (x∈S)||x==v:=by decide +kernel
theorem BP:∀S∈IC (db 6),(Eu S true).fits S.length=true/\(Eu S false).fits S.length=true:=by decide +kernel
def Hm(S:List Nat)(led:Bool):Bool:=
 (db (S.length+1)).all λi=>decide (oS (Eu S led).place (if i=0 then 0 else(S.getD (i-1) 0)+1)=i)
theorem BE:∀S∈IC (db 6),Hm S true=true/\Hm S false=true:=by decide +kernel
def GX(tok:Nat->Tok)(v:Nat):Int×cA:=((v:Int),dX (v:Int) (tok v))
def SetIs(h:Heap)(a:cG)(b:Nat->Bool)(led:Bool):Prop:=
 ∃(o:Obj) (es:Array (Int×cA)) (ep:Nat) (tok:Nat->Tok),h.get? a=some o/\o.ExactSet/\o.data = .set es ep (Eu (Ea b) led)/\es.toList=(Ea b).map (GX tok)
theorem sX{b:Nat->Bool}{v:Nat}:v∈Ea b↔v<6/\b v=true:=by
 unfold Ea;rw[d8,dY]
theorem ur(b:Nat->Bool):(Ea b).length<=6:=by
 unfold Ea;exact dg (d6 ..) (by rw[fb];exact cI _)
theorem tj(b:Nat->Bool)(led:Bool):(Eu (Ea b) led).fits (Ea b).length=true:=by
 have:=BP _ (tM b)
 cases led
 ·exact this.2
 ·exact this.1
theorem w9{b:Nat->Bool}{v:Nat}(hv:v<6)(hb:b v=false):GW (Ea b) v=Ea λx=>b x||x==v:=by
 rw[CT _ (tM b) v (dY.mpr hv) λz=>by rw[(sX.mp z).2]at hb;cases hb];unfold Ea;refine gV λx a=>?_
 have:decide (x∈qD b (db 6))=b x:=by
  rw[gx,decide_eq_true_iff,d8];exact⟨λh=>h.2,λh=>⟨a,h⟩⟩
 rw[this]
theorem xx{b:Nat->Bool}{v:Nat}(hb:b v=true):(Ea λx=>b x||x==v)=Ea b:=by
 unfold Ea;refine gV λx a=>?_
 by_cases e:x=v
 ·subst e;rw[hb];rfl
 ·rw[beq_false_of_ne e,kI]
theorem wg(v:Nat)(hv:v<6):hashInt (v:Int)=v:=
 (show ∀v∈db 6,hashInt ((v:Nat):Int)=v by decide +kernel) v (dY.mpr hv)
theorem wI{α:Type}(xs:Array α):Array.filterMap (λx=>xs[x]?) (db xs.size).toArray=xs:=by
 apply oN;rw[Array.toList_filterMap];have:∀(l:List α),oU (λx=>l[x]?) (db l.length)=l:=by
  intro l
  induction l with
  | nil=>rfl
  | cons a r b=>
   rw[dQ,List.range_succ_eq_map,gd,List.filterMap_map];show a::oU (λx=>r[x]?) (db r.length)=a::r;rw[b]
 have:=this xs.toList;simpa using this
theorem zl{prog:cT}{w:dc}{b:Nat->Bool}{tok:Nat->Tok}{es:Array (Int×cA)}(he:es.toList=(Ea b).map (GX tok)):ElemsOf (intKind prog w) es.toList:=by
 intro e a;rw[he]at a;obtain⟨u,c,rfl⟩:=dv.mp a;exact⟨⟨(u:Int),beq_self_eq_true _,(wg u (sX.mp c).1).symm⟩,rfl⟩
theorem Au{b:Nat->Bool}{v:Nat}{led:Bool}{es:Array (Int×cA)}{x:cA}{tok:Nat->Tok}(hv:v<6)(hb:b v=false)(he:es.toList=(Ea b).map (GX tok)):
  ∃t,layNew (Eu (Ea b) led) es (v:Int) x=(iF es (FH (Ea b) v) ((v:Int),x),t,false,false)/\t.plain=true/\t.fits (es.size+1)=true/\
   (t.tooFull=false->t=Eu (GW (Ea b) v) led)/\(t.tooFull=true->t.relaid ((GW (Ea b) v).map hV).toArray (kf (es.size+1))=some (Eu (GW (Ea b) v) led,(db (es.size+1)).toArray)/\
    (Eu (GW (Ea b) v) led).fits (es.size+1)=true/\coversAll (db (es.size+1)).toArray (es.size+1)=true):=by
 have g:es.size=(Ea b).length:=by rw[<-eo,he,cx]
 have h:=Di _ (tM b) v (dY.mpr hv) λz=>by rw[(sX.mp z).2]at hb;cases hb
 have h1:HN (Ea b) v led=true:=by
  cases led
  ·exact h.2
  ·exact h.1
 unfold HN at h1
 cases e:(Eu (Ea b) led).freeSlot (v:Int)with
 | none=>rw[e]at h1;cases h1
 | some s=>
  obtain⟨j,d⟩:=s
  rw[e]at h1
  dsimp only at h1
  rw[dn,dn,dn,dn,dn,decide_eq_true_iff,decide_eq_true_iff,decide_eq_true_iff]at h1
  obtain⟨⟨⟨⟨⟨rfl,w⟩,hp⟩,c⟩,l⟩,a⟩:=h1
  have k:d=false:=by cases d <;> first|rfl|cases w
  subst k
  rw[<-g]at c a
  have m:(iF es (FH (Ea b) j) ((j:Int),x)).size=es.size+1:=by
   have:=(ly es (FH (Ea b) j) ((j:Int),x)).length_eq
   simpa using this
  refine⟨((Eu (Ea b) led).put j).1,?_,l,c,λy=>?_,λn=>?_⟩
  ·unfold layNew
   rw[e]
   dsimp only
   rw[hp,m,c]
   have q:((Eu (Ea b) led).put j).1.orStandIn (es.size+1)=((Eu (Ea b) led).put j).1:=by
    unfold SetTable.orStandIn;rw[if_pos c]
   rw[q]
   rfl
  ·rw[y,if_neg (by decide)]at a
   exact of_decide_eq_true a
  ·rw[n,if_pos rfl]at a
   cases f:((Eu (Ea b) led).put j).1.relaid ((GW (Ea b) j).map hV).toArray (kf (es.size+1))with
   | none=>rw[f]at a;cases a
   | some r=>
    obtain⟨A,o⟩:=r
    rw[f]at a
    dsimp only at a
    rw[dn,dn,dn,decide_eq_true_iff,decide_eq_true_iff]at a
    obtain⟨⟨⟨rfl,rfl⟩,u⟩,p⟩:=a
    exact⟨rfl,u,p⟩
theorem xP{prog:cT}{w:dc}{A:dw}{E:cA->cD->Prop}{s:cD}{a:cG}{b:Nat->Bool}{led:Bool}{v:Nat}{tk:Tok}{Q:Bool->cD->Prop}(hv:v<6)(hS:SetIs s.heap a b led)
  (q:∀h',fK a s.heap h'->SetIs h' a (λx=>b x||x==v) led->Q (!b v) {s with heap:=h'}):
  wpAny (model prog w) A (setAddHashed a (.int v tk) ((intKind prog w).hash (v:Int))) Q E s:=by
 obtain⟨o,g,r,d,C,H,D,m⟩:=hS
 have K:g.size=(Ea b).length:=by rw[<-eo,m,cx]
 have h6:=ur b
 have J:(Eu (Ea b) led).fits g.size=true:=by rw[K];exact tj b led
 have P:ElemsOf (intKind prog w) g.toList:=zl m
 have Y:(intKind prog w).hash (v:Int)=v:=wg v hv
 have aa:64<=scanBound:=by decide +kernel
 unfold setAddHashed
 refine dG ?_
 rw[qt]
 dsimp only
 refine cr (dU C D J ?_)
 dsimp only
 rw[if_pos (byScan_of (knd:=intKind prog w) (x:= .int v tk) rfl (by omega) P)]
 unfold setAddByScan
 refine cr (cr (iR ?_))
 refine cr (wpAny_setScan_of (knd:=intKind prog w) (k:=(v:Int)) (beq_self_eq_true _) C D J P ?_)
 cases f:b v with
 | true=>
  cases y:pP (λe:Int×cA=>(intKind prog w).is (v:Int) e.2) g.toList with
  | none=>
   have:=List.findIdx?_eq_none_iff.mp y (GX d v) (by rw[m];exact dv.mpr ⟨v,sX.mpr ⟨hv,f⟩,rfl⟩)
   rw[show(intKind prog w).is (v:Int) (GX d v).2=true from beq_self_eq_true _]at this
   cases this
  | some j=>
   refine cv (cv ?_)
   have:=q s.heap (re a _) ⟨o,g,r,d,C,H,by rw[xx f];exact D,by rw[xx f];exact m⟩
   rw[f]at this
   exact this
 | false=>
  cases y:pP (λe:Int×cA=>(intKind prog w).is (v:Int) e.2) g.toList with
  | some j=>
   obtain⟨e,h1,h2⟩:=List.findIdx?_eq_some_iff_getElem.mp y
   have I:g.toList[j]∈(Ea b).map (GX d):=by rw[<-m];exact cW e
   obtain⟨u,F,L⟩:=dv.mp I
   have h3:=(sX.mp F).2
   have h4:(intKind prog w).is (v:Int) (GX d u).2=true:=by rw[L];exact h1
   have h5:(u:Int)=v:=eq_of_beq h4
   have:u=v:=by omega
   rw[this,f]at h3
   cases h3
  | none=>
   obtain⟨t,U,N,T,B,p⟩:=Au (led:=led) (x:= .int v tk) hv f m
   dsimp only
   rw[Y,U]
   dsimp only
   refine cr (cv ?_)
   rw[if_pos N,hashByValue_scannable 8 (x:= .int v tk) rfl]
   refine cr (cv ?_)
   rw[if_pos (show plainKind (dX (v:Int) tk)=true from rfl)]
   have n:(iF g (FH (Ea b) v) ((v:Int),dX (v:Int) tk)).toList=(Ea λx=>b x||x==v).map (GX λu=>if u=v then tk else d u):=by
    rw[SetTable.toList_insertAt,m,<-w9 hv f]
    have S:(Ea b).map (GX d)=(Ea b).map (GX λu=>if u=v then tk else d u):=fF λu F=>by
     have:u≠v:=λz=>by rw[z]at F;rw[(sX.mp F).2]at f;cases f
     show((u:Int),dX (u:Int) (d u))=((u:Int),dX (u:Int) (if u=v then tk else d u))
     rw[if_neg this]
    rw[S]
    unfold GW
    rw[cS,dN,pQ,pR]
    have V:GX (λu=>if u=v then tk else d u) v=((v:Int),dX (v:Int) tk):=by
     show((v:Int),dX (v:Int) (if v=v then tk else d v))=_
     rw[if_pos rfl]
    rw[V]
   have h:(iF g (FH (Ea b) v) ((v:Int),dX (v:Int) tk)).size=g.size+1:=by
    have:=(ly g (FH (Ea b) v) ((v:Int),dX (v:Int) tk)).length_eq
    simpa using this
   rw[w9 hv f]at B p
   generalize iF g (FH (Ea b) v) ((v:Int),dX (v:Int) tk)=c at *
   have l:c.size<=sizeLine:=dB (D9 (by omega))
   rw[h]at l
   have M:=putSet_of c t D
   have g1:(s.heap.update a (mS c t)).get? a=some ⟨o.cls,o.dict,.set c (r+1) t,o.slots⟩:=by
    rw[<-M]
    exact eI _ C (by rw[M];rfl)
   refine cr (nG C D ?_ (by rw[h];exact l))
   cases G:t.tooFull with
   | false=>
    rw[if_neg (by simp)]
    refine cv (cv ?_)
    have:=q _ (eX s.heap a (mS c t)) ⟨_,c,r+1,_,g1,H,by rw[B G],n⟩
    rw[f]at this
    exact this
   | true=>
    obtain⟨W,X,R⟩:=p G
    have I:Array.map (λx:Int×cA=>x.1) c=((Ea λx=>b x||x==v).map hV).toArray:=by
     apply oN
     rw[Array.toList_map,n,ik]
     rfl
    have Z:relayAll t c (kf c.size)=(c,Eu (Ea λx=>b x||x==v) led,false):=by
     unfold relayAll
     rw[I,h,W]
     dsimp only
     rw[<-h,wI,h,X,R]
     rfl
    rw[if_pos (by simp),Z]
    dsimp only
    refine cr (cv (cr (nG g1 rfl (cv (cv ?_)) (by rw[h];exact l))))
    have O:=putSet_of (o:=⟨o.cls,o.dict,.set c (r+1) t,o.slots⟩) c (Eu (Ea λx=>b x||x==v) led) rfl
    have g2:((s.heap.update a (mS c t)).update a (mS c (Eu (Ea λx=>b x||x==v) led))).get? a=some ⟨o.cls,o.dict,.set c (r+1+1) (Eu (Ea λx=>b x||x==v) led),o.slots⟩:=by
     rw[<-O]
     exact eI _ g1 (by rw[O];rfl)
    have:=q _ ((eX s.heap a _).trans (eX _ a _)) ⟨_,c,r+1+1,_,g2,H,rfl,n⟩
    rw[f]at this
    exact this
def Eh(w:dc):Bool:=!w.params.followText "set-order"
theorem Bf{prog:cT}{w:dc}{A:dw}{E:cA->cD->Prop}{s:cD}(a:cA){Q₁:cA->cD->Prop}
  (h:Q₁ (.ref s.heap.objs.size) {s with heap:=s.heap.push {cls:= .type "set",data:= .set #[] 0 (fQ 0 0 (Eh w))}}):
  codeAny (model prog w) A (.call (.builtin "set.__new__") ⟨[.type "set",a],[]⟩) (wants Q₁ E) s:=by
 refine lK ?_
 refine cr (fO (F.newCall_set_1 a) (cv ⟨jK ox _,eY F.entry_set_new ?_⟩))
 rw[fY ox _]
 have b:=qi
 unfold Builtin.«set.__new__» oV
 refine cr (cr (cv ?_))
 refine cP rfl (cr (fO b (cP rfl (cv ?_))))
 unfold newSet setsByText
 refine cr (cr (cr (fL (cv ?_))))
 show wpAny _ _ (newObj _ _) _ _ _
 unfold newObj
 dsimp only
 rw[if_neg (by decide)]
 unfold newObjAsIs
 exact cr (om (cv (cv h)))
theorem SetIs.congr{h h':Heap}{a:cG}{b:Nat->Bool}{led:Bool}(H:SetIs h a b led)(e:∀o,h.get? a=some o->h'.get? a=some o):SetIs h' a b led:=by
 obtain⟨o,g,f,c,d,r⟩:=H;exact⟨o,g,f,c,e o d,r⟩
theorem SetIs.by{h:Heap}{a:cG}{b b':Nat->Bool}{led:Bool}(H:SetIs h a b led)(e:∀x,x<6->b x=b' x):SetIs h a b' led:=by
 have:Ea b=Ea b':=gV λx c=>e x (dY.mp c)
 unfold SetIs at H ⊢;rw[this]at H;exact H
theorem Bw{prog:cT}{w:dc}{A:dw}{R:Result->cD->Prop}{I:cG}{fp wr:List cG}{G:Array GenState->Array GenState->Prop}{n:Nat}{P:Nat->cA->Prop}{St:Nat->cD->Prop}{led:Bool}
  (W:WalksS prog w A.in1 I fp wr G n P St)(S:cG)(hS:S∉fp)(val:Nat->Nat)(hP:∀i v,P i v->val i<6/\∃t,v=dX (val i:Nat) t):
  ∀(k i:Nat) (s:cD) (b:Nat->Bool),n-i=k->i<=n->St i s->SetIs s.heap S b led->
   (∀s',Moved (S::wr) G s s'->SetIs s'.heap S (λx=>b x||(kC i (n-i)).any λj=>x==val j) led->R (.ok (.ret .none)) s')->
   codeAny (model prog w) A (.builtin "set.update.loop" ⟨[.ref S,.ref I],[]⟩) R s:=by
 have p:S∉wr:=λz=>hS (W.sub S z)
 intro k
 induction k with
 | zero=>
  intro i s b hk H f a h
  have e:i=n:=by omega
  subst e
  refine eY h8 ?_
  rw[fY fZ _]
  unfold Builtin.«set.update.loop»
  refine cr (W.done s _ _ f λs' m=>?_)
  refine cv (h s' ⟨λc o d=>m.heap c o λz=>d (cO _ z),m.gens,m.drawn,m.os,m.toks⟩ ((a.congr λo=>m.heap S o p).by λx _=>?_))
  rw[il]
  simp
 | succ k J=>
  intro i s b hk H f a h
  refine eY h8 ?_
  rw[fY fZ _]
  unfold Builtin.«set.update.loop»
  refine cr (W.item i s _ _ (by omega) f λv s' E q m=>?_)
  obtain⟨B,t,rfl⟩:=hP i v E
  dsimp only
  refine cr (dG ?_)
  unfold setAdd
  refine dG (cr ((intKind prog w).pyHash (k:=((val i:Nat):Int)) (beq_self_eq_true _) ?_))
  refine xP B (SetIs.congr a λo=>m.heap S o p) λC u y=>?_
  refine cv ⟨jK fZ _,J (i+1) _ _ (by omega) (by omega) (W.frame (i+1) s' C (s'.toks+1) q (ec _) λc d o r=>by rw[u.2 c λz=>hS (z▸d)];exact r) y λD g l=>h D ?_ (l.by λx _=>?_)⟩
  ·refine⟨λc o d r=>g.heap c o d ?_,W.gtrans _ _ _ m.gens g.gens,g.drawn.trans m.drawn,g.os.trans m.os,dg m.toks (dg (ec _) g.toks)⟩
   show C.get? c=some o
   rw[u.2 c λz=>d (by rw[z];exact cM)]
   exact m.heap c o (λz=>d (cO _ z)) r
  ·have e:n-i=(n-(i+1))+1:=by omega
   rw[e,la,gY,Bool.or_assoc]
theorem vV{prog:cT}{w:dc}{A:dw}{E:cA->cD->Prop}{s:cD}{l:cG}{items:Array cA}{Q:cA->cD->Prop}(hh:A.handled=none)(hl:s.heap.IsList l items)(val:Nat->Nat)
  (hv:∀i v,items[i]?=some v->val i<6/\∃t,v=dX (val i:Nat) t)
  (h:∀(h':Heap) (tk:Nat),SetIs h' s.heap.objs.size (λx=>(kC 0 items.size).any λj=>x==val j) (Eh w)->(∀b o,s.heap.get? b=some o->h'.get? b=some o)->Q (.ref s.heap.objs.size) {s with heap:=h',toks:=tk}):
  wpAny (model prog w) A (call (.type "set") [.ref l]) Q E s:=by
 obtain⟨c,U,y⟩:=fu.mro
 have g:=fu.made
 have q:=fu.sub
 refine iJ (lK (cv ⟨ii _ (by decide +kernel),eY nH ?_⟩))
 rw[mT (lR "set" [.ref l] []) rfl]
 have h1:=fu.notType
 have h2:=fu.canCreate
 have D:=nZ (.ref l)
 unfold Builtin.«type.__call__»
 refine cP (by rw[h1];rfl) (cP (by rw[h2];rfl) (cr (fO D (cr (fO y (cP rfl (cr (fO g (cr (cv ?_))))))))))
 refine cr (dG (iJ (iX (Bf (E:=E) (.ref l) (Q₁:=λv R=>v = .ref s.heap.objs.size/\R=_) ⟨rfl,rfl⟩) λr u B=>?_)))
 cases r with
 | error e=>exact B
 | ok K=>
  cases K with
  | ret v=>
   obtain⟨rfl,rfl⟩:=(show v=_/\u=_ from B)
   have a:(s.heap.push {cls:=dL "set",data:=Data.set #[] 0 (fQ 0 0 (Eh w))}).get? s.heap.objs.size=some {cls:=dL "set",data:=Data.set #[] 0 (fQ 0 0 (Eh w))}:=cN _ rfl
   refine cr (eH (T:="set") ⟨_,a,rfl⟩ q (cP rfl (cr (dG ?_))))
   unfold callSpecial?
   refine cr (gg (T:="set") ⟨_,a,rfl⟩ fu.init.lookup ?_)
   refine dG (cr (fO (fu.init.bind _) (cr (iJ (l9 fu.init.plain n5 (n7 ⟨_,a,rfl⟩ ?_))))))
   unfold Builtin.«set.__init__»
   refine cr (cv ?_)
   dsimp only[n8,oy]
   unfold typeNameOfCut
   unfold shownTypeOf
   refine cr (cr ?_)
   refine cr (ij (T:="set") ⟨_,a,rfl⟩ (cP rfl (cv (cv (cr (cv (cr (cv ?_))))))))
   unfold setUsed
   refine cr (cr (dU a rfl (by cases Eh w <;> rfl) (cv (cP rfl ?_))))
   have f:=hl.push {cls:=dL "set",data:=Data.set #[] 0 (fQ 0 0 (Eh w))}
   have p:kN {s with heap:=s.heap.push {cls:=dL "set",data:=Data.set #[] 0 (fQ 0 0 (Eh w))}} (.ref l) "list":=by
    obtain⟨o,h1,h2,_⟩:=f
    exact⟨o,h1,h2⟩
   unfold jV kg orM
   refine cr (cr (cr (eH p oW (eH p ma ?_))))
   refine cP rfl (cr (ij p (cP rfl (cr (iC f ?_)))))
   refine cr (kd ?_)
   have n:s.heap.get? s.heap.objs.size=none:=by
    cases e:s.heap.get? s.heap.objs.size with
    | none=>rfl
    | some o=>exact absurd (cQ e) (dt _)
   have G:l≠s.heap.objs.size:=λz=>by
    obtain⟨o,h1,_⟩:=hl
    rw[z,n]at h1;cases h1
   have k:(s.heap.push {cls:=dL "set",data:=Data.set #[] 0 (fQ 0 0 (Eh w))}).objs.size=s.heap.objs.size+1:=lw ..
   have C:l≠s.heap.objs.size+1:=λz=>by
    obtain⟨o,h1,_⟩:=hl
    rw[z]at h1
    exact absurd (gW (cQ h1)) (dt _)
   dsimp only
   rw[k]
   refine Bw (ri (oP (A:=A.in1.in1.in1) hh (s.heap.objs.size+1) l C items)) s.heap.objs.size (λz=>?_) val hv items.size 0 _ (λ_=>false) rfl (du _) ⟨?_,f.push _⟩ (led:=Eh w) ?_ λI m P=>?_
   ·rcases cZ.mp z with z|z
    ·exact absurd z (df (dH _))
    ·exact G (cK.mp z).symm
   ·exact⟨_,(by rw[<-k];exact cN _ rfl),rfl,rfl⟩
   ·exact⟨_,#[],0,λ_=>0,cF _ a,⟨rfl,rfl,rfl⟩,rfl,rfl⟩
   ·refine cv (cv (cv (cP rfl (cv ?_))))
    obtain⟨h',S,N,L,J⟩:=I
    have H:S=s.gens:=m.gens
    have M:N=s.drawn:=m.drawn
    have O:J=s.os:=m.os
    subst H M O
    refine h h' L (P.by λx _=>by rw[pS];rfl) λb o d=>m.heap b o (λz=>?_) (cF _ (cF _ d))
    rcases cZ.mp z with z|z
    ·rw[z,n]at d;cases d
    ·rw[cK.mp z]at d
     exact absurd (gW (cQ d)) (dt _)
  | _=>exact B.elim
theorem rY:Slot "set_iterator" (fM "__next__") "set_iterator.__next__":=by
 refine Slot.of (owner:="set_iterator") (n:="__next__") ?_ ?_ ?_ ?_ ?_ ?_
 ·rw[oz,lS];rfl
 ·decide +kernel
 ·decide +kernel
 ·decide +kernel
 ·exact Or.inl (by decide +kernel)
 ·rw[oX];rfl
theorem sW:entryFor table "set_iterator.__next__"=some Builtin.«set_iterator.__next__»:=entryFor_of_tree rfl
theorem sY(a:cA):argsOk "set_iterator.__next__" ⟨[a],[]⟩:=by
 show _=_;rw[pT (rows:=kq) rfl rfl];rfl
theorem vQ:entryFor table "set.__iter__"=some Builtin.«frozenset.__iter__»:=kh (id':="frozenset.__iter__") rfl rfl (by decide +kernel) rfl
def Eo(a:cG)(slot i n ep:Nat):Obj:={cls:= .type "set_iterator",data:= .fields #[rawInt slot,rawInt i,.ref a,rawInt n,rawInt ep]}
theorem B0{prog:cT}{w:dc}{A:dw}{E:cA->cD->Prop}{s:cD}{a:cG}{o:Obj}{es:Array (Int×cA)}{ep:Nat}{t:SetTable}{Q:cA->cD->Prop}(ho:s.heap.get? a=some o)(hx:o.ExactSet)(hd:o.data = .set es ep t)
  (hf:t.fits es.size=true)(hp:t.plain=true)
  (h:Q (.ref s.heap.objs.size) {s with heap:=s.heap.push (Eo a 0 0 es.size ep)}):wpAny (model prog w) A (pyIter (.ref a)) Q E s:=by
 have b:s.TypeIs (.ref a) "set":=⟨o,ho,hx.1⟩
 refine jw b oA (dR oA b vQ ?_ (F.args_set_iter_1 _))
 unfold Builtin.«frozenset.__iter__» p8 slotArgs kO setEntries setDrawn setsByText
 refine cr (cr (cv (cv (cr (cr (cr (dU ho hd hf (cv (cv (cr (cr (dU ho hd hf ?_))))))))))))
 refine cr (cr (fL (cv (cv (cP ?_ ?_)))))
 ·show decide ((_&&(!t.plain&&_))=true)=false
  rw[hp]
  simp
 refine cr (cv ?_)
 unfold setEpoch newFields
 refine cr (cr (dU ho hd hf (cv (cr ?_))))
 unfold newObj
 dsimp only
 rw[if_neg (by show ¬5>sizeLine+2;decide +kernel)]
 unfold newObjAsIs
 refine cr (om (cv (cv ⟨_,rfl,"set_iterator",_,⟨_,cN _ rfl,rfl⟩,rY.lookup,h⟩)))
def EA(S:List Nat)(k:Nat):Nat:=if k=0 then 0 else S.getD (k-1) 0+1
theorem uy:firstArgMember (dL "StopIteration") []=pure cA.none:=by
 unfold firstArgMember;dsimp only;rw[pure_bind];split <;> rfl
theorem vI(b:Nat->Bool)(led:Bool){k:Nat}(hk:k<=(Ea b).length):oS (Eu (Ea b) led).place (EA (Ea b) k)=k:=by
 have h:=BE _ (tM b);have h1:Hm (Ea b) led=true:=by
  cases led
  ·exact h.2
  ·exact h.1
 unfold Hm at h1;have h2:=dZ.mp h1 k (dY.mpr (by omega));exact of_decide_eq_true h2
theorem BZ{prog:cT}{w:dc}{A:dw}{E:cA->cD->Prop}{s:cD}{I a:cG}{o:Obj}{es:Array (Int×cA)}{ep i:Nat}{b:Nat->Bool}{Q:Option cA->cD->Prop}(hw:Eh w=true)
  (hI:s.heap.get? I=some (Eo a (EA (Ea b) i) i es.size ep))(ho:s.heap.get? a=some o)(hd:o.data = .set es ep (Eu (Ea b) (Eh w)))(hes:es.size=(Ea b).length)(hi:i<es.size)(hne:a≠I)
  (h:∀h',fK I s.heap h'->h'.get? I=some (Eo a (EA (Ea b) (i+1)) (i+1) es.size ep)->Q (some es[i].2) {s with heap:=h'}):
  wpAny (model prog w) A (pyNext (.ref I)) Q E s:=by
 have g:(Eu (Ea b) (Eh w)).fits es.size=true:=by rw[hes];exact tj b _
 have f:s.TypeIs (.ref I) "set_iterator":=⟨_,hI,rfl⟩
 unfold pyNext
 refine cr (iy (ef f rY (dR rY f sW ?_ (sY _))))
 unfold Builtin.«set_iterator.__next__» slotArgs
 refine cr (cv (cr (iS hI rfl ?_)))
 dsimp only[rawInt]
 unfold setEntries
 refine cr (cr (dU ho hd g (cv (cP (by simp) ?_))))
 unfold setNext setsByText
 refine cr (cr (dU ho hd g ?_))
 dsimp only
 have j:w.params.followText "set-order"=false:=by
  unfold Eh at hw
  cases e:w.params.followText "set-order"with
  | false=>rfl
  | true=>rw[e]at hw;cases hw
 refine cr (cr (fL (cv ?_)))
 rw[if_neg (show ¬(model prog w).w.params.followText "set-order"=true by intro z;exact absurd (j.symm.trans z) (by decide))]
 refine cP (by show decide ((!true&&_)=true)=false;rfl) (cr ?_)
 have k:∀(x:Bool) (P:Sem Unit),(if(!true&&x)=true then P else pure ())=pure ():=λx P=>rfl
 rw[hw]
 refine(show ∀(R:Unit->cD->Prop),R () s->wpAny (model prog w) A.in1 (if(!true&&_)=true then _ else pure ()) R _ s from λR z=>cv z) _ ?_
 have c:i<(Ea b).length:=by omega
 have d:(Eu (Ea b) true).place[i]?=some (Ea b)[i]:=by
  show(Ea b).toArray[i]?=_
  simp[c]
 rw[gb,vI b true (dB c),d,fi hi]
 refine cv ?_
 dsimp only
 have g1:(s.heap.update I (pU λx=>x.setIfInBounds 0 (dX (((Ea b)[i]+1:Nat):Int) 0))).get? I=some {cls:= .type "set_iterator",data:= .fields #[dX (((Ea b)[i]+1:Nat):Int) 0,rawInt i,.ref a,rawInt es.size,rawInt ep]}:=
  eI (o:=Eo a (EA (Ea b) i) i es.size ep) _ hI rfl
 refine cr (gt hI rfl (by show 0<5;decide) (cr (gt g1 rfl (by show 1<5;decide) (cv ⟨_,rfl,cv ?_⟩))))
 refine h _ ((eX s.heap I _).trans (eX _ I _)) ?_
 have e:EA (Ea b) (i+1)=(Ea b)[i]+1:=by
  unfold EA
  rw[if_neg (Nat.succ_ne_zero i),Nat.add_sub_cancel,cC,cz c]
  rfl
 rw[e]
 exact eI _ g1 rfl
theorem xL{prog:cT}{w:dc}{A:dw}{E:cA->cD->Prop}{s:cD}{I a:cG}{o:Obj}{es:Array (Int×cA)}{ep:Nat}{b:Nat->Bool}{Q:Option cA->cD->Prop}(hA:A.handled=none)(hw:Eh w=true)
  (hI:s.heap.get? I=some (Eo a (EA (Ea b) es.size) es.size es.size ep))(ho:s.heap.get? a=some o)(hd:o.data = .set es ep (Eu (Ea b) (Eh w)))(hes:es.size=(Ea b).length)
  (h:∀h',(∀c ob,c≠I->s.heap.get? c=some ob->h'.get? c=some ob)->Q none {s with heap:=h'}):
  wpAny (model prog w) A (pyNext (.ref I)) Q E s:=by
 have f:(Eu (Ea b) (Eh w)).fits es.size=true:=by rw[hes];exact tj b _
 have d:s.TypeIs (.ref I) "set_iterator":=⟨_,hI,rfl⟩
 unfold pyNext
 refine cr (iy (ef d rY (dR rY d sW ?_ (sY _))))
 unfold Builtin.«set_iterator.__next__» slotArgs
 refine cr (cv (cr (iS hI rfl ?_)))
 dsimp only[rawInt]
 unfold setEntries
 refine cr (cr (dU ho hd f (cv (cP (by simp) ?_))))
 unfold setNext setsByText
 refine cr (cr (dU ho hd f ?_))
 dsimp only
 have j:w.params.followText "set-order"=false:=by
  unfold Eh at hw
  cases e:w.params.followText "set-order"with
  | false=>rfl
  | true=>rw[e]at hw;cases hw
 refine cr (cr (fL (cv ?_)))
 rw[if_neg (show ¬(model prog w).w.params.followText "set-order"=true by intro z;exact absurd (j.symm.trans z) (by decide))]
 refine cP (by show decide ((!true&&_)=true)=false;rfl) (cr ?_)
 rw[hw]
 refine(show ∀(R:Unit->cD->Prop),R () s->wpAny (model prog w) A.in1 (if(!true&&_)=true then _ else pure ()) R _ s from λR z=>cv z) _ ?_
 rw[gb,vI b true (by omega),gC (cI _)]
 refine cv ?_
 dsimp only
 refine cr (gt hI rfl (by show 2<5;decide) ?_)
 unfold newExc raiseNew newTuple
 refine cr (cr (e9 (cr (fO (a:=cA.none) uy (e9 ?_ (lb ..)))) (du _)))
 refine cr (kP ?_)
 rw[show A.in1.handled=none from hA]
 refine md (cr (eH (T:="StopIteration") ⟨_,cN _ rfl,rfl⟩ ki (iT rfl (cv ?_))))
 refine h _ λc ob k g=>cF _ (cF _ ?_)
 rw[i6 _ _ _ _ k]
 exact g
theorem vO{α:Type}(next:Nat->Nat):∀(fuel k:Nat) (left:List α) (out:Array α),left.length=fuel->(rm next fuel k left out).toList.Perm (out.toList++left)
 | 0,k,left,out,h=>by
  rw[pickOrder.go.eq_1,jk.mp h,fV]
 | fuel+1,k,left,out,h=>by
  have a:next k%left.length<left.length:=Nat.mod_lt _ (by omega)
  rw[pickOrder.go.eq_2,cz a]
  dsimp only
  refine(vO next fuel (k+1) _ _ (by rw[List.length_eraseIdx,if_pos a];omega)).trans ?_
  rw[Array.toList_push,List.append_assoc]
  refine qu _ ?_
  generalize next k%left.length=j at a
  have e:left.eraseIdx j=left.take j++left.drop (j+1):=List.eraseIdx_eq_take_drop_succ ..
  rw[e]
  have b:left=left.take j++left[j]::left.drop (j+1):=by
   rw[<-List.drop_eq_getElem_cons a,lO]
  conv=>rhs;rw[b]
  rw[List.singleton_append]
  exact nW.symm
theorem vh{α:Type}(next:Nat->Nat)(xs:Array α):(pickOrder next xs).toList.Perm xs.toList:=by
 unfold pickOrder;have:=vO next xs.size 0 xs.toList #[] (eo ..)
 simpa using this
theorem wA{prog:cT}{w:dc}{A:dw}{E:cA->cD->Prop}{s:cD}{I a:cG}{o:Obj}{es:Array (Int×cA)}{ep i:Nat}{b:Nat->Bool}{Q:Option cA->cD->Prop}(hw:Eh w=false)
  (hI:s.heap.get? I=some (Eo a 0 i es.size ep))(ho:s.heap.get? a=some o)(hd:o.data = .set es ep (Eu (Ea b) (Eh w)))(hes:es.size=(Ea b).length)(hi:i<es.size)
  {x:Int×cA}(hx:(pickOrder (w.params.setOrder a ep) es)[i]?=some x)
  (h:∀h',fK I s.heap h'->h'.get? I=some (Eo a 0 (i+1) es.size ep)->Q (some x.2) {s with heap:=h'}):
  wpAny (model prog w) A (pyNext (.ref I)) Q E s:=by
 have c:(Eu (Ea b) (Eh w)).fits es.size=true:=by rw[hes];exact tj b _
 have f:s.TypeIs (.ref I) "set_iterator":=⟨_,hI,rfl⟩
 have d:w.params.followText "set-order"=true:=by
  unfold Eh at hw
  cases e:w.params.followText "set-order"with
  | true=>rfl
  | false=>rw[e]at hw;cases hw
 unfold pyNext
 refine cr (iy (ef f rY (dR rY f sW ?_ (sY _))))
 unfold Builtin.«set_iterator.__next__» slotArgs
 refine cr (cv (cr (iS hI rfl ?_)))
 dsimp only[rawInt]
 unfold setEntries
 refine cr (cr (dU ho hd c (cv (cP (by simp) ?_))))
 unfold setNext setWalk setsByText
 refine cr (cr (dU ho hd c ?_))
 dsimp only
 refine cr (cr (fL (cv ?_)))
 rw[if_pos (show(model prog w).w.params.followText "set-order"=true from d)]
 refine cP (by simp) (cr (cr (dU ho hd c ?_)))
 dsimp only
 refine cr (cr (fL (cv ?_)))
 rw[if_pos (show(model prog w).w.params.followText "set-order"=true from d)]
 refine cr (fL (cv ?_))
 have g:(pickOrder ((model prog w).w.params.setOrder a ep) es)[((i:Nat):Int).toNat]?=some x:=by rw[gb];exact hx
 dsimp only
 rw[g]
 refine cv ?_
 dsimp only[Option.map]
 have g1:(s.heap.update I (pU λy=>y.setIfInBounds 0 (dX (((0:Int).toNat:Nat):Int) 0))).get? I=some {cls:= .type "set_iterator",data:= .fields #[dX (((0:Int).toNat:Nat):Int) 0,rawInt i,.ref a,rawInt es.size,rawInt ep]}:=
  eI (o:=Eo a 0 i es.size ep) _ hI rfl
 refine cr (gt hI rfl (by show 0<5;decide) (cr (gt g1 rfl (by show 1<5;decide) (cv ⟨_,rfl,cv ?_⟩))))
 refine h _ ((eX s.heap I _).trans (eX _ I _)) ?_
 exact eI _ g1 rfl
theorem xl{prog:cT}{w:dc}{A:dw}{E:cA->cD->Prop}{s:cD}{I a:cG}{o:Obj}{es:Array (Int×cA)}{ep:Nat}{b:Nat->Bool}{Q:Option cA->cD->Prop}(hA:A.handled=none)(hw:Eh w=false)
  (hI:s.heap.get? I=some (Eo a 0 es.size es.size ep))(ho:s.heap.get? a=some o)(hd:o.data = .set es ep (Eu (Ea b) (Eh w)))(hes:es.size=(Ea b).length)
  (h:∀h',(∀c ob,c≠I->s.heap.get? c=some ob->h'.get? c=some ob)->Q none {s with heap:=h'}):
  wpAny (model prog w) A (pyNext (.ref I)) Q E s:=by
 have d:(Eu (Ea b) (Eh w)).fits es.size=true:=by rw[hes];exact tj b _
 have g:s.TypeIs (.ref I) "set_iterator":=⟨_,hI,rfl⟩
 have f:w.params.followText "set-order"=true:=by
  unfold Eh at hw
  cases e:w.params.followText "set-order"with
  | true=>rfl
  | false=>rw[e]at hw;cases hw
 unfold pyNext
 refine cr (iy (ef g rY (dR rY g sW ?_ (sY _))))
 unfold Builtin.«set_iterator.__next__» slotArgs
 refine cr (cv (cr (iS hI rfl ?_)))
 dsimp only[rawInt]
 unfold setEntries
 refine cr (cr (dU ho hd d (cv (cP (by simp) ?_))))
 unfold setNext setWalk setsByText
 refine cr (cr (dU ho hd d ?_))
 dsimp only
 refine cr (cr (fL (cv ?_)))
 rw[if_pos (show(model prog w).w.params.followText "set-order"=true from f)]
 refine cP (by simp) (cr (cr (dU ho hd d ?_)))
 dsimp only
 refine cr (cr (fL (cv ?_)))
 rw[if_pos (show(model prog w).w.params.followText "set-order"=true from f)]
 refine cr (fL (cv ?_))
 have j:(pickOrder ((model prog w).w.params.setOrder a ep) es)[((es.size:Nat):Int).toNat]?=none:=by
  rw[gb]
  refine gC ?_
  have:=(vh (w.params.setOrder a ep) es).length_eq
  rw[eo,eo]at this
  exact na this
 dsimp only
 rw[j]
 refine cv ?_
 dsimp only[Option.map]
 refine cr (gt hI rfl (by show 2<5;decide) ?_)
 unfold newExc raiseNew newTuple
 refine cr (cr (e9 (cr (fO (a:=cA.none) uy (e9 ?_ (lb ..)))) (du _)))
 refine cr (kP ?_)
 rw[show A.in1.handled=none from hA]
 refine md (cr (eH (T:="StopIteration") ⟨_,cN _ rfl,rfl⟩ ki (iT rfl (cv ?_))))
 refine h _ λc ob l k=>cF _ (cF _ ?_)
 rw[i6 _ _ _ _ l]
 exact k
theorem uu:Slot "set_iterator" (fM "__iter__") "set_iterator.__iter__":=by
 refine Slot.of (owner:="set_iterator") (n:="__iter__") ?_ ?_ ?_ ?_ ?_ ?_
 ·rw[oz,lS];rfl
 ·decide +kernel
 ·decide +kernel
 ·decide +kernel
 ·exact Or.inl (by decide +kernel)
 ·rw[oX];rfl
theorem vR:entryFor table "set_iterator.__iter__"=some Builtin.«dict_keyiterator.__iter__»:=kh (id':="dict_keyiterator.__iter__") rfl rfl (by decide +kernel) rfl
theorem wu(a:cA):argsOk "set_iterator.__iter__" ⟨[a],[]⟩:=by
 show _=_;rw[pT (rows:=kq) rfl rfl];rfl
def II(w:dc)(a:cG)(ep:Nat)(es:Array (Int×cA)):Array (Int×cA):=if Eh w=true then es else pickOrder (w.params.setOrder a ep) es
theorem wF(w:dc)(a:cG)(ep:Nat)(es:Array (Int×cA)):(II w a ep es).toList.Perm es.toList:=by
 unfold II;split
 ·exact iN _
 ·exact vh _ _
theorem Aq{prog:cT}{w:dc}{A:dw}{I a:cG}{o:Obj}{es:Array (Int×cA)}{ep:Nat}{b:Nat->Bool}(hA:A.handled=none)(hd:o.data = .set es ep (Eu (Ea b) (Eh w)))(hes:es.size=(Ea b).length)(hne:a≠I):
  WalksS prog w A I [I,a] [I] (λx y=>y=x) es.size (λi v=>∃x,(II w a ep es)[i]?=some x/\v=x.2)
   (λi s=>s.heap.get? I=some (Eo a (if Eh w=true then EA (Ea b) i else 0) i es.size ep)/\s.heap.get? a=some o):=by
 refine⟨λc m=>by rw[cK.mp m];exact cM,λ_=>rfl,λx y z h1 h2=>h2.trans h1,λi s e tk g _ hk=>⟨hk I cM _ g.1,hk a (cO _ cM) _ g.2⟩,λi s Q E u g h=>?_,λs Q E g h=>?_,λi s Q E g q=>?_⟩
 ·cases d:Eh w with
  | true=>
   obtain⟨f,j⟩:=g
   rw[if_pos d]at f
   refine BZ d f j hd hes u hne λe n p=>h _ _ ⟨es[i],?_,rfl⟩ ⟨?_,?_⟩ ?_
   ·unfold II;rw[if_pos d,fi u]
   ·rw[if_pos d];exact p
   ·show e.get? a=some o
    rw[n.2 a hne];exact j
   ·exact⟨λc k m l=>by show e.get? c=some k;rw[n.2 c λz=>m (by rw[z];exact cM)];exact l,rfl,rfl,rfl,cI _⟩
  | false=>
   obtain⟨f,j⟩:=g
   rw[if_neg (by rw[d];decide)]at f
   have t:=(vh (w.params.setOrder a ep) es).length_eq
   rw[eo,eo]at t
   have B:(pickOrder (w.params.setOrder a ep) es)[i]?=some (pickOrder (w.params.setOrder a ep) es)[i]:=fi (by omega)
   refine wA d f j hd hes u B λe n p=>h _ _ ⟨_,?_,rfl⟩ ⟨?_,?_⟩ ?_
   ·unfold II;rw[if_neg (by rw[d];decide)];exact B
   ·rw[if_neg (by rw[d];decide)];exact p
   ·show e.get? a=some o
    rw[n.2 a hne];exact j
   ·exact⟨λc k m l=>by show e.get? c=some k;rw[n.2 c λz=>m (by rw[z];exact cM)];exact l,rfl,rfl,rfl,cI _⟩
 ·obtain⟨f,j⟩:=g
  have fin:∀e,(∀c k,c≠I->s.heap.get? c=some k->e.get? c=some k)->Q none {s with heap:=e}:=λe hk=>h _ ⟨λc k m l=>hk c k (λz=>m (by rw[z];exact cM)) l,rfl,rfl,rfl,cI _⟩
  cases d:Eh w with
  | true=>rw[if_pos d]at f;exact xL hA d f j hd hes fin
  | false=>rw[if_neg (by rw[d];decide)]at f;exact xl hA d f j hd hes fin
 ·have r:s.TypeIs (.ref I) "set_iterator":=⟨_,g.1,rfl⟩
  refine jw r uu (dR uu r vR ?_ (wu _))
  exact cr (cv (cv ⟨_,rfl,"set_iterator",_,r,rY.lookup,q⟩))
theorem BF{prog:cT}{w:dc}{A:dw}{E:cA->cD->Prop}{s:cD}{a:cG}{Q:Bool->cD->Prop}(ht:s.TypeIs (.ref a) "set")(h:Q false s):wpAny (model prog w) A (iG (.ref a)) Q E s:=by
 have b:splitId "set.__len__"=some ("set","__len__"):=by decide +kernel
 unfold iG;refine cr (gg ht F.slot_set_len.lookup ?_);dsimp only;rw[b];dsimp only;refine cr (eH ht qi (cP rfl ?_));refine iT (by decide +kernel) ?_;refine cr (ij ht ?_);exact cv h
theorem wt:∀{l:List (Int×cA)},(∀x∈l,∃t,x.2=dX x.1 t)->IntsAre (l.map (·.2)) (l.map (·.1))
 | [],_=> .nil
 | x::r,h=>by
  obtain⟨t,e⟩:=h x cM
  rw[dN,dN,e]
  exact .cons _ _ (wt λy a=>h y (cO _ a))
theorem x0{prog:cT}{w:dc}{A:dw}{E:cA->cD->Prop}{s:cD}{a:cG}{b:Nat->Bool}{Q:List cA->cD->Prop}(hA:A.handled=none)(hS:SetIs s.heap a b (Eh w))
  (h:∀(h':Heap) (tk:Nat) (vs:List cA) (ns:List Int),s.heap.objs.size<h'.objs.size->(∀c ob,s.heap.get? c=some ob->h'.get? c=some ob)->IntsAre vs ns->ns.Perm ((Ea b).map hV)->Q vs {s with heap:=h',toks:=tk}):wpAny (model prog w) A (collect (.ref a)) Q E s:=by
 obtain⟨o,d,f,aa,L,l,S,K⟩:=hS
 have G:d.size=(Ea b).length:=by rw[<-eo,K,cx]
 have W:(Eu (Ea b) (Eh w)).fits d.size=true:=by rw[G];exact tj b _
 have n:(s.heap.push (seqObj "list" #[] 0)).get? a=some o:=cF _ L
 have J:(s.heap.push (seqObj "list" #[] 0)).get? s.heap.objs.size=some (seqObj "list" #[] 0):=cN _ rfl
 unfold collect
 refine cr (kd (eY lP ?_))
 change wpAny _ _ (do again (.builtin "list.__iadd__" ⟨[<-newList [],.ref a],[]⟩)) _ _ s
 refine cr (ja (cv ⟨ii _ (by decide +kernel),eY ny ?_⟩))
 change wpAny _ _ (f5 (.ref s.heap.objs.size) (.ref a) (.ref s.heap.objs.size)) _ _ {s with heap:=s.heap.push (seqObj "list" #[] 0)}
 unfold f5
 have q:s.heap.objs.size≠a:=λz=>by
  have:=cQ L
  rw[z]at this
  exact absurd this (dt _)
 refine cr (ij (T:="set") ⟨o,n,l.1⟩ (cP ?_ (cr (B0 n l S W rfl (cr (dG (BF ⟨o,cF _ n,l.1⟩ ?_)))))))
 ·show decide ((kQ (.ref s.heap.objs.size) (.ref a)||_||_)=true)=false
  have:kQ (.ref s.heap.objs.size) (.ref a)=false:=by
   show(s.heap.objs.size==a)=false
   exact beq_false_of_ne q
  rw[this]
  rfl
 refine iT (by decide +kernel) (cr (iR ?_))
 have M:(s.heap.push (seqObj "list" #[] 0)).objs.size=s.heap.objs.size+1:=lw ..
 have P:a≠s.heap.objs.size+1:=λz=>by
  have:=cQ L
  rw[z]at this
  exact absurd (gW this) (dt _)
 dsimp only
 have U:((s.heap.push (seqObj "list" #[] 0)).push (Eo a 0 0 d.size f)).get? (s.heap.push (seqObj "list" #[] 0)).objs.size=some (Eo a 0 0 d.size f):=cN _ rfl
 have C:((s.heap.push (seqObj "list" #[] 0)).push (Eo a 0 0 d.size f)).get? s.heap.objs.size=some (seqObj "list" #[] 0):=cF _ J
 have R:((s.heap.push (seqObj "list" #[] 0)).push (Eo a 0 0 d.size f)).get? a=some o:=cF _ n
 have y:∀c ob,s.heap.get? c=some ob->c≠s.heap.objs.size/\((s.heap.push (seqObj "list" #[] 0)).push (Eo a 0 0 d.size f)).get? c=some ob:=λc ob k=>⟨λz=>(by
  have:=cQ k
  rw[z]at this
  exact absurd this (dt _)),cF _ (cF _ k)⟩
 rw[M]at U ⊢
 generalize(s.heap.push (seqObj "list" #[] 0)).push (Eo a 0 0 d.size f)=g at *
 unfold lz
 have H:(g.update s.heap.objs.size (d2 λx=>x.push cA.none)).get? s.heap.objs.size=some (seqObj "list" #[cA.none] 1):=eI (o:=seqObj "list" #[] 0) _ C rfl
 have N:((g.update s.heap.objs.size (d2 λx=>x.push cA.none)).update s.heap.objs.size (d2 λx=>x.pop)).get? s.heap.objs.size=some (seqObj "list" #[] 2):=eI (o:=seqObj "list" #[cA.none] 1) _ H rfl
 have t:∀c ob,c≠s.heap.objs.size->g.get? c=some ob->((g.update s.heap.objs.size (d2 λx=>x.push cA.none)).update s.heap.objs.size (d2 λx=>x.pop)).get? c=some ob:=λc ob k hg=>by
  rw[i6 _ _ _ _ k,i6 _ _ _ _ k];exact hg
 refine cr (cr (ix C rfl (ix H rfl ?_ (by show 1<=sizeLine;decide +kernel) (du _)) (du _) (by show 1<=sizeLine+1;decide +kernel)))
 generalize(g.update s.heap.objs.size (d2 λx=>x.push cA.none)).update s.heap.objs.size (d2 λx=>x.pop)=g4 at *
 refine cv ⟨ii _ (by decide +kernel),?_⟩
 refine codeAny_extend_loopS (Aq (A:=A.in1) (I:=s.heap.objs.size+1) (a:=a) (o:=o) hA S G P) (by have:=ur b;exact dB (D9 (by omega))) s.heap.objs.size (λz=>?_) _ d.size 0 _ #[] 2 rfl (du _) ⟨?_,t a o (λz=>q z.symm) R⟩ N ⟨rfl,λj v B=>?_⟩ λX p c m r D=>?_
 ·rcases cZ.mp z with z|z
  ·exact absurd z (df (dH _))
  ·exact q (cK.mp z)
 ·have:(if Eh w=true then EA (Ea b) 0 else 0)=0:=by split <;> rfl
  rw[this]
  exact t _ _ (λz=>absurd z.symm (df (dH _))) U
 ·simp at B
 ·obtain⟨h',g',d',Z,Y⟩:=X
  have V:g'=s.gens:=m.gens
  have e2:d'=s.drawn:=m.drawn
  have e3:Y=s.os:=m.os
  subst V e2 e3
  refine cr (wpAny_load' r (cv ?_))
  refine h h' Z p.toList ((II w a f d).toList.map (·.1)) (cQ r) (λc ob k=>m.heap c ob (λz=>?_) (t c ob (y c ob k).1 (y c ob k).2)) ?_ ?_
  ·rcases cZ.mp z with z|z
   ·exact(y c ob k).1 z
   ·have:=cQ k
    rw[cK.mp z]at this
    exact absurd (gW this) (dt _)
  ·have O:=(wF w a f d).length_eq
   rw[eo,eo]at O
   have e:p.toList=(II w a f d).toList.map (·.2):=by
    refine List.ext_getElem? λj=>?_
    rw[cH,gh,gh]
    cases B:p[j]? with
    | none=>
     have:p.size<=j:=Array.getElem?_eq_none_iff.mp B
     rw[gC (by have:=D.1;omega)];rfl
    | some v=>
     obtain⟨x,l,rfl⟩:=D.2 j v B
     rw[l];rfl
   rw[e]
   refine wt λx l=>?_
   have:=(wF w a f d).mem_iff.mp l
   rw[K]at this
   obtain⟨u,_,rfl⟩:=dv.mp this
   exact⟨_,rfl⟩
  ·refine((wF w a f d).map _).trans ?_
   rw[K,ik]
   exact iN _
theorem y7{prog:cT}{w:dc}{A:dw}{E:cA->cD->Prop}{s:cD}{a:cG}{b:Nat->Bool}{Q:cA->cD->Prop}(hA:A.handled=none)(hS:SetIs s.heap a b (Eh w))
  (h:∀(l:cG) (h':Heap) (tk:Nat) (out:Array cA) (ns:List Int),s.heap.objs.size<=l->(∀c ob,s.heap.get? c=some ob->h'.get? c=some ob)->(∃n,h'.get? l=some (seqObj "list" out n))->IntsAre out.toList ns->ns.Perm ((Ea b).map hV)->ns.Pairwise (· <= ·)->Q (.ref l) {s with heap:=h',toks:=tk}):
  wpAny (model prog w) A (call (.builtin "sorted") [.ref a]) Q E s:=by
 refine gP oo nA nB (nC _) ?_
 unfold Builtin.«sorted»
 refine cr (m:=checkCount "sorted" 1 1 _) (cv ?_)
 refine cr (x0 (A:=A.in1) hA hS λh' tk vs ns k hk g hp=>cr (ja ?_ (by have:=ur b;have:=hp.length_eq;rw[cx]at this;have:=g.length;exact dB (D9 (by omega)))))
 have p:ns.length=(Ea b).length:=by rw[hp.length_eq,cx]
 have h6:=ur b
 have v:vs.length=ns.length:=g.length
 have f:(h'.push (seqObj "list" vs.toArray 0)).get? h'.objs.size=some (seqObj "list" vs.toArray 0):=cN _ rfl
 refine cr (dG (dR l5 ⟨_,f,rfl⟩ lI (oQ f g (by omega) λout o q t r=>⟨_,rfl,?_⟩) (l8 _)))
 refine cv ⟨_,rfl,?_⟩
 refine h _ _ _ out o (dB k) (λc ob u=>?_) (sortedHeap_at f) q (t.trans hp) r
 have e:=hk c ob u
 have j:=cQ e
 have d:(h'.push (seqObj "list" vs.toArray 0)).get? c=some ob:=cF _ e
 exact(sortedHeap_old (df j) (cQ d)).trans d
theorem zJ:∀{vs:List cA} {ns:List Int},IntsAre vs ns->∀(i:Nat) (v:cA),vs[i]?=some v->i<ns.length/\∃t,v=dX (ns.getD i 0) t
 | _,_,.nil,i,v,h=>by simp at h
 | _,_,.cons n t hr,0,v,h=>by
  rw[List.getElem?_cons_zero]at h
  cases h
  exact⟨Nat.zero_lt_succ _,t,rfl⟩
 | _,_,.cons n t hr,i+1,v,h=>by
  rw[List.getElem?_cons_succ]at h
  obtain⟨h1,a,e⟩:=zJ hr i v h
  exact⟨Nat.succ_lt_succ h1,a,e⟩
theorem xU(b:Nat->Bool):((Ea b).map hV).Nodup:=by
 unfold Ea;exact jt.mpr ((n9.filter _).imp λh z=>h (hV.inj z))
section
variable{X:Cx}
def IH(K:cu)(te:TE):TE:=λσ H Q=>te σ H λx H1=>∃(p:cG) (ns:List Int),x = .ref p/\SqL K H1 p (ns.map V.int)/\(∀i∈ns,0<=i/\i<6)/\
 ∀(l:cG) (ns':List Int),H1 l=none->(∀i,i∈ns'↔i∈ns)->ns'.Nodup->ns'.Pairwise (· <= ·)->Q (.ref l) (upd H1 l (.lst (ns'.map V.int)))
theorem xH{e:Expr}{te:TE}{p p2 pos pos2:Pos}(hc:X.calm=true)(h1:Gl X "sorted")(m1:X.mg "sorted"=none)(h2:Gl X "set")(m2:X.mg "set"=none)(ha:PE X e te)
  (he:dh [e] X.env=(false,eval e X.env)::dh [] X.env:=by rfl):PE X (.Call (.Name "sorted" p) [.Call (.Name "set" p2) [e] [] pos2] [] pos) (IH X.K te):=by
 intro D s Z H Q I h
 refine fI (tI I h1 m1 Boot.sorted ?_)
 refine g9 ?_ rfl rfl
 show wpAny _ _ (spliced ((false,eval (.Call (.Name "set" p2) [e] [] pos2) X.env)::[])) _ _ s
 refine fH ?_
 refine fI (tI I h2 m2 Boot.set ?_)
 refine d7 ?_ he rfl
 rw[he]
 show wpAny _ _ (spliced ((false,eval e X.env)::[])) _ _ s
 refine fH (Ej (ha D s Z H _ I h) λu W ⟨x,H1,r,r1,q1⟩=>?_)
 obtain⟨l,a,rfl,hq,C,q⟩:=q1
 cases(show u=cR l from r1)
 obtain⟨y,rv,pl,hz⟩:=r.list hq
 have J:=u4 rv
 have aa:y.length=a.length:=J.length
 have hA:X.A.handled=none:=r.ok.hd hc
 refine cv (vV hA pl.isList (λi=>(a.getD i 0).toNat) (λi v P=>?_) λh' tk f hk=>cv (y7 hA f λR h2 N U d L Y k G b n=>?_))
 ·rw[<-gh]at P
  obtain⟨g,t,e⟩:=zJ J i v (by simpa using P)
  have m:a.getD i 0∈a:=by
   rw[cC,cz g]
   exact cW g
  have:=C _ m
  refine⟨by omega,t,?_⟩
  rw[e]
  congr 1
  omega
 ·have F:∀i,i∈d↔i∈a:=λi=>by
   rw[b.mem_iff,dv]
   constructor
   ·rintro⟨u,hu,rfl⟩
    obtain⟨_,T⟩:=sX.mp hu
    obtain⟨j,E,e⟩:=i3.mp T
    have e':u=(a.getD j 0).toNat:=eq_of_beq e
    have z:j<a.length:=by
     have:=oB.mp E
     simp at this
     omega
    have m:a.getD j 0∈a:=by
     rw[cC,cz z]
     exact cW z
    have:=C _ m
    have:hV u=a.getD j 0:=by rw[e'];show((a.getD j 0).toNat:Int)=_;omega
    rw[this];exact m
   ·intro g
    have ab:=C i g
    obtain⟨j,E,e⟩:=eO.mp g
    refine⟨i.toNat,sX.mpr ⟨by omega,i3.mpr ⟨j,?_,?_⟩⟩,by show((i.toNat:Nat):Int)=i;omega⟩
    ·rw[oB]
     exact⟨j,by simp;omega,by omega⟩
    ·rw[cC,cz E,Option.getD_some,e]
     exact beq_self_eq_true _
  obtain⟨n2,k⟩:=k
  have S:W.heap.objs.size<=h'.objs.size:=by
   obtain⟨o,_,_,_,ho,_⟩:=f
   exact dB (cQ ho)
  have B:W.heap.objs.size<=R:=dg S L
  have M:d.Nodup:=b.nodup_iff.mpr (xU _)
  refine⟨.ref R,_,r.laid (t':=N) (λc O hc=>Y c O (hk c O hc)) B (show ObjOk X.prog X.w _ _ _ (.lst (d.map V.int))from⟨?_,U.toList,n2,uq G,by rw[k]⟩),rfl,q _ d (r.hok.fresh B) F M n⟩
  have h6:=ur (λx=>(kC 0 y.toArray.size).any λj=>x==(a.getD j 0).toNat)
  have:=b.length_eq
  rw[cx]at this ⊢
  exact dB (D9 (by omega))
end
section
variable{X:Cx}
theorem Cf:Ku X "list.count" (λx vs H Q=>∃(l:cG) (ns:List Int) (k:Int),x = .ref l/\vs=[.int k]/\SqL X.K H l (ns.map V.int)/\Q (.int (ns.count k:Nat)) H):=by
 intro a s j H x vs v m Q I c d h;obtain⟨l,ns,k,rfl,rfl,b,q⟩:=h
 cases c;obtain⟨u,rfl,tk,rfl⟩:=d.one;obtain⟨f,r,e,g⟩:=I.list b;exact count_list_ints e.isList (u4 r) ⟨.int _,H,I.tok _,⟨_,rfl⟩,q⟩
theorem xi{K:cu}(h:X.K=K):Ku X "list.count" (λx vs H Q=>∃(l:cG) (ns:List Int) (k:Int),x = .ref l/\vs=[.int k]/\SqL K H l (ns.map V.int)/\Q (.int (ns.count k:Nat)) H):=by
 subst h;exact Cf
end
theorem uM(p q:Int×Int):gy (dF p) (dF q)=decide (p=q):=by
 obtain⟨a,b⟩:=p;obtain⟨c,d⟩:=q;unfold dF;by_cases h1:a=c <;> by_cases h2:b=d <;> simp[gy,jb,h1,h2]
theorem DG(p:Int×Int):F9 1 (dF p)=true:=rfl
theorem sA(p:Int×Int):ga (dF p)=true:=vE (DG p) (by decide)
structure Wt(p:Int×Int)(a D:Int):Prop where
 w:p.1*D=a*p.2
 p2:p.2≠0
 d:D≠0
theorem uQ{a D:Int}(hD:D≠0):Wt (FQ.red a D) a D:=⟨FQ.red_worth hD,by have:=(FQ.red_low (t:=a) hD).pos;omega,hD⟩
theorem AY{a D:Int}(hD:D≠0):Wt (a,D) a D:=⟨rfl,hD,hD⟩
theorem C6{p q:Int×Int}{a D b E:Int}(h:Wt p a D)(k:Wt q b E):FN p q=FQ.red (a*E+b*D) (D*E):=by
 unfold FN;refine FQ.red_eq (dE h.p2 k.p2) (dE h.d k.d) ?_
 calc (p.1*q.2+q.1*p.2)*(D*E)=(p.1*D)*(q.2*E)+(q.1*E)*(p.2*D):=by rw[gT];ac_rfl
  _=(a*p.2)*(q.2*E)+(b*q.2)*(p.2*D):=by rw[h.w,k.w]
  _=(a*E+b*D)*(p.2*q.2):=by rw[gT];ac_rfl
theorem CV{p q:Int×Int}{a D b E:Int}(h:Wt p a D)(k:Wt q b E):IK p q=FQ.red (a*E-b*D) (D*E):=by
 unfold IK;refine FQ.red_eq (dE h.p2 k.p2) (dE h.d k.d) ?_
 calc (p.1*q.2-q.1*p.2)*(D*E)=(p.1*D)*(q.2*E)-(q.1*E)*(p.2*D):=by rw[jN];ac_rfl
  _=(a*p.2)*(q.2*E)-(b*q.2)*(p.2*D):=by rw[h.w,k.w]
  _=(a*E-b*D)*(p.2*q.2):=by rw[jN];ac_rfl
theorem AT{p q:Int×Int}{a D b E:Int}(h:Wt p a D)(k:Wt q b E):IR p q=FQ.red (a*b) (D*E):=by
 unfold IR;refine FQ.red_eq (dE h.p2 k.p2) (dE h.d k.d) ?_
 calc (p.1*q.1)*(D*E)=(p.1*D)*(q.1*E):=by ac_rfl
  _=(a*p.2)*(b*q.2):=by rw[h.w,k.w]
  _=(a*b)*(p.2*q.2):=by ac_rfl
theorem Bk{a D c:Int}(hD:D≠0)(hc:c≠0):FQ.red (a*c) (D*c)=FQ.red a D:=FQ.red_eq (dE hD hc) hD (by ac_rfl)
theorem Aj{T D m c:Int}(hD:D≠0)(hc:c≠0):FN (FQ.red T D) (FQ.red m (D*c))=FQ.red (T*c+m) (D*c):=by
 rw[C6 (uQ hD) (uQ (dE hD hc))];refine FQ.red_eq (dE hD (dE hD hc)) (dE hD hc) ?_;rw[gT,gT]
 congr 1 <;> ac_rfl
theorem xo{a b D c:Int}(hD:D≠0)(hc:c≠0):IK (FQ.red a D) (FQ.red b (D*c))=FQ.red (a*c-b) (D*c):=by
 rw[CV (uQ hD) (uQ (dE hD hc))];refine FQ.red_eq (dE hD (dE hD hc)) (dE hD hc) ?_;rw[jN,jN]
 congr 1 <;> ac_rfl
theorem sq{m D:Int}(hD:D≠0):FQ.red m D=(0,1)↔m=0:=by
 constructor
 ·intro h;have:=FQ.red_worth (t:=m) hD;rw[h]at this;simp at this;omega
 ·rintro rfl;exact u7 hD
theorem zI{m D:Int}(hD:D≠0):FQ.red m D=(1,1)↔m=D:=by
 constructor
 ·intro h;have:=FQ.red_worth (t:=m) hD;rw[h]at this;simp at this;omega
 ·rintro rfl;exact x6 hD
theorem BK{p q:Int×Int}{a D b E:Int}(h:Wt p a D)(k:Wt q b E)(hp:0<p.2)(hq:0<q.2)(hD:0<D)(hE:0<E):Ev p q=decide (a*E<b*D):=by
 have c:(p.1*q.2)*(D*E)=(a*E)*(p.2*q.2)/\(q.1*p.2)*(D*E)=(b*D)*(p.2*q.2):=by
  constructor
  ·calc (p.1*q.2)*(D*E)=(p.1*D)*(q.2*E):=by ac_rfl
    _=(a*p.2)*(q.2*E):=by rw[h.w]
    _=_:=by ac_rfl
  ·calc (q.1*p.2)*(D*E)=(q.1*E)*(p.2*D):=by ac_rfl
    _=(b*q.2)*(p.2*D):=by rw[k.w]
    _=_:=by ac_rfl
 have h1:0<D*E:=gU hD hE;have h2:0<p.2*q.2:=gU hp hq;unfold Ev;refine decide_eq_decide.mpr ⟨λz=>?_,λz=>?_⟩
 ·have:=f6 z h1;rw[c.1,c.2]at this;exact gK this (fq h2)
 ·have:=f6 z h2;rw[<-c.1,<-c.2]at this;exact gK this (fq h1)
theorem xE{a D b E:Int}(hD:0<D)(hE:0<E):Ev (FQ.red a D) (FQ.red b E)=decide (a*E<b*D):=
 BK (uQ (by omega)) (uQ (by omega)) (FQ.red_low (by omega)).pos (FQ.red_low (by omega)).pos hD hE
theorem tQ{a D:Int}{n:Nat}(hD:D≠0)(h1:a.natAbs<2^n)(h2:D.natAbs<2^n):Sz n (FQ.red a D):=by
 have s:=FQ.red_small (t:=a) hD;have p:=(FQ.red_low (t:=a) hD).pos;exact⟨eQ s.1 h1,eQ s.2 h2,by omega⟩
def Fk(ps:List (Int×Int)):Int×Int:=ps.foldl FN (0,1)
theorem uA(ps:List (Int×Int))(p:Int×Int):Fk (ps++[p])=FN (Fk ps) p:=by unfold Fk;rw[nI];rfl
theorem xu{D:Int}(hD:D≠0):∀(ms:List Int) (a:Int),(fr D ms).foldl FN (FQ.red a D)=FQ.red (a+ms.sum) D
 | [],a=>by simp[fr]
 | m::ms,a=>by
  show(fr D ms).foldl FN (FN (FQ.red a D) (FQ.red m D))=_
  rw[wx hD,xu hD ms,eR,mB]
theorem CY{D:Int}(hD:D≠0)(ms:List Int):Fk (fr D ms)=FQ.red ms.sum D:=by
 have:=xu hD ms 0;rw[u7 hD,d3]at this;exact this
theorem Bc{m n:Nat}{x y:Int×Int}(hx:Sz m x)(hy:Sz n y):Sz (m+n+1) (FN x y):=by
 obtain⟨f,b,e⟩:=hx;obtain⟨d,a,c⟩:=hy;refine tQ (dE e c) (Cj (u8 f a) (by rw[Nat.add_comm];exact u8 d b)) (vy (u8 b a) (by omega))
theorem xN:∀(k:Nat) {ps:List (Int×Int)},ps.length=k->(∀p∈ps,Sz 30 p)->Sz (31*k+1) (Fk ps)
 | 0,ps,hl,_=>by rw[ib hl];exact⟨by decide,by decide,by decide⟩
 | k+1,ps,hl,h=>by
  have a:ps≠[]:=λz=>by rw[z]at hl;cases hl
  have e:=jW a
  rw[<-e,uA]
  have h1:=xN k (ps:=ps.dropLast) (by rw[gS];omega) λp hp=>h p (jO _ hp)
  have h2:=h _ (List.getLast_mem a)
  exact(Bc h1 h2).up (by omega)
theorem CJ{ps:List (Int×Int)}(hl:ps.length<=60)(h:∀p∈ps,Sz 30 p):Sz 4000 (Fk ps):=(xN _ rfl h).up (by omega)
def IV(K:cu):Sp:=λvs H Q _=>∃(a:cG) (gs:List V) (ps:List (Int×Int)),vs=[.ref a]/\SqL K H a gs/\dr (IsF K H) gs ps/\(∀p∈ps,Sz 30 p)/\ps.length<=60/\∀v H',Same H H'->IsF K H' v (Fk ps)->Q v H'
def Es(s:Int×Int)(ps:List (Int×Int)):Int×Int:=ps.foldl (λs p=>if Ev p s=true then p else s) s
def GM(ps:List (Int×Int)):Int×Int:=Es (ps.headD (0,1)) ps
def Hz(K:cu):Sp:=λvs H Q _=>∃(a:cG) (gs:List V) (ps:List (Int×Int)),vs=[.ref a]/\SqL K H a gs/\dr (IsF K H) gs ps/\ps≠[]/\ps.length<=60/\(∀p∈ps,Sz 4000 p)/\∀v,IsF K H v (GM ps)->Q v H
open EM in
def Ez(D:Int)(ds ms:List Int)(t:Int):Int×Int:=FQ.red (at0 ms t) (D*cnt ds t)
open EM in
theorem tV{D:Int}{ds ms:List Int}(hD:0<D):∀(r:List Int) (s:Int),s∈ds->(∀t∈r,t∈ds)->Es (Ez D ds ms s) (r.map (Ez D ds ms))=Ez D ds ms (E6 ds ms s r)
 | [],s,_,_=>rfl
 | t::r,s,hs,hr=>by
  have b:=hr t cM
  have a:∀u∈r,u∈ds:=λu d=>hr u (cO _ d)
  have g:0<D*cnt ds s:=gU hD (cnt_pos hs)
  have j:0<D*cnt ds t:=gU hD (cnt_pos b)
  have e:Ev (Ez D ds ms t) (Ez D ds ms s)=decide (at0 ms t*cnt ds s<at0 ms s*cnt ds t):=by
   unfold Ez
   rw[xE j g]
   refine decide_eq_decide.mpr ?_
   have f:at0 ms t*(D*cnt ds s)=(at0 ms t*cnt ds s)*D:=by ac_rfl
   have h:at0 ms s*(D*cnt ds t)=(at0 ms s*cnt ds t)*D:=by ac_rfl
   rw[f,h]
   exact⟨λz=>gK z (fq hD),λz=>f6 z hD⟩
  show Es (if Ev (Ez D ds ms t) (Ez D ds ms s)=true then Ez D ds ms t else Ez D ds ms s) (r.map (Ez D ds ms))=Ez D ds ms (E6 ds ms (if at0 ms t*cnt ds s<at0 ms s*cnt ds t then t else s) r)
  rw[e]
  by_cases c:at0 ms t*cnt ds s<at0 ms s*cnt ds t
  ·rw[if_pos (decide_eq_true c),if_pos c]
   exact tV hD r t b a
  ·rw[if_neg (by simpa using c),if_neg c]
   exact tV hD r s hs a
theorem zi{D:Int}{ds ms:List Int}(hD:0<D)(hne:ds≠[]):GM (ds.map (Ez D ds ms))=Ez D ds ms (EM.pick ds ms):=by
 cases ds with
 | nil=>exact absurd rfl hne
 | cons a r=>exact tV (ds:=a::r) hD (a::r) a cM λ_ h=>h
def I8(K:cu):Sp:=λvs H Q _=>∃(w l:cG) (row ms:List Int) (D:Int) (gs:List V),vs=[.ref w,.ref l]/\SqT K H w (row.map V.int)/\SqL K H l gs/\dr (IsF K H) gs (fr D ms)/\0<D/\
 (∀t∈row,0<=t/\t<ms.length)/\row.length<=63/\(∃t∈row,EM.at0 ms t≠0)/\∀H',Same H H'->Q (.int (EM.best ms row)) H'
def Jf(K:cu):Sp:=λvs H Q _=>∃(d l:cG) (ds ms:List Int) (D:Int) (gs:List V),vs=[.ref d,.ref l]/\SqL K H d (ds.map V.int)/\SqL K H l gs/\dr (IsF K H) gs (fr D ms)/\0<D/\D<=262144/\ds≠[]/\ds.length<=6/\
 (∀t∈ds,0<=t/\t<ms.length)/\(∀m∈ms,0<=m/\m<=D)/\∀v H',Same H H'->IsF K H' v (Ez D ds ms (EM.pick ds ms))->Q v H'
def Jc(K:cu):Sp:=λvs H Q _=>∃(d l p:cG) (ds ms:List Int) (D c m:Int) (gs:List V),vs=[.ref d,.ref l,.ref p]/\SqL K H d (ds.map V.int)/\SqL K H l gs/\dr (IsF K H) gs (fr D ms)/\IsF K H (.ref p) (FQ.red m (D*c))/\
 0<D/\D<=262144/\0<c/\c<=6/\0<=m/\m<=D/\ds.length<=6/\ms.length<=6/\(∀m∈ms,0<=m/\m<=D)/\
 ∀q gs' H',Same H H'->H q=none->H' q=some (.lst gs')->dr (IsF K H') gs' (fr (D*c) ((LM.rng ms.length).map λj=>EM.at0 ms j*c-EM.cnt ds j*m))->Q (.ref q) H'
def IsC(K:cu)(P:cG)(H:Hp)(v:V)(c:EM.Course):Prop:=∃a l d g,v = .ref a/\SqT K H a [.ref l,.ref d,.ref g]/\IsF K H (.ref l) (FQ.red c.m c.D)/\H d=some (.lst (c.ds.map V.int))/\SqT K H g (c.gone.map V.int)/\d≠P
theorem IsC.mono{K:cu}{P:cG}{H H':Hp}{v:V}{c:EM.Course}(e:Same H H')(h:IsC K P H v c):IsC K P H' v c:=by
 obtain⟨a,l,d,g,rfl,h1,h2,h3,h4,h5⟩:=h;exact⟨a,l,d,g,rfl,e.tup h1,h2.mono e,e _ _ h3,e.tup h4,h5⟩
theorem IsC.over{K:cu}{P:cG}{H:Hp}{v:V}{c:EM.Course}{ys zs:List V}(h:IsC K P H v c)(hp:H P=some (.lst ys)):IsC K P (upd H P (.lst zs)) v c:=by
 obtain⟨a,l,d,g,rfl,h1,h2,h3,h4,h5⟩:=h;exact⟨a,l,d,g,rfl,uF h1 hp,h2.over hp,by rw[rH h5];exact h3,uF h4 hp,h5⟩
def EL(W:List (List Int))(n N:Nat):List EM.Course:=(db N).map λi=>EM.cs W (EM.st W n i)
theorem zj{W:List (List Int)}{n N i:Nat}{c:EM.Course}(h:(EL W n N)[i]?=some c):i<N/\c=EM.cs W (EM.st W n i):=by
 unfold EL at h;rw[cH]at h;by_cases a:i<N
 ·rw[d9 a]at h;exact⟨a,(Option.some.inj h).symm⟩
 ·rw[gi (by rw[fb];omega)]at h
  cases h
def Hh(K:cu):Sp:=λvs H Q _=>∃(a:cG) (ws:List V) (W:List (List Int)) (n:Nat),vs=[.ref a]/\SqL K H a ws/\dr (IsR K H) ws W/\EM.Ws n W/\
 ∀p cs N H',Same H H'->H p=none->H' p=some (.lst cs)->EM.Stops W n N->dr (IsC K p H') cs (EL W n N)->Q (.ref p) H'
def Hl(K:cu):Sp:=λvs H Q _=>∃(c:cG) (cs:List V) (W:List (List Int)) (n N p:Nat) (t:Int),vs=[.ref c,.int p,.int t]/\H c=some (.lst cs)/\EM.Ws n W/\EM.Upto W n N/\dr (IsC K c H) cs (EL W n N)/\p<n/\
 ∀v H',Same H H'->IsF K H' v (FQ.red (EM.et W n N p t) (EM.st W n N).D)->Q v H'
def Fd(W:List (List Int))(n N p:Nat):List Int:=(LM.rng n).map (EM.et W n N p)
def EB(W:List (List Int))(n N:Nat):List (List Int):=(db n).map (Fd W n N)
def G9(K:cu):Sp:=λvs H Q _=>∃(c:cG) (cs:List V) (W:List (List Int)) (n N p:Nat),vs=[.ref c,.int p,.int n]/\H c=some (.lst cs)/\EM.Ws n W/\EM.Upto W n N/\dr (IsC K c H) cs (EL W n N)/\p<n/\
 ∀v H',Same H H'->RwFT K H' (EM.st W n N).D v (Fd W n N p)->Q v H'
def HK(K:cu):Sp:=λvs H Q _=>∃(a:cG) (ws:List V) (W:List (List Int)) (n:Nat),vs=[.ref a]/\SqL K H a ws/\dr (IsR K H) ws W/\EM.Ws n W/\
 ∀p us N H',Same H H'->H p=none->H' p=some (.lst us)->EM.Stops W n N->dr (RwFT K H' (EM.st W n N).D) us (EB W n N)->Q (.ref p) H'
theorem wT(t:Int):∀G:List Int,Jv (.int t) (G.map V.int)=decide (t∈G)
 | []=>by simp[Jv]
 | x::G=>by
  have a:=wT t G
  unfold Jv at a ⊢
  rw[dN,gY,a]
  by_cases h1:x=t
  ·subst h1;simp[Ju]
  ·by_cases h2:t∈G
   ·simp[h2]
   ·have h3:t≠x:=λz=>h1 z.symm
    simp[Ju,h1,h2,h3]
theorem vo(G:List Int):(G.map V.int).all FE=true:=by
 rw[dZ];intro v a;obtain⟨i,_,rfl⟩:=dv.mp a;rfl
theorem vX{α β:Type}{F:α->β->Prop}{x:α}{y:β}:∀{xs:List α} {ys:List β} {k:Nat},dr F xs ys->F x y->dr F (xs.set k x) (ys.set k y)
 | _,_,_,.nil,_=> .nil
 | _,_,0,.cons _ t,h=> .cons h t
 | _,_,k+1,.cons r t,h=> .cons r (vX t h)
theorem z8{D:Int}{m:List Int}{k:Nat}(h:k<m.length):(fr D m)[k]?=some (FQ.red (m.getD k 0) D):=by
 unfold fr;rw[cH,cC,cz h];rfl
abbrev Jw:=Int×List Int
def cw(Ls:List Jw)(i:Nat):Int:=((Ls.take i).map Prod.fst).sum
theorem cw_succ{Ls:List Jw}{i:Nat}{l:Jw}(h:Ls[i]?=some l):cw Ls (i+1)=cw Ls i+l.1:=by
 unfold cw;rw[cY,h,cS,oC];simp
structure LotsOk(n:Nat)(Ls:List Jw)(T:Int):Prop where
 tot:cw Ls Ls.length=T
 w1:∀l∈Ls,1<=l.1
 w2:∀l∈Ls,l.1<=1000000000000
 ne:1<=Ls.length
 le:Ls.length<=40
 dl:∀l∈Ls,l.2.length=n
section
variable{n:Nat}{Ls:List Jw}{T:Int}
theorem LotsOk.up(h:LotsOk n Ls T){i:Nat}(hi:i<Ls.length):cw Ls i<cw Ls (i+1)/\cw Ls (i+1)=cw Ls i+(Ls[i]).1:=by
 have e:=cw_succ (cz hi);have:=h.w1 _ (cW hi);omega
theorem LotsOk.mono(h:LotsOk n Ls T){i:Nat}:∀k,i+k<=Ls.length->cw Ls i<=cw Ls (i+k)
 | 0,_=>fE _
 | k+1,hk=>by
  have h1:=h.mono (i:=i) k (by omega)
  have h2:=(h.up (i:=i+k) (by omega)).1
  rw[<-mC]
  omega
theorem LotsOk.mono'(h:LotsOk n Ls T){i j:Nat}(hij:i<=j)(hj:j<=Ls.length):cw Ls i<=cw Ls j:=by
 have:=h.mono (i:=i) (j-i) (by omega);rw[show i+(j-i)=j by omega]at this;exact this
theorem cw_zero(Ls:List Jw):cw Ls 0=0:=rfl
theorem LotsOk.bd(h:LotsOk n Ls T){i:Nat}(hi:i<=Ls.length):0<=cw Ls i/\cw Ls i<=T:=by
 have h1:=h.mono' (du i) hi;have h2:=h.mono' hi (cI _);rw[cw_zero]at h1;rw[h.tot]at h2;exact⟨h1,h2⟩
theorem LotsOk.cwle(h:LotsOk n Ls T):∀i,i<=Ls.length->cw Ls i<=i*1000000000000
 | 0,_=>by rw[cw_zero];simp
 | i+1,hi=>by
  have h1:=h.cwle i (by omega)
  have h2:=(h.up (i:=i) (by omega)).2
  have h3:=h.w2 _ (cW (show i<Ls.length by omega))
  rw[h2]
  push_cast
  omega
theorem LotsOk.T0(h:LotsOk n Ls T):0<T/\T<2^80:=by
 have h1:=(h.up (i:=0) (by have:=h.ne;omega)).1;have h2:=h.bd (i:=1) h.ne;rw[cw_zero,nJ]at h1;have h3:=h.cwle Ls.length (cI _);rw[h.tot]at h3;have h4:=h.le;have:(Ls.length:Int)*1000000000000<=40*1000000000000:=e7 (by omega) (by decide);constructor <;> omega
end
structure First(Ls:List Jw)(T:Int)(p:Int×Int)(i:Nat):Prop where
 lt:i<Ls.length
 yes:Ev p (FQ.red (cw Ls (i+1)) T)=true
 no:∀j,j<i->Ev p (FQ.red (cw Ls (j+1)) T)=false
theorem First.uniq{Ls:List Jw}{T:Int}{p:Int×Int}{i j:Nat}(h:First Ls T p i)(h':First Ls T p j):i=j:=by
 rcases iE i j with z|z|z
 ·have:=h'.no i z;rw[h.yes]at this;cases this
 ·exact z
 ·have:=h.no j z;rw[h'.yes]at this;cases this
def IsLot(K:cu)(H:Hp)(T:Int)(v:V)(l:Jw):Prop:=∃a f g,v = .ref a/\SqT K H a [.ref f,.ref g]/\IsF K H (.ref f) (FQ.red l.1 T)/\SqT K H g (l.2.map V.int)
theorem IsLot.mono{K:cu}{H H':Hp}{T:Int}{v:V}{l:Jw}(e:Same H H')(h:IsLot K H T v l):IsLot K H' T v l:=by
 obtain⟨a,f,g,rfl,h1,h2,h3⟩:=h;exact⟨a,f,g,rfl,e.tup h1,h2.mono e,e.tup h3⟩
def EO(p:Int×Int):Prop:=Ev p (0,1)=true\/Ev p (1,1)=false
def GB(K:cu)(x:Xs):Sp:=λvs H Q E=>∃(L m:cG) (ls:List V) (Ls:List Jw) (T:Int) (n:Nat) (p:Int×Int),vs=[.ref L,.ref m]/\SqL K H L ls/\dr (IsLot K H T) ls Ls/\LotsOk n Ls T/\IsF K H (.ref m) p/\Sz 2000 p/\0<p.2/\
 (EO p->E (.ref x.NoPick) none H)/\(¬EO p->∀i v H',First Ls T p i->Same H H'->IsR K H' v (Ls.getD i (0,[])).2->Q v H')
theorem uL{prog:cT}{w:dc}{A:dw}{E:cA->cD->Prop}{s:cD}{it l:cG}{i:Nat}{items:Array cA}{x:cA}{Q:cA->cD->Prop}(hit:s.heap.IsTupleIter it l i)(hl:s.heap.IsTuple l items)(hx:items[i]?=some x)
  (hQ:∀h':Heap,h'.IsTupleIter it l (i+1)->fK it s.heap h'->Q x {s with heap:=h'}):wpAny (model prog w) A (d4 (.ref it)) Q E s:=by
 obtain⟨o,b,e,a⟩:=id hit
 obtain⟨h,d,f,g,c⟩:=hl
 unfold d4
 refine cr (ef (h9 hit) gL (dR gL (h9 hit) j5 ?_ (jX _)))
 refine cr (cv ?_)
 refine cr (eF b a rfl ?_)
 refine cP rfl ?_
 refine cr (eF b a rfl ?_)
 refine cr (fR d c ?_)
 dsimp only
 rw[show items[((i:Nat):Int).toNat]?=some x from hx]
 refine cr (gt b a (by simp) ?_)
 refine cv ⟨x,rfl,cv (hQ _ ⟨_,eI _ b (Obj.isFreed_of_fields (mU a _)),(Obj.cls_mapFields o _).trans e,?_⟩ (eX _ _ _))⟩
 rw[mU a]
 rfl
theorem uW{prog:cT}{w:dc}{A:dw}{E:cA->cD->Prop}{s:cD}{it l:cG}{i:Nat}{items:Array cA}{Q:cA->cD->Prop}(hh:A.handled=none)(hit:s.heap.IsTupleIter it l i)(hl:s.heap.IsTuple l items)(hx:items[i]?=none)
  (hE:∀(h':Heap) (e:cG),qE it s.heap h'->(∃o,h'.get? e=some o/\o.cls = .type "StopIteration")->E (.ref e) {s with heap:=h'}):wpAny (model prog w) A (d4 (.ref it)) Q E s:=by
 obtain⟨o,a,g,b⟩:=id hit
 obtain⟨j,d,f,h,c⟩:=hl
 unfold d4
 refine cr (ef (h9 hit) gL (dR gL (h9 hit) j5 ?_ (jX _)))
 refine cr (cv ?_)
 refine cr (eF a b rfl ?_)
 refine cP rfl ?_
 refine cr (eF a b rfl ?_)
 refine cr (fR d c ?_)
 dsimp only
 rw[show items[((i:Nat):Int).toNat]?=none from hx]
 refine cr (iR (cr (gt a b (by simp) ?_)))
 unfold nK newExc raiseNew
 refine cr (cr (iU ?_ (by show(0:Nat)<=sizeLine;decide)))
 refine cr (fO rfl (e9 ?_ ?_))
 ·refine cr (kP ?_)
  rw[show A.in1.handled=none from hh]
  refine md ?_
  exact hE _ _ (((eX _ _ _).extBut.push _).push _) ⟨_,cN _ rfl,rfl⟩
 ·exact lb _ _ _ _ _ _ _ _
theorem xY{prog:cT}{w:dc}{A:dw}(hh:A.handled=none)(it l:cG)(hl:l≠it)(items:Array cA):Draws prog w A it [it,l] items.size (λi v=>items[i]?=some v) (λi h=>h.IsTupleIter it l i/\h.IsTuple l items) where
 live:=λi h st=>by obtain⟨⟨o,f,_⟩,_⟩:=st;exact⟨o,f⟩
 frame:=λi h g st k=>by
  obtain⟨b,o,a,r⟩:=st
  exact⟨b.at λo q=>k it (by simp) o q,o,k l (by simp) o a,r⟩
 item:=λi s Q E c st h=>by
  obtain⟨b,a⟩:=st
  refine uL b a (x:=items[i]) (by simp[c]) λg e d=>h _ _ s.toks (by simp[c]) ⟨e,?_⟩ d
  obtain⟨o,q,r⟩:=a
  exact⟨o,(d.2 l hl).trans q,r⟩
 done:=λs Q E st h=>by
  obtain⟨b,a⟩:=st
  exact uW hh b a (by simp) h
structure Ka(z TI TO i1 i2:cG)(fp1 fp2:List cG):Prop where
 TIz:TI≠z
 TOz:TO≠z
 i1z:i1≠z
 i2z:i2≠z
 TITO:TI≠TO
 TIi1:TI≠i1
 TIi2:TI≠i2
 TOi1:TO≠i1
 TOi2:TO≠i2
 i12:i1≠i2
 z1:z∉fp1
 T1:TO∉fp1
 i21:i2∉fp1
 z2:z∉fp2
 T2:TO∉fp2
 i12':i1∉fp2
theorem yC{prog:cT}{w:dc}{A:dw}{E:cA->cD->Prop}{s:cD}{z TI TO i1 i2:cG}{fp1 fp2:List cG}{n1 n2 k1 k2:Nat}{P1 P2:Nat->cA->Prop}{St1 St2:Nat->Heap->Prop}{a b:cA}{Q:cA->cD->Prop}
  (D1:Draws prog w A i1 fp1 n1 P1 St1)(D2:Draws prog w A i2 fp2 n2 P2 St2)(ap:Ka z TI TO i1 i2 fp1 fp2)(hz:IsZip s.heap z TI TO .none)(hTI:IsPair s.heap TI (.ref i1) (.ref i2))(hTO:IsPair s.heap TO a b)
  (s1:St1 k1 s.heap)(s2:St2 k2 s.heap)(hk1:k1<n1)(hk2:k2<n2)
  (hQ:∀(x y:cA) (h':Heap) (tk:Nat),P1 k1 x->P2 k2 y->IsZip h' z TI TO (rawInt s.heap.objs.size)->IsPair h' TO x y->St1 (k1+1) h'->St2 (k2+1) h'->IsPair h' s.heap.objs.size x y->h'.objs.size=s.heap.objs.size+1->
   (∀c o,c≠z->c≠TO->c≠i1->c≠i2->s.heap.get? c=some o->h'.get? c=some o)->Q (.ref s.heap.objs.size) {s with heap:=h',toks:=tk}):
  wpAny (model prog w) A (Builtin.«zip.__next__» {pos:=[.ref z]}) (λfin s'=>∃v,fin=qF (qG v)/\Q v s') E s:=by
 unfold Builtin.«zip.__next__»
 refine cr (cv ?_)
 refine cr (eF hz rfl rfl ?_)
 refine cr (eF hz rfl rfl ?_)
 refine cr (fR hTI rfl ?_)
 refine cP rfl ?_
 unfold fS
 refine cr (cr (eF hz rfl rfl (cv ?_)))
 refine cr (iR (cr (eF hz rfl rfl ?_)))
 refine cr (eS hz (by simp) λh1 O l=>?_)
 rw[show #[cR i1,cR i2].toList.zipIdx=[(cR i1,0),(cR i2,1)]from rfl,eg,bind_assoc]
 have H:IsPair h1 TO a b:=(l.2 TO ap.TOz).trans hTO
 have X:St1 k1 h1:=D1.frame _ _ _ s1 λc d o q=>(l.2 c (λe=>ap.z1 (e▸d))).trans q
 have L:St2 k2 h1:=D2.frame _ _ _ s2 λc d o q=>(l.2 c (λe=>ap.z2 (e▸d))).trans q
 refine cr (cr (mE ?_))
 refine(show wpAny (model prog w) A (if(er false==er true)=true then fC (.ref i1)else do let x<-d4 (.ref i1);pure (some x)) _ _ _ from cP rfl (cr (D1.item k1 _ _ _ hk1 X λx h2 aa Z W h=>cv ?_)))
 have n:IsPair h2 TO a b:=(h.2 TO ap.TOi1).trans H
 refine cr (fR n rfl ?_)
 refine cr (me n λh3 G k=>?_)
 refine cr (kD (cv ?_))
 dsimp only
 have u:IsPair h3 TO x b:=G
 have T:St1 (k1+1) h3:=D1.frame _ _ _ W λc d o q=>(k.2 c (λe=>ap.T1 (e▸d))).trans q
 have I:St2 k2 h3:=D2.frame _ _ _ L λc d o q=>(k.2 c (λe=>ap.T2 (e▸d))).trans ((h.2 c (λe=>ap.i12' (e▸d))).trans q)
 rw[eg,bind_assoc]
 refine cr (cr (mE ?_))
 refine(show wpAny (model prog w) A (if(er false==er true)=true then fC (.ref i2)else do let x<-d4 (.ref i2);pure (some x)) _ _ _ from cP rfl (cr (D2.item k2 _ _ _ hk2 I λy h4 V py K j=>cv ?_)))
 have p:IsPair h4 TO x b:=(j.2 TO ap.TOi2).trans u
 refine cr (fR p rfl ?_)
 refine cr (me p λh5 F g=>?_)
 refine cr (kD (cv ?_))
 dsimp only
 have m:IsPair h5 TO x y:=F
 rw[gr]
 refine cr (cv ?_)
 refine cr (fR m rfl ?_)
 refine cr (iU ?_ (by show 2<=sizeLine;decide))
 have C:h5.get? z=some {cls:=dL "zip",data:=lX #[Value.ellipsis,er false,er false,cR TI,cR TO]}:=
  (g.2 z (Ne.symm ap.TOz)).trans ((j.2 z (Ne.symm ap.i2z)).trans ((k.2 z (Ne.symm ap.TOz)).trans ((h.2 z (Ne.symm ap.i1z)).trans O)))
 unfold mq
 dsimp only
 have J:=cF (o:={cls:=dL "tuple",data:=iL [x,y].toArray}) C
 refine cr (cr (eS J (by simp) λh7 M t=>?_))
 refine eS M (by simp) λS Y r=>?_
 have B:h5.objs.size=s.heap.objs.size:=by rw[g.1,j.1,k.1,h.1,l.1]
 have D:(h5.push {cls:=dL "tuple",data:=iL [x,y].toArray}).get? h5.objs.size=some {cls:=dL "tuple",data:=iL [x,y].toArray}:=cN _ rfl
 have nz:h5.objs.size≠z:=Ne.symm (df (cQ C))
 have R:St1 (k1+1) h5:=D1.frame _ _ _ T λc d o q=>(g.2 c (λe=>ap.T1 (e▸d))).trans ((j.2 c (λe=>ap.i21 (e▸d))).trans q)
 have P:St2 (k2+1) h5:=D2.frame _ _ _ K λc d o q=>(g.2 c (λe=>ap.T2 (e▸d))).trans q
 have f:∀c o,c≠z->h5.get? c=some o->S.get? c=some o:=λc o d q=>(r.2 c d).trans ((t.2 c d).trans (cF _ q))
 refine cv ⟨_,rfl,?_⟩
 dsimp only
 rw[B]
 refine hQ x y S V Z py ?_ (f TO _ ap.TOz m) (D1.frame _ _ _ R λc d o q=>f c o (λe=>ap.z1 (e▸d)) q) (D2.frame _ _ _ P λc d o q=>f c o (λe=>ap.z2 (e▸d)) q) ?_ ?_ (λc o U N c3 c4 q=>?_)
 ·rw[<-B];exact Y
 ·rw[<-B];exact(r.2 _ nz).trans ((t.2 _ nz).trans D)
 ·rw[r.1,t.1]
  show(h5.push _).objs.size=_
  unfold k9
  simp[B]
 ·exact f c o U ((g.2 c N).trans ((j.2 c c4).trans ((k.2 c N).trans ((h.2 c c3).trans ((l.2 c U).trans q)))))
theorem t9{prog:cT}{w:dc}{A:dw}{E:cA->cD->Prop}{s:cD}{z:cG}{Q:Option cA->cD->Prop}(ht:s.TypeIs (.ref z) "zip")
  (h:wpAny (model prog w) A.in1 (Builtin.«zip.__next__» {pos:=[.ref z]}) (λfin s'=>∃v,fin=qF (qG v)/\Q (some v) s') (λe s'=>(∃a o,e = .ref a/\s'.heap.get? a=some o/\o.cls = .type "StopIteration")/\Q none s') s):
  wpAny (model prog w) A (pyNext (.ref z)) Q E s:=by
 unfold pyNext
 refine cr (iy (ef ht oD (dR oD ht F.entry_zip_next ?_ (F.args_zip_next_1 _))))
 refine gj h (λfin s' b=>?_) (λe s' b=>?_)
 ·obtain⟨v,e,q⟩:=b
  exact⟨v,e,cv q⟩
 ·obtain⟨⟨a,o,rfl,c,d⟩,q⟩:=b
  refine cr (eH (T:="StopIteration") ⟨o,c,d⟩ ki ?_)
  exact cv q
theorem Ae{prog:cT}{w:dc}{A:dw}{E:cA->cD->Prop}{s:cD}{z TI TO i1 i2:cG}{fp1:List cG}{n1:Nat}{P1:Nat->cA->Prop}{St1:Nat->Heap->Prop}{a b:cA}{Q:PySem.Fin->cD->Prop}
  (D1:Draws prog w A i1 fp1 n1 P1 St1)(i1z:i1≠z)(z1:z∉fp1)(hz:IsZip s.heap z TI TO .none)(hTI:IsPair s.heap TI (.ref i1) (.ref i2))(hTO:IsPair s.heap TO a b)(s1:St1 n1 s.heap)
  (hE:∀(h':Heap) (e:cG),(∀c o,c≠z->c≠i1->s.heap.get? c=some o->h'.get? c=some o)->(∃o,h'.get? e=some o/\o.cls = .type "StopIteration")->E (.ref e) {s with heap:=h'}):
  wpAny (model prog w) A (Builtin.«zip.__next__» {pos:=[.ref z]}) Q E s:=by
 unfold Builtin.«zip.__next__»
 refine cr (cv ?_)
 refine cr (eF hz rfl rfl ?_)
 refine cr (eF hz rfl rfl ?_)
 refine cr (fR hTI rfl ?_)
 refine cP rfl ?_
 unfold fS
 refine cr (cr (eF hz rfl rfl (cv ?_)))
 refine cr (iR (cr (eF hz rfl rfl ?_)))
 refine cr (eS hz (by simp) λh1 l k=>?_)
 rw[show #[cR i1,cR i2].toList.zipIdx=[(cR i1,0),(cR i2,1)]from rfl,eg,bind_assoc]
 have p:St1 n1 h1:=D1.frame _ _ _ s1 λc f o q=>(k.2 c (λe=>z1 (e▸f))).trans q
 refine cr (cr (mE ?_))
 refine(show wpAny (model prog w) A (if(er false==er true)=true then fC (.ref i1)else do let x<-d4 (.ref i1);pure (some x)) _ _ _ from cP rfl (cr (D1.done _ _ _ p λh2 e g d=>?_)))
 have h:h2.get? z=some _:=g z _ (Ne.symm i1z) l
 refine eS h (by simp) λh3 t j=>?_
 obtain⟨o,d,f⟩:=d
 have m:e≠z:=λq=>by
  rw[q,h]at d
  cases d
  exact absurd (dL.inj f) (by decide)
 exact hE h3 e (λc o n r q=>(j.2 c n).trans (g c o r ((k.2 c n).trans q))) ⟨o,(j.2 e m).trans d,f⟩
def Sqx(h:Heap)(tp:Bool)(l:cG)(items:Array cA):Prop:=if tp=true then h.IsTuple l items else h.IsList l items
def Itx(h:Heap)(tp:Bool)(it l:cG)(i:Nat):Prop:=if tp=true then h.IsTupleIter it l i else h.IsListIter it l i
def FR(tp:Bool)(l:cG):Obj:={cls:= .type (if tp=true then"tuple_iterator"else"list_iterator"),data:= .fields #[.ref l,.int 0 0]}
theorem vZ{prog:cT}{w:dc}{A:dw}{E:cA->cD->Prop}{s:cD}{tp:Bool}{l:cG}{items:Array cA}{Q:cA->cD->Prop}(h:Sqx s.heap tp l items)(hQ:Q (.ref s.heap.objs.size) {s with heap:=s.heap.push (FR tp l)}):wpAny (model prog w) A (pyIter (.ref l)) Q E s:=by
 cases tp with
 | true=>exact mK h hQ
 | false=>exact iC h hQ
theorem Sqx.keep{h h':Heap}{tp:Bool}{l:cG}{items:Array cA}(q:Sqx h tp l items)(k:∀o,h.get? l=some o->h'.get? l=some o):Sqx h' tp l items:=by
 cases tp with
 | true=>obtain⟨o,a,r⟩:=(show h.IsTuple l items from q);exact⟨o,k o a,r⟩
 | false=>obtain⟨o,a,r⟩:=(show h.IsList l items from q);exact⟨o,k o a,r⟩
theorem Sqx.lt{h:Heap}{tp:Bool}{l:cG}{items:Array cA}(q:Sqx h tp l items):l<h.objs.size:=by
 cases tp with
 | true=>obtain⟨o,a,r⟩:=(show h.IsTuple l items from q);exact cQ a
 | false=>obtain⟨o,a,r⟩:=(show h.IsList l items from q);exact cQ a
theorem Itx.new{h:Heap}{tp:Bool}{it l:cG}(e:h.get? it=some (FR tp l)):Itx h tp it l 0:=by
 cases tp with
 | true=>exact⟨_,e,rfl,rfl⟩
 | false=>exact⟨_,e,rfl,rfl⟩
theorem Itx.keep{h h':Heap}{tp:Bool}{it l:cG}{i:Nat}(q:Itx h tp it l i)(k:∀o,h.get? it=some o->h'.get? it=some o):Itx h' tp it l i:=by
 cases tp with
 | true=>exact Heap.IsTupleIter.at q k
 | false=>exact Heap.IsListIter.at q k
theorem Itx.get{h:Heap}{tp:Bool}{it l:cG}{i:Nat}(q:Itx h tp it l i):∃vs n,h.get? it=some {cls:= .type n,data:= .fields vs}\/∃o,h.get? it=some o/\o.data = .fields vs:=by
 cases tp with
 | true=>obtain⟨o,e,c,d⟩:=(show h.IsTupleIter it l i from q);exact⟨_,"",.inr ⟨o,e,d⟩⟩
 | false=>obtain⟨o,e,c,d⟩:=(show h.IsListIter it l i from q);exact⟨_,"",.inr ⟨o,e,d⟩⟩
theorem t6{prog:cT}{w:dc}{A:dw}(hh:A.handled=none)(tp:Bool)(it l:cG)(hl:l≠it)(items:Array cA):Draws prog w A it [it,l] items.size (λi v=>items[i]?=some v) (λi h=>Itx h tp it l i/\Sqx h tp l items):=by
 cases tp with
 | true=>exact xY hh it l hl items
 | false=>exact Draws.list hh it l hl items
theorem zp(l1 l2:cG)(t1 t2:Bool)(xs ys:Array cA):Meets (Builtin.«zip.__new__» {pos:=[.type "zip",.ref l1,.ref l2]}) (λ_ R s=>Sqx s.heap t1 l1 xs/\Sqx s.heap t2 l2 ys/\
  R (.ok (.ret (.ref (s.heap.objs.size+4)))) {s with heap:=((((s.heap.push (FR t1 l1)).push (FR t2 l2)).push {cls:= .type "tuple",data:= .seq #[.ref s.heap.objs.size,.ref (s.heap.objs.size+1)]}).push {cls:= .type "tuple",data:= .seq #[.none,.none]}).push {cls:= .type "zip",data:= .fields #[.none,.bool false,.bool false,.ref (s.heap.objs.size+2),.ref (s.heap.objs.size+3)]}}):=by
 refine Meets.of_wp λd w A R s h=>?_
 obtain⟨h1,h2,e⟩:=h
 have a:=sub_zip
 unfold Builtin.«zip.__new__» oI
 refine cr (cr (cv ?_))
 refine cP rfl (cr (fO a (cP rfl (cv ?_))))
 refine cP rfl ?_
 unfold oY
 dsimp only
 rw[eg]
 refine cr (cr (cr (cr (dG (vZ h1 (cv ?_))))))
 dsimp only
 rw[eg]
 have b:Sqx (s.heap.push (FR t1 l1)) t2 l2 ys:=h2.keep λo q=>cF _ q
 refine cr (cr (dG (vZ (s:={s with heap:=s.heap.push (FR t1 l1)}) b (cv ?_))))
 dsimp only
 rw[gr]
 have c:∀(h:Heap) (o:Obj),(h.push o).objs.size=h.objs.size+1:=λh o=>by unfold k9;simp
 refine cv (cv ?_)
 refine cr (iU ?_ (by show 2<=sizeLine;decide))
 refine cr (iU ?_ (by show 2<=sizeLine;decide))
 unfold oE
 refine cr (e9 ?_ (by show(5:Nat)<=sizeLine+2;decide))
 refine cv ⟨_,rfl,?_⟩
 simp only[c]
 exact e
def Ja(K:cu)(H:Hp)(tp:Bool)(a:cG)(xs:List V):Prop:=if tp=true then SqT K H a xs else SqL K H a xs
structure ZipB(z TI TO i1 i2 l1 l2:cG):Prop where
 TIz:TI≠z
 TOz:TO≠z
 i1z:i1≠z
 i2z:i2≠z
 TITO:TI≠TO
 TIi1:TI≠i1
 TIi2:TI≠i2
 TOi1:TO≠i1
 TOi2:TO≠i2
 i12:i1≠i2
 l1z:l1≠z
 l1T:l1≠TO
 l1i:l1≠i1
 l1j:l1≠i2
 l2z:l2≠z
 l2T:l2≠TO
 l2i:l2≠i1
 l2j:l2≠i2
theorem ZipB.a{z TI TO i1 i2 l1 l2:cG}(b:ZipB z TI TO i1 i2 l1 l2):Ka z TI TO i1 i2 [i1,l1] [i2,l2]:=
 ⟨b.TIz,b.TOz,b.i1z,b.i2z,b.TITO,b.TIi1,b.TIi2,b.TOi1,b.TOi2,b.i12,by simp[Ne.symm b.i1z,Ne.symm b.l1z],by simp[b.TOi1,Ne.symm b.l1T],by simp[Ne.symm b.i12,Ne.symm b.l1j],by simp[Ne.symm b.i2z,Ne.symm b.l2z],by simp[b.TOi2,Ne.symm b.l2T],by simp[b.i12,Ne.symm b.l2i]⟩
section
variable{X:Cx}{pins:List (cG×Obj)}{σ:St}{H:Hp}{s:cD}
theorem Inv.sqx(I:Inv X pins σ H s){tp:Bool}{a:cG}{xs:List V}(h:Ja X.K H tp a xs):∃its:List cA,Vals xs its/\Sqx s.heap tp a its.toArray:=by
 cases tp with
 | true=>obtain⟨its,r,p,_⟩:=I.tuple h;exact⟨its,r,p⟩
 | false=>obtain⟨its,r,p,_⟩:=I.list h;exact⟨its,r,p.isList⟩
theorem Inv.sqb_inj(I:Inv X pins σ H s){tp:Bool}{a:cG}{xs ys:List V}(h:Ja X.K H tp a xs)(h':Ja X.K H tp a ys):xs=ys:=by
 cases tp with
 | true=>exact I.tuple_inj h h'
 | false=>exact I.list_inj h h'
end
def Mf(K:cu)(t1 t2:Bool)(a b:cG):It:=
 ⟨λi H=>∃xs ys x y,Ja K H t1 a xs/\Ja K H t2 b ys/\xs[i]?=some x/\ys[i]?=some y,
  λi H v H'=>∃x y t,(∀xs,Ja K H t1 a xs->xs[i]?=some x)/\(∀ys,Ja K H t2 b ys->ys[i]?=some y)/\v = .ref t/\H t=none/\H'=upd H t (.tup [x,y]),
  λi H=>∃xs,Ja K H t1 a xs/\xs.length=i⟩
theorem Cc{P:cT}{w:dc}{K:cu}{elts:List Expr}{x1:Nat}{pos:Pos}(t1 t2:Bool)(l1 l2 z TI TO i1 i2:cG)(ap:ZipB z TI TO i1 i2 l1 l2):
  HW P w K (.Tuple elts x1 pos) (Mf K t1 t2 l1 l2) [z,TI,TO,i1,i2] z (λi h=>IsZip h z TI TO .none/\IsPair h TI (.ref i1) (.ref i2)/\(∃a b,IsPair h TO a b)/\Itx h t1 i1 l1 i/\Itx h t2 i2 l2 i) where
 mem:=by simp
 obj:=λi h st b f=>by
  obtain⟨j,m,⟨a,c,t⟩,p,r⟩:=st
  simp only[cZ,hU,or_false]at f
  rcases f with rfl|rfl|rfl|rfl|rfl
  ·exact⟨_,j,λv z=>by cases z⟩
  ·exact⟨_,m,λv z=>by cases z⟩
  ·exact⟨_,t,λv z=>by cases z⟩
  ·cases t1 with
   | true=>obtain⟨o,e,_,d⟩:=(show h.IsTupleIter _ _ _ from p);exact⟨o,e,λv z=>by rw[d]at z;cases z⟩
   | false=>obtain⟨o,e,_,d⟩:=(show h.IsListIter _ _ _ from p);exact⟨o,e,λv z=>by rw[d]at z;cases z⟩
  ·cases t2 with
   | true=>obtain⟨o,e,_,d⟩:=(show h.IsTupleIter _ _ _ from r);exact⟨o,e,λv z=>by rw[d]at z;cases z⟩
   | false=>obtain⟨o,e,_,d⟩:=(show h.IsListIter _ _ _ from r);exact⟨o,e,λv z=>by rw[d]at z;cases z⟩
 keep:=λi h F st k=>by
  obtain⟨j,m,⟨a,c,t⟩,p,r⟩:=st
  exact⟨k z (by simp) _ j,k TI (by simp) _ m,⟨a,c,k TO (by simp) _ t⟩,p.keep λo q=>k i1 (by simp) o q,r.keep λo q=>k i2 (by simp) o q⟩
 item:=by
  intro X hP hw V hc i l s Q H E I hf st U
  subst hP hw V
  obtain⟨xs,ys,x,y,D,S,hx,hy⟩:=U
  obtain⟨g,M,Y⟩:=I.sqx D
  obtain⟨C,ae,p2⟩:=I.sqx S
  obtain⟨u,hu,ru⟩:=M.get hx
  obtain⟨v,hv,rv⟩:=ae.get hy
  obtain⟨j,m,⟨a,c,t⟩,p,r⟩:=st
  have O:=I.ok.hd hc
  have ab:i<g.toArray.size:=by rw[cX];exact(cL.mp hu).1
  have ai:i<C.toArray.size:=by rw[cX];exact(cL.mp hv).1
  refine t9 ⟨_,j,rfl⟩ (yC (t6 (A:=X.A.in1) O t1 i1 l1 ap.l1i g.toArray) (t6 (A:=X.A.in1) O t2 i2 l2 ap.l2j C.toArray) ap.a j m t ⟨p,Y⟩ ⟨r,p2⟩ ab ai λL N F tk px py ah T aj ac Z an R=>?_)
  have ex:L=u:=by
   have:g.toArray[i]?=some L:=px
   rw[jD,hu]at this
   exact(Option.some.inj this).symm
  have ey:N=v:=by
   have:C.toArray[i]?=some N:=py
   rw[jD,hv]at this
   exact(Option.some.inj this).symm
  subst ex ey
  have B:∀b o,s.heap.get? b=some o->b≠s.heap.objs.size:=λb o q=>df (cQ q)
  have hn:H s.heap.objs.size=none:=I.hok.fresh (cI _)
  have ad:∀b∈[z,TI,TO,i1,i2],b≠s.heap.objs.size:=λb f=>by
   simp only[cZ,hU,or_false]at f
   rcases f with rfl|rfl|rfl|rfl|rfl
   ·exact B _ _ j
   ·exact B _ _ m
   ·exact B _ _ t
   ·obtain⟨vs,n,e|⟨o,e,_⟩⟩:=p.get
    ·exact B _ _ e
    ·exact B _ _ e
   ·obtain⟨vs,n,e|⟨o,e,_⟩⟩:=r.get
    ·exact B _ _ e
    ·exact B _ _ e
  have I0:Inv X l Q (upd H s.heap.objs.size (.tup [x,y])) {s with heap:=s.heap.push {cls:= .type "tuple",data:= .seq #[L,N]},toks:=s.toks}:=
   I.laid (t':=s.toks) (λb o q=>cF _ q) (cI _) ⟨by show 2<=sizeLine;decide,[L,N],.cons ru (.cons rv .nil),⟨_,cN _ rfl,rfl,_,rfl⟩⟩
  have G:∀b∈[z,TI,TO,i1,i2],Gc X l (upd H s.heap.objs.size (.tup [x,y])) b:=λb f=>by
   have q:=hf b f
   exact⟨by rw[rH (ad b f)];exact q.1,q.2⟩
  have I1:Inv X l Q (upd H s.heap.objs.size (.tup [x,y])) {s with heap:=F,toks:=tk}:=
   Inv.turnedL (s:={s with heap:=s.heap.push {cls:= .type "tuple",data:= .seq #[L,N]},toks:=s.toks}) I0 (fp:=[z,TI,TO,i1,i2]) (t':=tk) (λb o f q=>by
    simp only[cZ,hU,or_false,not_or]at f
    rcases tD q rfl with q|⟨rfl,rfl⟩
    ·exact R b o f.1 f.2.2.1 f.2.2.2.1 f.2.2.2.2 q
    ·exact Z) G
  refine⟨_,rfl,wpAny_letOwnedTupleGo_zip (s:={s with heap:=F,toks:=tk}) ah λh2 ag J=>?_⟩
  have I2:Inv X l Q (upd H s.heap.objs.size (.tup [x,y])) {s with heap:=h2,toks:=tk}:=
   Inv.turnedL (s:={s with heap:=F,toks:=tk}) I1 (fp:=[z,TI,TO,i1,i2]) (t':=tk) (λb o f q=>(J.2 b (λe=>f (by simp[e]))).trans q) G
  have aa:IsPair F TI (.ref i1) (.ref i2):=R TI _ ap.TIz ap.TITO ap.TIi1 ap.TIi2 m
  refine⟨.ref s.heap.objs.size,_,I2,rfl,⟨x,y,_,λal h=>by rw[I.sqb_inj h D];exact hx,λak h=>by rw[I.sqb_inj h S];exact hy,rfl,hn,rfl⟩,⟨ag,(J.2 TI ap.TIz).trans aa,⟨_,_,(J.2 TO ap.TOz).trans T⟩,aj.1.keep λo q=>(J.2 i1 ap.i1z).trans q,ac.1.keep λo q=>(J.2 i2 ap.i2z).trans q⟩,λb f=>(G b f).1⟩
 done:=by
  intro X hP hw V hc i l s Q H E I hf st U
  subst hP hw V
  obtain⟨xs,D,am⟩:=U
  obtain⟨g,M,Y⟩:=I.sqx D
  obtain⟨j,m,⟨a,c,t⟩,p,r⟩:=st
  have O:=I.ok.hd hc
  have hl:=M.length
  have en:i=g.toArray.size:=by rw[cX];omega
  subst en
  refine t9 ⟨_,j,rfl⟩ (Ae (t6 (A:=X.A.in1) O t1 i1 l1 ap.l1i g.toArray) ap.i1z (by simp[Ne.symm ap.i1z,Ne.symm ap.l1z]) j m t ⟨p,Y⟩ λF e R ho=>?_)
  obtain⟨o,ho,af⟩:=ho
  exact⟨⟨e,o,rfl,ho,af⟩,rfl,I.turnedL (fp:=[z,TI,TO,i1,i2]) (t':=s.toks) (λb o f q=>R b o (λz=>f (by simp[z])) (λz=>f (by simp[z])) q) hf⟩
 self:=λ_ _ _ _ _ st h=>by
  obtain⟨j,_⟩:=st
  exact lc j h
theorem xB{prog:cT}{w:dc}{A:dw}{E:cA->cD->Prop}{s:cD}{l1 l2:cG}{t1 t2:Bool}{xs ys:Array cA}{Q:cA->cD->Prop}(h1:Sqx s.heap t1 l1 xs)(h2:Sqx s.heap t2 l2 ys)
  (h:∀h':Heap,IsZip h' (s.heap.objs.size+4) (s.heap.objs.size+2) (s.heap.objs.size+3) .none->IsPair h' (s.heap.objs.size+2) (.ref s.heap.objs.size) (.ref (s.heap.objs.size+1))->IsPair h' (s.heap.objs.size+3) .none .none->
   Itx h' t1 s.heap.objs.size l1 0->Itx h' t2 (s.heap.objs.size+1) l2 0->h'.objs.size=s.heap.objs.size+5->(∀c o,s.heap.get? c=some o->h'.get? c=some o)->Q (.ref (s.heap.objs.size+4)) {s with heap:=h'}):
  wpAny (model prog w) A (call (.type "zip") [.ref l1,.ref l2]) Q E s:=by
 refine callType_new F.called_zip (by decide) (F.typeCall_zip_2 _ _) (F.newCall_zip_2 _ _) (λB=>F.args_object_init_3 B _ _) F.entry_zip_new (zp l1 l2 t1 t2 xs ys) ⟨h1,h2,?_⟩
 have a:∀(h:Heap) (o:Obj),(h.push o).objs.size=h.objs.size+1:=λh o=>by unfold k9;simp
 have p:∀(h:Heap) (o:Obj) (n:Nat),h.objs.size=n->o.isFreed=false->(h.push o).get? n=some o:=λh o n e f=>by rw[<-e];exact cN _ f
 have fr:∀x l,(FR x l).isFreed=false:=λx l=>rfl
 generalize ho1:FR t1 l1=v
 generalize ho2:FR t2 l2=u
 have H:v.isFreed=false:=by rw[<-ho1];rfl
 have K:u.isFreed=false:=by rw[<-ho2];rfl
 generalize hq1:s.heap.push v=d
 have D:d.objs.size=s.heap.objs.size+1:=by rw[<-hq1];exact a _ _
 have g1:d.get? s.heap.objs.size=some v:=by rw[<-hq1];exact cN _ H
 have I:∀c o,s.heap.get? c=some o->d.get? c=some o:=λc o q=>by rw[<-hq1];exact cF _ q
 generalize hq2:d.push u=g
 have y:g.objs.size=s.heap.objs.size+2:=by rw[<-hq2,a,D]
 have g2:g.get? (s.heap.objs.size+1)=some u:=by rw[<-hq2];exact p _ _ _ D K
 have C:∀c o,d.get? c=some o->g.get? c=some o:=λc o q=>by rw[<-hq2];exact cF _ q
 generalize hq3:g.push {cls:=dL "tuple",data:=iL #[cR s.heap.objs.size,cR (s.heap.objs.size+1)]}=j
 have G:j.objs.size=s.heap.objs.size+3:=by rw[<-hq3,a,y]
 have g3:j.get? (s.heap.objs.size+2)=some {cls:=dL "tuple",data:=iL #[cR s.heap.objs.size,cR (s.heap.objs.size+1)]}:=by rw[<-hq3];exact p _ _ _ y rfl
 have t:∀c o,g.get? c=some o->j.get? c=some o:=λc o q=>by rw[<-hq3];exact cF _ q
 generalize hq4:j.push {cls:=dL "tuple",data:=iL #[cA.none,cA.none]}=k
 have z:k.objs.size=s.heap.objs.size+4:=by rw[<-hq4,a,G]
 have g4:k.get? (s.heap.objs.size+3)=some {cls:=dL "tuple",data:=iL #[cA.none,cA.none]}:=by rw[<-hq4];exact p _ _ _ G rfl
 have r:∀c o,j.get? c=some o->k.get? c=some o:=λc o q=>by rw[<-hq4];exact cF _ q
 generalize hq5:k.push {cls:=dL "zip",data:=lX #[cA.none,er false,er false,cR (s.heap.objs.size+2),cR (s.heap.objs.size+3)]}=m
 have J:m.objs.size=s.heap.objs.size+5:=by rw[<-hq5,a,z]
 have g5:m.get? (s.heap.objs.size+4)=some {cls:=dL "zip",data:=lX #[cA.none,er false,er false,cR (s.heap.objs.size+2),cR (s.heap.objs.size+3)]}:=by rw[<-hq5];exact p _ _ _ z rfl
 have b:∀c o,k.get? c=some o->m.get? c=some o:=λc o q=>by rw[<-hq5];exact cF _ q
 exact⟨⟨_,g5,rfl⟩,h m g5 (b _ _ (r _ _ g3)) (b _ _ g4) (Itx.new (by rw[ho1];exact b _ _ (r _ _ (t _ _ (C _ _ g1))))) (Itx.new (by rw[ho2];exact b _ _ (r _ _ (t _ _ g2)))) J λc o q=>b _ _ (r _ _ (t _ _ (C _ _ (I _ _ q))))⟩
theorem yL{n l1 l2:Nat}(h1:l1<n)(h2:l2<n):ZipB (n+4) (n+2) (n+3) n (n+1) l1 l2:=by
 have d:∀a b:Nat,a<b->a≠b:=λa b h=>df h
 exact⟨d _ _ (by omega),d _ _ (by omega),d _ _ (by omega),d _ _ (by omega),d _ _ (by omega),(d _ _ (by omega)).symm,(d _ _ (by omega)).symm,(d _ _ (by omega)).symm,(d _ _ (by omega)).symm,d _ _ (by omega),
  d _ _ (by omega),d _ _ (by omega),d _ _ (by omega),d _ _ (by omega),d _ _ (by omega),d _ _ (by omega),d _ _ (by omega),d _ _ (by omega)⟩
def Mi(K:cu)(ta:TA):TI:=λσ H R=>ta σ H λvs H1=>∃(t1 t2:Bool) (a b:cG),vs=[.ref a,.ref b]/\(∃xs,Ja K H1 t1 a xs)/\(∃ys,Ja K H1 t2 b ys)/\R (Mf K t1 t2 a b) H1
section
variable{X:Cx}
theorem Cn{elts:List Expr}{x1:Nat}{tpos:Pos}{a b:Expr}{ta:TA}{p pos:Pos}(hg:Gl X "zip")(hm:X.mg "zip"=none)(ha:PA X [a,b] ta)(hs:dh [a,b] X.env=[(false,eval a X.env),(false,eval b X.env)]:=by rfl)(hs2:dh [b] X.env=[(false,eval b X.env)]:=by rfl):
  PI X (.Tuple elts x1 tpos) (.Call (.Name "zip" p) [a,b] [] pos) (Mi X.K ta):=by
 intro d s k H R I h
 refine rc (tI I hg hm lT (d7 (Ej (ha pos d s k H _ I h) λU c ⟨vs,n,f,G,D⟩=>?_) (by rw[hs,hs2]) (by rw[hs2];rfl)))
 obtain⟨L,E,O,F,e,⟨W,M⟩,⟨V,B⟩,q⟩:=D
 subst e
 obtain⟨u,v,rfl,N,P⟩:=Je G
 cases N
 cases P
 obtain⟨J,T,w⟩:=f.sqx M
 obtain⟨z,Q,x⟩:=f.sqx B
 refine xB w x λt j y m r o S C=>?_
 refine lc (s:={c with heap:=t}) j ?_
 have A:Inv X d k n {c with heap:=t}:=f.kept (t':=c.toks) C
 refine⟨_,[c.heap.objs.size+4,c.heap.objs.size+2,c.heap.objs.size+3,c.heap.objs.size,c.heap.objs.size+1],_,_,n,rfl,A,Cc L E O F _ _ _ _ _ (yL w.lt x.lt),⟨j,y,⟨_,_,m⟩,r,o⟩,λb l=>?_,q⟩
 have g:c.heap.objs.size<=b:=by
  simp only[cZ,hU,or_false]at l
  rcases l with rfl|rfl|rfl|rfl|rfl <;> omega
 exact f.fpOk g (f.hok.fresh g)
end
theorem xr{K:cu}{t1 t2:Bool}{a b:cG}{xs ys:List V}{caps:List (Option Nat)}{g:TG}{te:TE}{σ:St}{QQ:List V->Hp->Prop}{H:Hp}(Pv:Nat->List V->Hp->Prop)(he:xs.length=ys.length)(h0:Pv 0 [] H)
  (hl:∀i zs H,i<=xs.length->Pv i zs H->Ja K H t1 a xs/\Ja K H t2 b ys)
  (hs:∀i x y zs H t,xs[i]?=some x->ys[i]?=some y->H t=none->Pv i zs H->g (.ref t) (E5 caps σ) (upd H t (.tup [x,y])) λσ2 H2=>te σ2 H2 λv H4=>zs.length<sizeLine/\Pv (i+1) (zs++[v]) H4)
  (hd:∀zs H,Pv xs.length zs H->QQ zs H):EC caps g FY te σ QQ (Mf K t1 t2 a b) H:=by
 refine⟨λi m zs H=>m=xs.length-i/\i<=xs.length/\Pv i zs H,⟨xs.length,by simp,du _,h0⟩,?_⟩
 rintro i m zs H ⟨rfl,k,p⟩
 obtain⟨d,f⟩:=hl i zs H k p
 by_cases c:i<xs.length
 ·refine .inr ⟨⟨xs,ys,xs[i],ys[i],d,f,by simp[c],by simp[show i<ys.length by omega]⟩,Pv (i+1),λo n j=>⟨xs.length-(i+1),by omega,rfl,c,j⟩,λx n y=>?_⟩
  obtain⟨h,l,t,h1,h2,rfl,h3,rfl⟩:=y
  simp only[tK]
  exact hs i h l zs H t (h1 xs d) (h2 ys f) h3 p
 ·have e:i=xs.length:=by omega
  subst e
  exact .inl ⟨⟨xs,d,rfl⟩,hd zs H p⟩
theorem BQ{M:Model}{A:dw}{E:cA->cD->Prop}{s:cD}{a:cG}{Q:Option Obj->cD->Prop}(h:Q (s.heap.get? a) s):wpAny M A (loadIfAlive a) Q E s:=λb p hA=>by
 show Sem.wp M b (Sem.loadIfAlive a Sem.pure) _ _ p s;rw[Sem.wp_loadIfAlive];exact cv h b p hA
def EX(h:Heap)(z TI TO T:cG):Prop:=∃(f1:Bool) (o:Obj),h.get? z=some {cls:= .type "zip",data:= .fields #[rawInt T,.bool f1,.bool false,.ref TI,.ref TO]}/\h.get? T=some o
theorem uH{prog:cT}{w:dc}{A:dw}{E:cA->cD->Prop}{s:cD}{z TI TO T:cG}{Q:Bool->cD->Prop}(hz:EX s.heap z TI TO T)(hne:T≠z)(hQ:∀h':Heap,EX h' z TI TO T->fK z s.heap h'->Q false {s with heap:=h'}):
  wpAny (model prog w) A (fS (.ref z)) Q E s:=by
 obtain⟨d,o,hz,a⟩:=hz
 unfold fS
 refine cr (eF hz rfl rfl ?_)
 refine cr (BQ ?_)
 rw[show s.heap.get? ((T:Int)).toNat=some o from a]
 refine cP rfl ?_
 refine cr (eF hz rfl rfl ?_)
 cases d with
 | false=>
  refine iT rfl (cr (eS hz (by simp) λh' b c=>cv (hQ h' ⟨true,o,b,(c.2 T hne).trans a⟩ c)))
 | true=>
  refine cP rfl (cv (hQ s.heap ⟨true,o,hz,a⟩ ⟨rfl,λ_ _=>rfl⟩))
theorem Aw{prog:cT}{w:dc}{A:dw}{E:cA->cD->Prop}{s:cD}{z TI TO i1 i2 T:cG}{fp1 fp2:List cG}{n1 n2 k1 k2:Nat}{P1 P2:Nat->cA->Prop}{St1 St2:Nat->Heap->Prop}{Q:cA->cD->Prop}
  (D1:Draws prog w A i1 fp1 n1 P1 St1)(D2:Draws prog w A i2 fp2 n2 P2 St2)(ap:Ka z TI TO i1 i2 fp1 fp2)(hz:EX s.heap z TI TO T)(hne:T≠z)(hn1:T≠i1)(hn2:T≠i2)(hTI:IsPair s.heap TI (.ref i1) (.ref i2))
  (s1:St1 k1 s.heap)(s2:St2 k2 s.heap)(hk1:k1<n1)(hk2:k2<n2)
  (hQ:∀(x y:cA) (h':Heap) (tk:Nat),P1 k1 x->P2 k2 y->EX h' z TI TO T->St1 (k1+1) h'->St2 (k2+1) h'->IsPair h' s.heap.objs.size x y->h'.objs.size=s.heap.objs.size+1->
   (∀c o,c≠z->c≠i1->c≠i2->s.heap.get? c=some o->h'.get? c=some o)->Q (.ref s.heap.objs.size) {s with heap:=h',toks:=tk}):
  wpAny (model prog w) A (Builtin.«zip.__next__» {pos:=[.ref z]}) (λfin s'=>∃v,fin=qF (qG v)/\Q v s') E s:=by
 have t:=hz
 obtain⟨O,o,g,P⟩:=t
 unfold Builtin.«zip.__next__»
 refine cr (cv ?_)
 refine cr (eF g rfl rfl ?_)
 refine cr (eF g rfl rfl ?_)
 refine cr (fR hTI rfl ?_)
 refine cP rfl ?_
 refine cr (uH hz hne λh1 B f=>?_)
 refine cP rfl ?_
 dsimp only
 rw[<-im]
 rw[show #[cR i1,cR i2].toList=[cR i1,cR i2]from rfl,eg,bind_assoc]
 have G:St1 k1 h1:=D1.frame _ _ _ s1 λc d o q=>(f.2 c (λe=>ap.z1 (e▸d))).trans q
 have u:St2 k2 h1:=D2.frame _ _ _ s2 λc d o q=>(f.2 c (λe=>ap.z2 (e▸d))).trans q
 refine cr (cr (dG ?_))
 refine(show wpAny (model prog w) A (if(er false==er true)=true then fC (.ref i1)else do let x<-d4 (.ref i1);pure (some x)) _ _ _ from cP rfl (cr (D1.item k1 _ _ _ hk1 G λx h2 N I F a=>cv (cv ?_))))
 dsimp only
 have p:St2 k2 h2:=D2.frame _ _ _ u λc d o q=>(a.2 c (λe=>ap.i12' (e▸d))).trans q
 rw[eg,bind_assoc]
 refine cr (cr (dG ?_))
 refine(show wpAny (model prog w) A (if(er false==er true)=true then fC (.ref i2)else do let x<-d4 (.ref i2);pure (some x)) _ _ _ from cP rfl (cr (D2.item k2 _ _ _ hk2 p λy h3 r L n b=>cv (cv ?_))))
 dsimp only
 rw[gr]
 refine cr (cv ?_)
 dsimp only
 refine cr (iU ?_ (by show 2<=sizeLine;decide))
 refine cv ⟨_,rfl,?_⟩
 have l:h3.objs.size=s.heap.objs.size:=by rw[b.1,a.1,f.1]
 have C:St1 (k1+1) h3:=D1.frame _ _ _ F λc d o q=>(b.2 c (λe=>ap.i21 (e▸d))).trans q
 have K:∀c o,c≠z->c≠i1->c≠i2->s.heap.get? c=some o->h3.get? c=some o:=λc o k j m q=>(b.2 c m).trans ((a.2 c j).trans ((f.2 c k).trans q))
 obtain⟨g1,H,h,D⟩:=B
 have M:h3.get? z=some _:=(b.2 z (Ne.symm ap.i2z)).trans ((a.2 z (Ne.symm ap.i1z)).trans h)
 have J:h3.get? T=some H:=(b.2 T hn2).trans ((a.2 T hn1).trans D)
 dsimp only
 rw[l]
 refine hQ x y _ r I L ⟨g1,H,cF _ M,cF _ J⟩ (D1.frame _ _ _ C λc _ o q=>cF _ q) (D2.frame _ _ _ n λc _ o q=>cF _ q) ?_ ?_ (λc o k j m q=>cF _ (K c o k j m q))
 ·rw[<-l];exact cN _ rfl
 ·show(h3.push _).objs.size=_
  unfold k9
  simp[l]
theorem BW{prog:cT}{w:dc}{A:dw}{E:cA->cD->Prop}{s:cD}{z TI TO i1 i2 T:cG}{fp1:List cG}{n1:Nat}{P1:Nat->cA->Prop}{St1:Nat->Heap->Prop}{Q:PySem.Fin->cD->Prop}
  (D1:Draws prog w A i1 fp1 n1 P1 St1)(z1:z∉fp1)(hz:EX s.heap z TI TO T)(hne:T≠z)(hTI:IsPair s.heap TI (.ref i1) (.ref i2))(s1:St1 n1 s.heap)
  (hE:∀(h':Heap) (e:cG),(∀c o,c≠z->c≠i1->s.heap.get? c=some o->h'.get? c=some o)->(∃o,h'.get? e=some o/\o.cls = .type "StopIteration")->E (.ref e) {s with heap:=h'}):
  wpAny (model prog w) A (Builtin.«zip.__next__» {pos:=[.ref z]}) Q E s:=by
 have f:=hz
 obtain⟨n,o,a,p⟩:=f
 unfold Builtin.«zip.__next__»
 refine cr (cv ?_)
 refine cr (eF a rfl rfl ?_)
 refine cr (eF a rfl rfl ?_)
 refine cr (fR hTI rfl ?_)
 refine cP rfl ?_
 refine cr (uH hz hne λh1 m b=>?_)
 refine cP rfl ?_
 dsimp only
 rw[<-im]
 rw[show #[cR i1,cR i2].toList=[cR i1,cR i2]from rfl,eg,bind_assoc]
 have g:St1 n1 h1:=D1.frame _ _ _ s1 λc l o q=>(b.2 c (λe=>z1 (e▸l))).trans q
 refine cr (cr (dG ?_))
 exact(show wpAny (model prog w) A (if(er false==er true)=true then fC (.ref i1)else do let x<-d4 (.ref i1);pure (some x)) _ _ _ from cP rfl (cr (D1.done _ _ _ g λh2 e d j=>hE h2 e (λc o k h q=>d c o h ((b.2 c k).trans q)) j)))
def Ld(h:Heap)(z TI TO T:cG):Prop:=(IsZip h z TI TO .none/\∃a b,IsPair h TO a b)\/EX h z TI TO T
theorem s9{α β:Type}{R:α->β->Prop}:∀{l:List α} {m:List β},l.length=m.length->(∀(i:Nat) a b,l[i]?=some a->m[i]?=some b->R a b)->dr R l m
 | [],[],_,_=> .nil
 | a::l,b::m,hl,h=> .cons (h 0 a b rfl rfl) (s9 (by simpa using hl) λi x y c d=>h (i+1) x y (by simpa using c) (by simpa using d))
def Kk(K:cu):R2:=λx y H Q=>∃(a b:cG) (xs ys:List V),x = .ref a/\y = .ref b/\SqT K H a xs/\SqT K H b ys/\xs.length+ys.length<=sizeLine/\
 ∀p H',Same H H'->SqT K H' p (xs++ys)->Q (.ref p) H'
theorem zZ{X:Cx}:Fo X (binaryOp .Add) (Kk X.K):=by
 intro l s J H x y v u Q I z t h;obtain⟨a,b,A,S,rfl,rfl,o,k,G,q⟩:=h;by_cases m:A=[]
 ·cases z
  cases t;obtain⟨d,R,T,_⟩:=I.tuple o;obtain⟨j,Y,V,_⟩:=I.tuple k;have N:d=[]:=R.nil_iff.mpr m;obtain⟨⟨W,L,M,U⟩,w,B,n,C⟩:=id T;obtain⟨⟨O,D,E,r⟩,f,c,P,g⟩:=id V;simp only at B C c g;subst B C c g;refine ng ⟨_,w,rfl⟩ ⟨_,f,rfl⟩ kW mw jr jj (i9 _ _)
   (tuple_addW0 a b d.toArray j.toArray n P L D U r (by simp[N])) ⟨w,f,?_⟩
  exact⟨.ref b,H,I,rfl,q b H (Same.refl _) (by rw[m];exact k)⟩
 ·refine Dr l s J H (.ref a) (.ref b) v u Q I z t ⟨a,b,A,S,rfl,rfl,o,k,m,G,λe=>?_,λ_ p hp=>?_⟩
  ·exact q a H (Same.refl _) (by rw[e,fV];exact o)
  ·exact q p _ (rr hp _) (SqT.of rC)
def E4(w ts:List Int):List Int:=w.filter λt=>!decide (t∈ts)
def Fc(w ts:List Int):Int:=(E4 w ts).getD 0 0
theorem IP:∀(row ts:List Int),row.Nodup->(∀t∈row,t∈ts)->row.length<=ts.length
 | [],_,_,_=>du _
 | a::r,ts,hn,h=>by
  have b:=h a cM
  have:=IP r (ts.erase a) (fz.mp hn).2 λt c=>(mf (show t≠a from λz=>(fz.mp hn).1 (z▸c))).mpr (h t (cO _ c))
  rw[kR b]at this
  have:=List.length_pos_of_mem b
  rw[dQ]
  omega
theorem Bj{n:Nat}{w ts:List Int}(h:LN.Pm n w)(hl:ts.length<n):∃t∈w,t∉ts:=by
 refine dM λz=>?_
 have:=IP w ts h.nodup λt a=>dM λy=>z ⟨t,a,y⟩
 rw[h.len]at this;omega
theorem xA{w ts:List Int}(h:∃t∈w,t∉ts):(E4 w ts)[0]?=some (Fc w ts)/\Fc w ts∈w/\Fc w ts∉ts:=by
 obtain⟨t,h1,h2⟩:=h;have c:t∈E4 w ts:=d8.mpr ⟨h1,by simpa using h2⟩;unfold Fc
 cases a:E4 w ts with
 | nil=>rw[a]at c;cases c
 | cons b r=>
  have d:b∈E4 w ts:=by rw[a];exact cM
  obtain⟨h3,h4⟩:=d8.mp d;exact⟨rfl,h3,by simpa using h4⟩
def tk(W:List (List Int))(o:List Int):Nat->List Int
 | 0=>[]
 | k+1=>tk W o k++[Fc (W.getD (o.getD k 0).toNat []) (tk W o k)]
def bt(W:List (List Int))(o:List Int)(k:Nat):Int:=Fc (W.getD (o.getD k 0).toNat []) (tk W o k)
theorem CN(W:List (List Int))(o:List Int):∀k,tk W o k=(db k).map (bt W o)
 | 0=>rfl
 | k+1=>by
  rw[gf,cS,<-CN W o k]
  rfl
theorem Ap(W:List (List Int))(o:List Int)(k:Nat):(tk W o k).length=k:=by rw[CN];simp
structure Fj(n:Nat)(W:List (List Int)):Prop where
 lo:1<=n
 hi:n<=6
 len:W.length=n
 pm:∀w∈W,LN.Pm n w
theorem DJ{K:cu}{H:Hp}{a b:cG}{l m:List Int}{Q:VK}(h1:SqT K H a (l.map V.int))(h2:SqT K H b (m.map V.int))(hl:l.length+m.length<=1000)(q:∀p H',Same H H'->SqT K H' p ((l++m).map V.int)->Q (.ref p) H'):Kk K (.ref a) (.ref b) H Q:=
 ⟨a,b,_,_,rfl,rfl,h1,h2,by rw[cx,cx];exact dg hl (by decide),λp H' S h=>q p H' S (by rw[cS];exact h)⟩
end L2
namespace HM
open LM LN
def cnt(n:Nat)(S:Nat->Bool):Nat:=(db n).countP S
theorem sV(n:Nat)(S:Nat->Bool):cnt (n+1) S=cnt n S+if S n=true then 1 else 0:=by
 unfold cnt;rw[gf,List.countP_append];simp[List.countP_cons]
theorem sT{S S':Nat->Bool}:∀{n:Nat},(∀i,i<n->S i=true->S' i=true)->cnt n S<=cnt n S'
 | 0,_=>cI _
 | n+1,h=>by
  have b:=sT (n:=n) λi a=>h i (dz a)
  rw[sV,sV]
  by_cases e:S n=true
  ·rw[if_pos e,if_pos (h n (dH n) e)];omega
  ·rw[if_neg e];omega
theorem vf(S S':Nat->Bool):∀n:Nat,cnt n (λi=>S i||S' i)<=cnt n S+cnt n S'
 | 0=>cI _
 | n+1=>by
  have a:=vf S S' n
  rw[sV,sV,sV]
  cases S n <;> cases S' n <;> simp <;> omega
theorem uz{S S':Nat->Bool}(hd:∀i,S i=true->S' i=true->False):∀n:Nat,cnt n (λi=>S i||S' i)=cnt n S+cnt n S'
 | 0=>rfl
 | n+1=>by
  have a:=uz hd n
  rw[sV,sV,sV,a]
  cases h1:S n <;> cases h2:S' n <;> simp <;> try omega
  exact(hd n h1 h2).elim
theorem cnt_pos{S:Nat->Bool}:∀{n:Nat},0<cnt n S->∃i,i<n/\S i=true
 | 0,h=>absurd h (dt _)
 | n+1,h=>by
  rw[sV]at h
  by_cases e:S n=true
  ·exact⟨n,dH n,e⟩
  ·rw[if_neg e]at h
   obtain⟨i,h1,h2⟩:=cnt_pos (n:=n) (by omega)
   exact⟨i,dz h1,h2⟩
theorem cnt_one(c:Nat):∀n:Nat,cnt n (λi=>i==c)=if c<n then 1 else 0
 | 0=>rfl
 | n+1=>by
  rw[sV,cnt_one c n]
  by_cases e:n=c
  ·subst e;simp
  ·by_cases h:c<n
   ·simp[e,h,show c<n+1 by omega]
   ·simp[e,h,show ¬c<n+1 by omega]
theorem w6(n:Nat)(A S:Nat->Bool)(h:∀i,S i=true->A i=true):cnt n A=cnt n S+cnt n (λi=>A i && !S i):=by
 rw[<-uz (S:=S) (S':=λi=>A i && !S i) (λi h1 h2=>by simp[h1]at h2)]
 congr 1
 funext i
 cases h1:S i with
 | true=>simp[h i h1]
 | false=>simp
def nb(n:Nat)(E:Nat->Nat->Bool)(S:Nat->Bool)(c:Nat):Bool:=(db n).any λr=>S r&&E r c
theorem uP{n:Nat}{E:Nat->Nat->Bool}{S:Nat->Bool}{c:Nat}:nb n E S c=true↔∃r,r<n/\S r=true/\E r c=true:=by
 unfold nb;rw[i3];constructor
 ·rintro⟨r,h1,h2⟩;rw[dn]at h2;exact⟨r,dY.mp h1,h2⟩
 ·rintro⟨r,h1,h2,h3⟩;exact⟨r,dY.mpr h1,by rw[h2,h3];rfl⟩
theorem hall(n:Nat):∀(m:Nat) (A:Nat->Bool) (E:Nat->Nat->Bool),cnt n A=m->(∀S:Nat->Bool,(∀i,S i=true->A i=true)->cnt n S<=cnt n (nb n E S))->
  ∃f:Nat->Nat,(∀r,r<n->A r=true->f r<n/\E r (f r)=true)/\∀r r',r<n->r'<n->A r=true->A r'=true->f r=f r'->r=r':=by
 intro m
 induction m using Nat.strongRecOn with
 | _ m L=>
  intro A E hA F
  by_cases h0:m=0
  ·have P:∀r,r<n->A r=true->False:=λr b h=>by
    have:cnt n (λi=>i==r)<=cnt n A:=sT λi _ e=>by rw[eq_of_beq e];exact h
    rw[cnt_one,if_pos b,hA,h0]at this
    omega
   exact⟨λ_=>0,λr b h=>(P r b h).elim,λr _ b _ h=>(P r b h).elim⟩
  by_cases q:∃a:Nat->Bool,(∀i,a i=true->A i=true)/\0<cnt n a/\cnt n a<m/\cnt n (nb n E a)<=cnt n a
  ·obtain⟨a,I,hp,V,X⟩:=q
   obtain⟨N,g1,g2⟩:=L _ V a E rfl λS h=>F S λi l=>I i (h i l)
   have B:=w6 n A a I
   obtain⟨Q,p,H⟩:=L (cnt n λi=>A i && !a i) (by omega) (λi=>A i && !a i) (λr c=>E r c && !nb n E a c) rfl λS h=>by
    have G:∀i,S i=true->a i=true->False:=λi h1 h2=>by
     have:=h i h1
     simp[h2]at this
    have U:=F (λi=>S i||a i) λi l=>by
     rcases j4.mp l with z|z
     ·have:=h i z
      rw[dn]at this
      exact this.1
     ·exact I i z
    rw[uz G]at U
    have h2:cnt n (nb n E λi=>S i||a i)<=cnt n (λc=>nb n (λr c=>E r c && !nb n E a c) S c||nb n E a c):=sT λc _ q=>by
     obtain⟨r,b,J,u⟩:=uP.mp q
     cases v:nb n E a c with
     | true=>simp
     | false=>
      rw[kI]
      rcases j4.mp J with z|z
      ·exact uP.mpr ⟨r,b,z,by simp[u,v]⟩
      ·exact absurd (uP.mpr ⟨r,b,z,u⟩) (by rw[v];exact de)
    have h3:=vf (nb n (λr c=>E r c && !nb n E a c) S) (nb n E a) n
    omega
   have y:∀r r',r<n->a r=true->r'<n->A r'=true->¬a r'=true->N r=Q r'->False:=λr r' b h1 g h2 h3 e=>by
    have s:=(g1 r b h1).2
    have j:=(p r' g (by simp[h2,h3])).2
    rw[<-e,dn]at j
    have:=uP.mpr ⟨r,b,h1,s⟩
    rw[this]at j
    exact absurd j.2 (by decide)
   refine⟨λr=>if a r=true then N r else Q r,λr b h=>?_,λr r' b g h t e=>?_⟩
   ·dsimp only
    by_cases z:a r=true
    ·rw[if_pos z];exact g1 r b z
    ·rw[if_neg z]
     obtain⟨s,j⟩:=p r b (by simp[h,z])
     rw[dn]at j
     exact⟨s,j.1⟩
   ·dsimp only at e
    by_cases z:a r=true
    ·rw[if_pos z]at e
     by_cases d:a r'=true
     ·rw[if_pos d]at e;exact g2 r r' b g z d e
     ·rw[if_neg d]at e;exact(y r r' b z g t d e).elim
    ·rw[if_neg z]at e
     by_cases d:a r'=true
     ·rw[if_pos d]at e;exact(y r' r g d b h z e.symm).elim
     ·rw[if_neg d]at e;exact H r r' b g (by simp[h,z]) (by simp[t,d]) e
  ·obtain⟨K,C,x⟩:=cnt_pos (n:=n) (S:=A) (by omega)
   have h1:=F (λi=>i==K) λi l=>by rw[eq_of_beq l];exact x
   rw[cnt_one,if_pos C]at h1
   obtain⟨o,w,T⟩:=cnt_pos (n:=n) (S:=nb n E λi=>i==K) (by omega)
   obtain⟨k,Y,D,R⟩:=uP.mp T
   have D:k=K:=eq_of_beq D
   subst D
   have B:=w6 n A (λi=>i==k) λi l=>by rw[eq_of_beq l];exact x
   rw[cnt_one,if_pos C]at B
   obtain⟨f,p,H⟩:=L (cnt n λi=>A i && !(i==k)) (by omega) (λi=>A i && !(i==k)) (λr c=>E r c && !(c==o)) rfl λS h=>by
    by_cases Z:cnt n S=0
    ·omega
    have M:∀i,S i=true->A i=true:=λi l=>by
     have:=h i l
     rw[dn]at this
     exact this.1
    have O:cnt n S<m:=by
     have:=sT (n:=n) λi _=>h i
     omega
    have W:cnt n S<cnt n (nb n E S):=dM λz=>q ⟨S,M,by omega,O,by omega⟩
    have h2:cnt n (nb n E S)<=cnt n (λc=>nb n (λr c=>E r c && !(c==o)) S c||c==o):=sT λc _ q=>by
     obtain⟨r,b,J,u⟩:=uP.mp q
     cases v:c==o with
     | true=>simp
     | false=>rw[kI];exact uP.mpr ⟨r,b,J,by simp[u,v]⟩
    have h3:=vf (nb n (λr c=>E r c && !(c==o)) S) (λc=>c==o) n
    have h4:=cnt_one o n
    rw[if_pos w]at h4
    omega
   refine⟨λr=>if r=k then o else f r,λr b h=>?_,λr r' b g h t e=>?_⟩
   ·dsimp only
    by_cases z:r=k
    ·rw[if_pos z,z];exact⟨w,R⟩
    ·rw[if_neg z]
     obtain⟨s,j⟩:=p r b (by simp[h,z])
     rw[dn]at j
     exact⟨s,j.1⟩
   ·dsimp only at e
    by_cases z:r=k
    ·by_cases d:r'=k
     ·rw[z,d]
     ·rw[if_pos z,if_neg d]at e
      have:=(p r' g (by simp[t,d])).2
      rw[<-e]at this
      simp at this
    ·by_cases d:r'=k
     ·rw[if_neg z,if_pos d]at e
      have:=(p r b (by simp[h,z])).2
      rw[e]at this
      simp at this
     ·rw[if_neg z,if_neg d]at e
      exact H r r' b g (by simp[h,z]) (by simp[t,d]) e
def sm:Nat->(Nat->Int)->Int
 | 0,_=>0
 | n+1,f=>sm n f+f n
theorem sm_congr{f g:Nat->Int}:∀{n:Nat},(∀i,i<n->f i=g i)->sm n f=sm n g
 | 0,_=>rfl
 | n+1,h=>by
  show sm n f+f n=sm n g+g n
  rw[sm_congr λi a=>h i (dz a),h n (dH n)]
theorem sm_le{f g:Nat->Int}:∀{n:Nat},(∀i,i<n->f i<=g i)->sm n f<=sm n g
 | 0,_=>fE _
 | n+1,h=>by
  have h1:=sm_le λi a=>h i (dz a)
  have h2:=h n (dH n)
  show sm n f+f n<=sm n g+g n
  omega
theorem sm_add(f g:Nat->Int):∀n:Nat,sm n (λi=>f i+g i)=sm n f+sm n g
 | 0=>rfl
 | n+1=>by
  show sm n (λi=>f i+g i)+(f n+g n)=(sm n f+f n)+(sm n g+g n)
  rw[sm_add f g n]
  omega
theorem sm_zero:∀n:Nat,sm n (λ_=>0)=0
 | 0=>rfl
 | n+1=>by show sm n (λ_=>0)+0=0;rw[sm_zero n];rfl
theorem sm_swap(a:Nat->Nat->Int)(m:Nat):∀n:Nat,sm n (λi=>sm m (a i))=sm m (λj=>sm n λi=>a i j)
 | 0=>(sm_zero m).symm
 | n+1=>by
  show sm n (λi=>sm m (a i))+sm m (a n)=sm m (λj=>(sm n λi=>a i j)+a n j)
  rw[sm_swap a m n,sm_add]
theorem sm_cnt(S:Nat->Bool)(R:Int):∀n:Nat,sm n (λi=>if S i=true then R else 0)=R*cnt n S
 | 0=>by show(0:Int)=R*0;simp
 | n+1=>by
  show sm n _+(if S n=true then R else 0)=_
  rw[sm_cnt S R n,sV]
  by_cases e:S n=true
  ·rw[if_pos e,if_pos e];push_cast;rw[jl,ia]
  ·rw[if_neg e,if_neg e];simp
structure LP(n:Nat)(M:Nat->Nat->Int)(R:Int):Prop where
 pos:0<R
 nn:∀i j,0<=M i j
 row:∀i,i<n->sm n (M i)=R
 col:∀j,j<n->sm n (λi=>M i j)=R
theorem CZ{n:Nat}{M:Nat->Nat->Int}{R:Int}(h:LP n M R):∃f:Nat->Nat,(∀r,r<n->f r<n/\M r (f r)≠0)/\∀r r',r<n->r'<n->f r=f r'->r=r':=by
 obtain⟨f,h1,h2⟩:=hall n _ (λ_=>true) (λr c=>decide (M r c≠0)) rfl λS _=>by
  have k:sm n (λi=>if S i=true then R else 0)=sm n (λi=>sm n λj=>if S i=true then M i j else 0):=sm_congr λi b=>by
   by_cases e:S i=true
   ·rw[if_pos e,<-h.row i b];exact sm_congr λj _=>by rw[if_pos e]
   ·rw[if_neg e];exact(sm_zero n).symm.trans (sm_congr λj _=>by rw[if_neg e])
  have d:sm n (λj=>sm n λi=>if S i=true then M i j else 0)<=sm n (λj=>if nb n (λr c=>decide (M r c≠0)) S j=true then R else 0):=sm_le λj l=>by
   by_cases e:nb n (λr c=>decide (M r c≠0)) S j=true
   ·rw[if_pos e,<-h.col j l];exact sm_le λi _=>by
     by_cases z:S i=true
     ·rw[if_pos z];exact fE _
     ·rw[if_neg z];exact h.nn i j
   ·rw[if_neg e];exact Int.le_of_eq ((sm_congr λi b=>by
     by_cases z:S i=true
     ·rw[if_pos z];exact dM λy=>e (uP.mpr ⟨i,b,z,decide_eq_true y⟩)
     ·rw[if_neg z]).trans (sm_zero n))
  rw[<-sm_swap,<-k,sm_cnt,sm_cnt]at d;have:=Int.le_of_mul_le_mul_left d h.pos;omega
 exact⟨f,λr a=>⟨(h1 r a rfl).1,by simpa using(h1 r a rfl).2⟩,λr r' a g e=>h2 r r' a g rfl rfl e⟩
end HM
namespace HM
open LM LN
def ent(M:List (List Int))(p t:Nat):Int:=(M.getD p []).getD t 0
structure Reg(n:Nat)(M:List (List Int))(R:Int):Prop where
 len:M.length=n
 cols:∀r∈M,r.length=n
 nn:∀p t,0<=ent M p t
 row:∀i,i<n->sm n (ent M i)=R
 col:∀j,j<n->sm n (λi=>ent M i j)=R
theorem getD_lt{α:Type}{l:List α}{i:Nat}{d:α}(h:i<l.length):l.getD i d=l[i]:=by rw[cC,cz h];rfl
theorem addDeal_len{M:List (List Int)}{d:List Int}{w:Int}(h:M.length=d.length):(addDeal M d w).length=M.length:=by simp[addDeal,h]
theorem addDeal_get{M:List (List Int)}{d:List Int}{w:Int}{p:Nat}(h:M.length=d.length)(hp:p<M.length):(addDeal M d w)[p]?=some (addOne (M.getD p []) (d.getD p 0) w):=by
 unfold addDeal;rw[lU,cz hp,cz (show p<d.length by omega),getD_lt hp,getD_lt (show p<d.length by omega)]
theorem Am{n:Nat}{M:List (List Int)}{R:Int}{d:List Int}{w:Int}(h:Reg n M R)(hd:d.length=n)(hb:∀t∈d,0<=t/\t<n){p:Nat}(hp:p<n)(t:Nat):
  ent (addDeal M d w) p t=ent M p t+if(d.getD p 0).toNat=t then w else 0:=by
 have f:M.length=d.length:=by rw[h.len,hd]
 have a:p<M.length:=by rw[h.len];exact hp
 have b:(M.getD p []).length=n:=by rw[getD_lt a];exact h.cols _ (cW a)
 have c:=hb (d.getD p 0) (by rw[getD_lt (show p<d.length by omega)];exact cW _)
 unfold ent
 rw[show(addDeal M d w).getD p []=addOne (M.getD p []) (d.getD p 0) w by rw[cC,addDeal_get f a];rfl]
 generalize M.getD p []=r at b
 generalize d.getD p 0=x at c
 unfold addOne
 rw[cC,jx]
 by_cases e:x.toNat=t
 ·subst e
  rw[if_pos rfl,if_pos rfl,if_pos (by omega)]
  rfl
 ·rw[if_neg e,if_neg e,<-cC]
  omega
theorem A5{S S':Nat->Bool}{n:Nat}(h:∀i,i<n->S i=S' i):cnt n S=cnt n S':=
 Nat.le_antisymm (sT λi a e=>by rw[<-h i a];exact e) (sT λi a e=>by rw[h i a];exact e)
theorem pm_at{n:Nat}{d:List Int}(h:Pm n d){t:Nat}(ht:t<n):∃p,p<n/\d.getD p 0=(t:Int)/\∀q,q<n->(d.getD q 0).toNat=t->q=p:=by
 obtain⟨p,hp,e⟩:=eO.mp (h.mem.mpr (show(0:Int)<=(t:Int)/\(t:Int)<n by omega));have g:=h.len;refine⟨p,by omega,by rw[getD_lt hp,e],λq f c=>?_⟩;have a:q<d.length:=by omega
 have b:=h.mem.mp (cW a);rw[getD_lt a]at c;have:d[q]=d[p]:=by rw[e];omega
 exact(nL a h.nodup).mp (by rw[cz a,cz hp,this])
theorem uU{n:Nat}{p:Nat}(hp:p<n){S:Nat->Bool}(hS:∀q,q<n->(S q=true↔q=p))(w:Int):sm n (λq=>if S q=true then w else 0)=w:=by
 rw[sm_cnt,A5 (S':=λq=>q==p) λi a=>by
  rw[gx,hS i a];exact⟨λe=>by rw[e];exact beq_self_eq_true _,λe=>eq_of_beq e⟩,cnt_one,if_pos hp]
 simp
theorem C8{n:Nat}{M:List (List Int)}{r:List Int}(hl:M.length=n)(hr:r∈M):∃p,p<n/\M.getD p []=r:=by
 obtain⟨p,hp,e⟩:=eO.mp hr;exact⟨p,by omega,by rw[getD_lt hp,e]⟩
theorem Reg.add{n:Nat}{M:List (List Int)}{R:Int}{d:List Int}{w:Int}(h:Reg n M R)(hd:Pm n d)(hw:∀p,p<n->0<=ent M p (d.getD p 0).toNat+w):Reg n (addDeal M d w) (R+w):=by
 have b:=hd.len;have o:M.length=d.length:=by rw[h.len,b]
 have m:∀t∈d,0<=t/\t<n:=λt f=>hd.mem.mp f
 have l:=λ {p} (hp:p<n) t=>Am (w:=w) h b m hp t
 have a:(addDeal M d w).length=n:=by rw[addDeal_len o,h.len]
 have bd:∀p,p<n->0<=d.getD p 0/\d.getD p 0<n:=λp hp=>m _ (by rw[getD_lt (show p<d.length by omega)];exact cW _)
 refine⟨a,λr x=>?_,λp t=>?_,λi k=>?_,λj s=>?_⟩
 ·obtain⟨p,hp,e⟩:=C8 a x;rw[<-e,cC,addDeal_get o (by rw[h.len];exact hp)];show(addOne _ _ _).length=n;rw[zr];have c:p<M.length:=by rw[h.len];exact hp
  rw[getD_lt c];exact h.cols _ (cW c)
 ·by_cases hp:p<n
  ·rw[l hp];by_cases e:(d.getD p 0).toNat=t
   ·rw[if_pos e,<-e];exact hw p hp
   ·rw[if_neg e,gD];exact h.nn p t
  ·unfold ent;rw[show(addDeal M d w).getD p []=[]by rw[cC,gi (by omega)];rfl];exact fE 0
 ·rw[sm_congr (g:=λt=>ent M i t+if decide ((d.getD i 0).toNat=t)=true then w else 0) λt _=>by rw[l k];simp,sm_add,h.row i k,uU (p:=(d.getD i 0).toNat) (by have:=bd i k;omega) (λq _=>by rw[decide_eq_true_iff];exact eq_comm)]
 ·obtain⟨p,hp,e,v⟩:=pm_at hd s;rw[sm_congr (g:=λi=>ent M i j+if decide ((d.getD i 0).toNat=j)=true then w else 0) λt f=>by rw[l f];simp,sm_add,h.col j s,uU (p:=p) hp (λq u=>by
   rw[decide_eq_true_iff];exact⟨v q u,λz=>by rw[z,e];rfl⟩)]
theorem Reg.regF{n:Nat}{M:List (List Int)}{R:Int}(h:Reg n M R)(hR:0<R):LP n (ent M) R:=⟨hR,h.nn,h.row,h.col⟩
def within(M:List (List Int)):Nat->List Int->Option (List Int)
 | 0,b=>some b
 | k+1,b=>(db M.length).findSome? λt=>if ent M b.length t≠0/\(t:Int)∉b then within M k (b++[(t:Int)])else none
theorem uR{M:List (List Int)}:∀{k:Nat} {b d:List Int},within M k b=some d->b.Nodup->d.Nodup/\d.length=b.length+k/\(∀j,j<b.length->d.getD j 0=b.getD j 0)/\∀j,b.length<=j->j<b.length+k->∃t:Nat,t<M.length/\d.getD j 0=(t:Int)/\ent M j t≠0
 | 0,b,d,h,hb=>by
  cases h
  exact⟨hb,rfl,λ_ _=>rfl,λj h1 h2=>by omega⟩
 | k+1,b,d,h,hb=>by
  obtain⟨t,f,e⟩:=List.exists_of_findSome?_eq_some h
  split at e
  ·rename_i hc
   have a:(b++[(t:Int)]).Nodup:=gv.mpr ⟨hb,by simp,λx n y g=>by rw[cK.mp g];intro z;exact hc.2 (z▸n)⟩
   obtain⟨h1,h2,h3,h4⟩:=uR e a
   rw[dq,eU]at h2 h3 h4
   have c:d.getD b.length 0=(t:Int):=by
    rw[h3 b.length (by omega),cC,eZ (cI _),il]
    rfl
   refine⟨h1,by omega,λj m=>?_,λj o p=>?_⟩
   ·rw[h3 j (by omega),cC,gO m,<-cC]
   ·by_cases l:j=b.length
    ·subst l
     exact⟨t,dY.mp f,c,hc.1⟩
    ·exact h4 j (by omega) (by omega)
  ·cases e
theorem vC{M:List (List Int)}{f:Nat->Nat}(hf:∀j,j<M.length->f j<M.length/\ent M j (f j)≠0)(hi:∀j j',j<M.length->j'<M.length->f j=f j'->j=j'):∀{k:Nat} {b:List Int},b.length+k<=M.length->(∀j,b.length<=j->j<b.length+k->(f j:Int)∉b)->(within M k b).isSome=true
 | 0,b,_,_=>rfl
 | k+1,b,hl,hb=>by
  unfold within
  rw[List.findSome?_isSome_iff]
  obtain⟨h1,h2⟩:=hf b.length (by omega)
  refine⟨f b.length,dY.mpr h1,?_⟩
  rw[if_pos ⟨h2,hb b.length (cI _) (by omega)⟩]
  refine vC hf hi (by rw[dq,eU];omega) λj c a z=>?_
  rw[dq,eU]at c a
  rcases dJ.mp z with z|z
  ·exact hb j (by omega) (by omega) z
  ·have:=cK.mp z
   have:=hi j b.length (by omega) (by omega) (by omega)
   omega
theorem D3{n:Nat}{d:List Int}(hl:d.length=n)(hn:d.Nodup)(hb:∀t∈d,0<=t/\t<n):Pm n d:=by
 unfold Pm;have c:∀(m:Nat) (l:List Int) (r:List Int),l.length=m->r.length=m->l.Nodup->(∀t∈l,t∈r)->l.Perm r:=by
  intro m
  induction m with
  | zero=>intro l r h1 h2 _ _;rw[jk.mp h1,jk.mp h2]
  | succ m f=>
   intro l r h1 h2 hn h
   cases l with
   | nil=>cases h1
   | cons a l=>
    have e:=h a cM;refine(p7.cons a (f l (r.erase a) (by simpa using h1) (by rw[kR e,h2];rfl) (fz.mp hn).2 λt b=>?_)).trans (List.perm_cons_erase e).symm;exact(mf (show t≠a from λz=>(fz.mp hn).1 (z▸b))).mpr (h t (cO _ b))
 exact c n d (rng n) hl (rng_len n) hn λt b=>mem_rng.mpr (hb t b)
def valsM(M:List (List Int))(d:List Int):List Int:=qd (λr t=>r.getD t.toNat 0) M d
def minGo(s:Int)(l:List Int):Int:=l.foldl (λs p=>if p<s then p else s) s
def minL(l:List Int):Int:=minGo (l.headD 0) l
theorem yY:∀(l:List Int) (s:Int),minGo s l<=s/\(∀x∈l,minGo s l<=x)/\(minGo s l=s\/minGo s l∈l)
 | [],s=>⟨fE _,(λ_ h=>nomatch h),.inl rfl⟩
 | a::l,s=>by
  obtain⟨h1,h2,h3⟩:=yY l (if a<s then a else s)
  have e:minGo s (a::l)=minGo (if a<s then a else s) l:=rfl
  rw[e]
  by_cases c:a<s
  ·rw[if_pos c]at h1 h2 h3 ⊢
   refine⟨by omega,λx b=>?_,.inr ?_⟩
   ·rcases cZ.mp b with z|z
    ·rw[z];exact h1
    ·exact h2 x z
   ·rcases h3 with z|z
    ·rw[z];exact cM
    ·exact cO _ z
  ·rw[if_neg c]at h1 h2 h3 ⊢
   refine⟨h1,λx b=>?_,?_⟩
   ·rcases cZ.mp b with z|z
    ·rw[z];omega
    ·exact h2 x z
   ·rcases h3 with z|z
    ·exact .inl z
    ·exact .inr (cO _ z)
theorem Dq{l:List Int}(h:l≠[]):minL l∈l/\∀x∈l,minL l<=x:=by
 cases l with
 | nil=>exact absurd rfl h
 | cons a l=>
  obtain⟨h1,h2,h3⟩:=yY (a::l) a;refine⟨?_,h2⟩;rcases h3 with z|z
  ·show minGo a (a::l)∈_;rw[z];exact cM
  ·exact z
def dealOf(M:List (List Int)):List Int:=(within M M.length []).getD []
def wOf(M:List (List Int)):Int:=minL (valsM M (dealOf M))
theorem sm_one_le{n:Nat}{f:Nat->Int}(hf:∀i,0<=f i):∀{i:Nat},i<n->f i<=sm n f:=by
 have a:∀m,0<=sm m f:=λm=>by
  have:=sm_le (n:=m) (f:=λ_=>0) (g:=f) λi _=>hf i
  rw[sm_zero]at this;exact this
 induction n with
 | zero=>intro i h;exact absurd h (gz _)
 | succ n b=>
  intro i h;show f i<=sm n f+f n;by_cases e:i=n
  ·subst e;have:=a i;omega
  ·have:=b (i:=i) (by omega);have:=hf n;omega
structure JH(n:Nat)(M:List (List Int))(R:Int):Prop where
 some:within M n []=some (dealOf M)
 pm:Pm n (dealOf M)
 ne:∀p,p<n->ent M p ((dealOf M).getD p 0).toNat≠0
 le:∀p,p<n->wOf M<=ent M p ((dealOf M).getD p 0).toNat
 eq:∃p,p<n/\ent M p ((dealOf M).getD p 0).toNat=wOf M
 w1:1<=wOf M
 wR:wOf M<=R
 reg:Reg n (addDeal M (dealOf M) (-wOf M)) (R-wOf M)
theorem valsM_get{n:Nat}{M:List (List Int)}{d:List Int}(hM:M.length=n)(hd:d.length=n){p:Nat}(hp:p<n):(valsM M d)[p]?=some (ent M p (d.getD p 0).toNat):=by
 unfold valsM ent;rw[lU,cz (show p<M.length by omega),cz (show p<d.length by omega),getD_lt (show p<M.length by omega),getD_lt (show p<d.length by omega)]
theorem Reg.step{n:Nat}{M:List (List Int)}{R:Int}(h:Reg n M R)(hR:0<R)(hn:1<=n):JH n M R:=by
 have a:=h.len;obtain⟨f,C,K⟩:=CZ (h.regF hR);have J:=vC (M:=M) (f:=f) (by rw[a];exact C) (by rw[a];exact K) (k:=n) (b:=[]) (by simp[a]) λj _ _=>hU
 obtain⟨d,v⟩:=kH.mp J;have r:dealOf M=d:=by unfold dealOf;rw[a,v];rfl
 obtain⟨L,l,P,u⟩:=uR v hX;rw[jU,nJ]at l u;have y:∀t∈d,0<=t/\t<n:=λt D=>by
  obtain⟨j,I,e⟩:=eO.mp D;obtain⟨G,h1,h2,_⟩:=u j (du _) (by omega);rw[getD_lt I,e]at h2;omega
 have o:=D3 l L y;have s:∀p,p<n->ent M p (d.getD p 0).toNat≠0:=λp hp=>by
  obtain⟨G,h1,h2,h3⟩:=u p (du _) hp;rw[h2];exact h3
 have B:valsM M d≠[]:=λz=>by
  have:=valsM_get a l (p:=0) (by omega);rw[z]at this
  cases this
 have Q:(valsM M d).length=n:=by unfold valsM;simp[a,l]
 obtain⟨H,O⟩:=Dq B;have x:wOf M=minL (valsM M d):=by unfold wOf;rw[r]
 obtain⟨c,A,F⟩:=eO.mp H;have g:c<n:=by omega
 have m:ent M c (d.getD c 0).toNat=wOf M:=by
  have:=valsM_get a l g;rw[cz A,F]at this;rw[x];exact(Option.some.inj this).symm
 have q:∀p,p<n->wOf M<=ent M p (d.getD p 0).toNat:=λp hp=>by
  rw[x];exact O _ (da (valsM_get a l hp))
 have N:1<=wOf M:=by
  have:=s c g;have:=h.nn c (d.getD c 0).toNat;omega
 have E:wOf M<=R:=by
  rw[<-m,<-h.row c g];refine sm_one_le (λi=>h.nn c i) ?_;have:=y (d.getD c 0) (by rw[getD_lt (show c<d.length by omega)];exact cW _);omega
 rw[<-r]at o s q m;refine⟨by rw[v,r],o,s,q,⟨c,g,m⟩,N,E,?_⟩;have:=h.add (w:= -wOf M) o λp hp=>by have:=q p hp;omega
 rw[mV];exact this
def it(Z:List (List Int))(T:Int):Nat->List (List Int)×Int
 | 0=>(Z,T)
 | k+1=>(addDeal (it Z T k).1 (dealOf (it Z T k).1) (-wOf (it Z T k).1),(it Z T k).2-wOf (it Z T k).1)
def lotAt(Z:List (List Int))(T:Int)(k:Nat):Int×List Int:=(wOf (it Z T k).1,dealOf (it Z T k).1)
def lotsL(Z:List (List Int))(T:Int)(k:Nat):List (Int×List Int):=(db k).map (lotAt Z T)
def pn(n:Nat)(M:List (List Int)):Int:=sm n λp=>(cnt n λt=>decide (ent M p t≠0):Nat)
structure Mo(n:Nat)(Z:List (List Int))(T:Int)(k:Nat):Prop where
 reg:Reg n (it Z T k).1 (it Z T k).2
 r0:0<=(it Z T k).2
 rT:(it Z T k).2<=T
 lots:∀j,j<k->JH n (it Z T j).1 (it Z T j).2
 ent:∀p,p<n->∀t,ent Z p t=ent (it Z T k).1 p t+sm k λj=>if((lotAt Z T j).2.getD p 0).toNat=t then(lotAt Z T j).1 else 0
 wts:sm k (λj=>(lotAt Z T j).1)=T-(it Z T k).2
 kill:∀j,j<k->∃p,p<n/\HM.ent (it Z T k).1 p ((lotAt Z T j).2.getD p 0).toNat=0
 few:(it Z T k).2≠0->pn n (it Z T k).1+k<=pn n Z
 last:(it Z T k).2=0->(k:Int)+n<=pn n Z+1
 ap:∀i j,i<j->j<k->(lotAt Z T i).2≠(lotAt Z T j).2
theorem DA{S S':Nat->Bool}{c:Nat}:∀{n:Nat},(∀i,i<n->S i=true->S' i=true)->c<n->S' c=true->S c=false->cnt n S+1<=cnt n S':=by
 intro n h e h1 h2;have:cnt n (λi=>S i||i==c)=cnt n S+cnt n (λi=>i==c):=uz (λi a b=>by rw[eq_of_beq b,h2]at a;cases a) n;have h3:cnt n (λi=>S i||i==c)<=cnt n S':=sT λi d z=>by
  rcases j4.mp z with z|z
  ·exact h i d z
  ·rw[eq_of_beq z];exact h1
 have h4:=cnt_one c n;rw[if_pos e]at h4;omega
theorem D0{f g:Nat->Int}{c:Nat}:∀{n:Nat},(∀i,i<n->f i<=g i)->c<n->f c+1<=g c->sm n f+1<=sm n g:=by
 intro n
 induction n with
 | zero=>intro _ h _;exact absurd h (gz _)
 | succ n b=>
  intro h d h1;show sm n f+f n+1<=sm n g+g n;by_cases e:c=n
  ·subst e;have:=sm_le (n:=c) λi a=>h i (dz a)
   omega
  ·have:=b (λi a=>h i (dz a)) (by omega) h1;have:=h n (dH n);omega
theorem it_ok{n:Nat}{Z:List (List Int)}{T:Int}(hZ:Reg n Z T)(hT:0<T)(hn:1<=n):∀k,(∀j,j<k->(it Z T j).2≠0)->Mo n Z T k
 | 0,_=>by
  refine⟨hZ,fq hT,fE _,(λj h=>absurd h (gz _)),(λp _ t=>?_),?_,(λj h=>absurd h (gz _)),(λ_=>?_),(λh=>?_),(λi j _ h=>absurd h (gz _))⟩
  ·show ent Z p t=ent Z p t+0
   omega
  ·show(0:Int)=T-T
   omega
  ·show pn n Z+0<=pn n Z
   omega
  ·exact absurd h (by show T≠0;omega)
 | k+1,hk=>by
  have I:=it_ok hZ hT hn k λj d=>hk j (dz d)
  have v:=hk k (dH k)
  have S:=I.reg.step (by have:=I.r0;omega) hn
  have o:=λ {p} (hp:p<n) t=>Am (w:= -wOf (it Z T k).1) I.reg S.pm.len (λt m=>S.pm.mem.mp m) hp t
  have bd:∀p,p<n->((dealOf (it Z T k).1).getD p 0).toNat<n:=λp hp=>by
   have y:=S.pm.len
   have:=S.pm.mem.mp (show(dealOf (it Z T k).1).getD p 0∈_ by rw[getD_lt (show p<_ by omega)];exact cW _)
   omega
  have s:∀p,p<n->∀t,ent (it Z T (k+1)).1 p t<=ent (it Z T k).1 p t:=λp hp t=>by
   show ent (addDeal (it Z T k).1 (dealOf (it Z T k).1) (-wOf (it Z T k).1)) p t<=_
   rw[o hp]
   have:=S.w1
   split <;> omega
  have r:=S.reg.nn
  have x:pn n (it Z T (k+1)).1+1<=pn n (it Z T k).1:=by
   have q:∀p,p<n->∀t,t<n->decide (ent (it Z T (k+1)).1 p t≠0)=true->decide (ent (it Z T k).1 p t≠0)=true:=λp hp t _ h=>by
    have h1:=s p hp t
    have h2:0<=ent (it Z T (k+1)).1 p t:=r p t
    have h3:=of_decide_eq_true h
    exact decide_eq_true (by omega)
   obtain⟨b,a,l⟩:=S.eq
   refine D0 (c:=b) (λp hp=>?_) a ?_
   ·have:=sT (n:=n) λt m=>q p hp t m
    exact ql.mpr this
   ·have:=DA (n:=n) (c:=((dealOf (it Z T k).1).getD b 0).toNat) (λt m=>q b a t m) (bd b a) (decide_eq_true (S.ne b a)) (by
     refine decide_eq_false λz=>z ?_
     show ent (addDeal (it Z T k).1 (dealOf (it Z T k).1) (-wOf (it Z T k).1)) b _=0
     rw[o a,if_pos rfl,l]
     omega)
    omega
  refine⟨S.reg,?_,?_,λj d=>?_,λp hp t=>?_,?_,λj d=>?_,λh=>?_,λh=>?_,λi j u d=>?_⟩
  ·show 0<=(it Z T k).2-wOf (it Z T k).1
   have:=S.wR
   omega
  ·show(it Z T k).2-wOf (it Z T k).1<=T
   have:=S.w1
   have:=I.rT
   omega
  ·rcases fP.mp d with z|z
   ·exact I.lots j z
   ·rw[z];exact S
  ·rw[I.ent p hp t]
   show _=ent (addDeal (it Z T k).1 (dealOf (it Z T k).1) (-wOf (it Z T k).1)) p t+(sm k _+if((dealOf (it Z T k).1).getD p 0).toNat=t then wOf (it Z T k).1 else 0)
   rw[o hp]
   split <;> omega
  ·show sm k _+wOf (it Z T k).1=T-((it Z T k).2-wOf (it Z T k).1)
   have:=I.wts
   omega
  ·rcases fP.mp d with z|z
   ·obtain⟨p,hp,e⟩:=I.kill j z
    refine⟨p,hp,?_⟩
    have h1:=s p hp ((lotAt Z T j).2.getD p 0).toNat
    have h2:0<=HM.ent (it Z T (k+1)).1 p ((lotAt Z T j).2.getD p 0).toNat:=r _ _
    omega
   ·subst z
    obtain⟨b,a,l⟩:=S.eq
    refine⟨b,a,?_⟩
    show HM.ent (addDeal (it Z T j).1 (dealOf (it Z T j).1) (-wOf (it Z T j).1)) b ((dealOf (it Z T j).1).getD b 0).toNat=0
    rw[o a,if_pos rfl,l]
    omega
  ·have:=I.few v
   push_cast
   omega
  ·have h1:=I.few v
   have h2:(n:Int)<=pn n (it Z T k).1:=by
    have:=sm_le (n:=n) (f:=λ_=>if(true:Bool)=true then 1 else 0) (g:=λp=>(cnt n λt=>decide (HM.ent (it Z T k).1 p t≠0):Nat)) λp hp=>by
     have h3:cnt n (λi=>i==((dealOf (it Z T k).1).getD p 0).toNat)<=cnt n λt=>decide (HM.ent (it Z T k).1 p t≠0):=sT λi _ e=>by
      rw[eq_of_beq e]
      exact decide_eq_true (S.ne p hp)
     rw[cnt_one,if_pos (bd p hp)]at h3
     rw[if_pos rfl]
     omega
    rw[sm_cnt (λ_=>true) 1 n]at this
    have e:cnt n (λ_=>true)=n:=by unfold cnt;simp
    rw[e]at this
    show(n:Int)<=sm n _
    omega
   push_cast
   omega
  ·rcases fP.mp d with z|z
   ·exact I.ap i j u z
   ·subst z
    intro e
    obtain⟨p,hp,l⟩:=I.kill i u
    rw[e]at l
    exact S.ne p hp l
def Fin(Z:List (List Int))(T:Int)(k:Nat):Prop:=(it Z T k).2=0/\∀j,j<k->(it Z T j).2≠0
theorem Fin.uniq{Z:List (List Int)}{T:Int}{k k':Nat}(h:Fin Z T k)(h':Fin Z T k'):k=k':=by
 rcases iE k k' with z|z|z
 ·exact absurd h.1 (h'.2 k z)
 ·exact z
 ·exact absurd h'.1 (h.2 k' z)
theorem pn_le{n:Nat}(hn:n<=6)(M:List (List Int)):pn n M<=36:=by
 have cn:∀S:Nat->Bool,cnt n S<=n:=λS=>by
  have:=sT (n:=n) (S:=S) (S':=λ_=>true) λ_ _ _=>rfl
  have e:cnt n (λ_=>true)=n:=by unfold cnt;simp
  omega
 have:=sm_le (n:=n) (f:=λp=>(cnt n λt=>decide (ent M p t≠0):Nat)) (g:=λ_=>if(true:Bool)=true then 6 else 0) λp _=>by
  have:=cn λt=>decide (ent M p t≠0)
  rw[if_pos rfl];omega
 rw[sm_cnt (λ_=>true) 6 n]at this;have:=cn λ_=>true
 show sm n _<=36;omega
end HM
namespace L2
open PySem PySem.Spec PyProof.Rows
section
variable{prog:cT}{w:dc}{A:dw}{E:cA->cD->Prop}{s:cD}
def Ms(prog:cT)(w:dc)(h:Heap)(k:List Int)(v:cA):Prop:=∃b,v = .ref b/\IsTupleKey (intKind prog w) h k b
end
theorem wX:entryFor table "set.__len__"=some Builtin.«frozenset.__len__»:=kh (id':="frozenset.__len__") rfl rfl (by decide +kernel) rfl
theorem uw{prog:cT}{w:dc}:∀{r:List Int} {its:List cA},Vals (r.map V.int) its->ItemsAre (intKind prog w) r its
 | [],[],_=> .nil
 | i::r,v::its,h=>by
  cases h with
  | cons h1 h2=>
   obtain⟨t,rfl⟩:=h1
   exact .cons (beq_self_eq_true _) (uw h2)
theorem Inv.tupV{X:Cx}{pins:List (cG×Obj)}{σ:St}{H:Hp}{s:cD}(I:Inv X pins σ H s){v:V}{u:cA}{r:List Int}(h:IsR X.K H v r)(rv:RelV v u):Ms X.prog X.w s.heap r u:=by
 obtain⟨a,rfl,c⟩:=h
 cases(show u=cR a from rv);obtain⟨b,d,⟨o,h1,h2,n,h3⟩,_⟩:=I.tuple c;exact⟨a,rfl,o,b.toArray,n,h1,h2,h3,uw d⟩
def RwFL(K:cu)(H:Hp)(T:Int)(v:V)(m:List Int):Prop:=∃a gs,v = .ref a/\SqL K H a gs/\dr (IsF K H) gs (fr T m)
theorem RwFL.mono{K:cu}{H H':Hp}{T:Int}{v:V}{m:List Int}(e:Same H H')(h:RwFL K H T v m):RwFL K H' T v m:=by
 obtain⟨a,b,rfl,h1,h2⟩:=h;exact⟨a,b,rfl,e.seq h1,rQ e h2⟩
def RwFX(K:cu)(H:Hp)(T:Int)(lo:cG)(v:V)(m:List Int):Prop:=∃a gs,v = .ref a/\a≠lo/\H a=some (.lst gs)/\dr (IsF K H) gs (fr T m)
theorem RwFX.fl{K:cu}{H:Hp}{T:Int}{lo:cG}{v:V}{m:List Int}(h:RwFX K H T lo v m):RwFL K H T v m:=by
 obtain⟨a,b,rfl,_,h1,h2⟩:=h;exact⟨a,b,rfl,SqL.of h1,h2⟩
theorem RwFX.mono{K:cu}{H H':Hp}{T:Int}{lo:cG}{v:V}{m:List Int}(e:Same H H')(h:RwFX K H T lo v m):RwFX K H' T lo v m:=by
 obtain⟨a,b,rfl,h0,h1,h2⟩:=h;exact⟨a,b,rfl,h0,e _ _ h1,rQ e h2⟩
theorem RwFX.over{K:cu}{H:Hp}{T:Int}{lo:cG}{ys zs:List V}{v:V}{m:List Int}(h:RwFX K H T lo v m)(hp:H lo=some (.lst ys)):RwFX K (upd H lo (.lst zs)) T lo v m:=by
 obtain⟨a,b,rfl,h0,h1,h2⟩:=h;exact⟨a,b,rfl,h0,by rw[rH h0];exact h1,Paired.mapP h2 λ_ _ q=>q.over hp⟩
theorem IsLot.over{K:cu}{H:Hp}{T:Int}{v:V}{l:Jw}{p:cG}{ys zs:List V}(h:IsLot K H T v l)(hp:H p=some (.lst ys)):IsLot K (upd H p (.lst zs)) T v l:=by
 obtain⟨a,f,g,rfl,h1,h2,h3⟩:=h;exact⟨a,f,g,rfl,uF h1 hp,h2.over hp,uF h3 hp⟩
theorem Bz{a b T:Int}(hT:T≠0):IK (FQ.red a T) (FQ.red b T)=FQ.red (a-b) T:=by
 have:=xo (a:=a) (b:=b) (c:=1) hT (by decide);rw[ia,ia]at this;exact this
theorem yE(T:Int)(m:List Int):(fr T m).length=m.length:=by unfold fr;rw[cx]
structure LD(n:Nat)(T:Int)(M:List (List Int)):Prop where
 lo:1<=n
 hi:n<=6
 t0:0<T
 t1:T<2^80
 len:M.length=n
 cols:∀r∈M,r.length=n
def GG(K:cu)(m:Nat):Sp:=λvs H Q _=>∃(l b:cG) (rs:List V) (M:List (List Int)) (T:Int) (n k:Nat) (bs:List Int),vs=[.ref l,.ref b]/\SqL K H l rs/\dr (RwFL K H T) rs M/\LD n T M/\SqT K H b (bs.map V.int)/\bs.length+k=n/\k<=m/\
 (HM.within M k bs=none->∀H',Same H H'->Q .non H')/\(∀d,HM.within M k bs=some d->∀p H',Same H H'->SqT K H' p (d.map V.int)->Q (.ref p) H')
def JJ(K:cu):Sp:=λvs H Q _=>∃(r w:cG) (gs:List V) (m:List Int) (t T x:Int),vs=[.ref r,.int t,.ref w]/\SqL K H r gs/\dr (IsF K H) gs (fr T m)/\IsF K H (.ref w) (FQ.red x T)/\(0<T/\T<2^80)/\(0<=t/\t<m.length)/\m.length<=6/\(0<=m.getD t.toNat 0/\m.getD t.toNat 0<=T)/\(0<=x/\x<=T)/\
 ∀p gs' H',Same H H'->H p=none->H' p=some (.lst gs')->dr (IsF K H') gs' (fr T (LM.addOne m t (-x)))->Q (.ref p) H'
structure Jo(n:Nat)(T:Int)(Z:List (List Int)):Prop where
 lo:1<=n
 hi:n<=6
 t0:0<T
 t1:T<2^80
 reg:HM.Reg n Z T
def GH(K:cu):Sp:=λvs H Q _=>∃(a:cG) (us:List V) (Z:List (List Int)) (T:Int) (n:Nat),vs=[.ref a]/\SqL K H a us/\dr (RwFT K H T) us Z/\Jo n T Z/\
 ∀k p ls H',HM.Fin Z T k->Same H H'->H p=none->H' p=some (.lst ls)->dr (IsLot K H' T) ls (HM.lotsL Z T k)->Q (.ref p) H'
theorem um{T:Int}(hT:0<T):∀(l:List Int) (s:Int),Es (FQ.red s T) (l.map λx=>FQ.red x T)=FQ.red (HM.minGo s l) T
 | [],s=>rfl
 | a::l,s=>by
  show Es (if Ev (FQ.red a T) (FQ.red s T)=true then FQ.red a T else FQ.red s T) (l.map λx=>FQ.red x T)=FQ.red (HM.minGo (if a<s then a else s) l) T
  rw[xE hT hT]
  by_cases h:a<s
  ·rw[if_pos (decide_eq_true (f6 h hT)),if_pos h]
   exact um hT l a
  ·rw[if_neg (by rw[decide_eq_true_iff];exact λz=>h (gK z (fq hT))),if_neg h]
   exact um hT l s
theorem zw{T:Int}(hT:0<T){l:List Int}(h:l≠[]):GM (l.map λx=>FQ.red x T)=FQ.red (HM.minL l) T:=by
 cases l with
 | nil=>exact absurd rfl h
 | cons a l=>exact um hT (a::l) a
abbrev Ew:=List Int×List Int
def IsPK(prog:cT)(w:dc)(h:Heap)(k:Ew)(a:cG):Prop:=
 ∃o n x y,h.get? a=some o/\o.cls = .type "tuple"/\o.data = .seq #[.ref x,.ref y] n/\IsTupleKey (intKind prog w) h k.1 x/\IsTupleKey (intKind prog w) h k.2 y
section
variable{prog:cT}{w:dc}{A:dw}{E:cA->cD->Prop}{s:cD}
theorem IsPK.typeIs{k:Ew}{a:cG}(x:IsPK prog w s.heap k a):s.TypeIs (.ref a) "tuple":=let⟨o,_,_,_,b,c,_⟩:=x;⟨o,b,c⟩
def IO(prog:cT)(w:dc)(k:Ew):Int:=reduceHash (i5 [tupleKeyHash (intKind prog w) k.1,tupleKeyHash (intKind prog w) k.2])
theorem Bb{k:Ew}{a:cG}{Q:Int->cD->Prop}(hu:A.units+2<cLine)(hk:IsPK prog w s.heap k a)(h:Q (IO prog w k) {s with toks:=s.toks+((k.1.length+1)+(k.2.length+1)+1)}):wpAny (model prog w) A (pyHash (.ref a)) Q E s:=by
 have b:=hk.typeIs;obtain⟨o,n,x,y,c,_,d,h1,h2⟩:=hk;unfold pyHash pyHashByItsType;refine cr (wpAny_cRoomFor_or (.inr (by omega)) ?_);refine cr (gg b jy.lookup ?_);show wpAny _ _ (if(some (Value.builtin "tuple.__hash__")==some cA.none)=true then _ else _) Q E s;rw[if_neg (by rw[beq_builtin_none];exact de)];refine cr (gg b jy.lookup ?_);show wpAny _ _ (callSpecialIfBoundUnlessNone? (.ref a) "__hash__" _ >>= _) Q E s;refine cr (wpAny_callSpecialIfBoundUnlessNone?_slot b jy (dR jy b F.entry_tuple_hash ?_ (F.args_tuple_hash_1 _)));show wpAny _ _ (oZ (.ref a) >>= _) _ _ s;refine cr (kj c d ?_);rw[<-im,show #[cR x,cR y].toList=[cR x,cR y]from rfl];rw[eg,bind_assoc];refine cr (cr (mW (show A.units+1<cLine by omega) h1 ?_));refine cv ?_;dsimp only;rw[eg,bind_assoc];refine cr (cr (mW (s:={s with toks:=s.toks+(k.1.length+1)}) (show A.units+1<cLine by omega) h2 ?_));refine cv ?_;dsimp only;rw[gr];refine cr (cv ?_);refine wpAny_ret_mkInt ?_;show wpAny _ _ (if(decide (-(2:Int)^63<=i5 [tupleKeyHash (intKind prog w) k.1,tupleKeyHash (intKind prog w) k.2])&&decide (i5 [tupleKeyHash (intKind prog w) k.1,tupleKeyHash (intKind prog w) k.2]<2^63))=true then _ else _) Q E _;unfold IO reduceHash at h;split at h
 ·rename_i hr
  rw[if_pos hr];exact cv (by simpa [mC]using h)
 ·rename_i hr
  rw[if_neg hr];exact cr (iR (cv (by simpa [mC]using h)))
theorem IsPK.inj{h:Heap}{a:cG}{k k':Ew}(hx:IsPK prog w h k a)(hy:IsPK prog w h k' a):k=k':=by
 obtain⟨o,n,x,y,l,_,p,h1,h2⟩:=hx;obtain⟨q,s,r,t,c,_,b,g,d⟩:=hy;rw[l]at c
 cases c;rw[p]at b;injection b with e _
 have f:=congrArg m5 e;simp only[List.cons.injEq,cR.injEq,and_true]at f;obtain⟨j,m⟩:=f;subst j m;exact Prod.ext (h1.inj g) (h2.inj d)
theorem IsPK.keeps{h h':Heap}{k:Ew}{a d:cG}{o:Obj}{es ep}(hx:IsPK prog w h k a)(ho:h.get? d=some o)(hd:o.data = .dict es ep)(hs:fK d h h'):IsPK prog w h' k a:=by
 obtain⟨f,n,x,y,h0,e,b,h1,h2⟩:=hx;have c:a≠d:=by
  rintro rfl;rw[ho]at h0
  cases h0;rw[hd]at b
  cases b
 exact⟨f,n,x,y,(hs.2 a c).trans h0,e,b,h1.keeps ho hd hs,h2.keeps ho hd hs⟩
theorem zW{k k':Ew}{a b:cG}{Q:Bool->cD->Prop}(hu:A.units+2<cLine)(hx:IsPK prog w s.heap k a)(hy:IsPK prog w s.heap k' b)(h:Q (decide (k=k')) s):wpAny (model prog w) A (eqBool (.ref a) (.ref b)) Q E s:=by
 unfold eqBool
 try with_reducible refine dG ?_
 show wpAny _ _ (if(cR a==cR b)=true then _ else _) Q E s;by_cases c:(cR a==cR b)=true
 ·rw[if_pos c];have e:a=b:=by have:=eq_of_beq c;injection this
  subst e;have e:=hx.inj hy;subst e;exact cr (iR (cv (by simpa using h)))
 ·rw[if_neg c];have j:=hx.typeIs;have g:=hy.typeIs;obtain⟨o,n,x,y,u,_,v,h1,h2⟩:=hx;obtain⟨B,C,l,t,q,_,p,r,m⟩:=hy;refine cr (wpAny_richCompare_same_room (op:= .Eq) j g jY (dR jY j F.entry_tuple_eq ?_ (F.args_tuple_eq_2 _ _)) (by omega));show wpAny _ _ (isInstance (.ref b) (.type "tuple") >>= _) _ _ s;refine cr (eH g jE ?_);simp only[g7,fX,if_false];refine cr (kj u v ?_);refine cr (kj q p ?_);rw[show List.zip #[cR x,cR y].toList #[cR l,cR t].toList=[(cR x,cR l),(cR y,cR t)]from rfl];rw[eg,bind_assoc];refine cr (cr (mX (show A.units+1<cLine by omega) h1 r ?_));by_cases d:k.1=k'.1
  ·rw[decide_eq_true d];simp only[g7,fX,if_false];refine cv ?_;dsimp only;rw[eg,bind_assoc];refine cr (cr (mX (show A.units+1<cLine by omega) h2 m ?_));by_cases f:k.2=k'.2
   ·rw[decide_eq_true f];simp only[g7,fX,if_false];refine cv ?_;dsimp only;rw[gr];refine cr (cv (cv ⟨_,rfl,(λe=>nomatch e),eJ ?_⟩));rw[decide_eq_true (Prod.ext d f)]at h;exact h
   ·rw[decide_eq_false f];simp only[o0,if_true];rw[decide_eq_false (λz=>f (by rw[z]))]at h;exact cr (cv (cv (cr (cv (cv ⟨_,rfl,(λe=>nomatch e),eJ h⟩)))))
  ·rw[decide_eq_false d];simp only[o0,if_true];rw[decide_eq_false (λz=>d (by rw[z]))]at h;exact cr (cv (cv (cr (cv (cv ⟨_,rfl,(λe=>nomatch e),eJ h⟩)))))
theorem y3{f:Nat}{ks:List Int}{a:cG}{Q:Bool->cD->Prop}(hk:IsTupleKey (intKind prog w) s.heap ks a)(h:Q true s):wpAny (model prog w) A (eqIsQuiet (f+1) (.ref a)) Q E s:=by
 have e:=hk.typeIs;obtain⟨o,b,n,k,_,m,l⟩:=hk;unfold eqIsQuiet;refine cr (gg e jY.lookup ?_);show wpAny _ _ (isInstance (.ref a) (.type "tuple") >>= _) _ _ s;refine cr (eH e jE ?_);simp only[g7,fX,if_false];refine cr (fR k m ?_);refine cr ?_;show wpAny _ _ (forIn b _ _) _ _ s;rw[<-im];refine ld _ (λrest r c=>r.1=none/\c=s/\∀v∈rest,carriedByValue v=true) _ ?_ ?_ _ _ ⟨rfl,rfl,l.byValue⟩
 ·rintro v rest r c ⟨_,rfl,j⟩;rw[eqIsQuiet_byValue _ (j v cM)];refine cr (cv ?_);simp only[g7,fX,if_false];exact cv ⟨rfl,rfl,λu d=>j u (cO _ d)⟩
 ·rintro⟨p,q⟩ c ⟨g,rfl,_⟩;simp only at g;subst g;exact cv h
theorem B1{k:Ew}{a:cG}{Q:Bool->cD->Prop}(hk:IsPK prog w s.heap k a)(h:Q true s):wpAny (model prog w) A (eqIsQuiet 8 (.ref a)) Q E s:=by
 have b:=hk.typeIs;obtain⟨o,n,x,y,c,_,d,h1,h2⟩:=hk;unfold eqIsQuiet;refine cr (gg b jY.lookup ?_);show wpAny _ _ (isInstance (.ref a) (.type "tuple") >>= _) _ _ s;refine cr (eH b jE ?_);simp only[g7,fX,if_false];refine cr (fR c d ?_);show wpAny _ _ (forIn #[cR x,cR y] _ _ >>= _) _ _ s;rw[<-im,show #[cR x,cR y].toList=[cR x,cR y]from rfl,eg,bind_assoc];refine cr (cr (y3 h1 ?_));simp only[g7,fX,if_false];refine cv ?_;dsimp only;rw[eg,bind_assoc];refine cr (cr (y3 h2 ?_));simp only[g7,fX,if_false];refine cv ?_;dsimp only;rw[gr];exact cr (cv (cv h))
end
def JP(prog:cT)(w:dc):HeapKind prog w Ew where
 is:=IsPK prog w
 hash:=IO prog w
 draws:=λk=>(k.1.length+1)+(k.2.length+1)+1
 room:=λA=>A.units+2<cLine
 inj:=λhx hy=>hx.inj hy
 keeps:=λx ho hd hs=>x.keeps ho hd hs
 pyHash:=λhu hk h=>Bb hu hk h
 eqBool:=λhu hx hy h=>zW hu hx hy h
 quiet:=λhk h=>B1 hk h
structure KW(κ:Type)[DecidableEq κ] where
 knd:(prog:cT)->(w:dc)->HeapKind prog w κ
 at':cu->Hp->κ->cG->Prop
 ok:∀{X:Cx} {pins:List (cG×Obj)} {σ:St} {H:Hp} {s:cD} {k:κ} {a:cG},Inv X pins σ H s->at' X.K H k a->(knd X.prog X.w).is s.heap k a
 map:∀{K:cu} {H H':Hp} {k:κ} {a:cG},(∀b xs,SqT K H b xs->SqT K H' b xs)->at' K H k a->at' K H' k a
 room:∀{prog:cT} {w:dc} {A:dw},A.units+3<cLine->(knd prog w).room A.in1
 room':∀{prog:cT} {w:dc} {A:dw},A.units+3<cLine->(knd prog w).room A
def DXe{P:cT}{w:dc}{κ:Type}[DecidableEq κ](knd:HeapKind P w κ)(xs:List (κ×cG×cA))(ep:Nat)(d:cG)(h:Heap):Prop:=
 (d==sysModules)=false/\∃o es,h.get? d=some o/\o.ExactDict/\o.data = .dict es ep/\es.toList=xs.map (entryOfKey knd)/\(xs.map (·.1)).Nodup
def DictE{κ:Type}[DecidableEq κ](W:KW κ)(P:cT)(w:dc)(K:cu)(H:Hp)(d:cG)(ep:Nat)(kvs:List (κ×Int)):Prop:=
 ∃xs,H d=some (.ext (DXe (W.knd P w) xs ep d))/\dr (λ(p:κ×Int) (q:κ×cG×cA)=>p.1=q.1/\(∃t,q.2.2=dX p.2 t)/\W.at' K H p.1 q.2.1) kvs xs
def DictI{κ:Type}[DecidableEq κ](W:KW κ)(P:cT)(w:dc)(K:cu)(H:Hp)(d:cG)(kvs:List (κ×Int)):Prop:=∃ep,DictE W P w K H d ep kvs
section
variable{κ:Type}[DecidableEq κ]{W:KW κ}{P:cT}{w:dc}{K:cu}{H H':Hp}{d:cG}{ep:Nat}{kvs:List (κ×Int)}
theorem DictE.mono(e:Same H H')(h:DictE W P w K H d ep kvs):DictE W P w K H' d ep kvs:=by
 obtain⟨f,h1,h2⟩:=h;exact⟨f,e _ _ h1,Paired.mapP h2 λ_ _ ⟨a,b,c⟩=>⟨a,b,W.map (λ_ _ q=>e.tup q) c⟩⟩
theorem DictI.mono(e:Same H H')(h:DictI W P w K H d kvs):DictI W P w K H' d kvs:=by
 obtain⟨a,h⟩:=h;exact⟨a,h.mono e⟩
theorem vN{p a:cG}{φ:Heap->Prop}{o:HO}{xs:List V}(h:SqT K H a xs)(hp:H p=some (.ext φ)):SqT K (upd H p o) a xs:=by
 rcases h with(h|⟨u,h⟩)|h
 ·exact .inl (.inl (by rw[rH (λz=>by rw[z,hp]at h;cases h)];exact h))
 ·exact .inl (.inr ⟨u,by rw[rH (λz=>by rw[z,hp]at h;cases h)];exact h⟩)
 ·exact .inr h
theorem DictE.overX{p:cG}{φ:Heap->Prop}{o:HO}(h:DictE W P w K H d ep kvs)(hp:H p=some (.ext φ))(hne:d≠p):DictE W P w K (upd H p o) d ep kvs:=by
 obtain⟨e,h1,h2⟩:=h;exact⟨e,by rw[rH hne];exact h1,Paired.mapP h2 λ_ _ ⟨a,b,c⟩=>⟨a,b,W.map (λ_ _ q=>vN q hp) c⟩⟩
theorem DXe.frame{knd:HeapKind P w κ}{xs:List (κ×cG×cA)}{h1 h2:Heap}(h:DXe knd xs ep d h1)(k:∀o,h1.get? d=some o->h2.get? d=some o):DXe knd xs ep d h2:=by
 obtain⟨a,o,e,b,c⟩:=h;exact⟨a,o,e,k o b,c⟩
theorem wM{knd:HeapKind P w κ}{xs:List (κ×cG×cA)}{h:Heap}(hx:DXe knd xs ep d h):ObjOk P w H h d (.ext (DXe knd xs ep d)):=
 ⟨hx,let⟨_,o,_,b,_⟩:=hx;⟨o,b⟩,λ_ _ a b=>a.frame b⟩
end
section
variable{κ:Type}[DecidableEq κ]{W:KW κ}{X:Cx}{pins:List (cG×Obj)}{σ:St}{H:Hp}{s:cD}{d:cG}{ep:Nat}{kvs:List (κ×Int)}{A:dw}{E:cA->cD->Prop}
theorem Inv.dx(I:Inv X pins σ H s)(h:DictE W X.prog X.w X.K H d ep kvs):∃xs,DXe (W.knd X.prog X.w) xs ep d s.heap/\s.heap.DictOfH (W.knd X.prog X.w) d xs/\dr (λ(p:κ×Int) (q:κ×cG×cA)=>p.1=q.1/\(∃t,q.2.2=dX p.2 t)/\W.at' X.K H p.1 q.2.1) kvs xs:=by
 obtain⟨xs,h1,h2⟩:=h;obtain⟨k,_,_⟩:=I.hok d _ h1;obtain⟨h3,o,m,a,b,c,e,f⟩:=id k;refine⟨xs,k,⟨o,m,ep,a,b,c,e,λq l=>?_,f⟩,h2⟩;obtain⟨i,r,n⟩:=eO.mp l;obtain⟨p,hp,g,_,j⟩:=Paired.get h2 (cz r);rw[n]at g j;rw[<-g];exact W.ok I j
theorem vp{xs:List (κ×cG×cA)}{K:cu}{H:Hp}(k:κ):∀{kvs:List (κ×Int)},dr (λ(p:κ×Int) (q:κ×cG×cA)=>p.1=q.1/\(∃t,q.2.2=dX p.2 t)/\W.at' K H p.1 q.2.1) kvs xs->(kvs.lookup k=none/\atKey xs k=none)\/∃n a t,kvs.lookup k=some n/\atKey xs k=some (a,dX n t):=by
 induction xs with
 | nil=>
  intro kvs h
  cases h;exact .inl ⟨rfl,rfl⟩
 | cons q xs f=>
  intro kvs h
  cases h with
  | @cons p _ ps _ hp hr=>
   obtain⟨b,⟨t,c⟩,_⟩:=hp;obtain⟨pk,pn⟩:=p;obtain⟨g,d,j⟩:=q;dsimp only at b c;subst b c;by_cases e:pk=k
   ·subst e;refine .inr ⟨pn,d,t,?_,?_⟩
    ·simp[gR]
    ·simp[atKey]
   ·have h1:((pk,pn)::ps).lookup k=ps.lookup k:=by
     rw[dW,show(k==pk)=false from beq_false_of_ne (Ne.symm e)]
    have h2:atKey ((pk,d,dX pn t)::xs) k=atKey xs k:=by
     unfold atKey;rw[List.find?_cons_of_neg (by simpa using e)]
    rw[h1,h2];exact f hr
def La(W:KW κ)(P:cT)(w:dc)(K:cu)(td ty tx:TE):TE:=λσ H Q=>td σ H λx H1=>∃(d:cG),x = .ref d/\(∃kvs,DictI W P w K H1 d kvs)/\ty σ H1 λy H2=>tx σ H2 λz H3=>∃(a:cG) (k:κ) (n:Int) (kvs:List (κ×Int)),y = .ref a/\z = .int n/\DictI W P w K H3 d kvs/\W.at' K H3 k a/\Q (.int ((kvs.lookup k).getD n)) H3
theorem x3{P:cT}{w:dc}{K:cu}{o e f:Expr}{apos cpos:Pos}{td ty tx:TE}{j:Nat}(hP:X.prog=P)(hw:X.w=w)(hK:X.K=K)(hr:Room j X.A)(ho:PE X o td)(he:PE X e ty)(hf:PE X f tx)(hbase:attributeBase o "get" X.env (eval o X.env)=eval o X.env:=by rfl)
  (hfew:((backTo cpos (dh [e,f] X.env)).all (λx=>!x.1)&&(backToKw cpos (keywordEach [] X.env)).all (λx=>x.1.isSome)&&decide (([e,f]:List Expr).length+([]:List Keyword).length+(if([]:List Keyword).isEmpty then 0 else 1)<30))=true:=by rfl)
  (hline:(apos.endLine==cpos.line)=true:=by rfl)(htrees:backTo cpos (dh [e,f] X.env)=[(false,eval e X.env),(false,eval f X.env)]:=by rfl):PE X (.Call (.Attribute o "get" apos) [e,f] [] cpos) (La W P w K td ty tx):=by
 subst hP hw hK
 intro c s q H Q I h
 refine nM hbase hfew hline lg lV PySem.F.type_dict_get (Ej (ho c s q H _ I h) λu s1 ⟨x,S,D,Z,d,L,⟨V,ae,G⟩,R⟩=>?_)
 subst L
 obtain rfl:u=cR d:=Z
 obtain⟨ac,⟨J,o1,ad,g1,g2,_⟩,B,_⟩:=D.dx G
 refine⟨B.typeIs,λb z=>?_,?_⟩
 ·cases z
  exact⟨o1,g1,g2.2.1⟩
 rw[htrees]
 refine gB rfl (iK (fH (Ej (he c s1 q S _ D R) λiv N ⟨y,H2,M,O,T⟩=>fH (Ej (hf c N q H2 _ M T) λfv s3 ⟨z,H3,v,rz,a,k,n,ab,ey,ez,⟨aa,C⟩,hk,Y⟩=>kA ?_))))
 subst ey ez
 cases(show iv=cR a from O)
 obtain⟨U,rfl⟩:=rz
 obtain⟨xs,⟨g,_⟩,l,E⟩:=v.dx C
 refine qm lV l.typeIs PySem.F.entry_dict_get (PySem.F.args_dict_get_3 _ _ _) (meetsH_dict_get_default (W.knd X.prog X.w) d a g (.int n U)) ⟨W.room (by have:=hr.units;omega),k,xs,W.ok v hk,l,?_⟩
 refine⟨_,H3,v.tok _,?_,Y⟩
 rcases vp k E with⟨p,r⟩|⟨m,b,t,p,r⟩
 ·rw[p,r];exact⟨_,rfl⟩
 ·rw[p,r];exact⟨_,rfl⟩
def Gx(kvs:List (κ×Int))(k:κ)(n:Int):List (κ×Int):=if(kvs.lookup k).isSome=true then kvs.map (λp=>if p.1=k then(p.1,n)else p)else kvs++[(k,n)]
theorem y8{K:cu}{H H':Hp}{xs:List (κ×cG×cA)}{kvs:List (κ×Int)}{k:κ}{a:cG}{n:Int}{t:Tok}(rel:dr (λ(p:κ×Int) (q:κ×cG×cA)=>p.1=q.1/\(∃t,q.2.2=dX p.2 t)/\W.at' K H p.1 q.2.1) kvs xs)
  (up:∀(k':κ) (b:cG),W.at' K H k' b->W.at' K H' k' b)(hk:W.at' K H k a):dr (λ(p:κ×Int) (q:κ×cG×cA)=>p.1=q.1/\(∃t,q.2.2=dX p.2 t)/\W.at' K H' p.1 q.2.1) (Gx kvs k n) (storedH xs k a (.int n t)):=by
 unfold Gx
 rcases vp k rel with⟨f,d⟩|⟨m,b,l,f,d⟩
 ·rw[f,storedH_new d]
  exact Paired.app (Paired.mapP rel λ_ _ ⟨c,j,g⟩=>⟨c,j,up _ _ g⟩) (.cons ⟨rfl,⟨t,rfl⟩,up _ _ hk⟩ .nil)
 ·rw[f,storedH_old d]
  show dr _ (kvs.map λp=>if p.1=k then(p.1,n)else p) (xs.map (putAt k (.int n t)))
  clear f d
  induction rel with
  | nil=>exact .nil
  | @cons p q ps qs h _ ih=>
   obtain⟨c,j,g⟩:=h
   refine .cons ?_ ih
   unfold putAt
   dsimp only
   by_cases e:p.1=k
   ·rw[if_pos e,if_pos (c▸e)]
    exact⟨c,⟨t,rfl⟩,up _ _ g⟩
   ·rw[if_neg e,if_neg (λz=>e (c.trans z))]
    exact⟨c,j,up _ _ g⟩
def Ll(W:KW κ)(P:cT)(w:dc)(K:cu):V->V->V->Hp->(Hp->Prop)->Prop:=λo i v H Q=>∃(d a:cG) (k:κ) (n:Int) (kvs:List (κ×Int)),o = .ref d/\i = .ref a/\v = .int n/\DictI W P w K H d kvs/\W.at' K H k a/\kvs.length<=1000000/\
 ∀H',(∃φ φ',H d=some (.ext φ)/\H'=upd H d (.ext φ'))->DictI W P w K H' d (Gx kvs k n)->Q H'
theorem DS{P:cT}{w:dc}{K:cu}{j:Nat}(hP:X.prog=P)(hw:X.w=w)(hK:X.K=K)(hr:Room j X.A):J0 X (Ll W P w K):=by
 subst hP hw hK;intro L s σ H o i v ov iv u Q I T U Y h;obtain⟨d,a,k,n,Z,rfl,rfl,rfl,⟨ep,y⟩,hk,hl,q⟩:=h
 cases T
 cases U;obtain⟨t,rfl⟩:=Y;obtain⟨f,⟨l,o1,aa,g1,g2,g3,_⟩,V,g⟩:=I.dx y;have ab:=Paired.len g;refine wpAny_setItem_heap (W.room (by have:=hr.units;omega)) (W.ok I hk) V (λS B O=>?_) (dg (show f.length<=1000000 by omega) (by decide));obtain⟨E,D,c,z,R,M,N,a5,G⟩:=B;obtain⟨ac,h1,h2⟩:=y;have F:DXe (W.knd X.prog X.w) (storedH f k a (.int n t)) c d S:=⟨l,E,D,z,R,M,N,G⟩;have J:=I.write (t':=s.toks+(W.knd X.prog X.w).draws k) (x:=d) (e:=d) (o:= .ext (DXe (W.knd X.prog X.w) (storedH f k a (.int n t)) c d)) (by rw[h1];trivial) (.inl rfl) (λb ob m p=>(O.2 b m).trans p) ⟨E,z⟩ (wM F);refine⟨_,J,q _ ⟨_,_,h1,rfl⟩ ⟨c,storedH f k a (.int n t),rC,?_⟩⟩;have C:∀(r:κ) (b:cG),W.at' X.K H r b->W.at' X.K (upd H d (.ext (DXe (W.knd X.prog X.w) (storedH f k a (.int n t)) c d))) r b:=λr b m=>W.map (λ_ _ p=>vN p h1) m
 generalize upd H d (.ext (DXe (W.knd X.prog X.w) (storedH f k a (.int n t)) c d))=Hn at C;exact y8 g C hk
end
section
variable{κ:Type}[DecidableEq κ]{W:KW κ}{X:Cx}
theorem Inv.bigS{pins:List (cG×Obj)}{σ:St}{H:Hp}{s:cD}(I:Inv X pins σ H s):sysModules<s.heap.objs.size:=lA (by decide) ((I.mod.glob.keeps I.bk).lt)
theorem AE{P:cT}{w:dc}(knd:HeapKind P w κ)(h:Heap)(hb:sysModules<h.objs.size):DXe knd [] 0 h.objs.size (h.push {cls:= .type "dict",data:= .dict #[]}):=
 ⟨beq_eq_false_iff_ne.mpr (Ne.symm (df hb)),_,#[],cN _ rfl,⟨rfl,rfl,rfl⟩,rfl,rfl,hX⟩
def Lo(W:KW κ)(P:cT)(w:dc)(K:cu):TE:=λ_ H Q=>∀d H',H d=none->(∃φ,H'=upd H d (.ext φ))->DictI W P w K H' d []->Q (.ref d) H'
theorem AM{P:cT}{w:dc}{K:cu}{pos:Pos}(hP:X.prog=P)(hw:X.w=w)(hK:X.K=K):PE X (.Dict [] [] pos) (Lo W P w K):=by
 subst hP hw hK;exact λb s c H Q I h=>oa ⟨.ref s.heap.objs.size,_,I.laid (a:=s.heap.objs.size) (o:= .ext (DXe (W.knd X.prog X.w) [] 0 s.heap.objs.size)) (t':=s.toks) (λ_ _ q=>cF _ q) (cI _) (wM (AE _ s.heap I.bigS)),rfl,
  h _ _ (I.hok.fresh (cI _)) ⟨_,rfl⟩ ⟨0,[],rC,.nil⟩⟩
def Kt(W:KW κ)(P:cT)(w:dc)(K:cu)(tk tv:TE):TE:=λσ H Q=>∀d H1,H d=none->(∃φ,H1=upd H d (.ext φ))->DictI W P w K H1 d []->tk σ H1 λx H2=>tv σ H2 λy H3=>∃(a:cG) (k:κ) (n:Int),x = .ref a/\y = .int n/\W.at' K H3 k a/\DictI W P w K H3 d []/\
 ∀H',(∃φ φ',H3 d=some (.ext φ)/\H'=upd H3 d (.ext φ'))->DictI W P w K H' d [(k,n)]->Q (.ref d) H'
theorem BB{P:cT}{w:dc}{K:cu}{j:Nat}{ke ve:Expr}{pos:Pos}{tk tv:TE}(hP:X.prog=P)(hw:X.w=w)(hK:X.K=K)(hr:Room j X.A)(hk:PE X ke tk)(hv:PE X ve tv):PE X (.Dict [some ke] [ve] pos) (Kt W P w K tk tv):=by
 subst hP hw hK;intro c s m H Q I h;have V:=I.laid (a:=s.heap.objs.size) (o:= .ext (DXe (W.knd X.prog X.w) [] 0 s.heap.objs.size)) (t':=s.toks) (h':=s.heap.push {cls:= .type "dict",data:= .dict #[]}) (λ_ _ q=>cF _ q) (cI _) (wM (AE _ s.heap I.bigS));have q0:=h s.heap.objs.size _ (I.hok.fresh (cI _)) ⟨_,rfl⟩ ⟨0,[],rC,.nil⟩;refine wpAny_Dict_any rfl rfl (by simp) (by show 1<=15;decide) ?_;refine pairTrees_cons_walk (Ej (hk c _ m _ _ V q0) λu s1 ⟨x,H2,M,rx,T⟩=>Ej (hv c s1 m H2 _ M T) λv N ⟨y,H3,l,O,a,k,n,J,ey,E,⟨ep,p⟩,Z⟩=>pairTrees_nil_walk ?_);subst J ey
 cases(show u=cR a from rx);obtain⟨t,rfl⟩:=O;obtain⟨xs,⟨f,_⟩,hd,C⟩:=l.dx p
 cases C;unfold storeAll;rw[eg];refine cr (cr (wpAny_dictSet_heap (hsz:=du _) (W.room' (by have:=hr.units;omega)) (W.ok l E) hd λh' z U=>cv ?_));dsimp only;rw[gr];refine cv ?_;obtain⟨D,B,d,r,Y,R,S,a5,G⟩:=z;obtain⟨aa,h1,h2⟩:=p;have F:DXe (W.knd X.prog X.w) (storedH [] k a (.int n t)) d s.heap.objs.size h':=⟨f,D,B,r,Y,R,S,G⟩;have I4:=l.write (t':=N.toks+(W.knd X.prog X.w).draws k) (x:=s.heap.objs.size) (e:=s.heap.objs.size) (o:= .ext (DXe (W.knd X.prog X.w) (storedH [] k a (.int n t)) d s.heap.objs.size)) (by rw[h1];trivial) (.inl rfl) (λb ob L g=>(U.2 b L).trans g) ⟨D,r⟩ (wM F);refine⟨.ref s.heap.objs.size,_,I4,rfl,Z _ ⟨_,_,h1,rfl⟩ ⟨d,storedH [] k a (.int n t),rC,?_⟩⟩;exact .cons ⟨rfl,⟨t,rfl⟩,W.map (λ_ _ g=>vN g h1) E⟩ .nil
end
def RawD(h:Heap)(d:cG)(es:Array DictEntry)(ep:Nat):Prop:=∃o,h.get? d=some o/\o.ExactDict/\o.data = .dict es ep
section
variable{prog:cT}{w:dc}{A:dw}{E:cA->cD->Prop}{s:cD}
theorem RawD.ty{d:cG}{es:Array DictEntry}{ep:Nat}(r:RawD s.heap d es ep):s.TypeIs (.ref d) "dict":=let⟨o,a,b,_⟩:=r;⟨o,a,b.1⟩
theorem xm(d:cG)(hs:(d==sysModules)=false):MeetsIn prog w (Builtin.«dict.items» ⟨[.ref d],[]⟩) (λ_ R s=>(∃es ep,RawD s.heap d es ep)/\R (.ok (.ret (.ref s.heap.objs.size))) {s with heap:=s.heap.push {cls:= .type "dict_items",data:= .fields #[.ref d]}}):=
 .of_wp λA R s ⟨⟨es,ep,r⟩,h⟩=>by
  unfold Builtin.«dict.items» qX qw
  refine cr (cr (wpAny_notOrdered_dict r.ty (cv ?_)))
  rw[if_neg (by rw[hs];exact de)]
  exact cr (cv (cr (e9 (cv ⟨_,rfl,h⟩))))
theorem x5{v d:cG}{es:Array DictEntry}{ep:Nat}{Q:cA->cD->Prop}(hv:s.heap.IsItemsView v d)(r:RawD s.heap d es ep)
  (hQ:Q (.ref s.heap.objs.size) {s with heap:=s.heap.push {cls:= .type "dict_itemiterator",data:= .fields #[.none,.bool false,.ref d,.int 0 0,.int es.size 0,.int ep 0,.none,.none]}}):wpAny (model prog w) A (pyIter (.ref v)) Q E s:=by
 obtain⟨j,e,g,f⟩:=id hv
 obtain⟨o,c,h,b⟩:=id r
 refine jw hv.typeIs lB (dR lB hv.typeIs F.entry_dict_items_iter ?_ (F.args_dict_items_iter_1 _))
 unfold Builtin.«dict_items.__iter__» pq og
 refine cr (cv (cr (cr (eF e f (x:= .ref d) rfl (cv ?_)))))
 refine cr (cr (kE c b (cr (lL c b ?_))))
 have a:iu "dict_itemiterator"=true:=by decide
 simp only[a,if_true]
 refine e9 (cv ⟨_,rfl,"dict_itemiterator",_,⟨_,cN _ rfl,rfl⟩,fe.lookup,?_⟩) (by simp only[sizeOk,jc,cX,dq,dQ,jU,lY];omega)
 simpa [rawInt,jc]using hQ
theorem yd{it d:cG}{i ep:Nat}{es:Array DictEntry}{ok ov:cA}{Q:Option cA->cD->Prop}(hit:IsItemIter s.heap it d i es.size ep ok ov)(r:RawD s.heap d es ep)(hlt:i<es.size)
  (hQ:∀h',IsItemIterOut h' it d (i+1) es.size ep es[i].key es[i].val s.heap.objs.size->h'.get? s.heap.objs.size=some {cls:= .type "tuple",data:= .seq #[es[i].key,es[i].val]}->h'.objs.size=s.heap.objs.size+1->
   (∀b o,b≠it->s.heap.get? b=some o->h'.get? b=some o)->Q (some (.ref s.heap.objs.size)) {s with heap:=h'}):wpAny (model prog w) A (pyNext (.ref it)) Q E s:=by
 obtain⟨hp,g,m,tk,k⟩:=s
 obtain⟨o,M,O,H⟩:=id r
 have h:kN ⟨hp,g,m,tk,k⟩ (.ref it) "dict_itemiterator":=⟨_,hit,rfl⟩
 unfold pyNext
 refine cr (iy (ef (name:=fM "__next__") h fe (dR fe h jI ?_ (jC _))))
 refine cr (cv (cr (cr ?_)))
 first|refine cr (gl h (cv ?_))|refine cr (wpAny_typeNameOf_itemiter h (cv ?_))
 refine cr (iS hit rfl ?_)
 have C:iu "dict_itemiterator"=true:=by decide
 simp only[C,if_true]
 show wpAny _ _ (if(cR d==cA.none)=true then _ else _) _ _ _
 rw[if_neg (show ¬((cR d==cA.none)=true)from de)]
 refine cr (cv (cr (kE M H ?_)))
 rw[if_neg (by simp)]
 refine cr (cv (cr (lL M H ?_)))
 rw[if_neg (by simp)]
 refine cv ?_
 simp only[show ¬((i:Int)<0)from by omega,if_false,gb,fi hlt]
 refine cr ?_
 first|refine cr (gl h (cv ?_))|refine cr (wpAny_typeNameOf_itemiter h (cv ?_))
 refine cr (jz h ?_)
 show wpAny _ _ (setField (.ref it) 3 (rawInt ((i:Int)+1)) >>= _) _ _ ⟨hp,g,m,tk,k⟩
 refine cr (eS hit (by simp) λh1 j p=>?_)
 replace p:fK it hp h1:=p
 replace j:IsItemIter h1 it d (i+1) es.size ep ok ov:=by
  have e:((i+1:Nat):Int)=(i:Int)+1:=by omega
  unfold IsItemIter;rw[e];simpa [rawInt]using j
 have n:kN ⟨h1,g,m,tk,k⟩ (.ref it) "dict_itemiterator":=⟨_,j,rfl⟩
 refine cr (dG (cr (jz n (cr (jz n ?_)))))
 show wpAny _ _ (jA (.ref it) 6 es[i].key es[i].val) _ _ ⟨h1,g,m,tk,k⟩
 generalize es[i].key=a at *
 generalize es[i].val=c at *
 unfold jA mF
 refine cr (iU ?_)
 have l:IsItemIter (h1.push {cls:= .type "tuple",data:= .seq #[a,c]}) it d (i+1) es.size ep ok ov:=cF _ j
 have v:h1.objs.size=hp.objs.size:=p.1
 have K:(h1.push {cls:= .type "tuple",data:= .seq #[a,c]}).get? hp.objs.size=some {cls:= .type "tuple",data:= .seq #[a,c]}:=by rw[<-v];exact cN _ rfl
 have I:(h1.push {cls:= .type "tuple",data:= .seq #[a,c]}).objs.size=hp.objs.size+1:=by rw[gq,v]
 have L:∀b o,b≠it->hp.get? b=some o->(h1.push {cls:= .type "tuple",data:= .seq #[a,c]}).get? b=some o:=λb o f e=>cF _ (p.extBut b o f e)
 have N:it≠hp.objs.size:=df (cQ hit)
 show wpAny _ _ _ _ _ ⟨h1.push {cls:= .type "tuple",data:= .seq #[a,c]},g,m,tk,k⟩
 rw[v]
 generalize h1.push {cls:= .type "tuple",data:= .seq #[a,c]}=h2 at l K I L
 clear j p n v
 refine cr (cr (eF l rfl (x:= .none) rfl (cv ?_)))
 simp only[if_true]
 refine cr (eF l rfl (x:=ok) rfl (cr (eF l rfl (x:=ov) rfl ?_)))
 refine cr (eS l (by simp) λh3 B t=>?_)
 replace t:fK it h2 h3:=t
 replace B:IsItemIter h3 it d (i+1) es.size ep a ov:=B
 refine cr (eS B (by simp) λh4 z u=>?_)
 replace u:fK it h3 h4:=u
 replace z:IsItemIter h4 it d (i+1) es.size ep a c:=z
 refine cr (eS z (by simp) λh5 G q=>?_)
 replace q:fK it h4 h5:=q
 replace G:IsItemIterOut h5 it d (i+1) es.size ep a c hp.objs.size:=G
 refine cr (eS G (by simp) λh6 D y=>?_)
 replace y:fK it h5 h6:=y
 replace D:IsItemIterOut h6 it d (i+1) es.size ep a c hp.objs.size:=D
 have J:∀b o,b≠it->h2.get? b=some o->h6.get? b=some o:=λb o f e=>y.extBut b o f (q.extBut b o f (u.extBut b o f (t.extBut b o f e)))
 refine cr (kD (cv (cv ⟨_,rfl,cv (hQ h6 D (J _ _ (Ne.symm N) K) ?_ λb o f e=>J b o f (L b o f e))⟩)))
 show h6.objs.size=hp.objs.size+1
 rw[y.1,q.1,u.1,t.1,I]
theorem zD{it d:cG}{i ep:Nat}{es:Array DictEntry}{ok ov:cA}{Q:Option cA->cD->Prop}(hh:A.handled=none)(hit:IsItemIter s.heap it d i es.size ep ok ov)(r:RawD s.heap d es ep)(hge:es.size<=i)
  (hQ:∀h',qE it s.heap h'->Q none {s with heap:=h'}):wpAny (model prog w) A (pyNext (.ref it)) Q E s:=by
 obtain⟨o,g,h,f⟩:=id r
 have c:s.TypeIs (.ref it) "dict_itemiterator":=⟨_,hit,rfl⟩
 unfold pyNext
 refine cr (iy (ef (name:=fM "__next__") c fe (dR fe c jI ?_ (jC _))))
 refine cr (cv (cr (cr ?_)))
 first|refine cr (gl c (cv ?_))|refine cr (wpAny_typeNameOf_itemiter c (cv ?_))
 refine cr (iS hit rfl ?_)
 have e:iu "dict_itemiterator"=true:=by decide
 simp only[e,if_true]
 show wpAny _ _ (if(cR d==cA.none)=true then _ else _) _ _ s
 rw[if_neg (show ¬((cR d==cA.none)=true)from de)]
 refine cr (cv (cr (kE g f ?_)))
 rw[if_neg (by simp)]
 refine cr (cv (cr (lL g f ?_)))
 rw[if_neg (by simp)]
 refine cv ?_
 simp only[show ¬((i:Int)<0)from by omega,if_false,gb,gC hge]
 refine cr ?_
 first|refine cr (gl c (cv ?_))|refine cr (wpAny_typeNameOf_itemiter c (cv ?_))
 show wpAny _ _ (setField (.ref it) 2 .none >>= _) _ _ s
 refine cr (gt hit rfl (by simp) ?_)
 show wpAny _ _ (newExc (.type "StopIteration") [] >>= _) _ _ _
 refine cr ?_
 simp only[newExc,newTuple]
 refine cr (e9 ?_ (by size_fits))
 refine cr (m:=firstArgMember _ _) (fO (a:=cA.none) (by first|rfl|(simp only[firstArgMember];rfl)) ?_)
 refine e9 ?_ (by size_fits)
 simp only[raiseNew]
 refine cr (kP ?_)
 rw[show A.in1.handled=none from hh]
 refine cr (cv (md ?_))
 refine cr (eH (T:="StopIteration") (b:=true) ⟨_,cN _ rfl,rfl⟩ ki ?_)
 exact cv (hQ _ (((eX ..).extBut.push _).push _))
end
section
variable{κ:Type}[DecidableEq κ]
def LQ(W:KW κ)(P:cT)(w:dc)(K:cu)(d:cG)(ep n:Nat):It:=
 ⟨λi H=>∃kvs k m,DictE W P w K H d ep kvs/\kvs.length=n/\kvs[i]?=some (k,m),
  λi H v H'=>∃a k m t,(∀kvs,DictE W P w K H d ep kvs->kvs[i]?=some (k,m))/\W.at' K H k a/\v = .ref t/\H t=none/\H'=upd H t (.tup [.ref a,.int m]),
  λi H=>∃kvs,DictE W P w K H d ep kvs/\kvs.length=n/\n<=i⟩
theorem Inv.dx_inj{W:KW κ}{X:Cx}{pins:List (cG×Obj)}{σ:St}{H:Hp}{s:cD}{d:cG}{ep:Nat}{kvs kvs':List (κ×Int)}(I:Inv X pins σ H s)(h:DictE W X.prog X.w X.K H d ep kvs)(h':DictE W X.prog X.w X.K H d ep kvs'):kvs=kvs':=by
 obtain⟨O,⟨_,o,Q,r,M,t,v,_⟩,S,b⟩:=I.dx h;obtain⟨C,⟨_,G,E,f,R,g,c,_⟩,D,a⟩:=I.dx h';rw[r]at f
 cases f;rw[t]at g;injection g with e1 _
 subst e1;rw[v]at c;have T:=Paired.len b;have L:=Paired.len a;have A:=congrArg ji c;rw[cx,cx]at A;refine k8 (by omega) λi h1 h2=>?_
 obtain⟨q,u,N,⟨P,z⟩,p⟩:=Paired.get' (i:=i) b (cz h1);obtain⟨J,k,B,⟨F,j⟩,n⟩:=Paired.get' (i:=i) a (cz h2);have e:=congrArg (λl:List DictEntry=>l[i]?) c;simp only[cH,u,k,oF]at e;have e:=Option.some.inj e;unfold entryOfKey at e;injection e with _ e2 e3
 injection e2 with e2
 have m:=W.ok I p;have x:=W.ok I n;rw[e2]at m;have y:=(W.knd X.prog X.w).inj m x;rw[z,j]at e3;injection e3 with e4 _
 exact Prod.ext y e4
theorem uX:entryFor table "dict_itemiterator.__iter__"=some Builtin.«dict_keyiterator.__iter__»:=kh (id':="dict_keyiterator.__iter__") rfl rfl (by decide +kernel) rfl
theorem zh{P:cT}{w:dc}{A:dw}{E:cA->cD->Prop}{s:cD}{it d:cG}{i n ep:Nat}{ok ov:cA}{Q:cA->cD->Prop}(hit:IsItemIter s.heap it d i n ep ok ov)(h:Q (.ref it) s):wpAny (model P w) A (pyIter (.ref it)) Q E s:=by
 have a:s.TypeIs (.ref it) "dict_itemiterator":=⟨_,hit,rfl⟩;refine jw a jP (dR jP a uX ?_ (F.args_dict_itemiterator_iter_1 _));exact cr (cv (cv ⟨_,rfl,"dict_itemiterator",_,a,fe.lookup,h⟩))
theorem zy{W:KW κ}{P:cT}{w:dc}{K:cu}{elts:List Expr}{x1:Nat}{pos:Pos}(d it:cG)(ep n:Nat):HW P w K (.Tuple elts x1 pos) (LQ W P w K d ep n) [it] it (λi h=>∃ok ov,IsItemIter h it d i n ep ok ov) where
 mem:=by simp
 obj:=λi h st b a=>by
  obtain⟨ok,ov,q⟩:=st
  rw[cK.mp a]
  exact⟨_,q,λv z=>by cases z⟩
 keep:=λi h r st k=>by
  obtain⟨ok,ov,q⟩:=st
  exact⟨ok,ov,k it (by simp) _ q⟩
 item:=by
  intro X O C F Z i c s x H E I D st Q
  subst O C F
  obtain⟨S,k,m,y,T,hk⟩:=Q
  obtain⟨xs,⟨_,o,u,G,L,J,A,_⟩,hd,j⟩:=I.dx y
  obtain⟨ok,ov,f⟩:=st
  have t:u.size=n:=by
   have:=congrArg ji A
   have:=Paired.len j
   simp at *
   omega
  subst t
  have Y:i<u.size:=by have:=(cL.mp hk).1;omega
  obtain⟨q,hq,V,⟨N,r2⟩,R⟩:=Paired.get' j hk
  have ee:u[i]=entryOfKey (W.knd X.prog X.w) q:=by
   have e:=congrArg (λl:List DictEntry=>l[i]?) A
   simp only[cH,hq,oF,gh,fi Y]at e
   exact Option.some.inj e
  refine yd f ⟨o,G,L,J⟩ Y λr M B ab kk=>?_
  rw[ee]at M B
  obtain⟨qk,g,qv⟩:=q
  dsimp only at V r2 R
  subst V r2
  dsimp only[entryOfKey]at M B
  have li:it≠s.heap.objs.size:=df (cQ f)
  have hn:H s.heap.objs.size=none:=I.hok.fresh (cI _)
  have I0:Inv X c x (upd H s.heap.objs.size (.tup [.ref g,.int m])) {s with heap:=s.heap.push {cls:= .type "tuple",data:= .seq #[.ref g,.int m N]},toks:=s.toks}:=
   I.laid (t':=s.toks) (λb o q=>cF _ q) (cI _) ⟨by show 2<=sizeLine;decide,[.ref g,.int m N],.cons rfl (.cons ⟨_,rfl⟩ .nil),⟨_,cN _ rfl,rfl,_,rfl⟩⟩
  have p:∀b∈[it],Gc X c (upd H s.heap.objs.size (.tup [.ref g,.int m])) b:=λb a=>by
   have q:=D b a
   refine⟨?_,q.2⟩
   rw[rH (by rw[cK.mp a];exact li)]
   exact q.1
  have I1:Inv X c x (upd H s.heap.objs.size (.tup [.ref g,.int m])) {s with heap:=r,toks:=s.toks}:=
   Inv.turnedL (s:={s with heap:=s.heap.push {cls:= .type "tuple",data:= .seq #[.ref g,.int m N]},toks:=s.toks}) I0 (fp:=[it]) (t':=s.toks) (λb o a q=>by
    rcases tD q rfl with q|⟨rfl,rfl⟩
    ·exact kk b o (λz=>a (by simp[z])) q
    ·exact B) p
  refine⟨_,rfl,wpAny_letOwnedTupleGo_items (s:={s with heap:=r}) M λh2 se sb=>?_⟩
  have I2:Inv X c x (upd H s.heap.objs.size (.tup [.ref g,.int m])) {s with heap:=h2,toks:=s.toks}:=
   Inv.turnedL (s:={s with heap:=r,toks:=s.toks}) I1 (fp:=[it]) (t':=s.toks) (λb o a q=>(sb.2 b (λz=>a (by simp[z]))).trans q) p
  exact⟨.ref s.heap.objs.size,_,I2,rfl,⟨g,k,m,_,λaa h=>by rw[I.dx_inj h y];exact hk,R,rfl,hn,rfl⟩,⟨_,_,se⟩,λb a=>(p b a).1⟩
 done:=by
  intro X O C F Z i c s x H E I D st Q
  subst O C F
  obtain⟨S,y,T,U⟩:=Q
  obtain⟨xs,⟨_,o,u,G,L,J,A,_⟩,hd,j⟩:=I.dx y
  obtain⟨ok,ov,f⟩:=st
  have t:u.size=n:=by
   have:=congrArg ji A
   have:=Paired.len j
   simp at *
   omega
  subst t
  exact zD (I.ok.hd Z) f ⟨o,G,L,J⟩ U λr eb=>⟨rfl,I.turnedL (fp:=[it]) (t':=s.toks) (λb o a q=>eb b o (λz=>a (by simp[z])) q) D⟩
 self:=λ_ _ _ _ _ st h=>by
  obtain⟨ok,ov,f⟩:=st
  exact zh f h
def Kr(W:KW κ)(P:cT)(w:dc)(K:cu)(td:TE):TI:=λσ H R=>td σ H λx H1=>∃(d:cG) (ep:Nat) (kvs:List (κ×Int)),x = .ref d/\DictE W P w K H1 d ep kvs/\R (LQ W P w K d ep kvs.length) H1
theorem BA{W:KW κ}{X:Cx}{P:cT}{w:dc}{K:cu}{elts:List Expr}{x1:Nat}{tpos apos cpos:Pos}{o:Expr}{td:TE}(hP:X.prog=P)(hw:X.w=w)(hK:X.K=K)(ho:PE X o td)(hbase:attributeBase o "items" X.env (eval o X.env)=eval o X.env:=by rfl)(hline:(apos.endLine==cpos.line)=true:=by rfl):
  PI X (.Tuple elts x1 tpos) (.Call (.Attribute o "items" apos) [] [] cpos) (Kr W P w K td):=by
 subst hP hw hK
 intro e s n H R I h
 refine kY hbase hline (Ej (ho e s n H _ I h) λv a ⟨x,r,u,L,d,m,c,D,G,q⟩=>?_)
 subst D
 obtain rfl:v=cR d:=L
 obtain⟨N,⟨g,f,B,k,l,p,J,_⟩,C,y⟩:=u.dx G
 have A:B.size=c.length:=by
  have:=congrArg ji J
  have:=Paired.len y
  simp at *
  omega
 refine⟨"dict",_,lg,lh,PySem.F.type_dict_items,C.typeIs,λb z=>by cases z;exact⟨f,k,l.2.1⟩,gB rfl (ml ?_)⟩
 refine qm lh C.typeIs PySem.F.entry_dict_items (PySem.F.args_dict_items_1 _) (xm d g) ⟨⟨B,m,f,k,l,p⟩,?_⟩
 have t:∀b o,a.heap.get? b=some o->(a.heap.push {cls:= .type "dict_items",data:= .fields #[.ref d]}).get? b=some o:=λb o z=>cF _ z
 have j:Inv X e n r {a with heap:=a.heap.push {cls:= .type "dict_items",data:= .fields #[.ref d]}}:=u.kept (t':=a.toks) t
 refine x5 (s:={a with heap:=a.heap.push {cls:= .type "dict_items",data:= .fields #[.ref d]}}) ⟨_,cN _ rfl,rfl,rfl⟩ ⟨f,t _ _ k,l,p⟩ ?_
 rw[A]
 have M:=j.kept (t':=a.toks) (h':=(a.heap.push {cls:= .type "dict_items",data:= .fields #[.ref d]}).push {cls:= .type "dict_itemiterator",data:= .fields #[.none,.bool false,.ref d,.int 0 0,.int c.length 0,.int m 0,.none,.none]}) λb o z=>cF _ z
 refine⟨_,[(a.heap.push {cls:= .type "dict_items",data:= .fields #[.ref d]}).objs.size],_,_,r,rfl,M,zy d _ m c.length,⟨_,_,cN _ rfl⟩,λb E=>?_,q⟩
 rw[cK.mp E]
 exact j.fpOk (cI _) (j.hok.fresh (cI _))
theorem Ah{W:KW κ}{P:cT}{w:dc}{K:cu}{d:cG}{ep:Nat}{kvs:List (κ×Int)}{g:TG}{tb:TS}{D:Gs}{σ:St}{H:Hp}(Pv:Nat->St->Hp->Prop)(h0:Pv 0 σ H)(hl:∀i σ H,i<=kvs.length->Pv i σ H->DictE W P w K H d ep kvs)
  (hs:∀i k m a σ H t,kvs[i]?=some (k,m)->W.at' K H k a->H t=none->Pv i σ H->g (.ref t) σ (upd H t (.tup [.ref a,.int m])) λσ2 H2=>tb {D with nx:=Pv (i+1),ct:=Pv (i+1),bk:=D.nx} σ2 H2)(hd:∀σ H,Pv kvs.length σ H->D.nx σ H):
  ∃Wv:Nat->Nat->St->Hp->Prop,(∃m,Wv 0 m σ H)/\∀i m σ H,Wv i m σ H->((LQ W P w K d ep kvs.length).stop i H/\D.nx σ H)\/
   ((LQ W P w K d ep kvs.length).go i H/\∃N:St->Hp->Prop,(∀σ' H',N σ' H'->∃m',m'<m/\Wv (i+1) m' σ' H')/\∀x H',(LQ W P w K d ep kvs.length).yld i H x H'->g x σ H' λσ2 H2=>tb {D with nx:=N,ct:=N,bk:=D.nx} σ2 H2):=by
 refine⟨λi m σ H=>m=kvs.length-i/\i<=kvs.length/\Pv i σ H,⟨kvs.length,by simp,du _,h0⟩,?_⟩
 rintro i m σ H ⟨rfl,f,p⟩
 have q:=hl i σ H f p
 by_cases b:i<kvs.length
 ·refine .inr ⟨⟨kvs,_,_,q,rfl,cz b⟩,Pv (i+1),λσ' H' c=>⟨kvs.length-(i+1),by omega,rfl,b,c⟩,λx H' y=>?_⟩
  obtain⟨a,k,m,t,h1,h2,rfl,h3,rfl⟩:=y
  exact hs i k m a σ H t (h1 kvs q) h2 h3 p
 ·have e:i=kvs.length:=by omega
  subst e
  exact .inl ⟨⟨kvs,q,rfl,cI _⟩,hd σ H p⟩
end
def Gr:KW (List Int) where
 knd:=λprog w=>tupleKind (intKind prog w)
 at':=λK H k a=>SqT K H a (k.map V.int)
 ok:=λ {X pins σ H s k a} I h=>by
  obtain⟨b,e,hb⟩:=I.tupV (v:= .ref a) (u:= .ref a) ⟨a,rfl,h⟩ rfl
  cases e
  exact hb
 map:=λf h=>f _ _ h
 room:=λh=>by show _+1<cLine;omega
 room':=λh=>by show _<cLine;omega
def Gw:KW Ew where
 knd:=JP
 at':=λK H k a=>∃x y,SqT K H a [.ref x,.ref y]/\SqT K H x (k.1.map V.int)/\SqT K H y (k.2.map V.int)
 ok:=λ {X pins σ H s k a} I h=>by
  obtain⟨x,y,h1,h2,h3⟩:=h
  obtain⟨b1,e1,k1⟩:=I.tupV (v:= .ref x) (u:= .ref x) ⟨x,rfl,h2⟩ rfl
  obtain⟨b2,e2,k2⟩:=I.tupV (v:= .ref y) (u:= .ref y) ⟨y,rfl,h3⟩ rfl
  cases e1
  cases e2
  obtain⟨its,rs,⟨o,q1,q2,n,q3⟩,_⟩:=I.tuple h1
  cases rs with
  | cons r1 rs=>
   cases rs with
   | cons r2 rs=>
    cases rs
    cases r1
    cases r2
    exact⟨o,n,x,y,q1,q2,q3,k1,k2⟩
 map:=λf h=>by
  obtain⟨x,y,h1,h2,h3⟩:=h
  exact⟨x,y,f _ _ h1,f _ _ h2,f _ _ h3⟩
 room:=λh=>by show _+1+2<cLine;omega
 room':=λh=>by show _+2<cLine;omega
end L2
namespace TM
open LM LN
def KU(l:List Int):Prop:=l.Pairwise (· <= ·)
theorem yK:∀{l m:List Int},l.Perm m->KU l->KU m->l=m
 | [],m,h,_,_=>(List.nil_perm.mp h).symm
 | a::l,[],h,_,_=>by have:=h.length_eq;simp at this
 | a::l,b::m,h,h1,h2=>by
  have e:a=b:=by
   have g:=cZ.mp (h.mem_iff.mp (cM (a:=a)))
   have f:=cZ.mp (h.mem_iff.mpr (cM (a:=b)))
   obtain⟨d,_⟩:=fw.mp h1
   obtain⟨c,_⟩:=fw.mp h2
   rcases g with z|z
   ·exact z
   ·rcases f with y|y
    ·exact y.symm
    ·have:=d b y
     have:=c a z
     omega
  subst e
  rw[yK (List.perm_cons a |>.mp h) (fw.mp h1).2 (fw.mp h2).2]
def Jr(x:Int):List Int->List Int
 | []=>[x]
 | a::l=>if x<=a then x::a::l else a::Jr x l
def srt:List Int->List Int
 | []=>[]
 | a::l=>Jr a (srt l)
theorem vG(x:Int):∀l,(Jr x l).Perm (x::l)
 | []=>iN _
 | a::l=>by
  unfold Jr
  split
  ·exact iN _
  ·exact((vG x l).cons a).trans (p7.swap x a l)
theorem yw(x:Int):∀{l},KU l->KU (Jr x l)
 | [],_=>fw.mpr ⟨(λ_ h=>nomatch h),my.nil⟩
 | a::l,h=>by
  unfold Jr
  obtain⟨h1,h2⟩:=fw.mp h
  split
  ·rename_i c
   exact fw.mpr ⟨λb d=>by
    rcases cZ.mp d with z|z
    ·omega
    ·have:=h1 b z;omega,h⟩
  ·rename_i c
   refine fw.mpr ⟨λb d=>?_,yw x h2⟩
   rcases cZ.mp ((vG x l).mem_iff.mp d)with z|z
   ·omega
   ·exact h1 b z
theorem srt_perm:∀l,(srt l).Perm l
 | []=>iN _
 | a::l=>(vG a (srt l)).trans ((srt_perm l).cons a)
theorem yc:∀l,KU (srt l)
 | []=>my.nil
 | a::l=>yw a (yc l)
theorem srt_eq{l m:List Int}(h:m.Perm l)(hs:KU m):m=srt l:=yK (h.trans (srt_perm l).symm) hs (yc l)
theorem ym(l:List Int)(x:Int):srt (srt l++[x])=srt (l++[x]):=srt_eq ((srt_perm _).trans ((srt_perm l).append_right [x])) (yc _)
theorem Ad{l:List Int}{x:Int}:x∈srt l↔x∈l:=(srt_perm l).mem_iff
def freeP(n:Nat)(π:List Int):List Int:=(rng n).filter λp=>!decide (p∈π)
def exts(n:Nat)(π:List Int):List (List Int):=(freeP n π).map λp=>π++[p]
def pre(n:Nat):Nat->List (List Int)
 | 0=>[[]]
 | k+1=>(pre n k).flatMap (exts n)
structure Kh(n k:Nat)(π:List Int):Prop where
 len:π.length=k
 nd:π.Nodup
 bd:∀p∈π,0<=p/\p<n
theorem pre_ok{n:Nat}:∀{k:Nat} {π:List Int},π∈pre n k->Kh n k π
 | 0,π,h=>by
  rw[cK.mp h]
  exact⟨rfl,hX,λ_ h=>nomatch h⟩
 | k+1,π,h=>by
  obtain⟨d,h1,h2⟩:=oh.mp h
  obtain⟨p,h3,rfl⟩:=dv.mp h2
  obtain⟨h4,h5⟩:=d8.mp h3
  have I:=pre_ok h1
  have h6:p∉d:=by simpa using h5
  refine⟨by rw[dq,I.len];rfl,gv.mpr ⟨I.nd,by simp,λx c y a z=>h6 (by rw[cK.mp a]at z;rw[<-z];exact c)⟩,λq b=>?_⟩
  rcases dJ.mp b with z|z
  ·exact I.bd q z
  ·rw[cK.mp z];exact mem_rng.mp h4
theorem free_len{n k:Nat}{π:List Int}(h:Kh n k π):(freeP n π).length+k=n:=by
 have b:∀(l m:List Int),l.Nodup->m.Nodup->(∀x∈m,x∈l)->(l.filter λp=>!decide (p∈m)).length+m.length=l.length:=by
  intro l m f c g;have hp:(l.filter λp=>decide (p∈m)).Perm m:=by
   refine(gc (f.filter _) c).mpr λx=>?_
   rw[d8];exact⟨λz=>of_decide_eq_true z.2,λz=>⟨g x z,decide_eq_true z⟩⟩
  have h1:=List.length_eq_countP_add_countP (p:=λp=>decide (p∈m)) (l:=l);rw[jZ,jZ,hp.length_eq]at h1;have e:(l.filter λa=>decide (¬decide (a∈m)=true))=l.filter λp=>!decide (p∈m):=gV λx _=>by by_cases z:x∈m <;> simp[z]
  rw[e]at h1;omega
 have:=b (rng n) π (rng_nodup n) h.nd λx d=>mem_rng.mpr (h.bd x d)
 rw[rng_len,h.len]at this;exact this
def smL{α:Type}(l:List α)(f:α->Int):Int:=(l.map f).sum
theorem sM{α:Type}(f:α->Int):smL [] f=0:=rfl
theorem sh{α:Type}(a:α)(l:List α)(f:α->Int):smL (a::l) f=f a+smL l f:=by unfold smL;simp
theorem uO{α:Type}(l m:List α)(f:α->Int):smL (l++m) f=smL l f+smL m f:=by unfold smL;simp
theorem smL_congr{α:Type}{l:List α}{f g:α->Int}(h:∀x∈l,f x=g x):smL l f=smL l g:=by unfold smL;rw[fF h]
theorem vb{α β:Type}(g:α->List β)(f:β->Int):∀l:List α,smL (l.flatMap g) f=smL l λx=>smL (g x) f
 | []=>rfl
 | a::l=>by rw[List.flatMap_cons,uO,sh,vb g f l]
theorem vH{α β:Type}(g:α->β)(f:β->Int)(l:List α):smL (l.map g) f=smL l λx=>f (g x):=by unfold smL;rw[ik];rfl
theorem Bp{α:Type}(f g:α->Int):∀l:List α,smL l (λx=>f x+g x)=smL l f+smL l g
 | []=>rfl
 | a::l=>by rw[sh,sh,sh,Bp f g l];omega
theorem At{α:Type}(c:Int)(f:α->Int):∀l:List α,smL l (λx=>c*f x)=c*smL l f
 | []=>by show(0:Int)=c*0;rw[gE]
 | a::l=>by rw[sh,sh,At c f l,jl]
theorem tL{α:Type}(c:Int):∀l:List α,smL l (λ_=>c)=c*l.length
 | []=>by show(0:Int)=c*0;rw[gE]
 | a::l=>by rw[sh,tL c l,dQ];push_cast;rw[jl,ia,qo]
theorem yU{α:Type}(l:List α):smL l (λ_=>0)=0:=by rw[tL,ju]
def fct:Nat->Int
 | 0=>1
 | k+1=>fct k*((k:Int)+1)
theorem yI{n:Nat}(g:List Int->Int){j:Nat}:∀d,j+d<=n->fct (n-(j+d))*smL (pre n (j+d)) (λo=>g (o.take j))=fct (n-j)*smL (pre n j) λo=>g (o.take j)
 | 0,_=>rfl
 | d+1,h=>by
  have f:=yI (n:=n) g (j:=j) d (by omega)
  rw[<-f]
  have e:smL (pre n (j+(d+1))) (λo=>g (o.take j))=((n-(j+d):Nat):Int)*smL (pre n (j+d)) λo=>g (o.take j):=by
   show smL ((pre n (j+d)).flatMap (exts n)) _=_
   rw[vb,<-At]
   refine smL_congr λb a=>?_
   have I:=pre_ok a
   have k:=free_len I
   unfold exts
   rw[vH,smL_congr (g:=λ_=>g (b.take j)) λp _=>by rw[ic (by rw[I.len];omega)],tL,gn,show((freeP n b).length:Int)=((n-(j+d):Nat):Int)by omega]
  rw[e,<-pO]
  congr 1
  obtain⟨m,c⟩:∃m,n-(j+d)=m+1:=⟨n-(j+d)-1,by omega⟩
  rw[c,show n-(j+(d+1))=m by omega]
  show fct m*((m+1:Nat):Int)=fct m*((m:Int)+1)
  push_cast
  rfl
theorem AA{n:Nat}(g:List Int->Int){j:Nat}(hj:j<=n):smL (pre n n) (λo=>g (o.take j))=fct (n-j)*smL (pre n j) g:=by
 have:=yI (n:=n) g (j:=j) (n-j) (by omega);rw[show j+(n-j)=n by omega,il]at this;rw[show fct 0=1 from rfl,jQ]at this;rw[this,smL_congr (g:=g) λo a=>by rw[eK (by rw[(pre_ok a).len];exact cI _)]]
theorem Bq(n:Nat):((pre n n).length:Int)=fct n:=by
 have:=AA (n:=n) (λ_=>1) (j:=0) (du _);rw[tL,tL]at this;rw[jQ,Nat.sub_zero]at this;rw[this];show fct n*(1*(([[]]:List (List Int)).length:Int))=fct n;simp
end TM
namespace L2
open PySem PySem.Spec PyProof.Rows
open TM
theorem xZ{w ts us:List Int}(h:∀t,t∈ts↔t∈us):Fc w ts=Fc w us:=by
 unfold Fc E4;rw[gV (q:=λt=>!decide (t∈us)) λt _=>by simp only[decide_eq_decide.mpr (h t)]]
theorem wD(W:List (List Int))(o:List Int){j:Nat}:∀k,k<=j->tk W (o.take j) k=tk W o k
 | 0,_=>rfl
 | k+1,h=>by
  show tk W (o.take j) k++[_]=tk W o k++[_]
  rw[wD W o k (by omega),show(o.take j).getD k 0=o.getD k 0 by rw[cC,cC,gX (by omega)]]
theorem C7(W:List (List Int))(o:List Int){j k:Nat}(h:k<j):bt W (o.take j) k=bt W o k:=by
 unfold bt;rw[wD W o k (by omega),show(o.take j).getD k 0=o.getD k 0 by rw[cC,cC,gX h]]
def Jk(W:List (List Int))(π:List Int):List Int:=tk W π π.length
def Fa(W:List (List Int))(p:Int)(ts:List Int):Int:=Fc (W.getD p.toNat []) ts
theorem BN(W:List (List Int))(π:List Int)(p:Int):Jk W (π++[p])=Jk W π++[Fa W p (Jk W π)]:=by
 unfold Jk Fa;rw[dq,show π.length+([p]:List Int).length=π.length+1 from rfl];have e:tk W (π++[p]) π.length=tk W π π.length:=by
  have:=wD W (π++[p]) (j:=π.length) π.length (cI _);rw[ic (cI _),dj]at this;exact this.symm
 show tk W (π++[p]) π.length++[Fc (W.getD ((π++[p]).getD π.length 0).toNat []) (tk W (π++[p]) π.length)]=_;rw[e,show(π++[p]).getD π.length 0=p by rw[cC,eZ (cI _),il];rfl]
def EE(W:List (List Int))(π:List Int):Ew:=(srt π,srt (Jk W π))
def Et(n:Nat)(W:List (List Int))(k:Ew):List (Int×Int):=(freeP n k.1).map λp=>(p,Fa W p k.2)
def Fy(k:Ew)(pt:Int×Int):Ew:=(srt (k.1++[pt.1]),srt (k.2++[pt.2]))
theorem uN(n:Nat)(W:List (List Int))(π:List Int):Et n W (EE W π)=(freeP n π).map λp=>(p,Fa W p (Jk W π)):=by
 unfold Et EE freeP;rw[gV (q:=λp=>!decide (p∈π)) λp _=>by simp only[decide_eq_decide.mpr (Ad (l:=π) (x:=p))]];exact fF λp _=>by unfold Fa;rw[xZ λt=>Ad]
theorem xy(W:List (List Int))(π:List Int)(p:Int):Fy (EE W π) (p,Fa W p (Jk W π))=EE W (π++[p]):=by
 unfold Fy EE;rw[ym,ym,BN]
section
variable{κ:Type}[DecidableEq κ]
def Fs(F:κ->Int)(kvs:List (κ×Int)):Int:=smL kvs λp=>p.2*F p.1
def KN(kvs:List (κ×Int)):Prop:=(kvs.map Prod.fst).Nodup
theorem vq{k:κ}:∀{kvs:List (κ×Int)},kvs.lookup k=none↔k∉kvs.map Prod.fst
 | []=>by simp[gR]
 | (a,m)::kvs=>by
  rw[dW]
  by_cases e:k=a
  ·subst e;simp
  ·rw[show(k==a)=false from beq_false_of_ne e]
   show kvs.lookup k=none↔_
   rw[vq,dN,cZ]
   simp[e]
theorem z4{kvs:List (κ×Int)}{k:κ}(h:kvs.lookup k=none)(x:Int):Gx kvs k x=kvs++[(k,x)]:=by unfold Gx;rw[h];rfl
theorem z6{kvs:List (κ×Int)}{k:κ}{m:Int}(h:kvs.lookup k=some m)(x:Int):Gx kvs k x=kvs.map λp=>if p.1=k then(p.1,x)else p:=by unfold Gx;rw[h];rfl
theorem Ct{kvs:List (κ×Int)}(h:KN kvs)(k:κ)(x:Int):KN (Gx kvs k x):=by
 cases e:kvs.lookup k with
 | none=>
  rw[z4 e];unfold KN;rw[cS];exact gv.mpr ⟨h,by simp,λa f b d z=>vq.mp e (by have c:b=k:=cK.mp d;rw[<-c,<-z];exact f)⟩
 | some m=>
  rw[z6 e];unfold KN;rw[ik,show(Prod.fst∘λp:κ×Int=>if p.1=k then(p.1,x)else p)=Prod.fst from funext λp=>by show(if p.1=k then(p.1,x)else p).1=p.1;split <;> rfl];exact h
theorem AQ(kvs:List (κ×Int))(k:κ)(x:Int):(Gx kvs k x).length<=kvs.length+1:=by
 unfold Gx;split
 ·rw[cx];omega
 ·rw[dq];exact cI _
theorem yD(F:κ->Int){k:κ}{m x:Int}:∀{kvs:List (κ×Int)},KN kvs->kvs.lookup k=some m->Fs F (kvs.map λp=>if p.1=k then(p.1,x)else p)=Fs F kvs+(x-m)*F k
 | [],_,h=>by simp[gR]at h
 | (a,y)::kvs,hn,h=>by
  have b:=fz.mp (show((a::kvs.map Prod.fst):List κ).Nodup from hn)
  rw[dW]at h
  unfold Fs
  rw[dN,sh,sh]
  by_cases e:k=a
  ·subst e
   rw[beq_self_eq_true]at h
   have h:y=m:=Option.some.inj h
   subst h
   have c:kvs.map (λp:κ×Int=>if p.1=k then(p.1,x)else p)=kvs:=by
    have:∀p∈kvs,(if p.1=k then(p.1,x)else p)=p:=λp hp=>if_neg (show ¬p.1=k from λz=>b.1 (z▸dv.mpr ⟨p,hp,rfl⟩))
    rw[fF this]
    simp
   rw[c]
   show(if k=k then(k,x)else(k,y)).2*F (if k=k then(k,x)else(k,y)).1+_=_
   rw[if_pos rfl]
   show x*F k+_=y*F k+_+_
   rw[jN]
   omega
  ·rw[show(k==a)=false from beq_false_of_ne e]at h
   have d:=yD F (x:=x) b.2 h
   unfold Fs at d
   rw[d]
   show(if a=k then(a,x)else(a,y)).2*F (if a=k then(a,x)else(a,y)).1+_=_
   rw[if_neg (Ne.symm e)]
   omega
def Im(kvs:List (κ×Int))(k:κ)(x:Int):List (κ×Int):=Gx kvs k ((kvs.lookup k).getD 0+x)
theorem yB(F:κ->Int){kvs:List (κ×Int)}(h:KN kvs)(k:κ)(x:Int):Fs F (Im kvs k x)=Fs F kvs+x*F k:=by
 unfold Im
 cases e:kvs.lookup k with
 | none=>
  rw[z4 e];unfold Fs;rw[uO,sh,sM];show _+((0+x)*F k+0)=_;rw[d3];omega
 | some m=>
  rw[z6 e,yD F h e];show Fs F kvs+(m+x-m)*F k=_;rw[show m+x-m=x by omega]
theorem Do{kvs:List (κ×Int)}(h:KN kvs)(k:κ):(kvs.lookup k).getD 0=Fs (λa=>if a=k then 1 else 0) kvs:=by
 induction kvs with
 | nil=>rfl
 | cons p kvs c=>
  obtain⟨a,m⟩:=p;have b:=fz.mp (show((a::kvs.map Prod.fst):List κ).Nodup from h);unfold Fs at c ⊢;rw[sh,dW];by_cases e:k=a
  ·subst e;rw[beq_self_eq_true];have z:smL kvs (λp=>p.2*if p.1=k then 1 else 0)=0:=(smL_congr (g:=λ_=>0) λp hp=>by rw[if_neg (show ¬p.1=k from λz=>b.1 (z▸dv.mpr ⟨p,hp,rfl⟩)),gE]).trans (yU _);rw[z];show m=m*(if k=k then 1 else 0)+0;rw[if_pos rfl];omega
  ·rw[show(k==a)=false from beq_false_of_ne e];show(kvs.lookup k).getD 0=m*(if a=k then 1 else 0)+_;rw[if_neg (Ne.symm e),c b.2];omega
end
def GA(p t:Int)(q u:Int):Int:=if q=p/\u=t then 1 else 0
def EH(n:Nat)(W:List (List Int))(F:List Int->Int):Nat->Int
 | 0=>0
 | k+1=>EH n W F k+fct (n-(k+1))*smL (pre n k) λπ=>smL (freeP n π) λp=>F [p,Fa W p (Jk W π)]
def F6(W:List (List Int))(n:Nat)(o:List Int)(p t:Int):Int:=HM.sm n λj=>GA p t (o.getD j 0) (bt W o j)
theorem yO{α:Type}(f:α->Nat->Int)(l:List α):∀n,smL l (λx=>HM.sm n (f x))=HM.sm n λj=>smL l λx=>f x j
 | 0=>yU l
 | n+1=>by
  show smL l (λx=>HM.sm n (f x)+f x n)=HM.sm n _+_
  rw[Bp,yO f l n]
theorem xG{n:Nat}(W:List (List Int))(p t:Int):∀k,k<=n->EH n W (λl=>GA p t (l.getD 0 0) (l.getD 1 0)) k=HM.sm k λj=>smL (pre n n) λo=>GA p t (o.getD j 0) (bt W o j)
 | 0,_=>rfl
 | k+1,hk=>by
  show EH n W _ k+_=HM.sm k _+_
  rw[xG W p t k (by omega)]
  congr 1
  have e:smL (pre n n) (λo=>GA p t (o.getD k 0) (bt W o k))=smL (pre n n) λo=>(λo=>GA p t (o.getD k 0) (bt W o k)) (o.take (k+1)):=smL_congr λo _=>by
   show _=GA p t ((o.take (k+1)).getD k 0) (bt W (o.take (k+1)) k)
   rw[C7 W o (dH k),show(o.take (k+1)).getD k 0=o.getD k 0 by rw[cC,cC,gX (dH k)]]
  show _=smL (pre n n) λo=>GA p t (o.getD k 0) (bt W o k)
  rw[e,AA (λo=>GA p t (o.getD k 0) (bt W o k)) hk]
  congr 1
  show _=smL ((pre n k).flatMap (exts n)) _
  rw[vb]
  refine smL_congr λa c=>?_
  have I:=pre_ok c
  unfold exts
  rw[vH]
  refine smL_congr λq _=>?_
  have b:(a++[q]).getD k 0=q:=by rw[<-I.len,cC,eZ (cI _),il];rfl
  have d:bt W (a++[q]) k=Fa W q (Jk W a):=by
   unfold bt Fa Jk
   rw[b,<-I.len]
   have:=wD W (a++[q]) (j:=a.length) a.length (cI _)
   rw[ic (cI _),dj]at this
   rw[this]
  rw[b,d]
  rfl
theorem zP{n:Nat}(W:List (List Int))(p t:Int):EH n W (λl=>GA p t (l.getD 0 0) (l.getD 1 0)) n=smL (pre n n) λo=>F6 W n o p t:=by
 rw[xG W p t n (cI _)];unfold F6;rw[yO]
theorem CK(W:List (List Int))(n:Nat)(o:List Int)(p t:Int):0<=F6 W n o p t/\F6 W n o p t<=n:=by
 unfold F6;have h:∀j,0<=GA p t (o.getD j 0) (bt W o j)/\GA p t (o.getD j 0) (bt W o j)<=1:=λj=>by unfold GA;split <;> omega
 constructor
 ·have:=HM.sm_le (n:=n) (f:=λ_=>0) (g:=λj=>GA p t (o.getD j 0) (bt W o j)) λj _=>(h j).1
  rw[HM.sm_zero]at this;exact this
 ·have:=HM.sm_le (n:=n) (f:=λj=>GA p t (o.getD j 0) (bt W o j)) (g:=λ_=>if(true:Bool)=true then 1 else 0) λj _=>by rw[if_pos rfl];exact(h j).2
  rw[HM.sm_cnt (λ_=>true) 1 n]at this;have e:HM.cnt n (λ_=>true)=n:=by unfold HM.cnt;simp
  rw[e]at this;omega
structure CI(n:Nat)(W:List (List Int))(k:Nat)(C:List (List Int×Int)):Prop where
 kn:KN C
 sum:∀F,Fs F C=EH n W F k
 len:C.length<=k*46656
structure BI(n:Nat)(W:List (List Int))(k:Nat)(B:List (Ew×Int)):Prop where
 kn:KN B
 sum:∀F,Fs F B=smL (pre n k) λπ=>F (EE W π)
 len:B.length<=6^k
 key:∀p∈B,∃π∈pre n k,p.1=EE W π
def Ks(n:Nat)(W:List (List Int))(F:List Int->Int)(key:Ew):Int:=smL (Et n W key) λpt=>F [pt.1,pt.2]
def KB(n:Nat)(W:List (List Int))(G:Ew->Int)(key:Ew):Int:=smL (Et n W key) λpt=>G (Fy key pt)
structure TJ(n:Nat)(W:List (List Int))(k:Nat)(B:List (Ew×Int))(i:Nat)(key:Ew)(num:Int)(j:Nat)(C:List (List Int×Int))(L:List (Ew×Int)):Prop where
 ck:KN C
 lk:KN L
 cs:∀F,Fs F C=EH n W F k+fct (n-(k+1))*(smL (B.take i) (λe=>e.2*Ks n W F e.1)+num*smL ((Et n W key).take j) λpt=>F [pt.1,pt.2])
 ls:∀G,Fs G L=smL (B.take i) (λe=>e.2*KB n W G e.1)+num*smL ((Et n W key).take j) λpt=>G (Fy key pt)
 cl:C.length<=k*46656+i*6+j
 ll:L.length<=i*6+j
 lv:∀p∈L,∃π∈pre n (k+1),p.1=EE W π
abbrev TI0(n:Nat)(W:List (List Int))(k:Nat)(B:List (Ew×Int))(i:Nat)(C:List (List Int×Int))(L:List (Ew×Int)):Prop:=∀key num,TJ n W k B i key num 0 C L
section
variable{n:Nat}{W:List (List Int)}{k:Nat}{B:List (Ew×Int)}{C:List (List Int×Int)}{L:List (Ew×Int)}
theorem CI.zero:CI n W 0 []:=⟨hX,λ_=>rfl,du _⟩
theorem BI.zero:BI n W 0 [(([],[]),1)]:=⟨by unfold KN;simp,λF=>by
  show smL [(([],[]),1)] (λp:Ew×Int=>p.2*F p.1)=smL [[]] _;rw[sh,sM,sh,sM];show 1*F ([],[])+0=F (EE W [])+0;rw[jQ];rfl,cI _,λp hp=>⟨[],cK.mpr rfl,by rw[cK.mp hp];rfl⟩⟩
theorem TI0.start(h:CI n W k C):TI0 n W k B 0 C []:=λb a=>⟨h.kn,hX,λF=>by
  rw[h.sum F,eP,eP,sM,sM,gE];omega,λG=>by
  rw[eP,eP,sM,sM,gE];rfl,by have:=h.len;omega,du _,λ_ h=>nomatch h⟩
theorem TJ.step{i j:Nat}{key:Ew}{num:Int}{pt:Int×Int}(h:TJ n W k B i key num j C L)(hp:(Et n W key)[j]?=some pt)(hv:∃π∈pre n (k+1),Fy key pt=EE W π):
  TJ n W k B i key num (j+1) (Im C [pt.1,pt.2] (num*fct (n-(k+1)))) (Im L (Fy key pt) num):=by
 refine⟨Ct h.ck _ _,Ct h.lk _ _,λF=>?_,λG=>?_,?_,?_,λp a=>?_⟩
 ·rw[yB F h.ck,h.cs F,cY,hp,uO]
  show _+num*fct (n-(k+1))*F [pt.1,pt.2]=_+_*(_+num*(_+smL [pt] _))
  rw[sh,sM,gD,show num*fct (n-(k+1))*F [pt.1,pt.2]=fct (n-(k+1))*(num*F [pt.1,pt.2])by ac_rfl,mB,<-jl,mB,<-jl]
 ·rw[yB G h.lk,h.ls G,cY,hp,uO]
  show _+num*G (Fy key pt)=_+num*(_+smL [pt] _)
  rw[sh,sM,jl,jl,gE,gD]
  omega
 ·unfold Im
  exact dg (AQ _ _ _) (by have:=h.cl;omega)
 ·unfold Im
  exact dg (AQ _ _ _) (by have:=h.ll;omega)
 ·unfold Im Gx at a
  split at a
  ·obtain⟨q,b,e⟩:=dv.mp a
   obtain⟨π,h1,h2⟩:=h.lv q b
   refine⟨π,h1,?_⟩
   rw[<-e,<-h2]
   split <;> rfl
  ·rcases dJ.mp a with z|z
   ·exact h.lv p z
   ·rw[cK.mp z]
    exact hv
theorem TJ.done{i:Nat}{key:Ew}{num:Int}(hB:B[i]?=some (key,num))(hl:(Et n W key).length<=6)(h:TJ n W k B i key num (Et n W key).length C L):TI0 n W k B (i+1) C L:=λa b=>by
 refine⟨h.ck,h.lk,λF=>?_,λG=>?_,?_,?_,h.lv⟩
 ·rw[h.cs F,dj,eP,sM,gE,gD,cY,hB,uO];show _+_*(_+_)=_+_*(_+smL [(key,num)] _);rw[sh,sM,gD];rfl
 ·rw[h.ls G,dj,eP,sM,gE,gD,cY,hB,uO];show _+_=_+smL [(key,num)] _;rw[sh,sM,gD];rfl
 ·have:=h.cl;omega
 ·have:=h.ll;omega
theorem TI0.finish(hB:BI n W k B)(hk:k<6)(h:TI0 n W k B B.length C L):CI n W (k+1) C/\BI n W (k+1) L:=by
 have h0:=h ([],[]) 0;have b:B.length<=7776:=dg hB.len (by
  have:6^k<=6^5:=eB (by decide) (by omega);simpa using this)
 refine⟨⟨h0.ck,λF=>?_,by have:=h0.cl;omega⟩,⟨h0.lk,λG=>?_,?_,h0.lv⟩⟩
 ·rw[h0.cs F,dj,eP,sM,gE,gD];show _+_*Fs (Ks n W F) B=EH n W F k+_;rw[hB.sum]
  congr 2
  refine smL_congr λa _=>?_
  unfold Ks;rw[uN,vH]
 ·rw[h0.ls G,dj,eP,sM,gE,gD];show Fs (KB n W G) B=smL ((pre n k).flatMap (exts n)) _;rw[hB.sum,vb];refine smL_congr λa _=>?_
  unfold KB exts;rw[uN,vH,vH];exact smL_congr λp _=>by rw[xy]
 ·have:=h0.ll;have:=hB.len;rw[qe];omega
end
def IA(K:cu):Sp:=λvs H Q _=>∃(w l:cG) (row ts:List Int),vs=[.ref w,.ref l]/\SqT K H w (row.map V.int)/\(SqL K H l (ts.map V.int)\/SqT K H l (ts.map V.int))/\row.length<=63/\(∃t∈row,t∉ts)/\∀H',Same H H'->Q (.int (Fc row ts)) H'
def Hc(K:cu):Sp:=λvs H Q _=>∃(a:cG) (ns:List Int) (x:Int),vs=[.ref a,.int x]/\SqT K H a (ns.map V.int)/\ns.length<=60/\∀p H',Same H H'->SqT K H' p ((srt (ns++[x])).map V.int)->Q (.ref p) H'
def Iy(K:cu):Sp:=λvs H Q _=>∃(a g t:cG) (ws:List V) (W:List (List Int)) (n:Nat) (key:Ew),vs=[.ref a,.ref g,.ref t]/\SqL K H a ws/\dr (IsR K H) ws W/\Fj n W/\SqT K H g (key.1.map V.int)/\SqT K H t (key.2.map V.int)/\key.2.length<n/\
 ∀p ls H',Same H H'->H p=none->H' p=some (.lst ls)->dr (IsF K H') ls (Et n W key)->Q (.ref p) H'
def FL:Sp:=λvs H Q _=>∃k:Nat,vs=[.int k]/\k<=6/\Q (.int (fct k)) H
def HU(P:cT)(w:dc)(K:cu):Sp:=λvs H Q _=>∃(a:cG) (ws:List V) (W:List (List Int)) (n:Nat),vs=[.ref a]/\SqL K H a ws/\dr (IsR K H) ws W/\Fj n W/\
 ∀d C H',Same H H'->DictI Gr P w K H' d C->CI n W n C->Q (.ref d) H'
def EZ(n:Nat)(W:List (List Int))(p:Int):List (Int×Int):=(db n).map λ(t:Nat)=>FQ.red (EH n W (λl=>GA p t (l.getD 0 0) (l.getD 1 0)) n) (fct n)
def Ik(P:cT)(w:dc)(K:cu):Sp:=λvs H Q _=>∃(d:cG) (C:List (List Int×Int)) (W:List (List Int)) (n:Nat) (p:Int),vs=[.ref d,.int p,.int n]/\DictI Gr P w K H d C/\CI n W n C/\n<=6/\
 ∀q gs H',Same H H'->H q=none->H' q=some (.tup gs)->dr (IsF K H') gs (EZ n W p)->Q (.ref q) H'
def RwG(K:cu)(H:Hp)(v:V)(r:List (Int×Int)):Prop:=∃a gs,v = .ref a/\SqT K H a gs/\dr (IsF K H) gs r
theorem RwG.mono{K:cu}{H H':Hp}{v:V}{r:List (Int×Int)}(e:Same H H')(h:RwG K H v r):RwG K H' v r:=by
 obtain⟨a,b,rfl,h1,h2⟩:=h;exact⟨a,b,rfl,e.tup h1,rQ e h2⟩
def Ii(n:Nat)(W:List (List Int)):List (List (Int×Int)):=(db n).map λ(p:Nat)=>EZ n W p
def Ga(K:cu):Sp:=λvs H Q _=>∃(a:cG) (ws:List V) (W:List (List Int)) (n:Nat),vs=[.ref a]/\SqL K H a ws/\dr (IsR K H) ws W/\Fj n W/\
 ∀q us H',Same H H'->H q=none->H' q=some (.lst us)->dr (RwG K H') us (Ii n W)->Q (.ref q) H'
structure KX(bad:List cG)(H H':Hp):Prop where
 keep:∀b o,b∉bad->H b=some o->H' b=some o
 was:∀b∈bad,∃φ,H b=some (.ext φ)
 is:∀b∈bad,∃φ,H' b=some (.ext φ)
section
variable{bad:List cG}{H H' H'':Hp}{K:cu}
theorem KX.refl(h:∀b∈bad,∃φ,H b=some (.ext φ)):KX bad H H:=⟨λ_ _ _ e=>e,h,h⟩
theorem KX.trans(a:KX bad H H')(b:KX bad H' H''):KX bad H H'':=⟨λc o d e=>b.keep c o d (a.keep c o d e),a.was,b.is⟩
theorem KX.of(e:Same H H')(h:∀b∈bad,∃φ,H b=some (.ext φ)):KX bad H H':=⟨λ_ _ _ q=>e _ _ q,h,λb a=>by obtain⟨φ,q⟩:=h b a;exact⟨φ,e _ _ q⟩⟩
theorem KX.put{d:cG}(h:∀b∈bad,∃φ,H b=some (.ext φ))(hd:d∈bad)(e:∃φ φ',H d=some (.ext φ)/\H'=upd H d (.ext φ')):KX bad H H':=by
 obtain⟨φ,φ',h1,rfl⟩:=e;refine⟨λb o a q=>by rw[rH (show b≠d from λz=>a (by rw[z];exact hd))];exact q,h,λb a=>?_⟩;by_cases z:b=d
 ·subst z;exact⟨φ',rC⟩
 ·rw[rH z];exact h b a
theorem KX.get(a:KX bad H H'){b:cG}{o:HO}(h:H b=some o)(hn:∀φ,o≠ .ext φ):H' b=some o:=a.keep b o (λz=>by obtain⟨φ,q⟩:=a.was b z;rw[h]at q;exact hn φ (Option.some.inj q)) h
theorem KX.tup(a:KX bad H H'){b:cG}{xs:List V}(h:SqT K H b xs):SqT K H' b xs:=by
 rcases h with(h|⟨u,h⟩)|h
 ·exact .inl (.inl (a.get h λ_ z=>by cases z))
 ·exact .inl (.inr ⟨u,a.get h λ_ z=>by cases z⟩)
 ·exact .inr h
theorem KX.lst(a:KX bad H H'){b:cG}{xs:List V}(h:H b=some (.lst xs)):H' b=some (.lst xs):=a.get h λ_ z=>by cases z
theorem KX.same{H0:Hp}(a:KX bad H H')(e:Same H0 H)(hf:∀b∈bad,H0 b=none):Same H0 H':=λb o q=>a.keep b o (λz=>by rw[hf b z]at q;cases q) (e b o q)
theorem KX.dict{κ:Type}[DecidableEq κ]{W:KW κ}{P:cT}{w:dc}{d:cG}{ep:Nat}{kvs:List (κ×Int)}(a:KX bad H H')(h:DictE W P w K H d ep kvs)(hd:d∉bad):DictE W P w K H' d ep kvs:=by
 obtain⟨e,h1,h2⟩:=h;exact⟨e,a.keep _ _ hd h1,Paired.mapP h2 λ_ _ ⟨f,c,b⟩=>⟨f,c,W.map (λ_ _ q=>a.tup q) b⟩⟩
theorem DictI.ext{κ:Type}[DecidableEq κ]{W:KW κ}{P:cT}{w:dc}{d:cG}{kvs:List (κ×Int)}(h:DictI W P w K H d kvs):∃φ,H d=some (.ext φ):=by
 obtain⟨b,a,h1,_⟩:=h;exact⟨_,h1⟩
end
theorem yG{m:Nat}(h:m<=6):0<TM.fct m/\TM.fct m<=720:=
 (show ∀m∈db 7,0<TM.fct m/\TM.fct m<=720 by decide) m (dY.mpr (by omega))
theorem Bm(l:List Int):(TM.srt l).length=l.length:=(TM.srt_perm l).length_eq
theorem B5{n k:Nat}{W:List (List Int)}{π:List Int}{pt:Int×Int}(hπ:π∈TM.pre n k)(hp:pt∈Et n W (EE W π)):∃ρ∈TM.pre n (k+1),Fy (EE W π) pt=EE W ρ:=by
 rw[uN]at hp;obtain⟨p,h1,rfl⟩:=dv.mp hp;exact⟨π++[p],oh.mpr ⟨π,hπ,dv.mpr ⟨p,h1,rfl⟩⟩,xy W π p⟩
def Gq(n:Nat)(f:Nat->Nat->Int):List (List Int):=(db n).map λp=>(db n).map λt=>f p t
theorem y2(n:Nat)(f:Nat->Nat->Int):(Gq n f).length=n:=by unfold Gq;simp
theorem yT{n:Nat}{f:Nat->Nat->Int}{p:Nat}(hp:p<n):(Gq n f)[p]?=some ((db n).map λt=>f p t):=by unfold Gq;rw[cH,d9 hp];rfl
theorem DV{n:Nat}{g:Nat->Int}{t:Nat}(ht:t<n):((db n).map g)[t]?=some (g t):=by rw[cH,d9 ht];rfl
theorem BX(n:Nat)(W:List (List Int)):(Ii n W).length=n:=by unfold Ii;simp
theorem zv(n:Nat)(W:List (List Int))(p:Int):(EZ n W p).length=n:=by unfold EZ;simp
def FA(n:Nat)(W:List (List Int))(p t:Nat):Int:=TM.smL (TM.pre n n) λo=>F6 W n o p t
theorem Ao{n:Nat}{W:List (List Int)}{p:Nat}:EZ n W p=(db n).map λ(t:Nat)=>FQ.red (FA n W p t) (TM.fct n):=by
 unfold EZ FA;exact fF λt _=>by rw[zP]
def Ke{κ:Type}[DecidableEq κ](kvs:List (κ×Int))(k:κ):Int:=(kvs.lookup k).getD 0
theorem Cd(C:List (List Int×Int))(h:KN C)(n:Nat)(W:List (List Int))(hs:∀F,Fs F C=EH n W F n)(p t:Int):Ke C [p,t]=EH n W (λl=>GA p t (l.getD 0 0) (l.getD 1 0)) n:=by
 have d:=Do h [p,t];have e:EH n W (λa=>if a=[p,t]then 1 else 0) n=EH n W (λl=>GA p t (l.getD 0 0) (l.getD 1 0)) n:=by
  have b:∀k,EH n W (λa=>if a=[p,t]then 1 else 0) k=EH n W (λl=>GA p t (l.getD 0 0) (l.getD 1 0)) k:=by
   intro k
   induction k with
   | zero=>rfl
   | succ k f=>
    show EH n W _ k+_=EH n W _ k+_;rw[f]
    congr 2
    exact TM.smL_congr λc _=>TM.smL_congr λq _=>by
     show(if[q,Fa W q (Jk W c)]=[p,t]then(1:Int)else 0)=GA p t q (Fa W q (Jk W c));unfold GA;simp
  exact b n
 rw[<-e,<-hs];exact d
theorem Cw{n:Nat}{o:List Int}(h:o∈TM.pre n n):LN.Pm n o:=by
 have I:=TM.pre_ok h;have c:=TM.free_len I;have b:TM.freeP n o=[]:=ib (by omega);refine(gc I.nd (LM.rng_nodup n)).mpr λx=>⟨λa=>LM.mem_rng.mpr (I.bd x a),λa=>?_⟩
 refine dM λz=>?_
 have:x∈TM.freeP n o:=d8.mpr ⟨a,by simpa using z⟩;rw[b]at this
 cases this
end L2
namespace L2
open TM
theorem uU{n c:Nat}(hc:c<n)(x:Int):HM.sm n (λi=>if i=c then x else 0)=x:=by
 have h:=HM.sm_cnt (λi=>i==c) x n;rw[HM.cnt_one,if_pos hc]at h;rw[HM.sm_congr (g:=λi=>if(i==c)=true then x else 0) λi _=>by by_cases e:i=c <;> simp[e],h];simp
theorem Cs{α:Type}(l:List α):smL l (λ_=>(1:Int))=l.length:=by rw[tL,jQ]
theorem DM{n:Nat}{W:List (List Int)}{o:List Int}(ok:Fj n W)(ho:LN.Pm n o){k:Nat}(hk:k<n):0<=bt W o k/\bt W o k<n/\bt W o k∉tk W o k:=by
 have d:=ho.len;have e:=ho.mem.mp (show o.getD k 0∈o by rw[HM.getD_lt (by omega)];exact cW _);have b:(o.getD k 0).toNat<W.length:=by have:=ok.len;omega
 have a:=ok.pm _ (cW b);unfold bt;rw[HM.getD_lt b];have c:=xA (Bj (ts:=tk W o k) a (by rw[Ap];exact hk));have:=a.mem.mp c.2.1;exact⟨this.1,this.2,c.2.2⟩
theorem D6{n:Nat}{W:List (List Int)}{o:List Int}(ok:Fj n W)(ho:LN.Pm n o):LN.Pm n (tk W o n):=by
 have c:∀k,k<=n->(tk W o k).Nodup/\∀t∈tk W o k,0<=t/\t<n:=by
  intro k
  induction k with
  | zero=>exact λ_=>⟨hX,λ_ h=>nomatch h⟩
  | succ k m=>
   intro hk;obtain⟨h1,h2⟩:=m (by omega);obtain⟨j,f,l⟩:=DM ok ho (k:=k) (by omega);have e:tk W o (k+1)=tk W o k++[bt W o k]:=rfl;rw[e];refine⟨gv.mpr ⟨h1,by simp,λx a y g z=>l (by rw[cK.mp g]at z;rw[<-z];exact a)⟩,λt b=>?_⟩;rcases dJ.mp b with z|z
   ·exact h2 t z
   ·rw[cK.mp z];exact⟨j,f⟩
 obtain⟨h1,h2⟩:=c n (cI _);refine(gc h1 (LM.rng_nodup n)).mpr λx=>⟨λa=>LM.mem_rng.mpr (h2 x a),λa=>?_⟩
 refine dM λz=>?_
 have d:=LM.mem_rng.mp a;have:=IP (x::tk W o n) (LM.rng n) (fz.mpr ⟨z,h1⟩) λt b=>LM.mem_rng.mpr (by
  rcases cZ.mp b with e|e
  ·rw[e];exact d
  ·exact h2 t e)
 rw[dQ,Ap,LM.rng_len]at this;omega
theorem DD(W:List (List Int))(o:List Int){n j:Nat}(hj:j<n):(tk W o n).getD j 0=bt W o j:=by
 rw[CN,cC,cH,d9 hj];rfl
theorem C4{n:Nat}(W:List (List Int)){o:List Int}(ho:LN.Pm n o){p:Nat}(hp:p<n):∃j,j<n/\o.getD j 0=(p:Int)/\(∀i,i<n->o.getD i 0=(p:Int)->i=j)/\∀V t,F6 V n o p t=if bt V o j=t then 1 else 0:=by
 obtain⟨j,f,e,d⟩:=HM.pm_at ho hp;refine⟨j,f,e,λi b h=>d i b (by rw[h];rfl),λV t=>?_⟩;unfold F6;rw[HM.sm_congr (g:=λi=>if i=j then(if bt V o j=t then 1 else 0)else 0) λi b=>?_,uU f];unfold GA;by_cases c:i=j
 ·subst c;rw[if_pos rfl];by_cases a:bt V o i=t
  ·rw[if_pos a,if_pos ⟨e,a⟩]
  ·rw[if_neg a,if_neg λz=>a z.2]
 ·rw[if_neg c,if_neg λz=>c (d i b (by rw[z.1];rfl))]
theorem B7{n:Nat}{W:List (List Int)}{o:List Int}(ok:Fj n W)(ho:LN.Pm n o){p:Nat}(hp:p<n):HM.sm n (λt=>F6 W n o p t)=1:=by
 obtain⟨j,a,_,_,h⟩:=C4 W ho hp;obtain⟨d,b,_⟩:=DM ok ho a;rw[HM.sm_congr (g:=λt=>if t=(bt W o j).toNat then 1 else 0) λt _=>?_,uU (by omega)];show F6 W n o p t=_;rw[h];by_cases c:bt W o j=t
 ·rw[if_pos c,if_pos (by omega)]
 ·rw[if_neg c,if_neg (by omega)]
theorem BV{n:Nat}{W:List (List Int)}{o:List Int}(ok:Fj n W)(ho:LN.Pm n o){t:Nat}(ht:t<n):HM.sm n (λp=>F6 W n o p t)=1:=by
 unfold F6;rw[HM.sm_swap];obtain⟨j,d,e,f⟩:=HM.pm_at (D6 ok ho) ht;rw[HM.sm_congr (g:=λi=>if i=j then 1 else 0) λi b=>?_,uU d];have h:=ho.len;have k:=ho.mem.mp (show o.getD i 0∈o by rw[HM.getD_lt (by omega)];exact cW _);rw[DD W o d]at e;by_cases c:i=j
 ·subst c;rw[if_pos rfl,HM.sm_congr (g:=λp=>if p=(o.getD i 0).toNat then 1 else 0) λp _=>?_,uU (by omega)];unfold GA;by_cases a:p=(o.getD i 0).toNat
  ·rw[if_pos a,if_pos ⟨by omega,e⟩]
  ·rw[if_neg a,if_neg λz=>a (by omega)]
 ·rw[if_neg c,HM.sm_congr (g:=λ_=>0) λp _=>?_,HM.sm_zero];unfold GA;rw[if_neg λz=>c (f i b (by rw[DD W o b,z.2];rfl))]
theorem Cg{n:Nat}{W:List (List Int)}(ok:Fj n W){p:Nat}(hp:p<n):HM.sm n (λt=>FA n W p t)=fct n:=by
 unfold FA;rw[<-yO (λo t=>F6 W n o p t),smL_congr (g:=λ_=>1) λo a=>B7 ok (Cw a) hp,Cs,Bq]
theorem Ca{n:Nat}{W:List (List Int)}(ok:Fj n W){t:Nat}(ht:t<n):HM.sm n (λp=>FA n W p t)=fct n:=by
 unfold FA;rw[<-yO (λo p=>F6 W n o p t),smL_congr (g:=λ_=>1) λo a=>BV ok (Cw a) ht,Cs,Bq]
theorem DR{α:Type}{l:List α}{f:α->Int}(h:∀x∈l,0<=f x):0<=smL l f:=by
 induction l with
 | nil=>exact fE _
 | cons a l c=>
  rw[sh];have:=h a cM;have:=c λx b=>h x (cO _ b)
  omega
theorem Ds(n:Nat)(W:List (List Int))(p t:Nat):0<=FA n W p t:=DR λo _=>(CK W n o p t).1
theorem wV{n:Nat}{f:Nat->Nat->Int}{p t:Nat}(hp:p<n)(ht:t<n):HM.ent (Gq n f) p t=f p t:=by
 unfold HM.ent;rw[cC,cC,yT hp];show(((db n).map λt=>f p t)[t]?).getD 0=_;rw[DV ht];rfl
theorem B6{n:Nat}{W:List (List Int)}(ok:Fj n W):HM.Reg n (Gq n (FA n W)) (fct n):=by
 refine⟨y2 _ _,λr c=>?_,λp t=>?_,λi b=>?_,λj d=>?_⟩
 ·unfold Gq at c;obtain⟨q,_,rfl⟩:=dv.mp c;simp
 ·by_cases hp:p<n
  ·by_cases a:t<n
   ·rw[wV hp a];exact Ds n W p t
   ·unfold HM.ent;rw[cC,cC,yT hp];show 0<=(((db n).map λt=>FA n W p t)[t]?).getD 0;rw[gi (by simpa using a)];exact fE _
  ·unfold HM.ent;have e:(Gq n (FA n W))[p]?=none:=gi (by rw[y2];omega);rw[cC,cC,e];exact fE _
 ·rw[HM.sm_congr (g:=λt=>FA n W i t) λt a=>wV b a];exact Cg ok b
 ·rw[HM.sm_congr (g:=λp=>FA n W p j) λp hp=>wV hp d];exact Ca ok d
end L2
namespace L2
open TM
section
variable{n:Nat}{W V:List (List Int)}{P X:List Int}
theorem Dw{n:Nat}{t:Int}(h0:0<=t)(h1:t<n):EM.at0 (fA n (1:Int)) t=1:=by
 unfold EM.at0;rw[HM.getD_lt (by rw[eT];omega),List.getElem_replicate]
end
end L2
namespace L2
open PySem PySem.Spec PyProof.Rows
section
variable{X:Cx}
theorem zS:∀{vs:List cA} {ns:List Int} (hi:IntsAre vs ns) {i:Nat} (h:i<vs.length),∃t,vs[i]=dX (ns[i]'(by rw[<-hi.length];exact h)) t
 | _,_,.cons n t r,0,_=>⟨t,rfl⟩
 | _,_,.cons n t r,i+1,h=>zS r (i:=i) (by simpa using h)
theorem index_tup_ints{prog:cT}{w:dc}{A:dw}{E:cA->cD->Prop}{s:cD}{a:cG}{vs:List cA}{ns:List Int}{k:Int}{t:Tok}{Q:cA->cD->Prop}(ht:IsTup s.heap a vs.toArray)(hi:IntsAre vs ns)
  (hk:k∈ns)(h:Q (.int (ns.idxOf k:Nat) s.toks) {s with toks:=s.toks+1}):wpAny (model prog w) A (call (.builtin "tuple.index") [.ref a,.int k t]) Q E s:=by
 have q:=hi.length
 have u:ns.idxOf k<ns.length:=g8.mpr hk
 refine gZ jd ht.typeIs kr (kl _ _) (S:=λA R s=>IsTup s.heap a vs.toArray/\R (.ok (.ret (.int (ns.idxOf k:Nat) s.toks))) {s with toks:=s.toks+1}) ?_ ⟨ht,h⟩
 intro prog w A R s ⟨ht,h⟩
 show wpAny _ _ _ _ _ _
 unfold Builtin.«tuple.index»
 simp only[iV]
 wp_walk using pV ht
 have p:([:min vs.toArray.size vs.toArray.size]:oi).size=vs.length:=by simp[lW]
 rw[p]
 refine ld (M:=model prog w) (A:=A.in1) _ (λl b j=>b=((none:Option PySem.Fin),())/\j=s/\∃i,l=kC i (vs.length-i)/\i<=ns.idxOf k) _ (λx rest b j g=>?_) (λb j g=>?_) _ _ ⟨rfl,rfl,0,rfl,du _⟩
 ·obtain⟨rfl,rfl,i,e,d⟩:=g
  have f:i<vs.length:=by omega
  rw[show vs.length-i=(vs.length-(i+1))+1 by omega,la]at e
  injection e with n hrest
  subst n
  obtain⟨o,r⟩:∃o,vs[x]=dX (ns[x]'(by omega)) o:=zS hi f
  have m:vs.toArray[x]?=some (dX (ns[x]'(by omega)) o):=by simp[f,r]
  rw[m]
  refine cr (nP ?_)
  by_cases c:ns[x]'(by omega)=k
  ·have n:ns.idxOf k=x:=by
    have h1:ns.idxOf k<=x:=by
     refine kZ λz=>?_
     exact absurd c (by simpa using lC z)
    omega
   rw[show(ns[x]'(by omega)==k)=true by simp[c],if_pos rfl]
   wp_walk
   rw[n]at h
   exact h
  ·rw[show(ns[x]'(by omega)==k)=false by simp[c],if_neg (by decide)]
   refine cv ⟨rfl,rfl,x+1,hrest,?_⟩
   refine mY d λz=>c ?_
   have:=jh u
   simp only[<-z]at this
   exact this
 ·obtain⟨_,_,i,e,d⟩:=g
  have:=congrArg ji e
  simp at this
  omega
theorem SqT.frz{K:cu}{H:Hp}{a:cG}{o:Obj}{xs:List V}(h:H a=some (.frz o (.tup xs))):SqT K H a xs:= .inl (.inr ⟨o,h⟩)
theorem ui:EJ X (.type "tuple") (λxs H Q=>∃p ys,xs=[.ref p]/\SqL X.K H p ys/\∀l o,H l=none->o.dict=none->Q (.ref l) (upd H l (.frz o (.tup ys)))):=by
 intro c s g H xs z Q I r h;obtain⟨p,ys,rfl,t,q⟩:=h;obtain⟨u,rfl,v⟩:=EU r
 cases v;obtain⟨a,f,y,k⟩:=I.list t;have m:=f.length;refine ou y.isList (λd x=>?_) (by simp only[cX] <;> omega);have j:Inv X c g H {s with heap:=d}:=I.kept (t':=s.toks) x;have n:Inv X c g (upd H d.objs.size (.frz {cls:= .type "tuple",data:= .seq a.toArray} (.tup ys))) {s with heap:=d.push {cls:= .type "tuple",data:= .seq a.toArray}}:=
  j.laid (t':=s.toks) (λb o e=>cF _ e) (cI _) (show ObjOk X.prog X.w _ _ _ (.frz _ (.tup ys))from⟨cN _ rfl,k,a,f,p6 _ _⟩)
 exact⟨.ref d.objs.size,_,n,rfl,q _ _ (j.hok.fresh (cI _)) rfl⟩
end
theorem tP{K:cu}{H:Hp}{T:Int}:∀{Z:List (List Int)} {us:List V},dr (RwG K H) us (Z.map (fr T))->dr (RwFT K H T) us Z
 | [],_,.nil=> .nil
 | _::_,_,.cons h t=> .cons h (tP t)
theorem Ba(n:Nat)(W:List (List Int)):Ii n W=(Gq n (FA n W)).map (fr (TM.fct n)):=by
 unfold Ii Gq;rw[ik];refine fF λp _=>?_
 rw[Ao];show _=fr (TM.fct n) ((db n).map λt=>FA n W p t);unfold fr;rw[ik];rfl
theorem CS{n:Nat}{W:List (List Int)}(ok:Fj n W):Jo n (TM.fct n) (Gq n (FA n W)):=by
 have h:=yG ok.hi;exact⟨ok.lo,ok.hi,h.1,by omega,B6 ok⟩
end L2
namespace L2
open TM
section
variable{n:Nat}{W:List (List Int)}
theorem yu(h:EM.Ws n W)(ms:List Int):(EM.dishes W ms).length=n:=by unfold EM.dishes;rw[cx];exact h.len
theorem CM(h:EM.Ws n W){i:Nat}(hu:EM.Upto W n (i+1)){p:Nat}(hp:p<n):0<=(EM.dishes W (EM.st W n i).ms).getD p 0/\(EM.dishes W (EM.st W n i).ms).getD p 0<n/\EM.at0 (EM.st W n i).ms ((EM.dishes W (EM.st W n i).ms).getD p 0)≠0:=by
 have S:=(EM.st_ok h i (hu.mono (ec i))).1;have a:p<(EM.dishes W (EM.st W n i).ms).length:=by rw[yu h];exact hp
 rw[HM.getD_lt a];have:=EM.dish_ok S h.pm (hu i (dH i)) (cW a);exact⟨this.1.1,this.1.2,this.2⟩
theorem AB(c:Int)(f:Nat->Int):∀n,HM.sm n (λi=>f i*c)=HM.sm n f*c
 | 0=>by show(0:Int)=0*c;rw[ju]
 | n+1=>by
  show HM.sm n (λi=>f i*c)+f n*c=(HM.sm n f+f n)*c
  rw[AB c f n,gT]
theorem CD(h:EM.Ws n W){p:Nat}(hp:p<n):∀i,EM.Upto W n i->HM.sm n (λt=>EM.et W n i p t)=(EM.st W n i).T
 | 0,_=>HM.sm_zero n
 | i+1,hu=>by
  have a:=CD h hp i (hu.mono (ec i))
  obtain⟨d,b,_⟩:=CM h hu hp
  show HM.sm n (λt=>EM.et W n i p t*EM.cn W (EM.st W n i)+if(EM.dishes W (EM.st W n i).ms).getD p 0=(t:Int)then(EM.cs W (EM.st W n i)).m else 0)=(EM.st W n i).T*EM.cn W (EM.st W n i)+(EM.cs W (EM.st W n i)).m
  rw[HM.sm_add (λt=>EM.et W n i p t*EM.cn W (EM.st W n i)),AB _ (λt=>EM.et W n i p t),a]
  congr 1
  rw[HM.sm_congr (g:=λt=>if t=((EM.dishes W (EM.st W n i).ms).getD p 0).toNat then(EM.cs W (EM.st W n i)).m else 0) λt _=>?_,uU (by omega)]
  by_cases c:(EM.dishes W (EM.st W n i).ms).getD p 0=(t:Int)
  ·rw[if_pos c,if_pos (by omega)]
  ·rw[if_neg c,if_neg (by omega)]
theorem B3{l:List Int}{t m:Int}:∀{n:Nat},l.length=n->HM.sm n (λp=>if l.getD p 0=t then m else 0)=EM.cnt l t*m:=by
 intro n
 induction n generalizing l with
 | zero=>
  intro b;rw[ib b];show(0:Int)=EM.cnt [] t*m;unfold EM.cnt;simp
 | succ n j=>
  intro b;have a:l≠[]:=λz=>by rw[z]at b;cases b
  have e:l.dropLast++[l.getLast a]=l:=jW a;have d:l.dropLast.length=n:=by rw[gS,b];rfl
  show HM.sm n (λp=>if l.getD p 0=t then m else 0)+(if l.getD n 0=t then m else 0)=_;rw[HM.sm_congr (g:=λp=>if l.dropLast.getD p 0=t then m else 0) λp hp=>?_,j d]
  ·have f:l.getD n 0=l.getLast a:=by
    conv=>lhs;rw[<-e]
    rw[cC,eZ (by omega),d,il];simp
   rw[f];have h:EM.cnt l t=EM.cnt l.dropLast t+if l.getLast a=t then 1 else 0:=by
    unfold EM.cnt
    conv=>lhs;rw[<-e]
    rw[List.count_append];by_cases c:l.getLast a=t
    ·rw[if_pos c,c];simp
    ·rw[if_neg c,mQ.mpr (λz=>c (cK.mp z).symm)];simp
   rw[h,gT];by_cases c:l.getLast a=t
   ·rw[if_pos c,if_pos c,jQ]
   ·rw[if_neg c,if_neg c,ju]
  ·show(if l.getD p 0=t then m else 0)=if l.dropLast.getD p 0=t then m else 0
   have:l.getD p 0=l.dropLast.getD p 0:=by
    conv=>lhs;rw[<-e]
    rw[cC,gO (by omega),cC]
   rw[this]
theorem Cr(h:EM.Ws n W){t:Int}(h0:0<=t)(h1:t<n):∀i,EM.Upto W n i->HM.sm n (λp=>EM.et W n i p t)=(EM.st W n i).D-EM.at0 (EM.st W n i).ms t
 | 0,_=>by
  show HM.sm n (λ_=>0)=1-EM.at0 (fA n 1) t
  rw[HM.sm_zero,Dw h0 h1]
  rfl
 | i+1,hu=>by
  have a:=Cr h h0 h1 i (hu.mono (ec i))
  have S:=(EM.st_ok h i (hu.mono (ec i))).1
  show HM.sm n (λp=>EM.et W n i p t*EM.cn W (EM.st W n i)+if(EM.dishes W (EM.st W n i).ms).getD p 0=t then(EM.cs W (EM.st W n i)).m else 0)=(EM.st W n i).D*EM.cn W (EM.st W n i)-EM.at0 (EM.nextMs (EM.dishes W (EM.st W n i).ms) (EM.st W n i).ms) t
  rw[HM.sm_add (λp=>EM.et W n i p t*EM.cn W (EM.st W n i)),AB _ (λp=>EM.et W n i p t),a,B3 (yu h _),EM.at0_next h0 (by rw[S.len];exact h1)]
  show((EM.st W n i).D-EM.at0 (EM.st W n i).ms t)*EM.cn W (EM.st W n i)+EM.cnt (EM.dishes W (EM.st W n i).ms) t*(EM.cs W (EM.st W n i)).m=(EM.st W n i).D*EM.cn W (EM.st W n i)-(EM.at0 (EM.st W n i).ms t*EM.cn W (EM.st W n i)-EM.cnt (EM.dishes W (EM.st W n i).ms) t*(EM.cs W (EM.st W n i)).m)
  grind
theorem D4(h:EM.Ws n W){i:Nat}(hu:EM.Upto W n i)(p:Nat)(t:Int):0<=EM.et W n i p t:=(EM.et_bd h p t i hu).1
end
end L2
namespace L2
open PySem PySem.Spec PyProof.Rows TM
section
variable{n N:Nat}{W:List (List Int)}
theorem Af:(EB W n N).length=n:=by unfold EB;simp
theorem Dg{p:Nat}(hp:p<n):(EB W n N)[p]?=some (Fd W n N p):=by
 unfold EB;rw[cH,d9 hp];rfl
theorem yr{p:Nat}(hp:p<n):(EB W n N).getD p []=Fd W n N p:=by
 rw[cC,Dg hp];rfl
theorem wm(p:Nat):(Fd W n N p).length=n:=by unfold Fd;rw[cx,LM.rng_len]
theorem Bi{p t:Nat}(ht:t<n):(Fd W n N p).getD t 0=EM.et W n N p t:=by
 unfold Fd;rw[cC,cH,EM.rng_get ht];rfl
theorem yk{p t:Nat}(hp:p<n)(ht:t<n):HM.ent (EB W n N) p t=EM.et W n N p t:=by
 unfold HM.ent;rw[yr hp,Bi ht]
theorem Dy(h:EM.Ws n W)(hN:EM.Stops W n N):Jo n (EM.st W n N).D (EB W n N):=by
 have S:=(EM.st_ok h N hN.up).1;have f:=EM.D_le S h.n6;have d:=(EM.all_gone h hN).1;have z:=EM.sum_zero S.nn hN.last;refine⟨h.n1,h.n6,S.pos,by omega,⟨Af,λr c=>?_,λp t=>?_,λi b=>?_,λj e=>?_⟩⟩
 ·unfold EB at c;obtain⟨p,_,rfl⟩:=dv.mp c;exact wm p
 ·by_cases hp:p<n
  ·by_cases a:t<n
   ·rw[yk hp a];exact D4 h hN.up p t
   ·unfold HM.ent;rw[yr hp,cC,gi (by rw[wm];omega)];exact fE 0
  ·unfold HM.ent;rw[cC (l:=EB W n N),gi (by rw[Af];omega)];exact fE 0
 ·rw[HM.sm_congr (g:=λt=>EM.et W n N i t) λt a=>yk b a,CD h b N hN.up,d]
 ·rw[HM.sm_congr (g:=λp=>EM.et W n N p j) λp hp=>yk hp e,Cr h (by omega) (by omega) N hN.up,z _ (EM.at0_mem (by omega) (by rw[S.len];omega))];omega
end
theorem Br{n k j:Nat}{T:Int}{Z:List (List Int)}(tb:Jo n T Z)(hf:HM.Fin Z T k)(hj:j<k):LN.Pm n (HM.lotAt Z T j).2/\∀p,p<n->0<HM.ent Z p ((HM.lotAt Z T j).2.getD p 0).toNat:=by
 have I:=HM.it_ok tb.reg tb.t0 tb.lo k hf.2;have S:=I.lots j hj;have J:=HM.it_ok tb.reg tb.t0 tb.lo j λi a=>hf.2 i (by omega)
 refine⟨S.pm,λp hp=>?_⟩;have h1:=S.le p hp;have h2:=S.w1;have h3:0<=HM.sm j λi=>if((HM.lotAt Z T i).2.getD p 0).toNat=((HM.lotAt Z T j).2.getD p 0).toNat then(HM.lotAt Z T i).1 else 0:=by
  have:=HM.sm_le (n:=j) (f:=λ_=>0) (g:=λi=>if((HM.lotAt Z T i).2.getD p 0).toNat=((HM.lotAt Z T j).2.getD p 0).toNat then(HM.lotAt Z T i).1 else 0) λi a=>by
   have:=(J.lots i a).w1;show(0:Int)<=if _ then HM.wOf (HM.it Z T i).1 else 0
   split <;> omega
  rwa[HM.sm_zero]at this
 rw[J.ent p hp];show 0<HM.ent (HM.it Z T j).1 p ((HM.dealOf (HM.it Z T j).1).getD p 0).toNat+_;omega
def JI(K:cu):Sp:=λvs H Q _=>∃(a:cG) (gs:List V) (ps:List (Int×Int)),vs=[.ref a]/\(SqL K H a gs\/SqT K H a gs)/\dr (IsF K H) gs ps/\(∀i,Sz 4000 (Fk (ps.take i)))/\(∀p∈ps,Sz 4000 p)/\∀v H',Same H H'->IsF K H' v (Fk ps)->Q v H'
theorem DT{K:cu}{vs:List V}{H:Hp}{Q:VK}{E:XK}(h:IV K vs H Q E):JI K vs H Q E:=by
 obtain⟨a,c,d,rfl,e,f,b,g,q⟩:=h;exact⟨a,c,d,rfl,.inl e,f,λi=>CJ (by rw[cV];omega) λp hp=>b p (gu hp),λp hp=>(b p hp).up (by decide),q⟩
end L2
namespace L2
open PySem PySem.Spec PyProof.Rows
section
variable{X:Cx}
def Mm:V->Option Int->Option Int->Hp->VK->Prop:=λx lo hi H Q=>∃z,x = .str z/\z.length<=sizeLine/\Q (.str (j6 z lo hi)) H
def Fp:cA->Option (Int×Tok)
 | .int i t=>some (i,t)
 | _=>none
theorem zL:Mc X Mm:=by
 intro m s A H x v c d a b y Q I r u j g h;obtain⟨z,rfl,l,q⟩:=h;obtain⟨t,rfl⟩:=r;refine⟨"str",_,nS.lookup,mL s z t,?_⟩;have f:s.heap.IsSlice y (Fp c) (Fp d) none:=by
  obtain⟨o,h1,h2,h3⟩:=u;refine⟨o,h1,h2,?_⟩;rw[h3]
  cases j <;> cases g <;> rfl
 have k:(Fp c).map (·.1)=a:=by cases j <;> rfl
 have n:(Fp d).map (·.1)=b:=by cases g <;> rfl
 refine wpAny_getItem_str_slice f (by rfl) ?_;have w:(sliceMade z t (Fp c) (Fp d) none) = .val (.str z t)/\j6 z a b=z\/sliceMade z t (Fp c) (Fp d) none = .str (j6 z a b):=by
  unfold sliceMade j6 slicePicked;rw[k,n];simp only[Option.map_none,kX];split
  ·exact .inl ⟨rfl,rfl⟩
  ·exact .inr rfl
 rcases w with⟨e,p⟩|e
 ·rw[e];exact⟨.str z,H,I,⟨_,rfl⟩,by rw[p]at q;exact q⟩
 ·rw[e];exact⟨dg (Txt.slice_le z a b) l,.str (j6 z a b),H,I.tok _,⟨_,rfl⟩,q⟩
theorem w8:Fo X (compareOp .LtE) (λx y H Q=>∃i j,x = .str i/\y = .str j/\Q (.bl (!decide (j.cps.toList<i.cps.toList))) H):=by
 intro a s d H x y v u Q I c b h;obtain⟨i,j,rfl,rfl,q⟩:=h;obtain⟨t,rfl⟩:=c;obtain⟨e,rfl⟩:=b;exact P.le_str ⟨.bl _,H,I,rfl,q⟩
def KY:V->List V->Hp->VK->Prop:=λx vs H Q=>∃z y,x = .str z/\vs=[.str y]/\Q (.int (qH z y)) H
theorem C1:KT X "str.find" KY:=by
 intro a s d H x g v e Q I b c h;obtain⟨z,y,rfl,rfl,q⟩:=h;obtain⟨t,rfl⟩:=b;obtain⟨u,rfl,f,rfl⟩:=EU c;exact SC.find ⟨.int _,H,I.tok _,⟨_,rfl⟩,q⟩
theorem t8:∀{ys:List Str} {its:List cA},Vals (ys.map V.str) its->StrsAre its ys
 | [],_,.nil=> .nil
 | y::_,_,.cons ⟨t,e⟩ r=>e▸ .cons y t (t8 r)
theorem xO:∀{its:List cA} {ys:List Str},StrsAre its ys->Vals (ys.map V.str) its
 | _,_,.nil=> .nil
 | _,_,.cons _ _ r=> .cons ⟨_,rfl⟩ (xO r)
def Lu(K:cu):V->List V->Hp->VK->Prop:=λx vs H Q=>∃z p ys,x = .str z/\vs=[.ref p]/\SqL K H p (ys.map V.str)/\z.length<=16/\(ys.map fJ).sum+ys.length<=1048576/\Q (.str (fh z ys)) H
theorem x9:KT X "str.join" (Lu X.K):=by
 intro b s l H x r v m Q I c a h;obtain⟨z,p,o,rfl,rfl,hp,h1,h2,q⟩:=h;obtain⟨t,rfl⟩:=c;obtain⟨u,rfl,d⟩:=EU a
 cases(show u=cR p from d);obtain⟨g,e,f,j⟩:=I.list hp;exact join_listW f.isList (by simpa using t8 e) h1 h2 λn k=>⟨.str _,H,I.tok _,⟨_,rfl⟩,q⟩
def KP:V->List V->Hp->VK->Prop:=λx vs H Q=>∃z y,x = .str z/\vs=[.str y]/\y.length≠0/\z.length+2<=sizeLine/\∀p,H p=none->Q (.ref p) (upd H p (.lst ((Txt.split z y).map V.str)))
theorem xk:∀(l:List Str) (k:Nat),Vals (l.map V.str) (strsFrom k l)
 | [],_=> .nil
 | _::l,k=> .cons ⟨_,rfl⟩ (xk l (k+1))
theorem BJ:KT X "str.split" KP:=by
 intro j s n H x L v G Q I B m h;obtain⟨z,y,rfl,rfl,p,E,q⟩:=h;obtain⟨t,rfl⟩:=B;obtain⟨u,rfl,t',rfl⟩:=EU m;have d:(y.length==0)=false:=beq_eq_false_iff_ne.mpr p;have k:s.TypeIs (.str z t) "str":=mL s z t;have g:∀(e:Txt.split z y=[z]),EP X j n Q (.ref s.heap.objs.size) {s with heap:=s.heap.push {cls:= .type "list",data:= .seq #[.str z t]}}:=λe=>by
  have a:=q _ (I.hok.fresh (cI _));rw[e]at a;exact⟨.ref s.heap.objs.size,_,I.lnew (ys:=[.str z]) (its:=[.str z t]) (t':=s.toks) (.cons ⟨_,rfl⟩ .nil) (show 1<=sizeLine by decide),rfl,a⟩
 have M:=fact_split z y;by_cases b:(decide (z.length<y.length)||decide (i7 z<i7 y))=true
 ·have e:Txt.split z y=[z]:=by unfold Txt.split;rw[if_pos b]
  have r:Meets (Builtin.«str.split» {pos:=[.str z t,.str y t']}) (listOfItself z t):=by
   intro D w A R J o;obtain⟨K,C⟩:=split_sep_tree z y t t';rw[C,if_pos b];refine cr (iR ?_);refine cr (ja ?_);exact cv o
  exact gZ lj k kF (km _ _) r (g e)
 ·have f:(decide (z.length<y.length)||decide (i7 z<i7 y))=false:=by simpa using b
  by_cases c:(jm z y 0 z.length (z.length+1)).isEmpty=true
  ·have e:Txt.split z y=[z]:=by unfold Txt.split;rw[if_neg b,if_pos c]
   exact gZ lj k kF (km _ _) (meets_str_split_not_found z y t t' f d c) (g e)
  ·have e:Txt.split z y=kS z (jm z y 0 z.length (z.length+1)) y.length:=by unfold Txt.split;rw[if_neg b,if_neg c]
   have l:(kS z (jm z y 0 z.length (z.length+1)) y.length).length<=sizeLine:=by rw[<-e];omega
   refine gZ lj k kF (km _ _) (meets_str_split_sep z y t t' f d (by simpa using c) (by omega) l) ?_;have a:=q _ (I.hok.fresh (cI _));rw[e]at a;exact⟨.ref s.heap.objs.size,_,I.lnew (xk _ _) (by rw[cx];exact l),rfl,a⟩
end
def K6(a b:Str):Prop:=a.cps.toList<=b.cps.toList
theorem xI:∀(x y:List Nat),ltCps x y=true↔x<y
 | [],[]=>by unfold ltCps;simp
 | [],_::_=>by unfold ltCps;simp
 | _::_,[]=>by unfold ltCps;simp
 | a::r,b::t=>by
  unfold ltCps
  rw[gN,<-xI r t]
  simp
theorem B9{a b:Str}:ltCps b.cps.toList a.cps.toList=false↔K6 a b:=by
 unfold K6;rw[<-List.not_lt,<-Bool.not_eq_true];exact not_congr (xI _ _)
theorem wG{a b:Str}(h:a.cps.toList=b.cps.toList):a=b:=by
 cases a;cases b;exact congrArg Str.mk (Array.toList_inj.mp h)
theorem we:∀{l:List Str} {x:Str},risingS x l=true->(x::l).Pairwise K6
 | [],_,_=>List.pairwise_singleton _ _
 | y::l,x,h=>by
  rw[risingS.eq_2,dn]at h
  have b:=we h.2
  have h1:K6 x y:=B9.mp (by simpa using h.1)
  refine fw.mpr ⟨λz a=>?_,b⟩
  rcases cZ.mp a with rfl|a
  ·exact h1
  ·exact List.le_trans h1 ((fw.mp b).1 z a)
theorem wo{l:List Str}(h:sortedS l=true):l.Pairwise K6:=by
 cases l with
 | nil=>exact .nil
 | cons x l=>exact we h
theorem xF{a b:List Str}(ha:sortedS a=true)(hb:sortedS b=true)(h:a.Perm b):a=b:=
 kM (λ_ _ _ _ h1 h2=>wG (List.le_antisymm h1 h2)) (wo ha) (wo hb) h
section
variable{X:Cx}
theorem x4{prog:cT}{w:dc}{A:dw}{E:cA->cD->Prop}{s:cD}{l:cG}{vs:List cA}{ss:List Str}{Q:cA->cD->Prop}(ht:IsTup s.heap l vs.toArray)(hI:StrsAre vs ss)(h64:vs.length<64)
  (h:∀(out:Array cA) (ss':List Str),StrsAre out.toList ss'->ss'.Perm ss->sortedS ss'=true->Q (.ref (s.heap.objs.size+1)) {s with heap:=sortedAll s.heap vs out}):
  wpAny (model prog w) A (call (.builtin "sorted") [.ref l]) Q E s:=by
 have a:((s.heap.push (seqObj "list" #[] 0)).update s.heap.objs.size (d2 (· ++ vs.toArray))).objs.size=s.heap.objs.size+1:=by rw[nX,lw]
 have b:(((s.heap.push (seqObj "list" #[] 0)).update s.heap.objs.size (d2 (· ++ vs.toArray))).push (seqObj "list" vs.toArray 0)).get? (s.heap.objs.size+1)=some (seqObj "list" vs.toArray 0):=by
  rw[<-a];exact cN _ rfl
 refine gP oo nA nB (nC _) ?_
 unfold Builtin.«sorted»
 refine cr (m:=checkCount "sorted" 1 1 _) (cv ?_)
 have n:vs.length<=sizeLine:=dB (D9 (by omega))
 refine cr (vM ht n (cr (ja ?_)))
 change wpAny _ _ _ _ _ {s with heap:=((s.heap.push (seqObj "list" #[] 0)).update s.heap.objs.size (d2 (· ++ vs.toArray))).push (seqObj "list" vs.toArray 0)}
 rw[a]
 refine cr (dG (dR l5 ⟨_,b,rfl⟩ lI (list_sort_treeK strKind_oneLt b (StrsAre.keysOf hI) (λc k rest e=>keyKind_strs (by rw[<-e];exact hI)) h64 λo hp j=>⟨_,rfl,?_⟩) (l8 _)))
 obtain⟨ss',d,f,g⟩:=sorted_out_str hI hp j
 exact cv ⟨_,rfl,h _ ss' d f g⟩
theorem uT:EJ X (.builtin "sorted") (λxs H Q=>∃(p:cG) (ss:List Str),xs=[.ref p]/\(SqL X.K H p (ss.map V.str)\/SqT X.K H p (ss.map V.str))/\ss.length<64/\∀(l:cG) (ss':List Str),H l=none->ss'.Perm ss->sortedS ss'=true->Q (.ref l) (upd H l (.lst (ss'.map V.str)))):=by
 intro g s t H xs C Q I r h;obtain⟨p,ss,rfl,f,B,q⟩:=h;obtain⟨u,rfl,A⟩:=EU r
 cases(show u=cR p from A);have fin:∀(a:List cA),Vals (ss.map V.str) a->∀(c:Array cA) (ss':List Str),StrsAre c.toList ss'->ss'.Perm ss->sortedS ss'=true->EP X g t Q (.ref (s.heap.objs.size+1)) {s with heap:=sortedAll s.heap a c}:=λa d c ss' x m y=>by
  obtain⟨e,v⟩:=qg s.heap a c;refine⟨.ref (s.heap.objs.size+1),_,I.laid (t':=s.toks) (λb o z=>pN z) (ec _) (show ObjOk X.prog X.w _ _ _ (.lst (ss'.map V.str))from⟨?_,c.toList,e,xO x,by rw[v]⟩),rfl,q _ ss' (I.hok.fresh (ec _)) m y⟩;rw[cx,m.length_eq];exact dB (D9 (by omega))
 rcases f with f|f
 ·obtain⟨a,d,k,n⟩:=I.list f;have j:=d.length;rw[cx]at j;exact sorted_strs k.isList (t8 d) (by omega) (fin a d)
 ·obtain⟨a,d,k,n⟩:=I.tuple f;have j:=d.length;rw[cx]at j;exact x4 k (t8 d) (by omega) (fin a d)
end
def Mq(z:Str):It:=⟨λi _=>i<z.cps.size,λi H x H'=>H'=H/\∃c,z.cps[i]?=some c/\x = .str ⟨#[c]⟩,λi _=>z.cps.size<=i⟩
theorem BY{P:cT}{w:dc}{K:cu}{tg:Expr}(it:cG)(z:Str)(t:Tok):HW P w K tg (Mq z) [it] it (λi h=>h.IsStrIter it "str_ascii_iterator" z t i) where
 mem:=by simp
 obj:=λi h st b a=>by
  have e:b=it:=by simpa using a
  subst e
  obtain⟨o,e,c,d⟩:=st
  exact⟨o,e,λv z=>by rw[d]at z;cases z⟩
 keep:=λi h j st k=>by
  obtain⟨o,e,c,d⟩:=st
  exact⟨o,k it (by simp) o e,c,d⟩
 item:=by
  intro X x p q D i f s C H E I g st A
  subst x p q
  have l:i<z.cps.size:=A
  obtain⟨B,n,L,r,u,y⟩:=g it (by simp)
  refine wpAny_pyNext_ascii_item st (c:=z.cps[i]) (fi l) λj m F=>?_
  have G:Inv X f C H {s with heap:=j,toks:=s.toks+1}:=I.turned (λb o a e=>(F.2 b a).trans e) B n r u y
  obtain⟨o,e,c,d⟩:=id m
  exact⟨_,rfl,BL (s:={s with heap:=j,toks:=s.toks+1}) e c d (by decide) ⟨.str ⟨#[z.cps[i]]⟩,H,G,⟨_,rfl⟩,⟨rfl,_,fi l,rfl⟩,m,λb a=>(g b a).1⟩⟩
 done:=by
  intro X x p q D i f s C H E I g st A
  subst x p q
  have l:z.cps.size<=i:=A
  obtain⟨B,n,L,r,u,y⟩:=g it (by simp)
  exact wpAny_pyNext_ascii_end (I.ok.hd D) st (gC l) λj J=>⟨rfl,I.turned (t':=s.toks) (λb o a e=>J b o a e) B n r u y⟩
 self:=λ_ _ _ _ _ st h=>wpAny_pyIter_striter_ascii st h
theorem DO{X:Cx}{tg l:Expr}{tl:TE}(hl:PE X l tl):PI X tg l (λσ H R=>tl σ H λx H1=>∃z:Str,x = .str z/\(∀c∈z.cps.toList,c<128)/\R (Mq z) H1):=by
 intro d s σ H R I h;refine Ej (hl d s σ H _ I h) λv a ⟨x,H1,f,k,j⟩=>?_
 obtain⟨z,e,n,q⟩:=j;subst e;obtain⟨t,rfl⟩:=k;refine wpAny_pyIter_ascii (by rw[Array.all_eq_true'];exact λc m=>decide_eq_true (n c (by simpa using m))) ?_;refine⟨a.heap.objs.size,[a.heap.objs.size],_,_,H1,rfl,f.kept (t':=a.toks) λb o e=>cF _ e,BY _ z t,⟨_,cN _ rfl,rfl,rfl⟩,λb g=>?_,q⟩;have e:b=a.heap.objs.size:=by simpa using g
 subst e;exact f.fpOk (cI _) (f.hok.fresh (cI _))
theorem zM{z:Str}{caps:List (Option Nat)}{g:TG}{te:TE}{σ:St}{QQ:List V->Hp->Prop}{H:Hp}(Pv:Nat->List V->Hp->Prop)(h0:Pv 0 [] H)
  (hs:∀i c ys H,z.cps[i]?=some c->Pv i ys H->g (.str ⟨#[c]⟩) (E5 caps σ) H λσ2 H2=>te σ2 H2 λy H4=>ys.length<sizeLine/\Pv (i+1) (ys++[y]) H4)
  (hd:∀ys H,Pv z.cps.size ys H->QQ ys H):EC caps g FY te σ QQ (Mq z) H:=by
 refine⟨λi m ys H=>m=z.cps.size-i/\i<=z.cps.size/\Pv i ys H,⟨z.cps.size,by simp,du _,h0⟩,?_⟩
 rintro i m ys H ⟨rfl,j,p⟩
 by_cases a:i<z.cps.size
 ·refine .inr ⟨a,Pv (i+1),λh f d=>⟨z.cps.size-(i+1),by omega,rfl,a,d⟩,λx f y=>?_⟩
  obtain⟨e,c,b,rfl⟩:=y
  subst e
  simp only[tK]
  exact hs i c ys _ b p
 ·have e:i=z.cps.size:=by omega
  subst e
  exact .inl ⟨cI _,hd ys H p⟩
def E8(ws:List Str):Nat->Nat
 | 0=>0
 | i+1=>if ws.getD i ea∈ws.take i then E8 ws i else E8 ws i+1
theorem yh(ws:List Str):∀i,E8 ws i<=i
 | 0=>cI _
 | i+1=>by
  have:=yh ws i
  unfold E8
  split <;> omega
theorem wc{ws:List Str}(h:ws.Nodup):∀i,i<=ws.length->E8 ws i=i
 | 0,_=>rfl
 | i+1,hi=>by
  have b:=wc h i (by omega)
  unfold E8
  rw[if_neg,b]
  intro z
  obtain⟨j,a,e⟩:=eO.mp z
  rw[cV]at a
  rw[List.getElem_take,HM.getD_lt (show i<ws.length by omega)]at e
  have:=(nL (j:=i) (show j<ws.length by omega) h).mp (by rw[cz (show j<ws.length by omega),e];exact(cz _).symm)
  omega
theorem An{ws:List Str}:∀{i:Nat},i<=ws.length->¬(ws.take i).Nodup->E8 ws i<i
 | 0,_,h=>absurd (by simp) h
 | i+1,hi,h=>by
  have d:i<ws.length:=by omega
  have e:ws.take (i+1)=ws.take i++[ws.getD i ea]:=by rw[cY,cz d,HM.getD_lt d];rfl
  have h1:=yh ws i
  unfold E8
  split
  ·omega
  ·next c=>
   have:=An (ws:=ws) (i:=i) (by omega) λz=>h (by
    rw[e]
    refine gv.mpr ⟨z,by simp,λa g b f=>?_⟩
    rw[cK.mp f]
    exact λq=>c (q▸g))
   omega
theorem Ax{prog:cT}{w:dc}{A:dw}{R:Result->cD->Prop}{I:cG}{fp wr:List cG}{G:Array GenState->Array GenState->Prop}{n:Nat}{P:Nat->cA->Prop}{St:Nat->cD->Prop}
  (W:WalksS prog w A.in1 I fp wr G n P St)(S:cG)(hS:S∉fp)(ws:List Str)(hw:ws.length=n)(hv:∀i v,P i v->∃t,v=iw (ws.getD i ea) t)(hn:n+1<scanBound):
  ∀(k i:Nat) (s:cD),n-i=k->i<=n->St i s->lD (strKind prog w) s.heap S (λx=>decide (x∈ws.take i)) (E8 ws i)->
   (∀s',Moved (S::wr) G s s'->lD (strKind prog w) s'.heap S (λx=>decide (x∈ws.take n)) (E8 ws n)->R (.ok (.ret .none)) s')->
   codeAny (model prog w) A (.builtin "set.update.loop" ⟨[.ref S,.ref I],[]⟩) R s:=by
 have u:S∉wr:=λz=>hS (W.sub S z)
 intro k
 induction k with
 | zero=>
  intro i s hk N f b h
  have e:i=n:=by omega
  subst e
  refine eY h8 ?_
  rw[fY fZ _]
  unfold Builtin.«set.update.loop»
  refine cr (W.done s _ _ f λs' m=>?_)
  obtain⟨o,C,B,t,d,r⟩:=b
  exact cv (h s' ⟨λc o a=>m.heap c o λz=>a (cO _ z),m.gens,m.drawn,m.os,m.toks⟩ ⟨o,C,B,t,m.heap S o u d,r⟩)
 | succ k O=>
  intro i s hk N f b h
  refine eY h8 ?_
  rw[fY fZ _]
  unfold Builtin.«set.update.loop»
  refine cr (W.item i s _ _ (by omega) f λv s' M y m=>?_)
  have j:lD (strKind prog w) s'.heap S (λx=>decide (x∈ws.take i)) (E8 ws i):=by
   obtain⟨o,C,B,t,d,r⟩:=b
   exact⟨o,C,B,t,m.heap S o u d,r⟩
  obtain⟨t,rfl⟩:=hv i v M
  have q:i<ws.length:=by omega
  have et:ws.take (i+1)=ws.take i++[ws.getD i ea]:=by rw[cY,cz q,HM.getD_lt q];rfl
  dsimp only
  refine cr (dG ?_)
  unfold setAdd
  refine dG (cr (nO ?_))
  have a:=yh ws i
  refine wpAny_setAddHashed_of (knd:=strKind prog w) (k:=ws.getD i ea) (show(ws.getD i ea==ws.getD i ea)=true from beq_self_eq_true _) rfl j (by omega) λE D p=>?_
  have K:(λH=>decide (H∈ws.take i)||decide (H=ws.getD i ea))=λx=>decide (x∈ws.take (i+1)):=by
   funext x
   rw[et]
   simp[dJ,Bool.decide_or]
  have L:(if decide (ws.getD i ea∈ws.take i)=true then E8 ws i else E8 ws i+1)=E8 ws (i+1):=by
   conv=>rhs;unfold E8
   simp
  rw[K,L]at p
  refine cv ⟨jK fZ _,O (i+1) _ (by omega) (by omega) (W.frame (i+1) s' E (s'.toks+1) y (gG _ _) λc a o d=>by rw[D.2 c λz=>hS (z▸a)];exact d) p λJ g l=>h J ?_ l⟩
  refine⟨λc o a d=>g.heap c o a ?_,W.gtrans _ _ _ m.gens g.gens,g.drawn.trans m.drawn,g.os.trans m.os,dg m.toks (dg (gG _ _) g.toks)⟩
  show E.get? c=some o
  rw[D.2 c λz=>a (by rw[z];exact cM)]
  exact m.heap c o (λz=>a (cO _ z)) d
theorem vS{prog:cT}{w:dc}{A:dw}{E:cA->cD->Prop}{s:cD}{l:cG}{items:Array cA}{Q:cA->cD->Prop}(hh:A.handled=none)(hl:s.heap.IsList l items)(ws:List Str)(hw:StrsAre items.toList ws)(hn:items.size<=60)
  (h:∀(h':Heap) (tk:Nat),lD (pW prog w) h' s.heap.objs.size (λx=>decide (x∈ws.take ws.length)) (E8 ws ws.length)->(∀b o,s.heap.get? b=some o->h'.get? b=some o)->Q (.ref s.heap.objs.size) {s with heap:=h',toks:=tk}):
  wpAny (model prog w) A (call (.type "set") [.ref l]) Q E s:=by
 obtain⟨c,tl,G⟩:=fu.mro
 have j:=fu.made
 have C:=fu.sub
 have p:ws.length=items.size:=by
  have:∀{vs:List cA} {ss:List Str},StrsAre vs ss->ss.length=vs.length:=λh=>by
   induction h with
   | nil=>rfl
   | cons _ _ _ J=>simp[J]
  simpa using this hw
 have H:∀{vs:List cA} {ss:List Str},StrsAre vs ss->∀(i:Nat) (v:cA),vs[i]?=some v->∃t,v=iw (ss.getD i ea) t:=λh=>by
  induction h with
  | nil=>intro i v g;simp at g
  | cons y t _ J=>
   intro i v g
   cases i with
   | zero=>exact⟨t,by simpa using g.symm⟩
   | succ i=>
    obtain⟨u,e⟩:=J i v (by simpa using g)
    exact⟨u,by simpa using e⟩
 refine iJ (lK (cv ⟨ii _ (by decide +kernel),eY nH ?_⟩))
 rw[mT (lR "set" [.ref l] []) rfl]
 have h1:=fu.notType
 have h2:=fu.canCreate
 have L:=nZ (.ref l)
 unfold Builtin.«type.__call__»
 refine cP (by rw[h1];rfl) (cP (by rw[h2];rfl) (cr (fO L (cr (fO G (cP rfl (cr (fO j (cr (cv ?_))))))))))
 refine cr (dG (iJ (iX (Bf (E:=E) (.ref l) (Q₁:=λv Z=>v = .ref s.heap.objs.size/\Z=_) ⟨rfl,rfl⟩) λr D I=>?_)))
 cases r with
 | error e=>exact I
 | ok U=>
  cases U with
  | ret v=>
   obtain⟨rfl,rfl⟩:=(show v=_/\D=_ from I)
   have a:(s.heap.push {cls:=dL "set",data:=Data.set #[] 0 (fQ 0 0 (Eh w))}).get? s.heap.objs.size=some {cls:=dL "set",data:=Data.set #[] 0 (fQ 0 0 (Eh w))}:=cN _ rfl
   refine cr (eH (T:="set") ⟨_,a,rfl⟩ C (cP rfl (cr (dG ?_))))
   unfold callSpecial?
   refine cr (gg (T:="set") ⟨_,a,rfl⟩ fu.init.lookup ?_)
   refine dG (cr (fO (fu.init.bind _) (cr (iJ (l9 fu.init.plain n5 (n7 ⟨_,a,rfl⟩ ?_))))))
   unfold Builtin.«set.__init__»
   refine cr (cv ?_)
   dsimp only[n8,oy]
   unfold typeNameOfCut
   unfold shownTypeOf
   refine cr (cr ?_)
   refine cr (ij (T:="set") ⟨_,a,rfl⟩ (cP rfl (cv (cv (cr (cv (cr (cv ?_))))))))
   unfold setUsed
   refine cr (cr (dU a rfl (by cases Eh w <;> rfl) (cv (cP rfl ?_))))
   have f:=hl.push {cls:=dL "set",data:=Data.set #[] 0 (fQ 0 0 (Eh w))}
   have B:kN {s with heap:=s.heap.push {cls:=dL "set",data:=Data.set #[] 0 (fQ 0 0 (Eh w))}} (.ref l) "list":=by
    obtain⟨o,h1,h2,_⟩:=f
    exact⟨o,h1,h2⟩
   unfold jV kg orM
   refine cr (cr (cr (eH B oW (eH B ma ?_))))
   refine cP rfl (cr (ij B (cP rfl (cr (iC f ?_)))))
   refine cr (kd ?_)
   have q:s.heap.get? s.heap.objs.size=none:=by
    cases e:s.heap.get? s.heap.objs.size with
    | none=>rfl
    | some o=>exact absurd (cQ e) (dt _)
   have N:l≠s.heap.objs.size:=λz=>by
    obtain⟨o,h1,_⟩:=hl
    rw[z,q]at h1;cases h1
   have n:(s.heap.push {cls:=dL "set",data:=Data.set #[] 0 (fQ 0 0 (Eh w))}).objs.size=s.heap.objs.size+1:=lw ..
   have K:l≠s.heap.objs.size+1:=λz=>by
    obtain⟨o,h1,_⟩:=hl
    rw[z]at h1
    exact absurd (gW (cQ h1)) (dt _)
   dsimp only
   rw[n]
   refine Ax (ri (oP (A:=A.in1.in1.in1) hh (s.heap.objs.size+1) l K items)) s.heap.objs.size (λz=>?_) ws p (λi v hi=>?_) (by show items.size+1<4096;omega) items.size 0 _ rfl (du _) ?_ ?_ (λR m M=>?_)
   ·rcases cZ.mp z with z|z
    ·exact absurd z (df (dH _))
    ·exact N (cK.mp z).symm
   ·exact H hw i v (by simpa using hi)
   ·exact⟨⟨_,(by rw[<-n];exact cN _ rfl),rfl,rfl⟩,(f.push _)⟩
   ·refine⟨_,#[],0,_,cF _ a,⟨rfl,rfl,rfl⟩,rfl,?_,λk=>?_,by decide,by cases Eh w <;> rfl,rfl⟩
    ·exact λe P=>(nomatch (show e∈([]:List (Int×cA))from P))
    ·simp
   ·refine cv (cv (cv (cP rfl (cv ?_))))
    obtain⟨h',g',X,V,S⟩:=R
    have O:g'=s.gens:=m.gens
    have W:X=s.drawn:=m.drawn
    have Y:S=s.os:=m.os
    subst O W Y
    rw[<-p]at M
    refine h h' V M λb o d=>m.heap b o (λz=>?_) (cF _ (cF _ d))
    rcases cZ.mp z with z|z
    ·rw[z,q]at d;cases d
    ·rw[cK.mp z]at d
     exact absurd (gW (cQ d)) (dt _)
  | _=>exact I.elim
theorem Ck{prog:cT}{w:dc}{A:dw}{E:cA->cD->Prop}{s:cD}{a:cG}{S:Str->Bool}{n:Nat}{Q:cA->cD->Prop}(hS:lD (pW prog w) s.heap a S n)(h:Q (.int n (s.toks+1)) {s with toks:=s.toks+1+1}):
  wpAny (model prog w) A (call (.builtin "len") [.ref a]) Q E s:=by
 obtain⟨o,l,k,t,d,f,g,_,_,j,b,c⟩:=hS
 have p:n<4096:=by rw[<-c];exact j
 have e:s.TypeIs (.ref a) "set":=⟨o,d,f.1⟩
 refine gP kind_len plain_len entry_len (args_len1 _) ?_
 unfold Builtin.«len»
 refine cr (m:=oneArg "len" _) (cv ?_)
 refine cr (m:=callSpecial? (.ref a) (fM "__len__")) (ef (name:=fM "__len__") e mh (dR mh e wX ?_ (PySem.F.args_set_len_1 _)))
 unfold Builtin.«frozenset.__len__» kO setEntries
 refine cr (cv ?_)
 refine cr (cr (cr (dU d g b (cv (cv ?_)))))
 refine cr (wpAny_mkInt (cv ⟨_,rfl,?_⟩))
 refine cr (dG (cv ?_))
 refine cr (kD ?_)
 rw[c]
 show wpAny _ _ (if((n:Nat):Int)<0 then _ else _) _ _ _
 rw[if_neg (by omega)]
 show wpAny _ _ (if((n:Nat):Int)>=2^63 then _ else _) _ _ _
 rw[if_neg (by omega)]
 exact cr (wpAny_mkInt (cv ⟨_,rfl,h⟩))
def JC(K:cu)(te:TE):TE:=λσ H Q=>te σ H λx H1=>∃(l:cG) (ws:List Str),x = .ref l/\SqL K H1 l (ws.map V.str)/\ws.length<=60/\Q (.int (E8 ws ws.length:Nat)) H1
theorem zn{X:Cx}{e:Expr}{te:TE}{p p2 pos pos2:Pos}(hc:X.calm=true)(h1:Gl X "len")(m1:X.mg "len"=none)(h2:Gl X "set")(m2:X.mg "set"=none)(ha:PE X e te)
  (he:dh [e] X.env=(false,eval e X.env)::dh [] X.env:=by rfl):PE X (.Call (.Name "len" p) [.Call (.Name "set" p2) [e] [] pos2] [] pos) (JC X.K te):=by
 intro b s j H Q I h
 refine fI (tI I h1 m1 dD ?_)
 refine g9 ?_ rfl rfl
 show wpAny _ _ (spliced ((false,eval (.Call (.Name "set" p2) [e] [] pos2) X.env)::[])) _ _ s
 refine fH ?_
 refine fI (tI I h2 m2 Boot.set ?_)
 refine d7 ?_ he rfl
 rw[he]
 show wpAny _ _ (spliced ((false,eval e X.env)::[])) _ _ s
 refine fH (Ej (ha b s j H _ I h) λu t ⟨x,n,d,o,m⟩=>?_)
 obtain⟨l,c,rfl,k,y,q⟩:=m
 cases(show u=cR l from o)
 obtain⟨w,g,v,z⟩:=d.list k
 have f:=g.length
 rw[cx]at f
 refine cv (vS (d.ok.hd hc) v.isList c (by simpa using t8 g) (by simp;omega) λr tk a hk=>cv (Ck (s:={t with heap:=r,toks:=tk}) a ?_))
 exact⟨.int (E8 c c.length:Nat),n,d.kept hk,⟨_,rfl⟩,q⟩
section
variable{X:Cx}
theorem StrsAre.len:∀{vs:List cA} {ss:List Str},StrsAre vs ss->vs.length=ss.length
 | _,_,.nil=>rfl
 | _,_,.cons _ _ r=>by rw[dQ,dQ,StrsAre.len r]
theorem Bt:∀{vs:List cA} {ss:List Str} (hi:StrsAre vs ss) {i:Nat} (h:i<vs.length),∃t,vs[i]=iw (ss[i]'(by rw[<-StrsAre.len hi];exact h)) t
 | _,_,.cons n t r,0,_=>⟨t,rfl⟩
 | _,_,.cons n t r,i+1,h=>Bt r (i:=i) (by simpa using h)
theorem vT{prog:cT}{w:dc}{A:dw}{E:cA->cD->Prop}{s:cD}{a:cG}{vs:List cA}{ns:List Str}{k:Str}{t:Tok}{Q:cA->cD->Prop}(ht:IsTup s.heap a vs.toArray)(hi:StrsAre vs ns)
  (hk:k∈ns)(h:Q (.int (ns.idxOf k:Nat) s.toks) {s with toks:=s.toks+1}):wpAny (model prog w) A (call (.builtin "tuple.index") [.ref a,.str k t]) Q E s:=by
 have q:=StrsAre.len hi
 have u:ns.idxOf k<ns.length:=g8.mpr hk
 refine gZ jd ht.typeIs kr (kl _ _) (S:=λA R s=>IsTup s.heap a vs.toArray/\R (.ok (.ret (.int (ns.idxOf k:Nat) s.toks))) {s with toks:=s.toks+1}) ?_ ⟨ht,h⟩
 intro prog w A R s ⟨ht,h⟩
 show wpAny _ _ _ _ _ _
 unfold Builtin.«tuple.index»
 simp only[iV]
 wp_walk using pV ht
 have p:([:min vs.toArray.size vs.toArray.size]:oi).size=vs.length:=by simp[lW]
 rw[p]
 refine ld (M:=model prog w) (A:=A.in1) _ (λl b j=>b=((none:Option PySem.Fin),())/\j=s/\∃i,l=kC i (vs.length-i)/\i<=ns.idxOf k) _ (λx rest b j g=>?_) (λb j g=>?_) _ _ ⟨rfl,rfl,0,rfl,du _⟩
 ·obtain⟨rfl,rfl,i,e,d⟩:=g
  have f:i<vs.length:=by omega
  rw[show vs.length-i=(vs.length-(i+1))+1 by omega,la]at e
  injection e with n hrest
  subst n
  obtain⟨o,r⟩:∃o,vs[x]=iw (ns[x]'(by omega)) o:=Bt hi f
  have m:vs.toArray[x]?=some (iw (ns[x]'(by omega)) o):=by simp[f,r]
  rw[m]
  refine cr (nQ ?_)
  by_cases c:ns[x]'(by omega)=k
  ·have n:ns.idxOf k=x:=by
    have h1:ns.idxOf k<=x:=by
     refine kZ λz=>?_
     exact absurd c (by simpa using lC z)
    omega
   rw[decide_eq_true c,if_pos rfl]
   wp_walk
   rw[n]at h
   exact h
  ·rw[decide_eq_false c,if_neg (by decide)]
   refine cv ⟨rfl,rfl,x+1,hrest,?_⟩
   refine mY d λz=>c ?_
   have:=jh u
   simp only[<-z]at this
   exact this
 ·obtain⟨_,_,i,e,d⟩:=g
  have:=congrArg ji e
  simp at this
  omega
def Lx(K:cu)(to te:TE):TE:=λσ H Q=>to σ H λx H1=>∃(l:cG) (o:Obj) (xs:List V),x = .ref l/\H1 l=some (.frz o (.tup xs))/\o.dict=none/\te σ H1 λy H2=>∃(ns:List Str) (k:Str),y = .str k/\SqT K H2 l (ns.map V.str)/\k∈ns/\Q (.int (ns.idxOf k:Nat)) H2
theorem AZ{K:cu}{o e:Expr}{apos cpos:Pos}{to te:TE}(hK:X.K=K)(ho:PE X o to)(he:PE X e te)(hbase:attributeBase o "index" X.env (eval o X.env)=eval o X.env:=by rfl)
  (hfew:((backTo cpos (dh [e] X.env)).all (λx=>!x.1)&&(backToKw cpos (keywordEach [] X.env)).all (λx=>x.1.isSome)&&decide (([e]:List Expr).length+([]:List Keyword).length+(if([]:List Keyword).isEmpty then 0 else 1)<30))=true:=by rfl)
  (hline:(apos.endLine==cpos.line)=true:=by rfl)(htrees:backTo cpos (dh [e] X.env)=[(false,eval e X.env)]:=by rfl):PE X (.Call (.Attribute o "index" apos) [e] [] cpos) (Lx K to te):=by
 subst hK
 intro a s c H Q I h
 refine nM hbase hfew hline PySem.F.plainAttrs_tuple jd PySem.F.type_tuple_index (Ej (ho a s c H _ I h) λu n ⟨x,j,m,C,l,f,D,p,E,J,A⟩=>?_)
 subst p
 obtain rfl:u=cR l:=C
 obtain⟨g1,P,O,r,N⟩:=(show ObjOk X.prog X.w j n.heap l (.frz f (.tup D))from m.hok l _ E)
 refine⟨N.typeIs,λb z=>?_,?_⟩
 ·cases z
  exact⟨f,g1,J⟩
 rw[htrees]
 refine gB rfl (iK (fH (Ej (he a n c j _ m A) λT R ⟨y,G,d,t,S,k,M,v,hk,B⟩=>kA ?_)))
 subst M
 obtain⟨tk,rfl⟩:=t
 obtain⟨q,L,g,_⟩:=d.tuple v
 exact vT g (t8 L) hk ⟨.int _,G,d.tok _,⟨_,rfl⟩,B⟩
end
def wK(R:List (Str×V)):List (F8×V):=R.map λp=>(Sum.inr p.1,p.2)
def El(R:List (Str×V))(x:Str):Option V:=(R.find? λp=>decide (p.1=x)).map (·.2)
def G8(R:List (Str×V))(x:Str)(v:V):List (Str×V):=if R.any (λp=>decide (p.1=x))=true then R.map (λp=>if p.1=x then(p.1,v)else p)else R++[(x,v)]
theorem vK:∀{R:List (Str×V)} {vs:List (F8×cA)} (_:KV (wK R) vs) (x:Str),RelO (El R x) (valueAt vs (Sum.inr x))
 | [],[],_,_=>trivial
 | [],_::_,h,_=>nomatch h
 | _::_,[],h,_=>nomatch h
 | (a,v)::R,(k,u)::vs,h,x=>by
  obtain⟨h1,h2⟩:((Sum.inr a:F8)=k/\RelV v u)/\KV (wK R) vs:=by cases h with|cons p q=>exact⟨p,q⟩
  obtain⟨rfl,f⟩:=h1
  have b:=vK h2 x
  unfold El valueAt at b ⊢
  rw[j2,j2]
  by_cases c:a=x
  ·subst c
   simp
   exact f
  ·have d:decide (a=x)=false:=decide_eq_false c
   have e:decide ((Sum.inr a:F8)=Sum.inr x)=false:=decide_eq_false λz=>c (Sum.inr.inj z)
   simp only[d,e]
   exact b
theorem Bu:∀{R:List (Str×V)} {vs:List (F8×cA)} (_:KV (wK R) vs) (x:Str),(vs.any λkv=>decide (kv.1=Sum.inr x))=R.any λp=>decide (p.1=x)
 | [],[],_,_=>rfl
 | [],_::_,h,_=>nomatch h
 | _::_,[],h,_=>nomatch h
 | (a,v)::R,(k,u)::vs,h,x=>by
  obtain⟨h1,h2⟩:((Sum.inr a:F8)=k/\RelV v u)/\KV (wK R) vs:=by cases h with|cons p q=>exact⟨p,q⟩
  obtain⟨rfl,_⟩:=h1
  rw[gY,gY,Bu h2 x]
  congr 1
  exact decide_eq_decide.mpr ⟨λz=>Sum.inr.inj z,λz=>congrArg Sum.inr z⟩
theorem Ac{v:V}{u:cA}(hv:RelV v u)(x:Str):∀{R:List (Str×V)} {vs:List (F8×cA)} (_:KV (wK R) vs),KV (wK (R.map λp=>if p.1=x then(p.1,v)else p)) (vs.map λkv=>if kv.1=Sum.inr x then(kv.1,u)else kv)
 | [],[],_=> .nil
 | [],_::_,h=>nomatch h
 | _::_,[],h=>nomatch h
 | (a,v0)::R,(k,u0)::vs,h=>by
  obtain⟨h1,h2⟩:((Sum.inr a:F8)=k/\RelV v0 u0)/\KV (wK R) vs:=by cases h with|cons p q=>exact⟨p,q⟩
  obtain⟨rfl,h0⟩:=h1
  refine .cons ?_ (Ac hv x h2)
  by_cases c:a=x
  ·subst c
   simp
   exact hv
  ·have b:¬(Sum.inr a:F8)=Sum.inr x:=λz=>c (Sum.inr.inj z)
   simp only[if_neg c,if_neg b,true_and]
   exact h0
theorem Df{R:List (Str×V)}{vs:List (F8×cA)}{x:Str}{v:V}{u:cA}(h:KV (wK R) vs)(hv:RelV v u):KV (wK (G8 R x v)) (stored vs (Sum.inr x) u):=by
 unfold G8 stored;rw[Bu h x];split
 ·exact Ac hv x h
 ·unfold wK;rw[cS];exact Paired.app h (.cons ⟨rfl,hv⟩ .nil)
theorem yx(R:List (Str×V))(x:Str)(v:V):(G8 R x v).length<=R.length+1:=by
 unfold G8;split
 ·rw[cx];omega
 ·rw[dq];exact cI _
theorem xp(R:List (Str×V))(x y:Str)(v:V):El (G8 R x v) y=if y=x then some v else El R y:=by
 unfold G8;split
 ·next c=>
  induction R with
  | nil=>simp at c
  | cons p R f=>
   unfold El at f ⊢;rw[dN,j2,j2];by_cases e:p.1=x
   ·rw[if_pos e];by_cases d:y=x
    ·subst d;simp[e]
    ·have g:decide (p.1=y)=false:=decide_eq_false λz=>d (z.symm.trans e)
     simp only[g,if_neg d];by_cases a:R.any (λp=>decide (p.1=x))=true
     ·rw[f a,if_neg d]
     ·have:(R.map λp=>if p.1=x then(p.1,v)else p)=R:=by
       refine(fF λq b=>?_).trans (List.map_id R);rw[if_neg (λz=>a (i3.mpr ⟨q,b,decide_eq_true z⟩))];rfl
      rw[this]
   ·rw[if_neg e];have a:R.any (λp=>decide (p.1=x))=true:=by
     rw[gY,decide_eq_false e,pS]at c;exact c
    by_cases d:p.1=y
    ·have:¬y=x:=λz=>e (d.trans z)
     simp only[decide_eq_true d,if_neg this]
    ·simp only[decide_eq_false d];exact f a
 ·next c=>
  unfold El;rw[List.find?_append];by_cases d:y=x
  ·subst d;have:R.find? (λp=>decide (p.1=y))=none:=List.find?_eq_none.mpr λq b z=>c (i3.mpr ⟨q,b,z⟩)
   rw[this];simp
  ·rw[if_neg d]
   cases h:R.find? (λp=>decide (p.1=y))with
   | some q=>simp
   | none=>simp[Ne.symm d]
section
variable{X:Cx}
def Ly:TE:=λ_ H Q=>∀p,H p=none->Q (.ref p) (upd H p (.dK (wK [])))
theorem C2{pos:Pos}:PE X (.Dict [] [] pos) Ly:=λb s c H Q I h=>
 oa ⟨.ref s.heap.objs.size,_,I.laid (a:=s.heap.objs.size) (o:= .dK []) (t':=s.toks) (λ_ _ q=>cF _ q) (cI _)
  (show ObjOk X.prog X.w _ _ _ (.dK [])from⟨du _,beq_eq_false_iff_ne.mpr (Ne.symm (df I.bigS)),[],.nil,rk s.heap⟩),rfl,h _ (I.hok.fresh (cI _))⟩
theorem yj(P:cT)(w:dc)(x:Str)(t:Tok):(Gz P w).is (Sum.inr x) (.str x t)=true:=show(x==x)=true from beq_self_eq_true _
def J9:R2:=λx y H Q=>∃(d:cG) (R:List (Str×V)) (z:Str),x = .str z/\y = .ref d/\H d=some (.dK (wK R))/\Q (.bl (!(El R z).isSome)) H
theorem AL{a:Option V}{b:Option cA}(h:RelO a b):b.isSome=a.isSome:=by
 cases a <;> cases b <;> first|rfl|cases h
theorem Ag:Fo X (compareOp .NotIn) J9:=by
 intro e s k H x y v u Q I g f h;obtain⟨d,R,z,rfl,rfl,j,q⟩:=h;obtain⟨t,rfl⟩:=g
 cases f;obtain⟨_,a,vs,b,c⟩:=(show ObjOk X.prog X.w H s.heap d (.dK (wK R))from I.hok d _ j);refine wpAny_notIn_of (yj X.prog X.w z t) a c.mapOf ?_;rw[AL (vK b z)];exact⟨.bl _,H,I.tok _,rfl,q⟩
def L6:R2:=λx y H Q=>∃(d:cG) (R:List (Str×V)) (z:Str) (v:V),x = .ref d/\y = .str z/\H d=some (.dK (wK R))/\El R z=some v/\Q v H
theorem D7:IxR X L6:=by
 intro e f k s B H x y v u Q I o m h p;obtain⟨d,R,z,r,rfl,rfl,A,n,q⟩:=h
 cases o;obtain⟨t,rfl⟩:=m;obtain⟨_,g,vs,c,a⟩:=(show ObjOk X.prog X.w H s.heap d (.dK (wK R))from I.hok d _ A);obtain⟨l,j,b⟩:=RelO.some_of (v:=r) (by rw[<-n];exact vK c z);refine js (x:=l) a.typeIs PySem.F.slot_dict_getitem.lookup ?_ p;exact wpAny_getItem_of (yj X.prog X.w z t) a.mapOf j ⟨rfl,r,H,I.tok _,b,q⟩
def K5:V->V->V->Hp->(Hp->Prop)->Prop:=λo i v H Q=>∃(d:cG) (R:List (Str×V)) (x:Str),o = .ref d/\i = .str x/\H d=some (.dK (wK R))/\R.length<1000/\Q (upd H d (.dK (wK (G8 R x v))))
theorem DX:J0 X K5:=by
 intro n s G H o i v K L u Q I y B C h;obtain⟨d,R,x,rfl,rfl,j,J,q⟩:=h
 cases y;obtain⟨t,rfl⟩:=B;obtain⟨F,g,vs,f,m⟩:=(show ObjOk X.prog X.w H s.heap d (.dK (wK R))from I.hok d _ j);have E:=Paired.len f;have D:(wK R).length=R.length:=by unfold wK;rw[cx]
 refine wpAny_setItem_pairs (hsz:=by omega) (yj X.prog X.w x t) m λr c A=>?_
 have l:∃a,r.get? d=some a:=let⟨a,_,_,p,_⟩:=c;⟨a,p⟩;refine⟨_,I.write (x:=d) (e:=d) (by rw[j];trivial) (.inl rfl) (λb a k z=>(A.2 b k).trans z) l (show ObjOk X.prog X.w _ _ _ (.dK (wK (G8 R x v)))from⟨?_,g,_,Df f C,c⟩),q⟩;unfold wK;rw[cx];have:=yx R x v;exact dB (D9 (by omega))
end
structure Mn(P:cT)(w:dc)(K:cu)(mg:Str->Option cA)(base:Heap)(CX:Ht)(k:Nat)(C:cG)(m:Str)(ps:List Str)(sp:Sp):Prop where
 ex:∃f fd,FnOk P w K mg base CX k f fd ps sp/\Jq K C m f/\Binds K fd ps []
def MDef(K:cu)(C:cG)(m q:Str)(st:Stmt):Prop:=∃f fd,Fun K m q st f fd/\Jq K C m f
section
variable{X:Cx}{CX:Ht}{k j:Nat}{C:cG}{m:Str}{ps:List Str}{sp:Sp}{E:XK}{pos apos p:Pos}{o e:Expr}{es:List Expr}{ta:TE}{t:TA}
theorem vi{pl:Sem Bool}(he:PE X o ta)(c:Cls X.K C)(D:Mn X.prog X.w X.K X.mg X.base CX k C m ps sp)(hr:Room j X.A)(hk:k<=j)(hx:ED CX X E)(ha:PA X (e::es) t)
  (hst:dh (e::es) X.env=(false,eval e X.env)::dh es X.env:=by rfl)(hpl:(backTo pos (dh es X.env)).any (·.1)=false:=by rfl)
  (ht:eval (.Call (.Attribute o m apos) (e::es) [] pos) X.env=(do
   let ov<-eval o X.env
   standAt apos.atName
   let(f,first)<-holding [ov] (getMethod ov m pl)
   callWith pos f first (backTo pos (dh (e::es) X.env)) (backToKw pos (keywordEach [] X.env))):=by rfl):
  PE X (.Call (.Attribute o m apos) (e::es) [] pos) (Ih C m sp [] E ta t):=by
 obtain⟨f,d,F,a,b⟩:=D.ex
 exact Dj (pl:=pl) he c a F (hr.mono hk) b .nil hx ha hst hpl ht
theorem Dl{pl:Sem Bool}(he:PE X o ta)(c:Cls X.K C)(D:Mn X.prog X.w X.K X.mg X.base CX k C m ps sp)(hr:Room j X.A)(hk:k<=j)(hx:ED CX X E)
  (ht:eval (.Call (.Attribute o m apos) [] [] pos) X.env=(do
   let ov<-eval o X.env
   standAt apos.atName
   let(f,first)<-holding [ov] (getMethod ov m pl)
   callWith pos f first (backTo pos (dh [] X.env)) (backToKw pos (keywordEach [] X.env))):=by rfl):
  PE X (.Call (.Attribute o m apos) [] [] pos) (Ih C m sp [] E ta KM):=by
 obtain⟨f,d,F,a,b⟩:=D.ex
 exact By (pl:=pl) he c a F (hr.mono hk) b .nil hx ht
theorem DI{pl:Sem Bool}(he:PE X.nox o ta)(c:Cls X.K C)(D:Mn X.prog X.w X.K X.mg X.base (FD X.prog X.w) k C m ps sp)(hr:Room j X.A)(hk:k<=j)(ha:PA X.nox (e::es) t)
  (hst:dh (e::es) X.env=(false,eval e X.env)::dh es X.env:=by rfl)(hpl:(backTo pos (dh es X.env)).any (·.1)=false:=by rfl)
  (ht:eval (.Call (.Attribute o m apos) (e::es) [] pos) X.env=(do
   let ov<-eval o X.env
   standAt apos.atName
   let(f,first)<-holding [ov] (getMethod ov m pl)
   callWith pos f first (backTo pos (dh (e::es) X.env)) (backToKw pos (keywordEach [] X.env))):=by rfl):
  MI X (.Call (.Attribute o m apos) (e::es) [] pos) (λE=>Ih C m sp [] E ta t):=by
 intro d s B H Q E xe I Z h
 obtain⟨f,fd,F,N,P⟩:=D.ex
 refine iz (pl:=pl) (gj (he d s B H _ (I.wish _) h) (λu s1 h1=>?_) λ_ _ z=>fj z) ht
 obtain⟨x,U,M,Y,a,dx,fs,O,V,l,q⟩:=h1
 have G:=M.unwish
 subst O
 obtain rfl:u=cR a:=Y
 refine ua G V c N l ?_
 refine jf (first:=[.ref a]) (h₀:=X.base) I.ok.mod.kin N.kp (gj (ha pos d s1 B U _ M q) (λn v h2=>?_) λ_ _ z=>fj z) hst hpl
 obtain⟨vs,y,b,r,J⟩:=h2
 have b:=b.unwish
 refine⟨b.kIn,?_⟩
 have L:sp (.ref a::vs) y Q E:=by rw[fV]at J;exact J
 have T:(cR a::n).length=ps.length:=by
  have:=F.len _ _ _ _ L
  rw[dQ]at this ⊢
  rw[<-r.length]
  exact this
 have p:=P v (.ref a::n) b.kIn (by rw[fV];exact T)
 rw[fV]at p
 refine iJ (iX (F.run X.A X.stack v y ⟨.ref a::n,[]⟩ (.ref a::n) (.ref a::vs) Q E (hr.mono hk) b.env0 p (.cons rfl r) L) λr R g=>?_)
 cases r with
 | error e=>exact Z y v e R b g
 | ok S=>
  cases S with
  | ret u=>exact b.after g
  | next=>exact fj g
  | brk=>exact fj g
  | cont=>exact fj g
end
section
variable{P:cT}{w:dc}{K:cu}{mg:Str->Option cA}{base:Heap}
theorem MDef.ok{C:cG}{x q:Str}{st:Stmt}{N ps:List Str}{k:Nat}{sp:Sp}(F:MDef K C x q st)(S:Eb N ps (D8 st))(len:∀vs H Q E,sp vs H Q E->vs.length=ps.length)
  (hb:∀(kV doc pm:cA) (an:Option cG) (cdv ct:cA) (us:List cA),us.length=ps.length->bindArgs (f9 x q (Ek st) (Eg st) (D8 st) .none kV doc pm an cdv ct) ⟨us,[]⟩=pure (ps.zip us))
  (hbody:∀(f:cG) (cdv:cA) (A:dw) (outer:List Env) (s:cD) (H:Hp) (vs:List V) (Q:VK) (E:XK),Room k (A.deeper (envOfC q (D8 st) s.heap.objs.size f cdv))->sp vs H Q E->
   ∃t,PSs (Hs Ei P w K mg base N q (D8 st) f cdv A outer s H E).nox (Eg st) t/\t {nx:=λ_ H'=>Q .non H',rt:=Q} (start N vs) H):Mn P w K mg base Ei (k+1) C x ps sp:=by
 obtain⟨f,a,F,m⟩:=F
 exact⟨f,a,F.ok S len (hbody f),m,F.binds hb⟩
theorem MDef.okE{C:cG}{x q:Str}{st:Stmt}{N ps:List Str}{k:Nat}{sp:Sp}(F:MDef K C x q st)(S:Eb N ps (D8 st))(len:∀vs H Q E,sp vs H Q E->vs.length=ps.length)
  (hb:∀(kV doc pm:cA) (an:Option cG) (cdv ct:cA) (us:List cA),us.length=ps.length->bindArgs (f9 x q (Ek st) (Eg st) (D8 st) .none kV doc pm an cdv ct) ⟨us,[]⟩=pure (ps.zip us))
  (hbody:∀(f:cG) (cdv:cA) (A:dw) (outer:List Env) (s:cD) (H:Hp) (vs:List V) (Q:VK) (E:XK),Room k (A.deeper (envOfC q (D8 st) s.heap.objs.size f cdv))->sp vs H Q E->
   ∃t,PSs (HV P w K mg base N q (D8 st) f cdv A outer s H E) (Eg st) t/\t {nx:=λ_ H'=>Q .non H',rt:=Q} (start N vs) H):Mn P w K mg base (FD P w) (k+1) C x ps sp:=by
 obtain⟨f,h,F,m⟩:=F
 have a:=F.binds hb
 obtain⟨j,g,kV,doc,pm,an,cdv,ct,e,rfl,lk,b⟩:=F.ex
 exact⟨f,_,BR lk b S len λA outer s H vs Q E d c=>hbody f cdv A outer s H vs Q E d c,m,a⟩
end
section
variable{X:Cx}{K:cu}
theorem vD{e:Expr}{f:Str}{pos:Pos}{ta:TE}(h:X.K=K)(he:PE X e ta)(hb:attributeBase e f X.env (eval e X.env)=eval e X.env):PE X (.Attribute e f pos) (Lc K ta f):=by subst h;exact uo he hb
end
structure Bn(P:cT)(w:dc)(K:cu)(mg:Str->Option cA)(base:Heap)(CX:Ht)(k:Nat)(C:cG)(x:Str)(ps:List Str)(sp:Sp):Prop where
 ex:∃f fd,FnOk P w K mg base CX k f fd ps sp/\Mk K C f/\Binds K fd ps []/\mg x=some (.ref C)
def BDef(K:cu)(mg:Str->Option cA)(C:cG)(x q:Str)(st:Stmt):Prop:=∃f fd,Fun K "__init__" q st f fd/\Mk K C f/\mg x=some (.ref C)
section
variable{X:Cx}{CX:Ht}{k j:Nat}{C:cG}{x:Str}{ps:List Str}{sp:Sp}{E:XK}{pos p:Pos}{e:Expr}{es:List Expr}{t:TA}
theorem DW(D:Bn X.prog X.w X.K X.mg X.base CX k C x ps sp)(hr:Room j X.A)(hk:k+1<=j)(hg:Gl X x)(hx:ED CX X E)(ha:PA X (e::es) t)
  (hdb:(x==("__debug__":Str))=false:=by decide)(he:dh (e::es) X.env=(false,eval e X.env)::dh es X.env:=by rfl)(hpl:(backTo pos (dh es X.env)).any (·.1)=false:=by rfl):
  PE X (.Call (.Name x p) (e::es) [] pos) (Kb C sp [] E t):=by
 obtain⟨f,a,F,M,b,m⟩:=D.ex
 exact CO M F (hr.mono hk) hg m b .nil hx ha hdb he hpl
end
section
variable{P:cT}{w:dc}{K:cu}{mg:Str->Option cA}{base:Heap}
theorem BDef.okE{C:cG}{x q:Str}{st:Stmt}{N ps:List Str}{k:Nat}{sp:Sp}(F:BDef K mg C x q st)(S:Eb N ps (D8 st))(len:∀vs H Q E,sp vs H Q E->vs.length=ps.length)
  (hb:∀(kV doc pm:cA) (an:Option cG) (cdv ct:cA) (us:List cA),us.length=ps.length->bindArgs (f9 "__init__" q (Ek st) (Eg st) (D8 st) .none kV doc pm an cdv ct) ⟨us,[]⟩=pure (ps.zip us))
  (hbody:∀(f:cG) (cdv:cA) (A:dw) (outer:List Env) (s:cD) (H:Hp) (vs:List V) (Q:VK) (E:XK),Room k (A.deeper (envOfC q (D8 st) s.heap.objs.size f cdv))->sp vs H Q E->
   ∃t,PSs (HV P w K mg base N q (D8 st) f cdv A outer s H E) (Eg st) t/\t {nx:=λ_ H'=>Q .non H',rt:=Q} (start N vs) H):Bn P w K mg base (FD P w) (k+1) C x ps sp:=by
 obtain⟨f,h,F,M,m⟩:=F
 have a:=F.binds hb
 obtain⟨j,g,kV,doc,pm,an,cdv,ct,e,rfl,lk,b⟩:=F.ex
 exact⟨f,_,BR lk b S len λA outer s H vs Q E d c=>hbody f cdv A outer s H vs Q E d c,M,a,m⟩
end
theorem zH:typeLookup (.type "zip") (fM "__len__")=pure none:=by kernel_rfl
theorem yg:typeLookup (.type "zip") (fM "__length_hint__")=pure none:=by kernel_rfl
theorem wz{prog:cT}{w:dc}{A:dw}{R:Result->cD->Prop}{z TI TO i1 i2 d:cG}{fp1 fp2:List cG}{n:Nat}{P1 P2:Nat->cA->Prop}{St1 St2:Nat->Heap->Prop}{res:cA}{J:Nat->List cG->cD->Prop}
  (D1:Draws prog w A.in1.in1 i1 fp1 n P1 St1)(D2:Draws prog w A.in1.in1 i2 fp2 n P2 St2)(ap:Ka z TI TO i1 i2 fp1 fp2)(hdz:d≠z)(hdTI:d≠TI)(hdTO:d≠TO)(hd1:d≠i1)(hd2:d≠i2)(hdf1:d∉fp1)(hdf2:d∉fp2)(hn:n<=1000)
  (hJ:∀i bs (s:cD) (h':Heap) tk x y,J i bs s->P1 i x->P2 i y->IsPair h' s.heap.objs.size x y->(∀c o,c≠z->c≠TO->c≠i1->c≠i2->c≠d->s.heap.get? c=some o->h'.get? c=some o)->J (i+1) (bs++[s.heap.objs.size]) {s with heap:=h',toks:=tk})
  (hE:∀bs (s:cD) (h':Heap),J n bs s->(∀c o,c≠z->c≠i1->s.heap.get? c=some o->h'.get? c=some o)->J n bs {s with heap:=h'}):
  ∀(k i:Nat) (s:cD) (T:cG) (bs:List cG) (c:Nat),n-i=k->i<=n->Ld s.heap z TI TO T->T≠z->T≠i1->T≠i2->(IsZip s.heap z TI TO .none\/T≠d)->IsPair s.heap TI (.ref i1) (.ref i2)->St1 i s.heap->St2 i s.heap->
   s.heap.get? d=some {cls:= .type "list",data:= .seq (bs.map cR).toArray c}->bs.length=i->J i bs s->
   (∀(s':cD) (bs':List cG) (c':Nat),J n bs' s'->s'.heap.get? d=some {cls:= .type "list",data:= .seq (bs'.map cR).toArray c'}->bs'.length=n->R (.ok (.ret res)) s')->
   codeAny (model prog w) A (Code.builtin "list.extend.loop" {pos:=[.ref d,.ref z,res],kw:=[]}) R s:=by
 intro k
 induction k with
 | zero=>
  intro i s T bs c hk hi U Z V K aa p I Y W O L hR
  have e:i=n:=by omega
  subst e
  have ht:s.TypeIs (.ref z) "zip":=by
   rcases U with⟨q,_⟩|⟨X,o,q,_⟩
   ·exact⟨_,q,rfl⟩
   ·exact⟨_,q,rfl⟩
  refine eY mr ?_
  rw[fY i8]
  unfold Builtin.«list.extend.loop»
  have N:wpAny (model prog w) A.in1 (pyNext (.ref z)) (λr s'=>r=none/\∃h',s'={s with heap:=h'}/\∀c o,c≠z->c≠i1->s.heap.get? c=some o->h'.get? c=some o) (λ_ _=>False) s:=by
   refine t9 ht ?_
   rcases U with⟨q,a,b,S⟩|q
   ·refine Ae D1 ap.i1z ap.z1 q p S I λh' e g D=>⟨?_,rfl,h',rfl,g⟩
    obtain⟨o,D,G⟩:=D
    exact⟨e,o,rfl,D,G⟩
   ·refine BW D1 ap.z1 q Z p I λh' e g D=>⟨?_,rfl,h',rfl,g⟩
    obtain⟨o,D,G⟩:=D
    exact⟨e,o,rfl,D,G⟩
  refine cr (gj N (λr s' q=>?_) (λ_ _ z=>z.elim))
  obtain⟨rfl,h',rfl,g⟩:=q
  dsimp only
  exact cv (hR _ bs c (hE bs s h' L g) (g d _ hdz hd1 W) O)
 | succ k ih=>
  intro i s T bs c hk hi U Z V K aa p I Y W O L hR
  have H:i<n:=by omega
  have ht:s.TypeIs (.ref z) "zip":=by
   rcases U with⟨q,_⟩|⟨X,o,q,_⟩
   ·exact⟨_,q,rfl⟩
   ·exact⟨_,q,rfl⟩
  have M:∀b o,s.heap.get? b=some o->b≠s.heap.objs.size:=λb o q=>df (cQ q)
  refine eY mr ?_
  rw[fY i8]
  unfold Builtin.«list.extend.loop»
  have N:wpAny (model prog w) A.in1 (pyNext (.ref z)) (λr s'=>r=some (.ref s.heap.objs.size)/\∃h' tk C x y,s'={s with heap:=h',toks:=tk}/\P1 i x/\P2 i y/\EX h' z TI TO C/\C≠z/\C≠i1/\C≠i2/\C≠d/\St1 (i+1) h'/\St2 (i+1) h'/\IsPair h' s.heap.objs.size x y/\
    ∀c o,c≠z->c≠TO->c≠i1->c≠i2->s.heap.get? c=some o->h'.get? c=some o) (λ_ _=>False) s:=by
   refine t9 ht ?_
   rcases U with⟨q,a,b,S⟩|q
   ·refine gj (yC D1 D2 ap q p S I Y H H (E:=λ_ _=>False) (Q:=λv s'=>v = .ref s.heap.objs.size/\∃h' tk x y,s'={s with heap:=h',toks:=tk}/\P1 i x/\P2 i y/\IsZip h' z TI TO (rawInt s.heap.objs.size)/\St1 (i+1) h'/\St2 (i+1) h'/\IsPair h' s.heap.objs.size x y/\∀c o,c≠z->c≠TO->c≠i1->c≠i2->s.heap.get? c=some o->h'.get? c=some o) λx y h' tk t u j ai l h f af g=>⟨rfl,h',tk,x,y,rfl,t,u,j,l,h,f,g⟩) (λfin s' hq=>?_) (λ_ _ z=>z.elim)
    obtain⟨v,e,rfl,h',tk,x,y,rfl,t,u,j,l,h,f,g⟩:=hq
    obtain⟨o1,P⟩:=D1.live _ _ I
    obtain⟨o2,ae⟩:=D2.live _ _ Y
    exact⟨_,e,rfl,h',tk,s.heap.objs.size,x,y,rfl,t,u,⟨false,_,j,f⟩,Ne.symm (M _ _ q),Ne.symm (M _ _ P),Ne.symm (M _ _ ae),Ne.symm (M _ _ W),l,h,f,g⟩
   ·have ad:T≠d:=by
     rcases aa with z0|z0
     ·obtain⟨X,o,P,_⟩:=q
      have z1:=P.symm.trans z0
      have:=congrArg (λo=>o.map Obj.data) z1
      simp[rawInt]at this
     ·exact z0
    refine gj (Aw D1 D2 ap q Z V K p I Y H H (E:=λ_ _=>False) (Q:=λv s'=>v = .ref s.heap.objs.size/\∃h' tk x y,s'={s with heap:=h',toks:=tk}/\P1 i x/\P2 i y/\EX h' z TI TO T/\St1 (i+1) h'/\St2 (i+1) h'/\IsPair h' s.heap.objs.size x y/\∀c o,c≠z->c≠i1->c≠i2->s.heap.get? c=some o->h'.get? c=some o) λx y h' tk t u j l h f af g=>⟨rfl,h',tk,x,y,rfl,t,u,j,l,h,f,g⟩) (λfin s' hq=>?_) (λ_ _ z=>z.elim)
    obtain⟨v,e,rfl,h',tk,x,y,rfl,t,u,j,l,h,f,g⟩:=hq
    exact⟨_,e,rfl,h',tk,T,x,y,rfl,t,u,j,Z,V,K,ad,l,h,f,λc o c1 _ c3 c4 q=>g c o c1 c3 c4 q⟩
  refine cr (gj N (λr s' q=>?_) (λ_ _ z=>z.elim))
  obtain⟨rfl,h',tk,C,x,y,rfl,t,u,j,t1,t2,t3,t4,l,h,f,g⟩:=q
  dsimp only
  have ab:h'.get? d=some {cls:= .type "list",data:= .seq (bs.map cR).toArray c}:=g d _ hdz hdTO hd1 hd2 W
  have ag:s.heap.objs.size≠d:=Ne.symm (M _ _ W)
  refine cr (ix (s:={s with heap:=h',toks:=tk}) ab rfl ?_ (by simp;exact dB (D9 (by omega))) (by simp;have:=D9 (n:=bs.length) (by omega);omega))
  refine cv ⟨jK i8 _,?_⟩
  have up:=hO (show IsL h' d (bs.map cR).toArray c from ab) (λB=>B.push (.ref s.heap.objs.size))
  have m:∀b,b≠d->(h'.update d (d2 λB=>B.push (.ref s.heap.objs.size))).get? b=h'.get? b:=λb hb=>fk h' _ (Ne.symm hb)
  have ac:IsPair (h'.update d (d2 λB=>B.push (.ref s.heap.objs.size))) TI (.ref i1) (.ref i2):=(m TI (Ne.symm hdTI)).trans (g TI _ ap.TIz ap.TITO ap.TIi1 ap.TIi2 p)
  obtain⟨X,oT,P,S⟩:=j
  obtain⟨c',ah⟩:∃c',(h'.update d (d2 λB=>B.push (.ref s.heap.objs.size))).get? d=some {cls:= .type "list",data:= .seq ((bs++[s.heap.objs.size]).map cR).toArray c'}:=⟨_,up.trans (by rw[cS];simp only[List.push_toArray];rfl)⟩
  refine ih (i+1) {s with heap:=h'.update d (d2 λB=>B.push (.ref s.heap.objs.size)),toks:=tk} C (bs++[s.heap.objs.size]) c' (by omega) (by omega) (.inr ⟨X,oT,(m z (Ne.symm hdz)).trans P,(m C t4).trans S⟩) t1 t2 t3 (.inr t4) ac (D1.frame _ _ _ l λc G o q=>(m c (λe=>hdf1 (e▸G))).trans q) (D2.frame _ _ _ h λc G o q=>(m c (λe=>hdf2 (e▸G))).trans q) ?_ (by rw[dq,O];rfl) ?_ hR
  ·exact ah
  ·exact hJ i bs s _ tk x y L t u ((m _ ag).trans f) λc o c1 c2 c3 c4 c5 q=>(m c c5).trans (g c o c1 c2 c3 c4 q)
theorem wW{prog:cT}{w:dc}{A:dw}{E:cA->cD->Prop}{s:cD}{z TI TO i1 i2 l1 l2:cG}{t1 t2:Bool}{xs ys:Array cA}{Q:cA->cD->Prop}{J:Nat->List cG->cD->Prop}(hh:A.handled=none)
  (ap:ZipB z TI TO i1 i2 l1 l2)(hz:IsZip s.heap z TI TO .none)(hTI:IsPair s.heap TI (.ref i1) (.ref i2))(hTO:IsPair s.heap TO .none .none)(s1:Itx s.heap t1 i1 l1 0)(s2:Itx s.heap t2 i2 l2 0)(h1:Sqx s.heap t1 l1 xs)(h2:Sqx s.heap t2 l2 ys)(hsz:xs.size=ys.size)(hn:xs.size<=1000)
  (hJ:∀i bs (s':cD) (h':Heap) tk x y,J i bs s'->xs[i]?=some x->ys[i]?=some y->IsPair h' s'.heap.objs.size x y->(∀c o,c≠z->c≠TO->c≠i1->c≠i2->c≠s.heap.objs.size->s'.heap.get? c=some o->h'.get? c=some o)->J (i+1) (bs++[s'.heap.objs.size]) {s' with heap:=h',toks:=tk})
  (hE:∀bs (s':cD) (h':Heap),J xs.size bs s'->(∀c o,c≠z->c≠i1->s'.heap.get? c=some o->h'.get? c=some o)->J xs.size bs {s' with heap:=h'})
  (hJ0:∀(h':Heap) (tk:Nat),(∀c o,c≠s.heap.objs.size->s.heap.get? c=some o->h'.get? c=some o)->s.heap.objs.size<h'.objs.size->J 0 [] {s with heap:=h',toks:=tk})
  (hQ:∀(s':cD) (bs:List cG) (c:Nat),J xs.size bs s'->s'.heap.get? s.heap.objs.size=some {cls:= .type "list",data:= .seq (bs.map cR).toArray c}->bs.length=xs.size->Q (.ref s.heap.objs.size) s'):
  wpAny (model prog w) A (call (.type "list") [.ref z]) Q E s:=by
 refine callType_codes F.called_list (F.typeCall_list_1 _) F.entry_list_init (code_list_new (.ref z) (Q₁:=λv s1=>v = .ref s.heap.objs.size/\s1=_) ⟨rfl,rfl⟩) λM H a=>?_
 obtain⟨rfl,rfl⟩:=a
 have f:(s.heap.push {cls:=dL "list",data:=iL #[]}).get? s.heap.objs.size=some {cls:=dL "list",data:=iL #[]}:=cN _ rfl
 have d:∀b o,s.heap.get? b=some o->b≠s.heap.objs.size:=λb o q=>df (cQ q)
 have I:∀b o,s.heap.get? b=some o->(s.heap.push {cls:=dL "list",data:=iL #[]}).get? b=some o:=λb o q=>cF _ q
 refine⟨⟨_,f,rfl⟩,F.args_list_init_2 _ _,?_⟩
 unfold Builtin.«list.__init__»
 dsimp only
 refine cP rfl (cP (by simp) ?_)
 refine cr (wpAny_listItems f rfl ?_)
 refine cr (ix f rfl ?_ (by simp) (by simp))
 have t:=hO (show IsL _ s.heap.objs.size #[] 0 from f) (λ_=> #[])
 generalize hh1:(s.heap.push {cls:=dL "list",data:=iL #[]}).update s.heap.objs.size (d2 λ_=> #[])=g1 at t
 have j:∀b o,s.heap.get? b=some o->g1.get? b=some o:=λb o q=>by rw[<-hh1];exact(fk _ _ (Ne.symm (d b o q))).trans (I b o q)
 refine cr (kD ?_)
 unfold f5
 refine cr (ij (T:="zip") ⟨_,j _ _ hz,rfl⟩ ?_)
 refine cP (by
  refine decide_eq_false ?_
  show ¬((s.heap.objs.size==z)||_||_)=true
  rw[beq_eq_false_iff_ne.mpr (Ne.symm (d _ _ hz))]
  decide) ?_
 refine cr (lc (j _ _ hz) ?_)
 refine cr (dG ?_)
 unfold iG
 refine cr (gg (T:="zip") ⟨_,j _ _ hz,rfl⟩ zH ?_)
 dsimp only
 refine cP rfl (cP rfl ?_)
 refine cr (gg (T:="zip") ⟨_,j _ _ hz,rfl⟩ yg ?_)
 refine cv ?_
 refine iT rfl (cr (iR ?_))
 unfold lz
 refine cr (cr (ix (s:={s with heap:=g1}) t rfl ?_ (by simp) (by simp)))
 have r:=hO t (λx=>x.push cA.none)
 generalize hh2:g1.update s.heap.objs.size (d2 λx=>x.push cA.none)=g2 at r
 have L:∀b o,s.heap.get? b=some o->g2.get? b=some o:=λb o q=>by rw[<-hh2];exact(fk _ _ (Ne.symm (d b o q))).trans (j b o q)
 refine ix (s:={s with heap:=g2}) r rfl ?_ (by show 1<=sizeLine;decide) (by simp)
 have m:=hO r (λx=>x.pop)
 generalize hh3:g2.update s.heap.objs.size (d2 λx=>x.pop)=g3 at m
 have g:∀b o,s.heap.get? b=some o->g3.get? b=some o:=λb o q=>by rw[<-hh3];exact(fk _ _ (Ne.symm (d b o q))).trans (L b o q)
 refine cv ⟨jK i8 _,?_⟩
 have B:∃o,s.heap.get? i1=some o:=by obtain⟨vs,n,e|⟨o,e,_⟩⟩:=s1.get <;> exact⟨_,e⟩
 have u:∃o,s.heap.get? i2=some o:=by obtain⟨vs,n,e|⟨o,e,_⟩⟩:=s2.get <;> exact⟨_,e⟩
 obtain⟨O,l⟩:=B
 obtain⟨N,p⟩:=u
 have k:∀b,b<s.heap.objs.size->s.heap.objs.size≠b:=λb h=>Ne.symm (df h)
 have C:Draws prog w A.in1.in1.in1 i2 [i2,l2] xs.size (λi v=>ys[i]?=some v) (λi h=>Itx h t2 i2 l2 i/\Sqx h t2 l2 ys):=by
  rw[hsz]
  exact t6 (A:=A.in1.in1.in1) hh t2 i2 l2 ap.l2j ys
 refine wz (A:=A.in1) (J:=J) (t6 (A:=A.in1.in1.in1) hh t1 i1 l1 ap.l1i xs) C ap.a (Ne.symm (d _ _ hz)) (Ne.symm (d _ _ hTI)) (Ne.symm (d _ _ hTO)) (Ne.symm (d _ _ l)) (Ne.symm (d _ _ p)) (by simp[Ne.symm (d _ _ l),k _ h1.lt]) (by simp[Ne.symm (d _ _ p),k _ h2.lt]) hn hJ hE
  xs.size 0 {s with heap:=g3} (s.heap.objs.size+1) [] _ (by simp) (du _) (.inl ⟨g _ _ hz,_,_,g _ _ hTO⟩) ?_ ?_ ?_ (.inl (g _ _ hz)) (g _ _ hTI) ⟨s1.keep λo q=>g _ _ q,h1.keep λo q=>g _ _ q⟩ ⟨s2.keep λo q=>g _ _ q,h2.keep λo q=>g _ _ q⟩ m rfl (hJ0 g3 s.toks (λc o _ q=>g c o q) (cQ m)) λs' bs c D K G=>⟨rfl,hQ s' bs c D K G⟩
 ·exact Ne.symm (df (dz (cQ hz)))
 ·exact Ne.symm (df (dz (cQ l)))
 ·exact Ne.symm (df (dz (cQ p)))
structure ZJ(xs ys:Array cA)(s1:cD)(d N:Nat)(z TO i1 i2:cG)(i:Nat)(bs:List cG)(s':cD):Prop where
 at':∀(j:Nat) (t:cG),bs[j]?=some t->∃x y,xs[j]?=some x/\ys[j]?=some y/\IsPair s'.heap t x y
 keep:∀b o,s1.heap.get? b=some o->s'.heap.get? b=some o
 ge:∀t∈bs,s1.heap.objs.size<=t
 ne:∀t∈bs,t≠z/\t≠TO/\t≠i1/\t≠i2/\t≠d
 nd:bs.Nodup
 sz:i<xs.size->N<s'.heap.objs.size
 gens:s'.gens=s1.gens
 drawn:s'.drawn=s1.drawn
 os:s'.os=s1.os
 len:bs.length=i
def G3(H:Hp)(d:cG)(bs:List cG)(xs ys:List V):Hp:=λa=>if a=d then some (.lst (bs.map V.ref))else
 if a∈bs then some (.tup [xs.getD (bs.idxOf a) .non,ys.getD (bs.idxOf a) .non])else H a
def JS(K:cu)(ta:TA):TE:=λσ H Q=>ta σ H λvs H1=>∃(t1 t2:Bool) (a b:cG) (xs ys:List V),vs=[.ref a,.ref b]/\Ja K H1 t1 a xs/\Ja K H1 t2 b ys/\xs.length=ys.length/\xs.length<=1000/\
 ∀(l:cG) (ts:List cG) (H':Hp),Same H1 H'->H1 l=none->H' l=some (.lst (ts.map V.ref))->ts.length=xs.length->(∀(i:Nat) (t:cG) (x y:V),ts[i]?=some t->xs[i]?=some x->ys[i]?=some y->H' t=some (.tup [x,y]))->Q (.ref l) H'
theorem zt{X:Cx}{a b:Expr}{ta:TA}{p p2 pos pos2:Pos}(hc:X.calm=true)(h1:Gl X "list")(m1:X.mg "list"=none)(h2:Gl X "zip")(m2:X.mg "zip"=none)(ha:PA X [a,b] ta)
  (hs:dh [a,b] X.env=[(false,eval a X.env),(false,eval b X.env)]:=by rfl)(hs2:dh [b] X.env=[(false,eval b X.env)]:=by rfl):PE X (.Call (.Name "list" p) [.Call (.Name "zip" p2) [a,b] [] pos2] [] pos) (JS X.K ta):=by
 intro aa s σ H Q I h
 refine fI (tI I h1 m1 Boot.list ?_)
 refine d7 ?_ rfl rfl
 show wpAny _ _ (spliced ((false,eval (.Call (.Name "zip" p2) [a,b] [] pos2) X.env)::[])) _ _ s
 refine fH ?_
 refine rc (tI I h2 m2 lT (d7 (Ej (ha pos2 aa s σ H _ I h) λus r ⟨vs,M,T,r1,q1⟩=>?_) (by rw[hs,hs2]) (by rw[hs2];rfl)))
 obtain⟨t1,t2,l1,l2,D,E,e,hx,hy,aD,aF,q⟩:=q1
 subst e
 obtain⟨u,v,rfl,ru,rv⟩:=Je r1
 cases ru
 cases rv
 obtain⟨C,ag,p1⟩:=T.sqx hx
 obtain⟨R,af,p2⟩:=T.sqx hy
 have hA:X.A.handled=none:=T.ok.hd hc
 have aq:D.length=C.length:=ag.length
 have aE:E.length=R.length:=af.length
 refine xB p1 p2 λm hz az aB aC an L kk=>?_
 refine cv ?_
 refine wW (s:={r with heap:=m}) (J:=ZJ C.toArray R.toArray r m.objs.size m.objs.size (r.heap.objs.size+4) (r.heap.objs.size+3) r.heap.objs.size (r.heap.objs.size+1)) hA (yL p1.lt p2.lt) hz az aB aC an (p1.keep λo q=>kk _ _ q) (p2.keep λo q=>kk _ _ q) (by simp;omega) (by simp;omega)
  (λi f S h2 tk x y J px py ac z=>?_) (λf S h2 J z=>?_) (λh2 tk z ao=>?_) (λS f c J hd aw=>?_)
 ·have ar:∀t∈f,t<S.heap.objs.size:=λt d=>by
   obtain⟨j,g⟩:=iA.mp d
   obtain⟨_,_,_,_,e⟩:=J.at' j t g
   exact cQ e
  have aA:i<C.toArray.size:=(ko.mp px).1
  have B:=J.sz aA
  have am:S.heap.objs.size<h2.objs.size:=cQ ac
  have W:∀k,k<=5->S.heap.objs.size≠r.heap.objs.size+k:=λk hk=>ie (eQ (by rw[L];exact Nat.add_le_add_left hk _) B)
  refine⟨λj t g=>?_,λb o e=>?_,λt d=>?_,λt d=>?_,?_,λ_=>lA B am,J.gens,J.drawn,J.os,by rw[dq,J.len];rfl⟩
  ·by_cases ae:j<f.length
   ·rw[gO ae]at g
    obtain⟨Y,Z,O,N,U⟩:=J.at' j t g
    have G:=J.ne t (da g)
    exact⟨Y,Z,O,N,z t _ G.1 G.2.1 G.2.2.1 G.2.2.2.1 G.2.2.2.2 U⟩
   ·have ab:j=f.length:=by
     have:=(cL.mp g).1
     rw[dq,eU]at this
     omega
    rw[ab,eZ (cI _),il]at g
    have e0:S.heap.objs.size=t:=Option.some.inj g
    rw[ab,J.len,<-e0]
    exact⟨x,y,px,py,ac⟩
  ·have hb:=cQ e
   have F:∀k,b≠r.heap.objs.size+k:=λk=>df (cU hb (gG _ _))
   exact z b o (F 4) (F 3) (F 0) (F 1) (by show b≠m.objs.size;rw[L];exact F 5) (J.keep b o e)
  ·rcases dJ.mp d with d|d
   ·exact J.ge t d
   ·rw[cK.mp d]
    exact dB (eQ (by rw[L];exact gG _ _) B)
  ·rcases dJ.mp d with d|d
   ·exact J.ne t d
   ·rw[cK.mp d]
    exact⟨W 4 (by decide),W 3 (by decide),W 0 (by decide),W 1 (by decide),ie B⟩
  ·refine gv.mpr ⟨J.nd,by simp,λa ha b hb e=>?_⟩
   rw[cK.mp hb]at e
   exact absurd e (df (ar a ha))
 ·refine⟨λj t g=>?_,λb o e=>?_,J.ge,J.ne,J.nd,λP=>absurd P (dt _),J.gens,J.drawn,J.os,J.len⟩
  ·obtain⟨Y,Z,O,N,U⟩:=J.at' j t g
   have G:=J.ne t (da g)
   exact⟨Y,Z,O,N,z t _ G.1 G.2.2.1 U⟩
  ·have hb:=cQ e
   have F:∀k,b≠r.heap.objs.size+k:=λk=>df (cU hb (gG _ _))
   exact z b o (F 4) (F 0) (J.keep b o e)
 ·refine⟨λj t g=>by simp at g,λb o e=>z b o ?_ (kk b o e),(λt d=>nomatch d),(λt d=>nomatch d),.nil,(λ_=>ao),rfl,rfl,rfl,rfl⟩
  show b≠m.objs.size
  rw[L]
  exact df (cU (cQ e) (gG _ _))
 ·obtain⟨ak,g2,ay,ax,av⟩:=S
  have O:g2=r.gens:=J.gens
  have N:ay=r.drawn:=J.drawn
  have U:av=r.os:=J.os
  subst O N U
  have aj:r.heap.objs.size<=m.objs.size:=by rw[L];exact gG _ _
  have ad:∀a,a<r.heap.objs.size->G3 M m.objs.size f D E a=M a:=λa ha=>by
   unfold G3
   rw[if_neg (df (cU ha aj)),if_neg (λP=>absurd (cU ha (J.ge a P)) (dt _))]
  have trk:∀a o,M a=some o->G3 M m.objs.size f D E a=some o:=λa o e=>by rw[ad a (T.hok.lt e)];exact e
  have al:f.length=C.length:=by rw[aw];simp
  have ap:m.objs.size∉f:=λP=>(J.ne _ P).2.2.2.2 rfl
  have tp:∀(i:Nat) (t:cG) (x y:V),f[i]?=some t->D[i]?=some x->E[i]?=some y->G3 M m.objs.size f D E t=some (.tup [x,y]):=λi t x y d hx hy=>by
   have hm:=da d
   have hi:i<f.length:=(cL.mp d).1
   have ei:f.idxOf t=i:=by
    have h3:=(cL.mp d).2
    rw[<-h3]
    exact J.nd.idxOf_getElem i hi
   unfold G3
   rw[if_neg (λ(P:t=m.objs.size)=>ap (by rw[<-P];exact hm)),if_pos hm,ei,cC,cC,hx,hy]
   rfl
  have vr:∀l:List cG,Vals (l.map V.ref) (l.map cR):=λl=>by
   induction l with
   | nil=>exact .nil
   | cons a l ih=>exact .cons rfl ih
  have au:HOk X.prog X.w (G3 M m.objs.size f D E) ak:=λa o e=>by
   by_cases c1:a=m.objs.size
   ·subst c1
    unfold G3 at e
    rw[if_pos rfl]at e
    cases e
    exact⟨by rw[cx];exact dB (D9 (by omega)),_,c,vr f,hd⟩
   ·by_cases c2:a∈f
    ·obtain⟨j,g⟩:=iA.mp c2
     obtain⟨Y,Z,O,N,U⟩:=J.at' j a g
     have ae:j<f.length:=(cL.mp g).1
     have ai:D[j]?=some D[j]:=cz (by omega)
     have ah:E[j]?=some E[j]:=cz (by omega)
     rw[tp j a _ _ g ai ah]at e
     cases e
     obtain⟨u,hu,ru⟩:=ag.get ai
     obtain⟨v,hv,rv⟩:=af.get ah
     have eu:u=Y:=by
      have:C[j]?=some Y:=by simpa using O
      rw[hu]at this
      exact Option.some.inj this
     have ev:v=Z:=by
      have:R[j]?=some Z:=by simpa using N
      rw[hv]at this
      exact Option.some.inj this
     subst eu ev
     exact⟨by show 2<=sizeLine;decide,[u,v],.cons ru (.cons rv .nil),⟨_,U,rfl,_,rfl⟩⟩
    ·have e':M a=some o:=by
      unfold G3 at e
      rw[if_neg c1,if_neg c2]at e
      exact e
     exact(T.hok a o e').stay (λb u _ q=>J.keep b u q) (λb q=>trk b _ q) λb D q=>trk b _ q
  have I2:Inv X aa σ (G3 M m.objs.size f D E) {r with heap:=ak,toks:=ax}:=T.un ⟨λb o e n _ _=>J.keep b o e,λb o e n _ _=>⟨o.slots,J.keep b o e⟩,λb o e n _=>by rw[ad b (cQ e)];exact n,λb o e _=>⟨o,J.keep b o e⟩,λb D e=>trk b _ e,λb o u e=>trk b _ e,λb ps e=>⟨#[],by rw[trk b _ e];simp⟩⟩ au
  refine⟨.ref m.objs.size,_,I2,rfl,q m.objs.size f _ (λb o e=>trk b o e) (T.hok.fresh aj) ?_ (by rw[al,aq]) tp⟩
  unfold G3
  rw[if_pos rfl]
structure Wd(z:Str):Prop where
 lo:1<=z.length
 hi:z.length<=12
 cs:∀c∈z.cps.toList,97<=c/\c<=122
structure Roll(ws:List Str):Prop where
 lo:1<=ws.length
 hi:ws.length<=6
 wd:∀w∈ws,Wd w
 nd:ws.Nodup
def GS(z:Str):Prop:=∀c∈z.cps.toList,c<128
def Ep(z:Str):Bool:=decide (1<=z.length/\z.length<=12)&&z.cps.toList.all λc=>decide (97<=c)&&decide (c<=122)
def EQ(ws:List Str):Bool:=decide (1<=ws.length/\ws.length<=6)&&ws.all Ep&&decide ws.Nodup
theorem wq{z:Str}:Ep z=true↔Wd z:=by
 unfold Ep;rw[dn,decide_eq_true_iff,dZ];exact⟨λ⟨⟨a,b⟩,c⟩=>⟨a,b,λx d=>by simpa using c x d⟩,λw=>⟨⟨w.lo,w.hi⟩,λx d=>by have:=w.cs x d;simp[this]⟩⟩
theorem uc{ws:List Str}:EQ ws=true↔Roll ws:=by
 unfold EQ;rw[dn,dn,decide_eq_true_iff,decide_eq_true_iff,dZ];exact⟨λ⟨⟨⟨a,b⟩,c⟩,d⟩=>⟨a,b,λx e=>wq.mp (c x e),d⟩,λr=>⟨⟨⟨r.lo,r.hi⟩,λx e=>wq.mpr (r.wd x e)⟩,r.nd⟩⟩
def Ie:Sp:=λvs H Q _=>∃z:Str,vs=[.str z]/\z.length<=1000/\GS z/\∀H',Same H H'->Q (.bl (Ep z)) H'
def Io(K:cu):Sp:=λvs H Q _=>∃(a:cG) (ws:List Str),vs=[.ref a]/\SqL K H a (ws.map V.str)/\ws.length<=60/\(∀w∈ws,w.length<=1000/\GS w)/\∀H',Same H H'->Q (.bl (EQ ws)) H'
theorem v4{z:Str}(h:¬(1<=z.length/\z.length<=12)):Ep z=false:=by
 unfold Ep;rw[decide_eq_false h,jq]
theorem zA{z:Str}(h:1<=z.length/\z.length<=12):Ep z=z.cps.toList.all λc=>decide (97<=c)&&decide (c<=122):=by
 unfold Ep;rw[decide_eq_true h,pX]
theorem y6{ws:List Str}(h:¬(1<=ws.length/\ws.length<=6)):EQ ws=false:=by
 unfold EQ;rw[decide_eq_false h,jq,jq]
theorem xg{ws:List Str}(h:ws.all Ep=false):EQ ws=false:=by
 unfold EQ;rw[h,o3,jq]
theorem y9{ws:List Str}(h1:1<=ws.length/\ws.length<=6)(h:ws.all Ep=true):EQ ws=decide (V.int (E8 ws ws.length:Nat)=V.int (ws.length:Nat)):=by
 unfold EQ;rw[h,decide_eq_true h1,Bool.and_true,pX,decide_eq_decide];constructor
 ·intro r;rw[wc r _ (cI _)]
 ·intro e;have a:E8 ws ws.length=ws.length:=by injection e with e1;omega
  refine dM λz=>?_
  have:=An (ws:=ws) (i:=ws.length) (cI _) (by rw[dj];exact z);omega
theorem A4(t:Str):∀G:List Str,Jv (.str t) (G.map V.str)=decide (t∈G)
 | []=>by simp[Jv]
 | x::G=>by
  have a:=A4 t G
  unfold Jv at a ⊢
  rw[dN,gY,a]
  by_cases h1:x=t
  ·subst h1
   simp[Ju]
  ·have:Ju (.str x) (.str t)=false:=beq_eq_false_iff_ne.mpr h1
   simp[Ju,h1,Ne.symm h1]
theorem zV(G:List Str):(G.map V.str).all FE=true:=by
 rw[dZ];intro v a;obtain⟨i,_,rfl⟩:=dv.mp a;rfl
theorem Reps.strs{K:cu}{H:Hp}:∀ns:List Str,Reps K H (ns.map V.str) (ns.map gM)
 | []=> .nil
 | n::ns=> .cons (.str n) (Reps.strs ns)
theorem vF:∀a b:List Str,jb (a.map gM) (b.map gM)=decide (a=b)
 | [],[]=>by simp[jb]
 | [],_::_=>by simp[jb]
 | _::_,[]=>by simp[jb]
 | x::a,y::b=>by
  simp only[dN,jb,gy,vF a b]
  by_cases h1:x=y <;> by_cases h2:a=b <;> simp[h1,h2]
theorem Bx(a b:List Str):gy (.list (a.map gM)) (.list (b.map gM))=decide (a=b):=by
 rw[gy,vF]
theorem yv{x:Str}(h:GS x)(n:Nat):F9 n (.str x)=true:=by
 have h2:ga (.str x)=true:=by
  unfold ga iP;simp[iZ,PyData.strOk];intro i a;have:=h x.cps[i] (by simp);omega
 cases n <;> simpa [F9]using h2
theorem yW{l:List Str}(h:∀w∈l,GS w):F9 1 (.list (l.map gM))=true:=by
 show(l.map gM).all (F9 0)=true;rw[dZ];intro d b;obtain⟨i,a,rfl⟩:=dv.mp b;exact yv (h i a) 0
theorem Bl{t y:Str}(h:GS t):∀w∈Txt.split t y,GS w:=λw b c a=>h c (by
 rw[<-mZ t y];exact(o4 y c _).mpr (.inl ⟨w,b,a⟩))
structure BookAt(C:cG)(H:Hp)(x d:cG)(ps ts:List Str)(R:List (Str×V)):Prop where
 ex:∃(dx pp pt:cG) (op ot:Obj),H x=some (.ins C dx [("people",.ref pp),("things",.ref pt),("wishes_told",.ref d)])/\H pp=some (.frz op (.tup (ps.map V.str)))/\op.dict=none/\
  H pt=some (.frz ot (.tup (ts.map V.str)))/\ot.dict=none/\H d=some (.dK (wK R))
theorem BookAt.mono{C:cG}{H H':Hp}{x d:cG}{ps ts:List Str}{R:List (Str×V)}(e:Same H H')(h:BookAt C H x d ps ts R):BookAt C H' x d ps ts R:=by
 obtain⟨b,f,g,a,c,h1,h2,h3,h4,h5,h6⟩:=h.ex;exact⟨b,f,g,a,c,e _ _ h1,e _ _ h2,h3,e _ _ h4,h5,e _ _ h6⟩
def SameBut1(x:cG)(H H':Hp):Prop:=∀b o,b≠x->H b=some o->H' b=some o
theorem SqL.overI{K:cu}{H:Hp}{a p C dx:cG}{fs:List (Str×V)}{o:HO}{xs:List V}(h:SqL K H a xs)(hp:H p=some (.ins C dx fs)):SqL K (upd H p o) a xs:=by
 rcases h with(h|⟨u,h⟩)|h
 ·exact .inl (.inl (by rw[rH (λz=>by rw[z,hp]at h;cases h)];exact h))
 ·exact .inl (.inr ⟨u,by rw[rH (λz=>by rw[z,hp]at h;cases h)];exact h⟩)
 ·exact .inr h
theorem K3{c A B:Prop}[Decidable c](hc:¬c)(h:A):if(!decide c)=true then A else B:=by
 rw[decide_eq_false hc];exact EN h
theorem SameBut1.of{x:cG}{H H':Hp}(h:Same H H'):SameBut1 x H H':=λb o _ e=>h b o e
theorem SameBut1.trans{x:cG}{H H1 H2:Hp}(h:SameBut1 x H H1)(h':SameBut1 x H1 H2):SameBut1 x H H2:=λb o a e=>h' b o a (h b o a e)
theorem SameBut1.upd{x:cG}{H:Hp}{o:HO}:SameBut1 x H (upd H x o):=λb u a e=>by rw[rH a];exact e
def Jy(K:cu)(C:cG)(x:Xs):Sp:=λvs H Q E=>∃(s a b dx:cG) (ps ts:List Str),vs=[.ref s,.ref a,.ref b]/\H s=some (.ins C dx [])/\SqL K H a (ps.map V.str)/\SqL K H b (ts.map V.str)/\ps.length<=60/\ts.length<=60/\
 (∀w∈ps,w.length<=1000/\GS w)/\(∀w∈ts,w.length<=1000/\GS w)/\(¬(Roll ps/\Roll ts/\ps.length=ts.length)->∀H',Same H H'->E (.ref x.NoRoll) none H')/\
 (Roll ps->Roll ts->ps.length=ts.length->∀d H',SameBut1 s H H'->H d=none->BookAt C H' s d ps ts []->Q .non H')
def HH(C:cG)(x:Xs):Sp:=λvs H Q E=>∃(s d:cG) (ps ts:List Str) (R:List (Str×V)) (p:Str),vs=[.ref s,.str p]/\BookAt C H s d ps ts R/\(p∉ps->E (.ref x.NoPerson) none H)/\(p∈ps->Q .non H)
def Hb(C:cG):Sp:=λvs H Q _=>∃(s d:cG) (ps ts:List Str) (R:List (Str×V)),vs=[.ref s]/\BookAt C H s d ps ts R/\ps.length<=60/\
 ∀l H',Same H H'->H l=none->H' l=some (.lst ((ps.filter λp=>!(El R p).isSome).map V.str))->Q (.ref l) H'
def wordsOf(t:Str):List Str:=Txt.split t " "
def Gj(ts ws:List Str):List Int:=ws.map λw=>(ts.idxOf w:Int)
def IN(K:cu)(C:cG)(x:Xs):Sp:=λvs H Q E=>∃(s d:cG) (ps ts:List Str) (R:List (Str×V)) (p t:Str),vs=[.ref s,.str p,.str t]/\BookAt C H s d ps ts R/\ts.length<=60/\(∀w∈ts,GS w)/\t.length<=500/\GS t/\(wordsOf t).length<64/\R.length<1000/\
 (p∉ps->∀H',Same H H'->E (.ref x.NoPerson) none H')/\(p∈ps->¬(wordsOf t).Perm ts->∀H',Same H H'->E (.ref x.NoWishes) none H')/\
 (p∈ps->(wordsOf t).Perm ts->∀r H',SameBut1 d H H'->H r=none->H' r=some (.tup ((Gj ts (wordsOf t)).map V.int))->BookAt C H' s d ps ts (G8 R p (.ref r))->Q .non H')
def TabBy(n:Nat)(W:List (List Int))(way:Str)(Z:List (List Int))(T:Int):Prop:=
 (way="eaten"/\∃N,EM.Stops W n N/\Z=EB W n N/\T=(EM.st W n N).D)\/(way="turns"/\Z=Gq n (FA n W)/\T=TM.fct n)
theorem TabBy.tb{n:Nat}{W:List (List Int)}{way:Str}{Z:List (List Int)}{T:Int}(hw:Fj n W)(h:TabBy n W way Z T):Jo n T Z:=by
 rcases h with⟨_,N,a,rfl,rfl⟩|⟨_,rfl,rfl⟩
 ·exact Dy ⟨hw.lo,hw.hi,hw.len,hw.pm⟩ a
 ·exact CS hw
def ToldW(K:cu)(H:Hp)(R:List (Str×V))(ps:List Str)(W:List (List Int)):Prop:=dr (λp row=>∃v,El R p=some v/\IsR K H v row) ps W
theorem ToldW.mono{K:cu}{H H':Hp}{R:List (Str×V)}{ps:List Str}{W:List (List Int)}(e:Same H H')(h:ToldW K H R ps W):ToldW K H' R ps W:=
 Paired.mapP h λ_ _ ⟨v,h1,h2⟩=>⟨v,h1,h2.mono e⟩
def Gb(K:cu)(C:cG)(x:Xs):Sp:=λvs H Q E=>∃(s d:cG) (ps ts:List Str) (R:List (Str×V)) (way:Str),vs=[.ref s,.str way]/\BookAt C H s d ps ts R/\ps.length<=60/\
 ((∃p∈ps,El R p=none)->∀H',Same H H'->E (.ref x.Unready) none H')/\
 ((∀p∈ps,El R p≠none)->∃W,ToldW K H R ps W/\Fj ps.length W/\(way≠"eaten"->way≠"turns"->∀H',Same H H'->E (.ref x.NoWay) none H')/\
  ∀Z T q us H',TabBy ps.length W way Z T->Same H H'->H q=none->H' q=some (.lst us)->dr (RwFT K H' T) us Z->Q (.ref q) H')
theorem yH{R:List (Str×V)}{ps:List Str}:(ps.filter λp=>!(El R p).isSome)=[]↔∀p∈ps,El R p≠none:=by
 rw[List.filter_eq_nil_iff];refine forall_congr' λp=>forall_congr' λ_=>?_
 cases El R p <;> simp
def Ex(ts:List Str)(row z:List Int):List (Str×Int):=(row.filter λt=>decide (EM.at0 z t≠0)).map λt=>(ts.getD t.toNat ea,EM.at0 z t)
def IsShr(K:cu)(H:Hp)(T:Int)(v:V)(x:Str×Int):Prop:=∃a g,v = .ref a/\SqT K H a [.str x.1,.ref g]/\IsF K H (.ref g) (FQ.red x.2 T)
theorem IsShr.mono{K:cu}{H H':Hp}{T:Int}{v:V}{x:Str×Int}(e:Same H H')(h:IsShr K H T v x):IsShr K H' T v x:=by
 obtain⟨a,g,rfl,h1,h2⟩:=h;exact⟨a,g,rfl,e.tup h1,h2.mono e⟩
def GE(K:cu)(C:cG)(x:Xs):Sp:=λvs H Q E=>∃(s d:cG) (ps ts:List Str) (R:List (Str×V)) (p way:Str),vs=[.ref s,.str p,.str way]/\BookAt C H s d ps ts R/\ps.length<=60/\ts.length=ps.length/\
 (p∉ps->∀H',Same H H'->E (.ref x.NoPerson) none H')/\(p∈ps->(∃p∈ps,El R p=none)->∀H',Same H H'->E (.ref x.Unready) none H')/\
 (p∈ps->(∀p∈ps,El R p≠none)->∃W,ToldW K H R ps W/\Fj ps.length W/\(way≠"eaten"->way≠"turns"->∀H',Same H H'->E (.ref x.NoWay) none H')/\
  ∀Z T l xs H',TabBy ps.length W way Z T->Same H H'->H l=none->H' l=some (.lst xs)->dr (IsShr K H' T) xs (Ex ts (W.getD (ps.idxOf p) []) (Z.getD (ps.idxOf p) []))->Q (.ref l) H')
theorem cw_lots(Z:List (List Int))(T:Int)(k:Nat):∀i,i<=k->cw (HM.lotsL Z T k) i=HM.sm i λj=>(HM.lotAt Z T j).1
 | 0,_=>rfl
 | i+1,hi=>by
  have e:(HM.lotsL Z T k)[i]?=some (HM.lotAt Z T i):=by
   unfold HM.lotsL
   rw[cH,d9 (show i<k by omega)]
   rfl
  rw[cw_succ e,cw_lots Z T k i (by omega)]
  rfl
theorem TabBy.le{n:Nat}{W:List (List Int)}{way:Str}{Z:List (List Int)}{T:Int}(hw:Fj n W)(h:TabBy n W way Z T):T<=262144:=by
 rcases h with⟨_,N,b,rfl,rfl⟩|⟨_,rfl,rfl⟩
 ·have a:EM.Ws n W:=⟨hw.lo,hw.hi,hw.len,hw.pm⟩;exact EM.D_le (EM.st_ok a N b.up).1 a.n6
 ·have h:=yG hw.hi;omega
theorem A0{n k:Nat}{T:Int}{Z:List (List Int)}(tb:Jo n T Z)(hT:T<=262144)(hf:HM.Fin Z T k):LotsOk n (HM.lotsL Z T k) T:=by
 have I:=HM.it_ok tb.reg tb.t0 tb.lo k hf.2;have c:(HM.lotsL Z T k).length=k:=by unfold HM.lotsL;rw[cx,fb]
 have b:∀l∈HM.lotsL Z T k,∃j,j<k/\l=HM.lotAt Z T j:=λl h=>by
  unfold HM.lotsL at h;obtain⟨j,a,rfl⟩:=dv.mp h;exact⟨j,dY.mp a,rfl⟩
 refine⟨?_,λl h=>?_,λl h=>?_,?_,?_,λl h=>?_⟩
 ·rw[c,cw_lots Z T k k (cI _),I.wts,hf.1];omega
 ·obtain⟨j,a,rfl⟩:=b l h;exact(I.lots j a).w1
 ·obtain⟨j,a,rfl⟩:=b l h;have h1:=(I.lots j a).wR;have h2:=(HM.it_ok tb.reg tb.t0 tb.lo j λi d=>hf.2 i (by omega)).rT;show HM.wOf (HM.it Z T j).1<=_;omega
 ·rw[c]
  cases k with
  | zero=>
   have:T=0:=hf.1;have:=tb.t0;omega
  | succ k=>omega
 ·rw[c];have h1:=I.last hf.1;have h2:=HM.pn_le tb.hi Z;omega
 ·obtain⟨j,a,rfl⟩:=b l h;exact(I.lots j a).pm.len
def JT(K:cu)(H:Hp)(v:V)(x:Str×Str):Prop:=∃a,v = .ref a/\SqT K H a [.str x.1,.str x.2]
def Ee(ts:List Str)(d:List Int):List Str:=d.map λt=>ts.getD t.toNat ea
def Ia(K:cu)(C:cG)(x:Xs):Sp:=λvs H Q E=>∃(s d m:cG) (ps ts:List Str) (R:List (Str×V)) (way:Str) (num:Int×Int),vs=[.ref s,.str way,.ref m]/\BookAt C H s d ps ts R/\ps.length<=60/\ts.length=ps.length/\IsF K H (.ref m) num/\Sz 2000 num/\0<num.2/\
 ((∃p∈ps,El R p=none)->∀H',Same H H'->E (.ref x.Unready) none H')/\
 ((∀p∈ps,El R p≠none)->∃W,ToldW K H R ps W/\Fj ps.length W/\(way≠"eaten"->way≠"turns"->∀H',Same H H'->E (.ref x.NoWay) none H')/\
  (way="eaten"\/way="turns"->EO num->∀H',Same H H'->E (.ref x.NoPick) none H')/\
  (¬EO num->∀Z T k i l xs H',TabBy ps.length W way Z T->HM.Fin Z T k->First (HM.lotsL Z T k) T num i->Same H H'->H l=none->H' l=some (.lst xs)->dr (JT K H') xs (ps.zip (Ee ts ((HM.lotsL Z T k).getD i (0,[])).2))->Q (.ref l) H'))
theorem TabBy.way{n:Nat}{W:List (List Int)}{way:Str}{Z:List (List Int)}{T:Int}(h:TabBy n W way Z T):way="eaten"\/way="turns":=by
 rcases h with⟨h,_⟩|⟨h,_⟩
 ·exact .inl h
 ·exact .inr h
def Ltr(z:Str):Prop:=∀c∈z.cps.toList,97<=c/\c<=122
def JB:Str:="abcdefghijklmnopqrstuvwxyz"
theorem Dc:JB.cps.toList=(db 26).map λi=>97+i:=by decide +kernel
theorem Cp{i:Int}(h0:0<=i)(h1:i<26):G6 JB.cps.toList i=some (97+i.toNat):=by
 refine sE h0 ?_;rw[Dc,cH,d9 (by omega)];rfl
theorem sJ(a b:Str):(a++b).cps.toList=a.cps.toList++b.cps.toList:=by
 show(a.cps++b.cps).toList=_;simp
theorem t5(a:Str):a.length=a.cps.toList.length:=by simp[fJ]
theorem tq(a b:Str):(a++b).length=a.length+b.length:=by rw[t5,t5,t5,sJ,dq]
theorem Ltr.app{a b:Str}(h1:Ltr a)(h2:Ltr b):Ltr (a++b):=λc d=>by
 rw[sJ]at d;rcases dJ.mp d with h|h
 ·exact h1 c h
 ·exact h2 c h
theorem Ltr.one{n:Nat}(h:n<26):Ltr ⟨#[97+n]⟩:=λc a=>by
 have:c=97+n:=by simpa using a
 omega
def JM:Sp:=λvs H Q _=>∃(c:Int) (n:Nat),vs=[.int c,.int n]/\n<=60/\∀z:Str,z.length=n->Ltr z->Q (.str z) H
theorem BT{i:Nat}(h:i<26):qH JB ⟨#[97+i]⟩=(i:Int):=by
 have:∀i,i<26->qH JB ⟨#[97+i]⟩=(i:Int):=by decide +kernel
 exact this i h
def ES(b:List Nat)(p sz k:Nat):List Nat:=b.take p++([97+(b.getD p 97-97+3*k)%26]++(b.drop (p+1)).take (sz-(p+1)))
def Ip:Sp:=λvs H Q _=>∃(b:Str) (p sz k:Nat),vs=[.str b,.int p,.int sz,.int k]/\b.length=12/\Ltr b/\p<sz/\sz<=12/\k<=60/\Q (.str ⟨(ES b.cps.toList p sz k).toArray⟩) H
theorem yF{b:Str}{p:Nat}(h:p<=b.cps.toList.length):j6 b none (some (p:Int))=⟨(b.cps.toList.take p).toArray⟩:=by
 rw[eq_of_beq (slice_closes_to (x:=b) (j:=(p:Int)) ⟨by omega,by omega⟩)];rw[show((p:Int)-0).toNat=p by omega,show Int.toNat 0=0 from rfl,List.drop_zero]
theorem zO{b:Str}{i j:Nat}(h1:i<=j)(h2:j<=b.cps.toList.length):j6 b (some (i:Int)) (some (j:Int))=⟨((b.cps.toList.drop i).take (j-i)).toArray⟩:=by
 rw[eq_of_beq (slice_closes (x:=b) (i:=(i:Int)) (j:=(j:Int)) ⟨by omega,by omega,by omega⟩)];rw[show((j:Int)-(i:Int)).toNat=j-i by omega,show(i:Int).toNat=i by omega]
theorem uB(l:List Nat):(⟨l.toArray⟩:Str).length=l.length:=by rw[t5]
theorem xC{b:List Nat}{p sz k:Nat}(hb:b.length=12)(hp:p<sz)(hs:sz<=12):(ES b p sz k).length=sz:=by
 unfold ES;rw[dq,dq,cV,cV,iY,eU,hb];omega
theorem Bv{b:List Nat}{p sz k:Nat}(hb:b.length=12)(hp:p<12):(ES b p sz k)[p]?=some (97+(b.getD p 97-97+3*k)%26):=by
 unfold ES;have a:(b.take p).length=p:=by rw[cV,hb];omega
 rw[eZ (by omega),a,il];rfl
theorem zK{b:List Nat}{p sz k k':Nat}(hb:b.length=12)(hp:p<12)(hk:k<6)(hk':k'<6)(h:ES b p sz k=ES b p sz k'):k=k':=by
 have e:=congrArg (λl:List Nat=>l[p]?) h;simp only[Bv hb hp]at e;have:=Option.some.inj e;omega
theorem AG{b:List Nat}{p sz k:Nat}(hb:∀c∈b,97<=c/\c<=122):∀c∈ES b p sz k,97<=c/\c<=122:=λc a=>by
 unfold ES at a;rcases dJ.mp a with h|h
 ·exact hb c (gu h)
 ·rcases dJ.mp h with h|h
  ·rw[cK.mp h];omega
  ·exact hb c (mi (gu h))
theorem AK{n:Nat}(h1:1<=n)(h6:n<=6){f:Nat->Str}(hw:∀k,k<n->Wd (f k))(hi:∀k k',k<n->k'<n->f k=f k'->k=k'):Roll ((db n).map f):=by
 refine⟨by simpa using h1,by simpa using h6,λw h=>?_,?_⟩
 ·obtain⟨k,hk,rfl⟩:=dv.mp h;exact hw k (dY.mp hk)
 ·refine jt.mpr (pY (λ {i j} a c b e=>b ?_) n9);exact hi i j (dY.mp a) (dY.mp c) e
theorem yl{b:Str}{p sz n:Nat}(hb:b.length=12)(hl:Ltr b)(hp:p<sz)(hs:sz<=12)(h1:1<=n)(h6:n<=6):Roll ((db n).map λk=>(⟨(ES b.cps.toList p sz k).toArray⟩:Str)):=by
 have a:b.cps.toList.length=12:=by rw[<-t5];exact hb
 refine AK h1 h6 (λk _=>⟨?_,?_,λc d=>AG hl c (by simpa using d)⟩) λk g hk f e=>?_
 ·rw[uB,xC a hp hs];omega
 ·rw[uB,xC a hp hs];exact hs
 ·refine zK (sz:=sz) a (show p<12 by omega) (by omega) (by omega) ?_;have:=congrArg (λz:Str=>z.cps.toList) e;simpa using this
theorem zu{b:Str}{n:Nat}(hb:b.length=12)(hl:Ltr b)(h1:1<=n)(h6:n<=6):Roll ((db n).map λk=>(⟨(b.cps.toList.take (k+1)).toArray⟩:Str)):=by
 have a:b.cps.toList.length=12:=by rw[<-t5];exact hb
 refine AK h1 h6 (λk hk=>⟨?_,?_,λc d=>hl c (gu (by simpa using d))⟩) λk g hk f e=>?_
 ·rw[uB,cV,a];omega
 ·rw[uB,cV,a];omega
 ·have:=congrArg fJ e;simp only[uB,cV,a]at this;omega
def Hf(K:cu):Sp:=λvs H Q _=>∃(a:cG) (ns:List Int) (at' n:Nat),vs=[.ref a,.int at',.int n]/\SqL K H a (ns.map V.int)/\1<=n/\n<=6/\∀p ws H',Same H H'->H p=none->H' p=some (.lst (ws.map V.str))->Roll ws->ws.length=n->Q (.ref p) H'
theorem zm{b:Str}{p sz n:Nat}{c:Prop}[Decidable c](hb:b.length=12)(hl:Ltr b)(hp:p<sz)(hs:sz<=12)(h1:1<=n)(h6:n<=6):Roll ((db n).map λk=>if c then(⟨(b.cps.toList.take (k+1)).toArray⟩:Str)else⟨(ES b.cps.toList p sz k).toArray⟩):=by
 by_cases h:c
 ·simp only[if_pos h];exact zu hb hl h1 h6
 ·simp only[if_neg h];exact yl hb hl hp hs h1 h6
theorem Ltr.asc{z:Str}(h:Ltr z):GS z:=λc a=>by have:=h c a;omega
theorem Wd.asc{z:Str}(h:Wd z):GS z:=λc a=>by have:=h.cs c a;omega
theorem vP{ns:List Int}{i:Nat}(h:i<ns.length):G6 (ns.map V.int) (i:Int)=some (.int (ns.getD i 0)):=si (tw h)
theorem Ch:(" ":Str)=⟨#[32]⟩:=by decide +kernel
def KH(w:Str):Prop:=32∉w.cps.toList
theorem yy:∀{a b r s:List Nat},32∉a->32∉b->a++32::r=b++32::s->a=b/\r=s
 | [],[],r,s,_,_,h=>by simpa using h
 | [],y::b,r,s,_,hb,h=>by
  have:32=y:=(List.cons.inj h).1
  exact absurd (this▸cM) hb
 | x::a,[],r,s,ha,_,h=>by
  have:x=32:=(List.cons.inj h).1
  exact absurd (this▸cM) ha
 | x::a,y::b,r,s,ha,hb,h=>by
  have h1:=List.cons.inj h
  have c:=yy (λz=>ha (cO _ z)) (λz=>hb (cO _ z)) h1.2
  exact⟨by rw[h1.1,c.1],c.2⟩
theorem Jb(x y:Str)(r:List Str):(iW " " (x::y::r)).cps.toList=x.cps.toList++32::(iW " " (y::r)).cps.toList:=by
 show(x++" "++iW " " (y::r)).cps.toList=_;rw[sJ,sJ,Ch];simp
theorem yN:∀{a b:List Str},a≠[]->b≠[]->(∀w∈a,KH w)->(∀w∈b,KH w)->iW " " a=iW " " b->a=b
 | [],_,h,_,_,_,_=>absurd rfl h
 | _::_,[],_,h,_,_,_=>absurd rfl h
 | [x],[y],_,_,_,_,h=>by rw[show x=y from h]
 | [x],y::z::b,_,_,ha,_,h=>by
  have e:=congrArg (λs:Str=>s.cps.toList) h
  rw[Jb]at e
  refine absurd ?_ (ha x cM)
  show 32∈(iW " " [x]).cps.toList
  rw[e]
  simp
 | x::z::a,[y],_,_,_,hb,h=>by
  have e:=congrArg (λs:Str=>s.cps.toList) h
  rw[Jb]at e
  refine absurd ?_ (hb y cM)
  show 32∈(iW " " [y]).cps.toList
  rw[<-e]
  simp
 | x::u::a,y::v::b,_,_,ha,hb,h=>by
  have e:=congrArg (λs:Str=>s.cps.toList) h
  rw[Jb,Jb]at e
  have c:=yy (ha x cM) (hb y cM) e
  have f:=yN (a:=u::a) (b:=v::b) (oj _ _) (oj _ _) (λw d=>ha w (cO _ d)) (λw d=>hb w (cO _ d)) (wG c.2)
  rw[f,wG c.1]
theorem tm{ws:List Str}(h0:ws≠[])(h:∀w∈ws,KH w):wordsOf (fh " " ws)=ws:=by
 unfold wordsOf;refine yN ?_ h0 ?_ h ?_
 ·have:=split_pos (fh " " ws) " ";intro z;rw[z]at this;exact absurd this (by decide)
 ·rw[Ch];exact StrLaws.split_free _ 32
 ·rw[mZ];exact iB " " ws
structure TxtOk(ws:List Str):Prop where
 len:ws.length<=7
 wd:∀w∈ws,w.length<=13
 cs:∀w∈ws,∀c∈w.cps.toList,c<128/\c≠32
theorem tN:∀{ws:List Str},(∀w∈ws,w.length<=13)->(ws.map (·.length)).sum<=13*ws.length
 | [],_=>cI _
 | x::ws,h=>by
  have b:=tN (ws:=ws) λw a=>h w (cO _ a)
  have:=h x cM
  simp only[dN,eR,dQ]
  omega
theorem TxtOk.out{ws:List Str}(h:TxtOk ws):(fh " " ws).length<=500/\GS (fh " " ws)/\(wordsOf (fh " " ws)).length<64:=by
 have d:=h.len;have f:=tN h.wd;have e:fh " " ws=iW " " ws:=iB " " ws;refine⟨?_,?_,?_⟩
 ·have:=jB " " ws;rw[show(" ":Str).length=1 by decide +kernel]at this;rw[e];omega
 ·rw[e];intro c a;rcases(o4 " " c ws).mp a with⟨w,b,a⟩|⟨_,a⟩
  ·exact(h.cs w b c a).1
  ·rw[Ch]at a;have:c=32:=by simpa using a
   omega
 ·by_cases h0:ws=[]
  ·subst h0;decide +kernel
  ·rw[tm h0 λw b a=>(h.cs w b 32 a).2 rfl];omega
theorem TxtOk.sumk{ws:List Str}(h:TxtOk ws):(ws.map fJ).sum+ws.length<=1048576:=by
 have b:=h.len;have a:(ws.map fJ).sum<=13*ws.length:=tN h.wd;omega
theorem v6{ts:List Str}{d:List Int}(h:∀t∈d,t.toNat<ts.length):∀w∈Ee ts d,w∈ts:=λw a=>by
 unfold Ee at a;obtain⟨t,b,rfl⟩:=dv.mp a;rw[cC,cz (h t b)];exact cW _
theorem x8{num:Int}{n:Nat}:∀t∈LM.perm num n,0<=t/\t.toNat<n:=λt b=>by
 have:=(LM.perm_succ_perm num n).mem_iff.mp b;obtain⟨i,a,rfl⟩:=dv.mp this;have:=dY.mp a;show 0<=(i:Int)/\(i:Int).toNat<n;omega
theorem wP{ts:List Str}{num:Int}(h:Roll ts):TxtOk (Ee ts (LM.perm num ts.length))/\(∀w∈Ee ts (LM.perm num ts.length),w∈ts)/\(Ee ts (LM.perm num ts.length)).length=ts.length:=by
 have b:=v6 (ts:=ts) (d:=LM.perm num ts.length) λt g=>(x8 t g).2
 have e:(Ee ts (LM.perm num ts.length)).length=ts.length:=by unfold Ee;rw[cx,LM.perm_len]
 refine⟨⟨by rw[e];have:=h.hi;omega,λw a=>by have:=(h.wd w (b w a)).hi;omega,λw a c f=>?_⟩,b,e⟩;have:=(h.wd w (b w a)).cs c f;omega
theorem DP{a b:Str}(h1:∀c∈a.cps.toList,c<128/\c≠32)(h2:∀c∈b.cps.toList,c<128/\c≠32):∀c∈(a++b).cps.toList,c<128/\c≠32:=λc d=>by
 rw[sJ]at d;rcases dJ.mp d with h|h
 ·exact h1 c h
 ·exact h2 c h
theorem DL{z:Str}(h:(z.cps.toList.all λc=>decide (c<128/\c≠32))=true):∀c∈z.cps.toList,c<128/\c≠32:=λc a=>of_decide_eq_true (dZ.mp h c a)
theorem yi{num:Int×Int}:¬EO num↔0<=num.1/\num.1<num.2:=by
 unfold EO Ev;simp
theorem yR{ts:List Str}(nd:ts.Nodup){i:Nat}(hi:i<ts.length):ts.idxOf ts[i]=i:=by
 have a:ts.idxOf ts[i]<ts.length:=g8.mpr (cW hi);have e:=jh a;have b:=List.pairwise_iff_getElem.mp nd;rcases iE (ts.idxOf ts[i]) i with c|c|c
 ·exact absurd e (b _ _ a hi c)
 ·exact c
 ·exact absurd e.symm (b _ _ hi a c)
theorem Roll.ok{ws:List Str}(h:Roll ws):∀w∈ws,w.length<=1000/\GS w:=λw a=>⟨dg (h.wd w a).hi (by decide),(h.wd w a).asc⟩
theorem BookAt.overL{C:cG}{H:Hp}{x d l:cG}{ps ts:List Str}{R:List (Str×V)}{ys:List V}{o:HO}(hl:H l=some (.lst ys))(h:BookAt C H x d ps ts R):BookAt C (upd H l o) x d ps ts R:=by
 obtain⟨b,e,f,a,c,h1,h2,h3,h4,h5,h6⟩:=h.ex;refine⟨b,e,f,a,c,?_,?_,h3,?_,h5,?_⟩
 ·rw[rH (sI h1 hl (λz=>nomatch z))];exact h1
 ·rw[rH (sI h2 hl (λz=>nomatch z))];exact h2
 ·rw[rH (sI h4 hl (λz=>nomatch z))];exact h4
 ·rw[rH (sI h6 hl (λz=>nomatch z))];exact h6
section
variable{K:cu}{C:cG}{H H':Hp}{pl tl c l s d:cG}{ps ts:List Str}{xs:List V}{L L':List Str}{R R':List (Str×V)}
theorem C0{ns:List Int}{lo hi:Option Int}{i:Nat}{v:V}(h:(Gy (ns.map V.int) lo hi)[i]?=some v):∃c:Int,v=V.int c:=by
 have h1:=da h;unfold Gy at h1;obtain⟨c,_,rfl⟩:=dv.mp (mi (gu h1));exact⟨c,rfl⟩
end
def Lh(K:cu)(CW:cG)(tb:XK->TS)(ts:TS):TS:=λD σ H=>
 tb (λc _ H1=>∃C,c = .ref C/\mz K C (.ref CW)=some true/\∀a,H1 a=none->ts D σ (upd H1 a (LO C a))) D σ H
section
variable{X:Cx}
theorem CP{W:Str}{CW:cG}{body suite:List Stmt}{b₀:Stmt}{np hpos pos:Pos}{tb:XK->TS}{ts:TS}(hst:X.stack=X.env::X.outer)(hfr:X.env.frame=some X.env.locals)
  (hW:G5 X.K X.mg W CW)(hg:Gl X W)(hb:MB X body tb)(hs:∀a,PSs (X.hold a) (b₀::suite) ts)(hd:(W==("__debug__":Str))=false:=by decide):
  PS X (.Try body [.ExceptHandler (some (.Name W np)) none (b₀::suite) hpos] [] [] pos) (Lh X.K CW tb ts):=by
 intro c s Q H D I h
 refine wpAny_Try_except (gj (hb c s Q H D _ (λe t=>wpAny (model X.prog X.w) X.A (noteFrame e X.env) (λ_ E=>wpAny (model X.prog X.w) X.A (setFlight e none) (λ_ m=>wpAny (model X.prog X.w) X.A (handleBy e X.env [.ExceptHandler (some (.Name W np)) none (b₀::suite) hpos]) (SP X c D) X.xe m) X.xe E) X.xe t) I ?_ h) (λf S q=>?_) λ_ _ z=>z)
 ·rintro Z S e' Y x ⟨a,C,B,G,j,rfl,F,C',P,V,hk⟩
  cases P
  have N:=F.fly
  have b:=x.ok.frames
  rw[hst]at N b
  refine wpAny_looks_onW b hfr N λh4 y l=>?_
  refine wpAny_landsW y λh5 d k=>?_
  have n:lu B X.stack a (.ref C) G h5:=by rw[hst];exact d
  have p:=x.caught F n (l.trans k)
  obtain⟨oe,R,U⟩:=d.there
  have L:h5.Ns X.env.globals X.mg:=by rw[I.ok.glob];exact p.mod.glob.keeps p.bk
  refine wpAny_handleBy_cons (codeAny_handlers_test (iH I.ok.kind hg (kT L hW.bound ?_) hd)) (by intro q;cases q)
  refine xD p.kIn hW.exc V R U (codeAny_handlers_suite ?_)
  refine lands_againW d λh6 O M=>?_
  have o:lu B X.stack a (.ref C) G h6:=by rw[hst];exact O
  have T:=x.caught F o ((l.trans k).trans M)
  refine gj (hs a c _ _ _ _ (T.hold a) (hk a F.free)) (λf s8 q=>?_) λ_ _ z=>fj z
  cases f with
  | next=>obtain⟨g,j,J,q⟩:=q;exact⟨_,_,J.unhold I.ok,q⟩
  | brk=>obtain⟨g,j,J,q⟩:=q;exact⟨_,_,J.unhold I.ok,q⟩
  | cont=>obtain⟨g,j,J,q⟩:=q;exact⟨_,_,J.unhold I.ok,q⟩
  | ret u=>obtain⟨v,g,j,J,r,q⟩:=q;exact⟨v,_,_,J.unhold I.ok,r,q⟩
 ·cases f with
  | next=>exact io q
  | ret v=>exact q
  | brk=>exact q
  | cont=>exact q
end
theorem TabBy.uniq{n:Nat}{W:List (List Int)}{way:Str}{Z Z':List (List Int)}{T T':Int}(h:TabBy n W way Z T)(h':TabBy n W way Z' T'):Z'=Z/\T'=T:=by
 have b:¬(fM "eaten")=fM "turns":=by decide
 rcases h with⟨e,N,c,rfl,rfl⟩|⟨e,rfl,rfl⟩
 ·rcases h' with⟨_,M,d,rfl,rfl⟩|⟨a,_⟩
  ·cases c.uniq d;exact⟨rfl,rfl⟩
  ·exact absurd (e.symm.trans a) b
 ·rcases h' with⟨a,_⟩|⟨_,rfl,rfl⟩
  ·exact absurd (a.symm.trans e) b
  ·exact⟨rfl,rfl⟩
def Ho(K:cu):Sp:=λvs H Q _=>∃(w:cG) (us:List V) (W:List (List Int)) (n:Nat) (way:Str),vs=[.str way,.ref w]/\(way="eaten"\/way="turns")/\SqL K H w us/\dr (IsR K H) us W/\Fj n W/\
 ∀Z T q xs H',TabBy n W way Z T->Same H H'->H q=none->H' q=some (.lst xs)->dr (RwFT K H' T) xs Z->Q (.ref q) H'
def SameBut2(x y:cG)(H H':Hp):Prop:=∀b o,b≠x->b≠y->H b=some o->H' b=some o
theorem SameBut2.of{x y:cG}{H H':Hp}(h:Same H H'):SameBut2 x y H H':=λb o _ _ e=>h b o e
theorem SameBut2.of1{x y:cG}{H H':Hp}(h:SameBut1 x H H'):SameBut2 x y H H':=λb o h1 _ e=>h b o h1 e
theorem SameBut2.of2{x y:cG}{H H':Hp}(h:SameBut1 y H H'):SameBut2 x y H H':=λb o _ h2 e=>h b o h2 e
theorem SameBut2.trans{x y:cG}{H H1 H2:Hp}(h:SameBut2 x y H H1)(h':SameBut2 x y H1 H2):SameBut2 x y H H2:=λb o a c e=>h' b o a c (h b o a c e)
section
variable{K:cu}{C:cG}{H H':Hp}{s d w e u:cG}{ps ts:List Str}{q:Nat->Prop}{m:Nat}{kvs:List (F8×V)}{xs:List V}
theorem SqT.but2{a:cG}{ys:List V}(he:H e=some (.dK kvs))(hu:H u=some (.lst xs))(z:SameBut2 e u H H')(h:SqT K H a ys):SqT K H' a ys:=by
 rcases h with(h|⟨t,h⟩)|h
 ·exact .inl (.inl (z _ _ (sI h he (λz=>nomatch z)) (sI h hu (λz=>nomatch z)) h))
 ·exact .inl (.inr ⟨t,z _ _ (sI h he (λz=>nomatch z)) (sI h hu (λz=>nomatch z)) h⟩)
 ·exact .inr h
theorem IsR.but2{v:V}{row:List Int}(he:H e=some (.dK kvs))(hu:H u=some (.lst xs))(z:SameBut2 e u H H')(h:IsR K H v row):IsR K H' v row:=by
 obtain⟨a,rfl,h⟩:=h;exact⟨a,rfl,h.but2 he hu z⟩
theorem BookAt.but2{R:List (Str×V)}(he:H e=some (.dK kvs))(hu:H u=some (.lst xs))(z:SameBut2 e u H H')(hne:d≠e)(h:BookAt C H s d ps ts R):BookAt C H' s d ps ts R:=by
 obtain⟨b,f,g,a,c,h1,h2,h3,h4,h5,h6⟩:=h.ex;exact⟨b,f,g,a,c,z _ _ (sI h1 he (λz=>nomatch z)) (sI h1 hu (λz=>nomatch z)) h1,z _ _ (sI h2 he (λz=>nomatch z)) (sI h2 hu (λz=>nomatch z)) h2,h3,z _ _ (sI h4 he (λz=>nomatch z)) (sI h4 hu (λz=>nomatch z)) h4,h5,z _ _ hne (sI h6 hu (λz=>nomatch z)) h6⟩
def Kj(K:cu)(H:Hp)(R:List (Str×V))(ps:List Str)(W:List (List Int))(q:Nat->Prop):Prop:=∀i p row,q i->ps[i]?=some p->W[i]?=some row->LN.Pm ps.length row/\∃v,El R p=some v/\IsR K H v row
structure Bk52(K:cu)(C:cG)(H:Hp)(s d w:cG)(ps ts:List Str)(q:Nat->Prop)(m:Nat):Prop where
 ex:∃(us:List V) (W:List (List Int)) (R:List (Str×V)),BookAt C H s d ps ts R/\H w=some (.lst us)/\dr (IsR K H) us W/\W.length=ps.length/\R.length<=m/\Kj K H R ps W q
theorem Bk52.mono(z:Same H H')(h:Bk52 K C H s d w ps ts q m):Bk52 K C H' s d w ps ts q m:=by
 obtain⟨f,W,R,h1,h2,h3,h4,h5,h6⟩:=h.ex;refine⟨f,W,R,h1.mono z,z _ _ h2,Paired.mapP h3 λ_ _ h=>h.mono z,h4,h5,λi p e a b c=>?_⟩;obtain⟨g1,v,g2,g3⟩:=h6 i p e a b c;exact⟨g1,v,g2,g3.mono z⟩
theorem Bk52.but2(he:H e=some (.dK kvs))(hu:H u=some (.lst xs))(z:SameBut2 e u H H')(n1:d≠e)(n2:w≠u)(h:Bk52 K C H s d w ps ts q m):Bk52 K C H' s d w ps ts q m:=by
 obtain⟨g,W,R,h1,h2,h3,h4,h5,h6⟩:=h.ex;refine⟨g,W,R,h1.but2 he hu z n1,z _ _ (sI h2 he (λz=>nomatch z)) n2 h2,Paired.mapP h3 λ_ _ h=>h.but2 he hu z,h4,h5,λi p f a b c=>?_⟩;obtain⟨g1,v,g2,g3⟩:=h6 i p f a b c;exact⟨g1,v,g2,g3.but2 he hu z⟩
theorem Bk52.dk(h:Bk52 K C H s d w ps ts q m):∃kvs,H d=some (.dK kvs):=by
 obtain⟨e,W,R,h1,_⟩:=h.ex;obtain⟨b,f,g,a,c,_,_,_,_,_,h6⟩:=h1.ex;exact⟨_,h6⟩
theorem Bk52.wl(h:Bk52 K C H s d w ps ts q m):∃us,H w=some (.lst us):=by
 obtain⟨us,W,R,h1,h2,_⟩:=h.ex;exact⟨us,h2⟩
theorem Bk52.imp{q':Nat->Prop}{m':Nat}(hq:∀i,i<ps.length->q' i->q i)(hm:m<=m')(h:Bk52 K C H s d w ps ts q m):Bk52 K C H s d w ps ts q' m':=by
 obtain⟨f,W,R,h1,h2,h3,h4,h5,h6⟩:=h.ex;exact⟨f,W,R,h1,h2,h3,h4,dg h5 hm,λi p e a b c=>h6 i p e (hq i (cL.mp b).1 a) b c⟩
theorem Bk52.all(rp:Roll ps)(h:Bk52 K C H s d w ps ts (λ_=>True) m):∃(us:List V) (W:List (List Int)) (R:List (Str×V)),BookAt C H s d ps ts R/\H w=some (.lst us)/\dr (IsR K H) us W/\ToldW K H R ps W/\Fj ps.length W/\(∀p∈ps,El R p≠none)/\R.length<=m:=by
 obtain⟨us,W,R,h1,h2,h3,h4,h5,h6⟩:=h.ex;refine⟨us,W,R,h1,h2,h3,s9 h4.symm λi p c hp b=>(h6 i p c trivial hp b).2,⟨rp.lo,rp.hi,h4,λr b=>?_⟩,λp hp e=>?_,h5⟩
 ·obtain⟨i,a⟩:=iA.mp b;have f:=(cL.mp a).1;exact(h6 i ps[i] r trivial (cz (by omega)) a).1
 ·obtain⟨i,a⟩:=iA.mp hp;have f:=(cL.mp a).1;obtain⟨_,v,g,_⟩:=h6 i p W[i] trivial a (cz (by omega));rw[e]at g
  cases g
theorem Bk52.put{us:List V}{W:List (List Int)}{R:List (Str×V)}{place:Nat}{p:Str}{row:List Int}{r r0:cG}(rp:Roll ps)(hd:H d=some (.dK kvs))(hw:H w=some (.lst us))(hu:dr (IsR K H) us W)(hW:W.length=ps.length)(hR:R.length<=m)(hq:Kj K H R ps W q)
  (U:SameBut2 d w H H')(hp:ps[place]?=some p)(hb:BookAt C H' s d ps ts (G8 R p (.ref r)))(hw':H' w=some (.lst (us.set place (.ref r0))))(hr:IsR K H' (.ref r) row)(hr0:IsR K H' (.ref r0) row)(hpm:LN.Pm ps.length row):Bk52 K C H' s d w ps ts (λi=>q i\/i=place) (m+1):=by
 have u:=(cL.mp hp).1
 have h:=Paired.len hu
 refine⟨_,W.set place row,_,hb,hw',s9 (by rw[je,je];exact h) λi v x b a=>?_,by rw[je];exact hW,dg (yx ..) (by omega),λi y x e f a=>?_⟩
 ·rw[jx]at b a
  by_cases c:place=i
  ·rw[if_pos c,if_pos (by omega)]at b a
   cases b
   cases a
   exact hr0
  ·rw[if_neg c]at b a
   obtain⟨A,g,t⟩:=Paired.get' hu b
   rw[a]at g
   cases g
   exact t.but2 hd hw U
 ·rw[jx]at a
  by_cases c:place=i
  ·subst c
   rw[if_pos rfl,if_pos (by omega)]at a
   cases a
   rw[hp]at f
   cases f
   exact⟨hpm,_,by rw[xp,if_pos rfl],hr⟩
  ·rw[if_neg c]at a
   rcases e with e|e
   ·obtain⟨g1,v,g2,g3⟩:=hq i y x e f a
    have j:y≠p:=λz=>c (by
     subst z
     obtain⟨o,k⟩:=cL.mp hp
     obtain⟨n,l⟩:=cL.mp f
     rw[<-yR rp.nd o,<-yR rp.nd n,k,l])
    exact⟨g1,v,by rw[xp,if_neg j];exact g2,g3.but2 hd hw U⟩
   ·exact absurd e.symm c
end
theorem AX{ts:List Str}:(LM.rng ts.length).map (λt=>ts.getD t.toNat ea)=ts:=by
 unfold LM.rng;refine k8 (by simp) λi h1 h2=>?_
 simp[cC,cz h2]
theorem xT{ts:List Str}{row:List Int}(h:LN.Pm ts.length row):(Ee ts row).Perm ts:=by
 have:=h.map (λt=>ts.getD t.toNat ea);rw[AX]at this;exact this
theorem xQ{ts:List Str}{row:List Int}(rt:Roll ts)(h:LN.Pm ts.length row):Gj ts (Ee ts row)=row:=by
 unfold Gj Ee;rw[ik];have:∀t∈row,((λw=>(ts.idxOf w:Int))∘λt=>ts.getD t.toNat ea) t=t:=λt b=>by
  have c:=h.mem.mp b;have a:t.toNat<ts.length:=by omega
  show(ts.idxOf (ts.getD t.toNat ea):Int)=t;rw[cC,cz a];show(ts.idxOf ts[t.toNat]:Int)=t;rw[yR rt.nd a];omega
 rw[fF this];exact List.map_id' row
theorem Db(num:Int)(n:Nat):LN.Pm n (LM.perm num n):=LM.perm_succ_perm num n
theorem wO{ts:List Str}{num:Int}(rt:Roll ts):wordsOf (fh " " (Ee ts (LM.perm num ts.length)))=Ee ts (LM.perm num ts.length):=by
 obtain⟨c,_,a⟩:=wP (num:=num) rt;have h1:=rt.lo;exact tm (λz=>by rw[z]at a;rw[<-a]at h1;exact absurd h1 (by decide)) λw d b=>(c.cs w d 32 b).2 rfl
def dS(T:Int)(x:Str×Int):iO:= .tuple [.str x.1,dF (FQ.red x.2 T)]
theorem Reps.of_shr{K:cu}{H:Hp}{T:Int}:∀{xs:List V} {L:List (Str×Int)},dr (IsShr K H T) xs L->Reps K H xs (L.map (dS T))
 | _,_,.nil=> .nil
 | _,_,.cons h t=>by
  obtain⟨a,g,rfl,h1,h2⟩:=h
  exact .cons (.tup h1 (.cons (.str _) (.cons h2.rep .nil)) (show(2:Nat)<=1000 by decide)) (Reps.of_shr t)
theorem Da{T:Int}{L:List (Str×Int)}(h:∀x∈L,GS x.1):F9 3 (.list (L.map (dS T)))=true:=by
 show(L.map (dS T)).all (F9 2)=true;rw[dZ];intro d a;obtain⟨x,b,rfl⟩:=dv.mp a;show([gM x.1,dF (FQ.red x.2 T)]).all (F9 1)=true;rw[jJ,yv (h x b) 1];simp[dF,F9]
def dP(x:Str×Str):iO:= .tuple [.str x.1,.str x.2]
theorem Reps.of_pw{K:cu}{H:Hp}:∀{xs:List V} {L:List (Str×Str)},dr (JT K H) xs L->Reps K H xs (L.map dP)
 | _,_,.nil=> .nil
 | _,_,.cons h t=>by
  obtain⟨a,rfl,h1⟩:=h
  exact .cons (.tup h1 (.cons (.str _) (.cons (.str _) .nil)) (show(2:Nat)<=1000 by decide)) (Reps.of_pw t)
theorem Dv{L:List (Str×Str)}(h:∀x∈L,GS x.1/\GS x.2):F9 3 (.list (L.map dP))=true:=by
 show(L.map dP).all (F9 2)=true;rw[dZ];intro d b;obtain⟨x,a,rfl⟩:=dv.mp b;show([gM x.1,gM x.2]).all (F9 1)=true;rw[jJ,yv (h x a).1 1,jJ,yv (h x a).2 1];rfl
theorem zN{x T:Int}(hT:0<T)(hx:0<=x):0<(FQ.red x T).1↔x≠0:=by
 have h1:=FQ.red_worth (t:=x) (b:=T) (by omega);have h2:=(FQ.red_low (t:=x) (b:=T) (by omega)).pos;constructor
 ·intro h z;rw[z,ju]at h1;have:=gU h hT;rw[z]at this;omega
 ·intro h;have h3:0<x*(FQ.red x T).2:=gU (by omega) h2;rw[<-h1]at h3;exact Int.pos_of_mul_pos_left h3 hT
structure TxtG(ws:List Str):Prop where
 len:ws.length<=8
 sum:(ws.map fJ).sum<=300
 cs:∀w∈ws,∀c∈w.cps.toList,c<128/\c≠32
theorem TxtOk.g{ws:List Str}(h:TxtOk ws):TxtG ws:=by
 have b:=h.len;have a:(ws.map fJ).sum<=13*ws.length:=tN h.wd;exact⟨by omega,by omega,h.cs⟩
theorem TxtG.out{ws:List Str}(h:TxtG ws):(fh " " ws).length<=500/\GS (fh " " ws)/\(wordsOf (fh " " ws)).length<64:=by
 have d:=h.len;have f:=h.sum;have e:fh " " ws=iW " " ws:=iB " " ws;refine⟨?_,?_,?_⟩
 ·have:(iW " " ws).length<=(ws.map fJ).sum+ws.length*(" ":Str).length:=jB " " ws;rw[show(" ":Str).length=1 by decide +kernel]at this;rw[e];omega
 ·rw[e];intro c a;rcases(o4 " " c ws).mp a with⟨w,b,a⟩|⟨_,a⟩
  ·exact(h.cs w b c a).1
  ·rw[Ch]at a;have:c=32:=by simpa using a
   omega
 ·by_cases h0:ws=[]
  ·subst h0;decide +kernel
  ·rw[tm h0 λw b a=>(h.cs w b 32 a).2 rfl];omega
theorem TxtG.sumk{ws:List Str}(h:TxtG ws):(ws.map fJ).sum+ws.length<=1048576:=by
 have b:=h.len;have a:=h.sum;omega
theorem Roll.sum{ts:List Str}(h:Roll ts):(ts.map fJ).sum<=78:=by
 have b:(ts.map fJ).sum<=13*ts.length:=tN λw a=>by have:=(h.wd w a).hi;omega
 have:=h.hi;omega
theorem Roll.sumk{ts:List Str}(h:Roll ts):(ts.map fJ).sum+ts.length<=1048576:=by
 have:=h.sum;have:=h.hi;omega
theorem AJ(o:Str):∀(ws:List Str) (k:Nat),((ws.set k o).map fJ).sum<=(ws.map fJ).sum+o.length
 | [],_=>du _
 | x::ws,0=>by
  simp only[List.set_cons_zero,dN,eR]
  omega
 | x::ws,k+1=>by
  have:=AJ o ws k
  simp only[List.set_cons_succ,dN,eR]
  omega
theorem TxtOk.gset{ws:List Str}{k:Nat}{o:Str}(h:TxtOk ws)(h1:o.length<=100)(h2:∀c∈o.cps.toList,c<128/\c≠32):TxtG (ws.set k o):=by
 have b:=h.len;have d:(ws.map fJ).sum<=13*ws.length:=tN h.wd;have:=AJ o ws k;refine⟨by rw[je];omega,by omega,λw a=>?_⟩;rcases kt a with z|z
 ·exact h.cs w z
 ·rw[z];exact h2
theorem TxtOk.gapp{ws:List Str}{o:Str}(h:TxtOk ws)(ho:o∈ws):TxtG (ws++[o]):=by
 have b:=h.len;have c:(ws.map fJ).sum<=13*ws.length:=tN h.wd;have:=h.wd o ho;refine⟨by rw[dq,eU];omega,?_,λw a=>?_⟩
 ·rw[cS,oC,dN,qb,eR,List.sum_nil];omega
 ·rcases dJ.mp a with z|z
  ·exact h.cs w z
  ·rw[cK.mp z];exact h.cs o ho
theorem TxtOk.gdrop{ws:List Str}(h:TxtOk ws):TxtG ws.dropLast:=by
 have b:∀w∈ws.dropLast,w∈ws:=λw a=>jO _ a
 exact TxtOk.g ⟨dg (by rw[gS];omega) h.len,λw a=>h.wd w (b w a),λw a=>h.cs w (b w a)⟩
theorem Js{ts:List Str}(h:Roll ts):fh "" ts++"q"∉ts/\(fh "" ts++"q").length<=100/\(∀c∈(fh "" ts++"q").cps.toList,c<128/\c≠32)/\(fh "" ts).length+("q":Str).length<=1000:=by
 have e:fh "" ts=iW "" ts:=iB "" ts;have b:("q":Str).length=1:=by decide +kernel
 have g:("":Str).length=0:=by decide +kernel
 have d:(iW "" ts).length<=(ts.map fJ).sum+ts.length*("":Str).length:=jB "" ts;rw[g]at d;have j:=h.sum;rw[e];refine⟨λz=>?_,?_,DP (λc a=>?_) (DL (by decide +kernel)),by omega⟩
 ·have:=join_mem_le "" ts _ z;rw[tq,b]at this;omega
 ·rw[tq,b];omega
 ·rcases(o4 "" c ts).mp a with⟨w,f,a⟩|⟨_,a⟩
  ·have:=(h.wd w f).cs c a;omega
  ·exact absurd a (by rw[show("":Str).cps.toList=[]by decide +kernel];exact λz=>nomatch z)
theorem Ak{ts ws:List Str}{k:Nat}{f:Str}(ok:TxtOk ws)(hk:k<ws.length)(h1:f∉ts)(h2:∀c∈f.cps.toList,c<128/\c≠32):¬(wordsOf (fh " " (ws.set k f))).Perm ts:=λz=>by
 have b:f∈ws.set k f:=List.mem_set hk f;rw[tm (λe=>by rw[e]at b;exact nomatch b) λw d a=>?_]at z
 ·exact h1 (z.mem_iff.mp b)
 ·rcases kt d with y|y
  ·exact(ok.cs w y 32 a).2 rfl
  ·rw[y]at a;exact(h2 32 a).2 rfl
theorem AH{ts ws:List Str}{o:Str}(ok:TxtOk ws)(ho:o∈ws)(hl:ws.length=ts.length):¬(wordsOf (fh " " (ws++[o]))).Perm ts:=λz=>by
 rw[tm (by simp) λw b a=>?_]at z
 ·have:=z.length_eq;rw[dq,eU]at this;omega
 ·rcases dJ.mp b with y|y
  ·exact(ok.cs w y 32 a).2 rfl
  ·rw[cK.mp y]at a;exact(ok.cs o ho 32 a).2 rfl
theorem Al{ts ws:List Str}(ok:TxtOk ws)(rt:Roll ts)(hl:ws.length=ts.length):¬(wordsOf (fh " " ws.dropLast)).Perm ts:=λz=>by
 have h1:=rt.lo;by_cases h0:ws.dropLast=[]
 ·rw[h0,show wordsOf (fh " " [])=[ea]by decide +kernel]at z;have:=(rt.wd _ (z.mem_iff.mp cM)).lo;exact absurd this (by decide)
 ·rw[tm h0 λw b a=>(ok.cs w (jO _ b) 32 a).2 rfl]at z;have:=z.length_eq;rw[gS]at this;omega
theorem Cm(n:Nat): -(2^62)<=(n:Int):=nF (by decide) (m3 n)
theorem CC{n:Nat}(h:n<=1000):(n:Int)<2^62:=Int.lt_of_le_of_lt (ql.mpr h) (by decide)
theorem Lr(b:Bool):∃way:Str,(way="eaten"\/way="turns")/\G6 [V.str "eaten",V.str "turns"] (if b=true then 1 else 0)=some (.str way):=by
 cases b with
 | true=>exact⟨_,.inr rfl,rfl⟩
 | false=>exact⟨_,.inl rfl,rfl⟩
theorem LG{c:Prop}{_:Decidable c}{A:Prop}{G:Hp->Prop}(P:Hp->Prop)(H:Hp)(hx:P H)(h:∀H,P H->G H)(hA:(∀H,P H->G H)->A):if decide c=true then A else G H:=by
 by_cases e:c
 ·exact Ji e (hA h)
 ·exact Hj e (h H hx)
theorem K9{t b:Int}(h0:0<=t)(h1:t<b)(hb:b<=1000000):Sz 2000 (FQ.red t b)/\0<(FQ.red t b).2/\¬EO (FQ.red t b):=by
 have a:=FQ.red_worth (t:=t) (b:=b) (by omega);have hp:=(FQ.red_low (t:=t) (b:=b) (by omega)).pos;refine⟨tQ (by omega) (cU (show t.natAbs<2^20 by omega) ?_) (cU (show b.natAbs<2^20 by omega) ?_),hp,yi.mpr ⟨?_,?_⟩⟩
 ·exact eB (by decide) (by decide)
 ·exact eB (by decide) (by decide)
 ·refine oO.mp λz=>?_
  have h2:(FQ.red t b).1*b<0:=Int.mul_neg_of_neg_of_pos z (by omega);have h3:0<=t*(FQ.red t b).2:=iQ h0 (by omega);omega
 ·refine Int.not_le.mp λz=>?_
  have h2:(FQ.red t b).2*b<=(FQ.red t b).1*b:=e7 z (by omega);have h3:t*(FQ.red t b).2<b*(FQ.red t b).2:=f6 h1 hp;rw[gn b]at h3;omega
def GQ(K:cu)(C:cG):Sp:=λvs H Q _=>∃(s d w pl tl:cG) (ps ts:List Str) (q:Nat->Prop) (m place:Nat) (num:Int),vs=[.ref s,.ref pl,.ref tl,.ref w,.int place,.int num]/\Bk52 K C H s d w ps ts q m/\m<900/\Roll ps/\Roll ts/\ts.length=ps.length/\
 H pl=some (.lst (ps.map V.str))/\H tl=some (.lst (ts.map V.str))/\pl≠w/\tl≠w/\place<ps.length/\∀H',SameBut2 d w H H'->Bk52 K C H' s d w ps ts (λi=>q i\/i=place) (m+1)->Q .non H'
def Gk(K:cu)(C:cG):Sp:=λvs H Q _=>∃(s d w pl tl xa:cG) (ps ts:List Str) (q:Nat->Prop) (m:Nat) (xs:List Int),vs=[.ref s,.ref pl,.ref tl,.ref xa]/\Bk52 K C H s d w ps ts q m/\m<900/\Roll ps/\Roll ts/\ts.length=ps.length/\
 SqL K H pl (ps.map V.str)/\SqL K H tl (ts.map V.str)/\SqL K H xa (xs.map V.int)/\xs.length=7/\∀H',Same H H'->Q (.bl true) H'
def FP(K:cu)(C:cG):Sp:=λvs H Q _=>∃(s d w pl tl:cG) (ps ts:List Str) (m place:Nat) (way:Str),vs=[.ref s,.ref pl,.ref tl,.ref w,.int place,.str way]/\Bk52 K C H s d w ps ts (λ_=>True) m/\Roll ps/\Roll ts/\ts.length=ps.length/\
 SqL K H pl (ps.map V.str)/\SqL K H tl (ts.map V.str)/\place<ps.length/\(way="eaten"\/way="turns")/\∀H',Same H H'->Q (.bl true) H'
def Hg(K:cu)(C:cG):Sp:=λvs H Q _=>∃(s d w pl tl g:cG) (ps ts:List Str) (m:Nat) (way:Str) (num:Int×Int),vs=[.ref s,.ref pl,.ref tl,.ref w,.str way,.ref g]/\Bk52 K C H s d w ps ts (λ_=>True) m/\Roll ps/\Roll ts/\ts.length=ps.length/\
 SqL K H pl (ps.map V.str)/\SqL K H tl (ts.map V.str)/\(way="eaten"\/way="turns")/\IsF K H (.ref g) num/\Sz 2000 num/\0<num.2/\¬EO num/\∀H',Same H H'->Q (.bl true) H'
def Iz(K:cu)(C:cG):Sp:=λvs H Q _=>∃(s d w pl tl xa:cG) (ps ts:List Str) (m:Nat) (xs:List Int),vs=[.ref s,.ref pl,.ref tl,.ref w,.ref xa]/\Bk52 K C H s d w ps ts (λ_=>True) m/\m<900/\Roll ps/\Roll ts/\ts.length=ps.length/\
 H pl=some (.lst (ps.map V.str))/\H tl=some (.lst (ts.map V.str))/\pl≠w/\tl≠w/\SqL K H xa (xs.map V.int)/\xs.length=7/\(∀x∈xs,0<=x/\x<2147483647)/\∀H',SameBut2 d w H H'->Bk52 K C H' s d w ps ts (λ_=>True) (m+1)->Q (.bl true) H'
def pk{α:Type}(x y:α):Nat->α
 | 0=>x
 | _=>y
theorem wS{x y:cG}{j:Nat}(hj:j<2):G6 [V.ref x,V.ref y] (j:Int)=some (.ref (pk x y j)):=by
 rcases(show j=0\/j=1 by omega)with rfl|rfl
 ·rfl
 ·rfl
theorem AI{x y:cG}{j:Nat}(hj:j<2):G6 [V.ref x,V.ref y] (1-(j:Int))=some (.ref (pk x y (1-j))):=by
 rcases(show j=0\/j=1 by omega)with rfl|rfl
 ·rfl
 ·rfl
structure At52(K:cu)(C:cG)(H:Hp)(rl bl tl p0 p1 s0 s1 d0 d1 w0 w1:cG)(A B:List Str)(q:Nat->Nat->Prop)(m:Nat):Prop where
 rl:H rl=some (.lst [.ref p0,.ref p1])
 bl:H bl=some (.lst [.ref s0,.ref s1])
 tl:H tl=some (.lst [.ref w0,.ref w1])
 ro:∀j,H (pk p0 p1 j)=some (.lst ((pk A B j).map V.str))
 bk:∀j,j<2->Bk52 K C H (pk s0 s1 j) (pk d0 d1 j) (pk w0 w1 j) (pk A B j) (pk A B (1-j)) (q j) m
structure Lm(rl bl tl p0 p1 d0 d1 w0 w1:cG):Prop where
 rl:∀j,rl≠pk w0 w1 j
 bl:∀j,bl≠pk w0 w1 j
 tl:∀j,tl≠pk w0 w1 j
 ro:∀i j,pk p0 p1 i≠pk w0 w1 j
 dd:d0≠d1
 ww:w0≠w1
theorem Dx{x y:cG}{i j:Nat}(h:x≠y)(hi:i<2)(hj:j<2)(hij:i≠j):pk x y i≠pk x y j:=by
 rcases(show i=0\/i=1 by omega)with rfl|rfl
 ·obtain rfl:j=1:=by omega
  exact h
 ·obtain rfl:j=0:=by omega
  exact Ne.symm h
theorem uj{α:Type}{x y:α}{P:α->Prop}(h1:P x)(h2:P y):∀j,P (pk x y j)
 | 0=>h1
 | _+1=>h2
section
variable{K:cu}{C:cG}{H H':Hp}{rl bl tl p0 p1 s0 s1 d0 d1 w0 w1:cG}{A B:List Str}{q:Nat->Nat->Prop}{m m':Nat}
theorem At52.mono(z:Same H H')(h:At52 K C H rl bl tl p0 p1 s0 s1 d0 d1 w0 w1 A B q m):At52 K C H' rl bl tl p0 p1 s0 s1 d0 d1 w0 w1 A B q m:=
 ⟨z _ _ h.rl,z _ _ h.bl,z _ _ h.tl,λj=>z _ _ (h.ro j),λj a=>(h.bk j a).mono z⟩
theorem At52.imp{q':Nat->Nat->Prop}(hq:∀j,j<2->∀i,i<(pk A B j).length->q' j i->q j i)(hm:m<=m')(h:At52 K C H rl bl tl p0 p1 s0 s1 d0 d1 w0 w1 A B q m):At52 K C H rl bl tl p0 p1 s0 s1 d0 d1 w0 w1 A B q' m':=
 ⟨h.rl,h.bl,h.tl,h.ro,λj a=>(h.bk j a).imp (hq j a) hm⟩
theorem At52.step{j:Nat}{qj:Nat->Prop}(D:Lm rl bl tl p0 p1 d0 d1 w0 w1)(hj:j<2)(h:At52 K C H rl bl tl p0 p1 s0 s1 d0 d1 w0 w1 A B q m)(U:SameBut2 (pk d0 d1 j) (pk w0 w1 j) H H')
  (hb:Bk52 K C H' (pk s0 s1 j) (pk d0 d1 j) (pk w0 w1 j) (pk A B j) (pk A B (1-j)) qj m')(hm:m<=m'):At52 K C H' rl bl tl p0 p1 s0 s1 d0 d1 w0 w1 A B (λi x=>if i=j then qj x else q i x) m':=by
 obtain⟨e,a⟩:=(h.bk j hj).dk
 obtain⟨f,d⟩:=(h.bk j hj).wl
 refine⟨U _ _ (sI h.rl a (λz=>nomatch z)) (D.rl j) h.rl,U _ _ (sI h.bl a (λz=>nomatch z)) (D.bl j) h.bl,U _ _ (sI h.tl a (λz=>nomatch z)) (D.tl j) h.tl,λi=>U _ _ (sI (h.ro i) a (λz=>nomatch z)) (D.ro i j) (h.ro i),λi b=>?_⟩
 by_cases c:i=j
 ·subst c
  exact hb.imp (λx _ z=>by simpa using z) (cI _)
 ·exact((h.bk i b).but2 a d U (Dx D.dd b hj c) (Dx D.ww b hj c)).imp (λx _ z=>by simpa [c]using z) hm
end
theorem SqL.free{K:cu}{H:Hp}{a b:cG}{xs:List V}(h:SqL K H a xs)(hb:H b=none):a≠b\/∀H',SqL K H' a xs:=by
 rcases h with(h|⟨u,h⟩)|h
 ·exact .inl (rF h hb)
 ·exact .inl (rF h hb)
 ·exact .inr λ_=> .inr h
theorem SqL.overF{K:cu}{H:Hp}{a b:cG}{xs:List V}{o:HO}(hf:a≠b\/∀H',SqL K H' a xs)(h:SqL K H a xs):SqL K (upd H b o) a xs:=by
 rcases hf with hf|hf
 ·rcases h with(h|⟨u,h⟩)|h
  ·exact .inl (.inl (by rw[rH hf];exact h))
  ·exact .inl (.inr ⟨u,by rw[rH hf];exact h⟩)
  ·exact .inr h
 ·exact hf _
theorem SqL.keep2{K:cu}{H H':Hp}{a d w:cG}{xs:List V}{kvs:List (F8×V)}(hf:a≠w\/∀H',SqL K H' a xs)(hd:H d=some (.dK kvs))(U:SameBut2 d w H H')(h:SqL K H a xs):SqL K H' a xs:=by
 rcases hf with hf|hf
 ·rcases h with(h|⟨u,h⟩)|h
  ·exact .inl (.inl (U _ _ (sI h hd (λz=>nomatch z)) hf h))
  ·exact .inl (.inr ⟨u,U _ _ (sI h hd (λz=>nomatch z)) hf h⟩)
  ·exact .inr h
 ·exact hf _
theorem Kq{i j x k:Nat}(z:i<j\/(i=j/\x<k+1)):if i=j then((j<j\/(j=j/\x<k))\/x=k)else(i<j\/(i=j/\x<k)):=by
 split <;> omega
theorem AS(c:Int){j:Nat}(hj:j<2):G6 ((LM.mixed c 2).map V.int) (j:Int)=some (.int ((LM.mixed c 2).getD j 0)):=vP (by rw[LM.mixed_len];exact hj)
end L2
namespace Nk52
open PySem PySem.Spec PyProof.Rows L2
def Ec(i:Nat):Stmt:=cJ.main.body.getD i (.Pass ⟨0,0,0,0⟩)
def Hi(i j:Nat):Stmt:=match Ec i with | .ClassDef _ _ _ b _ _ _ _ _ _ _=>b.getD j (.Pass ⟨0,0,0,0⟩)|s=>s
structure Md(K:cu)(mg:Str->Option cA)(x:Xs)(cB:cG):Prop where
 f_is_whole:Def K mg "is_whole" (Ec 12)
 f_common_divisor:Def K mg "common_divisor" (Ec 13)
 f_fraction:Def K mg "fraction" (Ec 14)
 f_plus:Def K mg "plus" (Ec 15)
 f_minus:Def K mg "minus" (Ec 16)
 f_times:Def K mg "times" (Ec 17)
 f_before:Def K mg "before" (Ec 18)
 f_total:Def K mg "total" (Ec 19)
 f_least:Def K mg "least" (Ec 20)
 f_best_left:Def K mg "best_left" (Ec 22)
 f_time_to_stop:Def K mg "time_to_stop" (Ec 23)
 f_left_behind:Def K mg "left_behind" (Ec 24)
 f_courses_of:Def K mg "courses_of" (Ec 25)
 f_eaten_of:Def K mg "eaten_of" (Ec 26)
 f_eaten_by:Def K mg "eaten_by" (Ec 27)
 f_eaten:Def K mg "eaten" (Ec 28)
 f_deal_within:Def K mg "deal_within" (Ec 30)
 f_row_without:Def K mg "row_without" (Ec 31)
 f_lots_of:Def K mg "lots_of" (Ec 32)
 f_picked:Def K mg "picked" (Ec 33)
 f_is_listing:Def K mg "is_listing" (Ec 36)
 f_has_people:Def K mg "has_people" (Ec 37)
 f_best_free:Def K mg "best_free" (Ec 39)
 f_with_one:Def K mg "with_one" (Ec 40)
 f_turns_from:Def K mg "turns_from" (Ec 41)
 f_orders_of:Def K mg "orders_of" (Ec 42)
 f_counts_of:Def K mg "counts_of" (Ec 43)
 f_shares_by_turns:Def K mg "shares_by_turns" (Ec 44)
 f_by_turns:Def K mg "by_turns" (Ec 45)
 f_is_word:Def K mg "is_word" (Ec 48)
 f_is_roll:Def K mg "is_roll" (Ec 49)
 k_Book:BDef K mg cB "Book" "Book.__init__" (Hi 50 0)
 cl:Cls K cB
 na_people:NoAttr K cB "people"
 na_things:NoAttr K cB "things"
 na_wishes_told:NoAttr K cB "wishes_told"
 m_check_person:MDef K cB "check_person" "Book.check_person" (Hi 50 1)
 m_wish:MDef K cB "wish" "Book.wish" (Hi 50 2)
 m_lacking:MDef K cB "lacking" "Book.lacking" (Hi 50 3)
 m_table_by:MDef K cB "table_by" "Book.table_by" (Hi 50 4)
 m_shares:MDef K cB "shares" "Book.shares" (Hi 50 5)
 m_deal:MDef K cB "deal" "Book.deal" (Hi 50 6)
 f__law_cell_at:Def K mg "_law_cell_at" (Ec 52)
 f__law_mixed:Def K mg "_law_mixed" (Ec 53)
 f__law_perm:Def K mg "_law_perm" (Ec 54)
 f__law_base:Def K mg "_law_base" (Ec 57)
 f__law_word:Def K mg "_law_word" (Ec 58)
 f__law_words:Def K mg "_law_words" (Ec 59)
 f__law_divisor:Def K mg "_law_divisor" (Ec 55)
 f__law_lowest:Def K mg "_law_lowest" (Ec 56)
 f__law_same:Def K mg "_law_same" (Ec 60)
 f__law_table_by:Def K mg "_law_table_by" (Ec 61)
 f__law_shares_well:Def K mg "_law_shares_well" (Ec 62)
 f__law_deal_well:Def K mg "_law_deal_well" (Ec 63)
 f__law_wish:Def K mg "_law_wish" (Ec 64)
 f__law_refused:Def K mg "_law_refused" (Ec 65)
 f__law_deed:Def K mg "_law_deed" (Ec 66)
 b_isinstance:mg "isinstance"=none
 b_int:mg "int"=none
 b_bool:mg "bool"=none
 b_str:mg "str"=none
 b_list:mg "list"=none
 b_tuple:mg "tuple"=none
 b_abs:mg "abs"=none
 b_len:mg "len"=none
 b_range:mg "range"=none
 b_sorted:mg "sorted"=none
 b_set:mg "set"=none
 b_enumerate:mg "enumerate"=none
 b_zip:mg "zip"=none
 b_any:mg "any"=none
 b_all:mg "all"=none
 b_min:mg "min"=none
 b_max:mg "max"=none
 b_sum:mg "sum"=none
 b_ValueError:mg "ValueError"=none
 c_NOTHING:JV K mg "NOTHING" [.int 0,.int 1]
 c_WHOLE:JV K mg "WHOLE" [.int 1,.int 1]
 c_MOST_PEOPLE:∃t,mg "MOST_PEOPLE"=some (.int 6 t)
 c_MOST_SIGNS:∃t,mg "MOST_SIGNS"=some (.int 12 t)
 x_WishError:G5 K mg "WishError" x.WishError
 x_NoFraction:G5 K mg "NoFraction" x.NoFraction
 x_NoWishes:G5 K mg "NoWishes" x.NoWishes
 x_NoPick:G5 K mg "NoPick" x.NoPick
 x_NoRoll:G5 K mg "NoRoll" x.NoRoll
 x_NoPerson:G5 K mg "NoPerson" x.NoPerson
 x_Unready:G5 K mg "Unready" x.Unready
 x_NoWay:G5 K mg "NoWay" x.NoWay
 e_NoWishes:mz K x.NoWishes (.ref x.NoWishes)=some true
section
variable{P:cT}{w:dc}{K:cu}{mg:Str->Option cA}{base:Heap}{x:Xs}{cB:cG}
theorem Gf:Eb ["value"] ["value"] (D8 (Ec 12)):=⟨rfl,rfl,rfl,by decide +kernel,rfl,by decide +kernel,by decide +kernel⟩
set_option maxHeartbeats 4000000
theorem IQ(M:Md K mg x cB):Dn P w K mg base Ei 1 "is_whole" ["value"] (Jg):=by
 have g:=(Gf).nd;refine M.f_is_whole.ok Gf (λvs H Q E h=>?_) (λ_ _ _ _ _ _ c b=>match c,b with|[_],_=>rfl) (λf d A a s H vs Q E e h=>?_)
 ·obtain⟨i,rfl,q⟩:=h;rfl
 obtain⟨i,rfl,q⟩:=h;refine⟨_,(rD (rM (ut (rJ sr rfl M.b_isinstance Boot.«isinstance» (mM (pv 0) (mM (tS rfl M.b_int Boot.«int») rq))) (vB (Cy (rJ sr rfl M.b_isinstance Boot.«isinstance» (mM (pv 0) (mM (tS rfl M.b_bool Boot.«bool») rq)))))))),?_⟩
 try dsimp -proj only[nox_K,hold_K,cxOf_K]
 refine⟨_,rfl,.int i,"int","int",rfl,by decide,rfl,_,rfl,?_⟩;refine EN ⟨_,rfl,.int i,"bool","int",rfl,by decide,rfl,_,rfl,q⟩
theorem EW:Eb ["one","two","greater","smaller","rest"] ["one","two"] (D8 (Ec 13)):=⟨rfl,rfl,rfl,by decide +kernel,rfl,by decide +kernel,by decide +kernel⟩
theorem Gd(M:Md K mg x cB):Dn P w K mg base Ei 1 "common_divisor" ["one","two"] (Km):=by
 have g:=(EW).nd;refine M.f_common_divisor.ok EW (λvs H Q E h=>?_) (λ_ _ _ _ _ _ u B=>match u,B with|[_,_],_=>rfl) (λf G A p s H vs Q E J h=>?_)
 ·obtain⟨i,j,rfl,q⟩:=h;rfl
 obtain⟨i,j,rfl,q⟩:=h;refine⟨_,(rn (rG (i:=2) g rfl (Or.inl rfl) (rJ wH rfl M.b_abs Boot.«abs» (mM (pv 0) rq)))
   (rn (rG (i:=3) g rfl (Or.inl rfl) (rJ wH rfl M.b_abs Boot.«abs» (mM (pv 1) rq)))
   (rn (uE dA (rR zd (pv 3) rE (Ef _)) (rn (rG (i:=4) g rfl (Or.inl rfl) (rO rZ (pv 2) (pv 3)))
   (rn (rG (i:=2) g rfl (Or.inl rfl) (pv 3))
   (rD (rG (i:=3) g rfl (Or.inl rfl) (pv 4))))))
   (rD (rM (pv 2)))))),?_⟩
 try dsimp -proj only[nox_K,hold_K,cxOf_K]
 refine⟨_,rfl,i,rfl,_,rfl,j,rfl,?_⟩;refine yJ (λm l n=>n=H/\∃(a b:Int) (r:Option V),l=[some (.int i),some (.int j),some (.int a),some (.int b),r]/\0<=a/\0<=b/\Int.gcd a b=Int.gcd i j/\m=b.toNat)
  ⟨_,rfl,_,_,_,rfl,?_,?_,?_,rfl⟩ (λm l n D=>?_) (λl n I N y h=>?_)
 ·split <;> omega
 ·split <;> omega
 ·split <;> split <;> simp
 ·obtain⟨rfl,a,b,r,rfl,L,t,o,rfl⟩:=D;refine⟨_,rfl,rfl,_,rfl,?_⟩;refine Jm (λc=>?_) (λc=>?_)
  ·have d:b≠0:=λz=>by subst z;simp at c
   refine⟨_,rfl,_,rfl,a,b,rfl,rfl,by show(0:Int)<b;omega,_,rfl,_,rfl,?_⟩;refine⟨(a%b).toNat,?_,rfl,b,a%b,_,rfl,t,dO _ d,?_,rfl⟩
   ·have:=dC a (show 0<b by omega);have:=dO a d;omega
   ·rw[FQ.gcd_turn,o]
  ·have d:b=0:=by
    by_cases z:b=0
    ·exact z
    ·exact absurd (by simpa using z) c
   subst d;refine⟨_,rfl,?_⟩;have e:(a:Int)=(Int.gcd i j:Int):=by rw[<-o];simp;omega
   rw[e];exact q
 ·obtain⟨v,e,C,k,F,q⟩:=h;exact⟨v,e,C,k,F,y _ _ q⟩
theorem Gi:Eb ["top","bottom","divisor"] ["top","bottom"] (D8 (Ec 14)):=⟨rfl,rfl,rfl,by decide +kernel,rfl,by decide +kernel,by decide +kernel⟩
theorem IT(M:Md K mg x cB)
  (Gis_whole:Dn P w K mg base Ei 1 "is_whole" ["value"] (Jg))
  (Gcommon_divisor:Dn P w K mg base Ei 1 "common_divisor" ["one","two"] (Km)):Dn P w K mg base (FD P w) 2 "fraction" ["top","bottom"] (EF x):=by
 have l:=(Gi).nd
 refine M.f_fraction.okE Gi (λvs H Q E h=>?_) (λ_ _ _ _ _ _ r u=>match r,u with|[_,_],_=>rfl) (λf v A n s H vs Q E g h=>?_)
 ·obtain⟨t,b,rfl,m,q⟩:=h
  rfl
 obtain⟨t,b,rfl,m,q⟩:=h
 refine⟨_,(rn (sv (PW.pt (w5 (tE (sQ (rS Gis_whole g (by decide) rfl Ed (mM (pv 0) rq)))) (w5 (tE (sQ (rS Gis_whole g (by decide) rfl Ed (mM (pv 1) rq)))) (wf (rR tO (pv 1) rE (Ef _)))))) (rD (tR M.x_NoFraction rfl (mM sD rq))) rV)
   (rn (rG (i:=2) l rfl (Or.inl rfl) (rS Gcommon_divisor g (by decide) rfl Ed (mM (pv 0) (mM (pv 1) rq))))
   (rn (sv (rR Az (pv 1) rE (Ef _)) (rD (rG (i:=2) l rfl (Or.inl rfl) (D5 DE (pv 2)))) rV)
   (rD (rM (sF (mM (rO Bg (pv 0) (pv 2)) (mM (rO Bg (pv 1) (pv 2)) rq)))))))),?_⟩
 try dsimp -proj only[nox_K,hold_K,cxOf_K]
 refine⟨_,rfl,t,rfl,_,rfl,Er ⟨_,rfl,b,rfl,_,rfl,Er ⟨_,rfl,rfl,_,rfl,Ey (λc=>?_) (λc=>?_)⟩⟩⟩
 ·exact⟨by show 1<=sizeLine;decide,m (Ki c)⟩
 have j:b≠0:=λz=>c (by rw[z])
 obtain⟨o,q⟩:=q j
 refine⟨_,rfl,_,rfl,t,b,rfl,?_⟩
 refine⟨_,rfl,b,0,rfl,rfl,_,rfl,?_⟩
 have k:=uV (t:=t) j o
 refine Jm (λc=>?_) (λc=>?_)
 ·have a:b<0:=of_decide_eq_true c
  have e:=k.1 a
  refine⟨_,rfl,_,rfl,?_⟩
  refine⟨_,rfl,_,rfl,t,_,rfl,rfl,e.1,_,rfl,_,rfl,b,_,rfl,rfl,e.1,by show 2<=sizeLine;decide,λp hp=>q p _ (rr hp _) ?_⟩
  rw[rC]
  show some (HO.tup [V.int (t.fdiv _),V.int (b.fdiv _)])=_
  rw[e.2.1,e.2.2]
  rfl
 ·have d:¬b<0:=of_decide_eq_false (Bool.eq_false_iff.mpr c)
  have e:=k.2 d
  refine⟨_,rfl,_,rfl,t,_,rfl,rfl,e.1,_,rfl,_,rfl,b,_,rfl,rfl,e.1,by show 2<=sizeLine;decide,λp hp=>q p _ (rr hp _) ?_⟩
  rw[rC]
  show some (HO.tup [V.int (t.fdiv _),V.int (b.fdiv _)])=_
  rw[e.2.1,e.2.2]
  rfl
theorem Jd:Eb ["one","two"] ["one","two"] (D8 (Ec 15)):=⟨rfl,rfl,rfl,by decide +kernel,rfl,by decide +kernel,by decide +kernel⟩
theorem Kz(M:Md K mg x cB)
  (Gfraction:Dn P w K mg base (FD P w) 2 "fraction" ["top","bottom"] (EF x)):Dn P w K mg base Ei 3 "plus" ["one","two"] (G4 FN K):=by
 have B:=(Jd).nd
 refine M.f_plus.ok Jd (λvs H Q E h=>?_) (λ_ _ _ _ _ _ n r=>match n,r with|[_,_],_=>rfl) (λf v A l s H vs Q E u h=>?_)
 ·obtain⟨a,b,x,y,rfl,d,c,k,e,q⟩:=h
  rfl
 obtain⟨a,b,x,y,rfl,d,c,k,e,q⟩:=h
 refine⟨_,(rD (rM (rS Gfraction u (by decide) rfl FJ (mM (rO sC (rO sw (rN sk (pv 0) rE (λ_ _=>rfl)) (rN sk (pv 1) rE (λ_ _=>rfl))) (rO sw (rN sk (pv 1) rE (λ_ _=>rfl)) (rN sk (pv 0) rE (λ_ _=>rfl)))) (mM (rO sw (rN sk (pv 0) rE (λ_ _=>rfl)) (rN sk (pv 1) rE (λ_ _=>rfl))) rq))))),?_⟩
 try dsimp -proj only[nox_K,hold_K,cxOf_K]
 obtain⟨o,g,t⟩:=k
 obtain⟨p,j,m⟩:=e
 refine⟨_,rfl,a,_,0,_,rfl,rfl,d,rfl,?_⟩
 refine⟨_,rfl,b,_,1,_,rfl,rfl,c,rfl,?_⟩
 refine⟨_,_,rfl,rfl,G0 o j,?_⟩
 refine⟨_,rfl,b,_,0,_,rfl,rfl,c,rfl,?_⟩
 refine⟨_,rfl,a,_,1,_,rfl,rfl,d,rfl,?_⟩
 refine⟨_,_,rfl,rfl,G0 p g,?_⟩
 refine⟨_,_,rfl,rfl,?_⟩
 refine⟨_,rfl,a,_,1,_,rfl,rfl,d,rfl,?_⟩
 refine⟨_,rfl,b,_,1,_,rfl,rfl,c,rfl,?_⟩
 refine⟨_,_,rfl,rfl,G0 g j,?_⟩
 exact⟨_,_,rfl,λz=>absurd z (dE t m),λ_=>⟨Kx g j,q⟩⟩
theorem Ij:Eb ["one","two"] ["one","two"] (D8 (Ec 16)):=⟨rfl,rfl,rfl,by decide +kernel,rfl,by decide +kernel,by decide +kernel⟩
theorem J1(M:Md K mg x cB)
  (Gfraction:Dn P w K mg base (FD P w) 2 "fraction" ["top","bottom"] (EF x)):Dn P w K mg base Ei 3 "minus" ["one","two"] (G4 IK K):=by
 have B:=(Ij).nd
 refine M.f_minus.ok Ij (λvs H Q E h=>?_) (λ_ _ _ _ _ _ n r=>match n,r with|[_,_],_=>rfl) (λf v A l s H vs Q E u h=>?_)
 ·obtain⟨a,b,x,y,rfl,d,c,k,e,q⟩:=h
  rfl
 obtain⟨a,b,x,y,rfl,d,c,k,e,q⟩:=h
 refine⟨_,(rD (rM (rS Gfraction u (by decide) rfl FJ (mM (rO v7 (rO sw (rN sk (pv 0) rE (λ_ _=>rfl)) (rN sk (pv 1) rE (λ_ _=>rfl))) (rO sw (rN sk (pv 1) rE (λ_ _=>rfl)) (rN sk (pv 0) rE (λ_ _=>rfl)))) (mM (rO sw (rN sk (pv 0) rE (λ_ _=>rfl)) (rN sk (pv 1) rE (λ_ _=>rfl))) rq))))),?_⟩
 try dsimp -proj only[nox_K,hold_K,cxOf_K]
 obtain⟨o,g,t⟩:=k
 obtain⟨p,j,m⟩:=e
 refine⟨_,rfl,a,_,0,_,rfl,rfl,d,rfl,?_⟩
 refine⟨_,rfl,b,_,1,_,rfl,rfl,c,rfl,?_⟩
 refine⟨_,_,rfl,rfl,G0 o j,?_⟩
 refine⟨_,rfl,b,_,0,_,rfl,rfl,c,rfl,?_⟩
 refine⟨_,rfl,a,_,1,_,rfl,rfl,d,rfl,?_⟩
 refine⟨_,_,rfl,rfl,G0 p g,?_⟩
 refine⟨_,_,rfl,rfl,?_⟩
 refine⟨_,rfl,a,_,1,_,rfl,rfl,d,rfl,?_⟩
 refine⟨_,rfl,b,_,1,_,rfl,rfl,c,rfl,?_⟩
 refine⟨_,_,rfl,rfl,G0 g j,?_⟩
 exact⟨_,_,rfl,λz=>absurd z (dE t m),λ_=>⟨Kx g j,q⟩⟩
theorem HS:Eb ["one","two"] ["one","two"] (D8 (Ec 17)):=⟨rfl,rfl,rfl,by decide +kernel,rfl,by decide +kernel,by decide +kernel⟩
theorem JZ(M:Md K mg x cB)
  (Gfraction:Dn P w K mg base (FD P w) 2 "fraction" ["top","bottom"] (EF x)):Dn P w K mg base Ei 3 "times" ["one","two"] (G4 IR K):=by
 have B:=(HS).nd
 refine M.f_times.ok HS (λvs H Q E h=>?_) (λ_ _ _ _ _ _ n r=>match n,r with|[_,_],_=>rfl) (λf v A l s H vs Q E u h=>?_)
 ·obtain⟨a,b,x,y,rfl,e,d,j,c,q⟩:=h
  rfl
 obtain⟨a,b,x,y,rfl,e,d,j,c,q⟩:=h
 refine⟨_,(rD (rM (rS Gfraction u (by decide) rfl FJ (mM (rO sw (rN sk (pv 0) rE (λ_ _=>rfl)) (rN sk (pv 1) rE (λ_ _=>rfl))) (mM (rO sw (rN sk (pv 0) rE (λ_ _=>rfl)) (rN sk (pv 1) rE (λ_ _=>rfl))) rq))))),?_⟩
 try dsimp -proj only[nox_K,hold_K,cxOf_K]
 obtain⟨o,g,t⟩:=j
 obtain⟨p,k,m⟩:=c
 refine⟨_,rfl,a,_,0,_,rfl,rfl,e,rfl,?_⟩
 refine⟨_,rfl,b,_,0,_,rfl,rfl,d,rfl,?_⟩
 refine⟨_,_,rfl,rfl,G0 o p,?_⟩
 refine⟨_,rfl,a,_,1,_,rfl,rfl,e,rfl,?_⟩
 refine⟨_,rfl,b,_,1,_,rfl,rfl,d,rfl,?_⟩
 refine⟨_,_,rfl,rfl,G0 g k,?_⟩
 exact⟨_,_,rfl,λz=>absurd z (dE t m),λ_=>⟨Kx g k,q⟩⟩
theorem Hk:Eb ["one","two"] ["one","two"] (D8 (Ec 18)):=⟨rfl,rfl,rfl,by decide +kernel,rfl,by decide +kernel,by decide +kernel⟩
theorem JK(M:Md K mg x cB):Dn P w K mg base Ei 1 "before" ["one","two"] (GL K):=by
 have z:=(Hk).nd;refine M.f_before.ok Hk (λvs H Q E h=>?_) (λ_ _ _ _ _ _ k o=>match k,o with|[_,_],_=>rfl) (λf r A j s H vs Q E v h=>?_)
 ·obtain⟨a,b,x,y,rfl,e,d,g,c,q⟩:=h;rfl
 obtain⟨a,b,x,y,rfl,e,d,g,c,q⟩:=h;refine⟨_,(rD (rM (tG Az (rO sw (rN sk (pv 0) rE (λ_ _=>rfl)) (rN sk (pv 1) rE (λ_ _=>rfl))) (rO sw (rN sk (pv 1) rE (λ_ _=>rfl)) (rN sk (pv 0) rE (λ_ _=>rfl))) (Ef _)))),?_⟩
 try dsimp -proj only[nox_K,hold_K,cxOf_K]
 obtain⟨m,l,u⟩:=g;obtain⟨n,p,t⟩:=c;refine⟨_,rfl,a,_,0,_,rfl,rfl,e,rfl,?_⟩;refine⟨_,rfl,b,_,1,_,rfl,rfl,d,rfl,?_⟩;refine⟨_,_,rfl,rfl,G0 m p,?_⟩;refine⟨_,rfl,b,_,0,_,rfl,rfl,d,rfl,?_⟩;refine⟨_,rfl,a,_,1,_,rfl,rfl,e,rfl,?_⟩;exact⟨_,_,rfl,rfl,G0 n l,_,_,rfl,rfl,q⟩
theorem IB:Eb ["parts","so_far","part"] ["parts"] (D8 (Ec 19)):=⟨rfl,rfl,rfl,by decide +kernel,rfl,by decide +kernel,by decide +kernel⟩
theorem J4(M:Md K mg x cB)
  (Gplus:Dn P w K mg base Ei 3 "plus" ["one","two"] (G4 FN K)):Dn P w K mg base Ei 4 "total" ["parts"] (JI K):=by
 have N:=(IB).nd
 refine M.f_total.ok IB (λvs H Q E h=>?_) (λ_ _ _ _ _ _ R S=>match R,S with|[_],_=>rfl) (λf U A O s H vs Q E T h=>?_)
 ·obtain⟨a,I,k,rfl,l,z,F,t,q⟩:=h
  rfl
 obtain⟨a,I,k,rfl,l,z,F,t,q⟩:=h
 refine⟨_,(rn (rG (i:=1) N rfl (Or.inl rfl) (tW M.c_NOTHING))
   (rn (sN dA rfl (DN (pv 0)) (rK (i:=2) N rfl (Or.inl rfl)) (rD (rG (i:=1) N rfl (Or.inl rfl) (rS Gplus T (by decide) rfl Ed (mM (pv 1) (mM (pv 2) rq))))))
   (rD (rM (pv 1))))),?_⟩
 try dsimp -proj only[nox_K,hold_K,cxOf_K]
 refine λB C=>?_
 rcases l with l|l
 ·refine .inl ⟨_,rfl,a,rfl,⟨_,l⟩,?_⟩
  refine uZ (xs:=I) (λi g c=>Same H c/\∃d r,g=[some (.ref a),some d,r]/\IsF K c d (Fk (k.take i)))
   ⟨Same.refl _,.ref B,_,rfl,B,rfl,C _⟩ (λi g c _ e=>e.1.seq l) (λi v g c J e=>?_) (λg c e=>?_)
  ·obtain⟨j,d,r,rfl,b⟩:=e
   obtain⟨y,o,m⟩:=Paired.get' z J
   obtain⟨u,rfl,b⟩:=b
   obtain⟨D,rfl,m⟩:=m
   refine⟨_,rfl,_,rfl,u,D,Fk (k.take i),y,rfl,b,j.tup m,F i,t y (da o),λp L G hp=>?_⟩
   refine⟨j.trans G,.ref p,_,rfl,p,rfl,?_⟩
   rw[cY,o]
   show SqT K L p [.int (Fk (k.take i++[y])).1,.int (Fk (k.take i++[y])).2]
   rw[uA]
   exact SqT.of hp
  ·obtain⟨j,d,r,rfl,b⟩:=e
   have n:=Paired.len z
   rw[n,dj]at b
   exact⟨_,rfl,q d c j b⟩
 ·refine .inr ⟨_,rfl,a,rfl,⟨_,l⟩,?_⟩
  refine CG (xs:=I) (λi g c=>Same H c/\∃d r,g=[some (.ref a),some d,r]/\IsF K c d (Fk (k.take i)))
   ⟨Same.refl _,.ref B,_,rfl,B,rfl,C _⟩ (λi g c _ e=>e.1.tup l) (λi v g c J e=>?_) (λg c e=>?_)
  ·obtain⟨j,d,r,rfl,b⟩:=e
   obtain⟨y,o,m⟩:=Paired.get' z J
   obtain⟨u,rfl,b⟩:=b
   obtain⟨D,rfl,m⟩:=m
   refine⟨_,rfl,_,rfl,u,D,Fk (k.take i),y,rfl,b,j.tup m,F i,t y (da o),λp L G hp=>?_⟩
   refine⟨j.trans G,.ref p,_,rfl,p,rfl,?_⟩
   rw[cY,o]
   show SqT K L p [.int (Fk (k.take i++[y])).1,.int (Fk (k.take i++[y])).2]
   rw[uA]
   exact SqT.of hp
  ·obtain⟨j,d,r,rfl,b⟩:=e
   have n:=Paired.len z
   rw[n,dj]at b
   exact⟨_,rfl,q d c j b⟩
theorem Iu:Eb ["parts","smallest","part"] ["parts"] (D8 (Ec 20)):=⟨rfl,rfl,rfl,by decide +kernel,rfl,by decide +kernel,by decide +kernel⟩
theorem JU(M:Md K mg x cB)
  (Gbefore:Dn P w K mg base Ei 1 "before" ["one","two"] (GL K)):Dn P w K mg base Ei 2 "least" ["parts"] (Hz K):=by
 have J:=(Iu).nd
 refine M.f_least.ok Iu (λvs H Q E h=>?_) (λ_ _ _ _ _ _ Y j=>match Y,j with|[_],_=>rfl) (λf aa A X s H vs Q E hr h=>?_)
 ·obtain⟨a,F,b,rfl,z,B,m,j,t,q⟩:=h
  rfl
 obtain⟨a,F,b,rfl,z,B,m,j,t,q⟩:=h
 refine⟨_,(rn (rG (i:=1) J rfl (Or.inl rfl) (rN rL (pv 0) rE (λ_ _=>rfl)))
   (rn (sN dA rfl (sS (pv 0)) (rK (i:=2) J rfl (Or.inl rfl)) (rD (sv (sQ (rS Gbefore hr (by decide) rfl Ed (mM (pv 2) (mM (pv 1) rq)))) (rD (rG (i:=1) J rfl (Or.inl rfl) (pv 2))) rV)))
   (rD (rM (pv 1))))),?_⟩
 try dsimp -proj only[nox_K,hold_K,cxOf_K]
 obtain⟨d,k⟩:∃p,b[0]?=some p:=by
  cases b with
  | nil=>exact absurd rfl m
  | cons p r=>exact⟨p,rfl⟩
 have W:b.headD (0,1)=d:=by
  cases b with
  | nil=>exact absurd rfl m
  | cons p r=>exact Option.some.inj k
 have Z:∀i,Sz 4000 (Es d (b.take i)):=λi=>by
  have:∀(l:List (Int×Int)) (s:Int×Int),Sz 4000 s->(∀p∈l,Sz 4000 p)->Sz 4000 (Es s l):=by
   intro l
   induction l with
   | nil=>intro s I _;exact I
   | cons x r ih=>
    intro s I j
    refine ih _ ?_ λp hp=>j p (cO _ hp)
    show Sz 4000 (if Ev x s=true then x else s)
    split
    ·exact j x cM
    ·exact I
  exact this _ _ (t _ (da k)) λp hp=>t p (gu hp)
 obtain⟨O,U,V⟩:=Paired.get B k
 refine⟨_,rfl,a,F,0,O,rfl,rfl,z,si U,?_⟩
 refine⟨_,rfl,a,rfl,⟨_,z⟩,?_⟩
 refine uZ (xs:=F) (λi u C=>C=H/\∃n r,u=[some (.ref a),some n,r]/\IsF K H n (Es d (b.take i)))
  ⟨rfl,O,_,rfl,V⟩ (λi u C _ o=>by rw[o.1];exact z) (λi v u C hx o=>?_) (λu C o=>?_)
 ·obtain⟨rfl,n,r,rfl,g⟩:=o
  obtain⟨y,R,T⟩:=Paired.get' B hx
  have e:Es d (b.take (i+1))=if Ev y (Es d (b.take i))=true then y else Es d (b.take i):=by
   rw[cY,R]
   unfold Es
   rw[nI]
   rfl
  obtain⟨D,rfl,G⟩:=id g
  obtain⟨L,rfl,S⟩:=id T
  refine⟨_,rfl,_,rfl,L,D,y,Es d (b.take i),rfl,S,G,t y (da R),Z i,_,rfl,?_⟩
  rw[e]
  show if Ev y (Es d (b.take i))=true then _ else _
  refine Jm (λc=>?_) (λc=>?_)
  ·refine⟨_,rfl,rfl,.ref L,_,rfl,?_⟩
   rw[if_pos c]
   exact T
  ·refine⟨rfl,.ref D,_,rfl,?_⟩
   rw[if_neg c]
   exact g
 ·obtain⟨rfl,n,r,rfl,g⟩:=o
  have N:=Paired.len B
  rw[N,dj]at g
  refine⟨_,rfl,q n ?_⟩
  unfold GM
  rw[W]
  exact g
theorem FU:Eb ["wish","left"] ["wish","left"] (D8 (Ec 22)):=⟨rfl,rfl,rfl,by decide +kernel,rfl,by decide +kernel,by decide +kernel⟩
theorem IF(M:Md K mg x cB):Dn P w K mg base Ei 1 "best_left" ["wish","left"] (I8 K):=by
 have nd:=(FU).nd;refine M.f_best_left.ok FU (λvs H Q E h=>?_) (λ_ _ _ _ _ _ Y n=>match Y,n with|[_,_],_=>rfl) (λf aa A U s H vs Q E hr h=>?_)
 ·obtain⟨w,l,b,d,D,J,rfl,B,n,S,hD,k,R,u,q⟩:=h;rfl
 obtain⟨w,l,b,d,D,J,rfl,B,n,S,hD,k,R,u,q⟩:=h;refine⟨_,(rD (rM (rN rL (su rfl (N:=["thing","left"]) (caps:=[none,some 1]) (CompOk.of (by kernel_rfl)) (rW rfl) (uG (pv 0)) (λ_ _ _ _=>(rK (i:=0) (show(["thing","left"]:List Str).Nodup by decide +kernel) rfl (Or.inl rfl) (Or.inr rfl))) (λ_ _ _ _=>(tX (rR (As (K:=K) rfl hr) (rN (sU (K:=K) rfl) (pv 1) (pv 0) (λ_ _=>rfl)) (uY (K:=K) rfl M.c_NOTHING) (Ef _)))) (λ_ _ _ _=>(pv 0))) rE (λ_ _=>rfl)))),?_⟩
 try dsimp -proj only[nox_K,hold_K,cxOf_K]
 refine⟨_,rfl,w,rfl,⟨_,B⟩,?_⟩;refine uf (xs:=b.map V.int) (λi o p=>p=H/\o=((b.take i).filter λt=>decide (EM.at0 d t≠0)).map V.int)
  ⟨rfl,rfl⟩ (λi o p _ j=>by rw[j.1];exact B) (λi x o p g j=>?_) (λo p j W O=>?_)
 ·obtain⟨rfl,rfl⟩:=j;rw[cH]at g
  cases e:b[i]? with
  | none=>rw[e]at g;cases g
  | some t=>
   rw[e]at g;have F:V.int t=x:=Option.some.inj g;subst F;have L:=k t (da e);have I:t.toNat<d.length:=by omega
   have G:(fr D d)[t.toNat]?=some (FQ.red (EM.at0 d t) D):=by
    unfold fr EM.at0;rw[cH,cC,cz I];rfl
   obtain⟨v,hv,hF⟩:=Paired.get S G;refine⟨_,rfl,_,rfl,l,J,t,v,rfl,rfl,n,sE L.1 hv,λZ C=>?_⟩;refine⟨dF (FQ.red (EM.at0 d t) D),dF (0,1),hF.rep,IsF.rep ⟨Z,rfl,C _⟩,sA _,sA _,_,rfl,?_⟩;rw[uM,cY,e,gm,cS];have y:(((b.take i).filter λt=>decide (EM.at0 d t≠0)).map V.int).length<sizeLine:=by
    rw[cx];have h1:=d6 (λt=>decide (EM.at0 d t≠0)) (b.take i);rw[cV]at h1;exact D9 (by omega)
   refine GP (λc=>?_) (λc=>?_)
   ·have m:EM.at0 d t≠0:=λz=>c ((sq (by omega)).mpr z)
    refine⟨_,rfl,y,rfl,?_⟩;simp[m]
   ·have m:EM.at0 d t=0:=(sq (by omega)).mp c;refine⟨rfl,?_⟩;simp[m]
 ·obtain⟨rfl,rfl⟩:=j;rw[cx,dj];obtain⟨t,X,m⟩:=u;have T:t∈b.filter λt=>decide (EM.at0 d t≠0):=d8.mpr ⟨X,decide_eq_true m⟩
  have hh:(b.filter λt=>decide (EM.at0 d t≠0))[0]?=some (EM.best d b):=by
   unfold EM.best
   cases hf:b.filter λt=>decide (EM.at0 d t≠0)with
   | nil=>rw[hf]at T;cases T
   | cons a r=>rfl
  refine⟨W,_,0,_,rfl,rfl,SqL.of rC,si (by rw[cH,hh];rfl),q _ (rr O _)⟩
theorem Ff:Eb ["dishes","left"] ["dishes","left"] (D8 (Ec 23)):=⟨rfl,rfl,rfl,by decide +kernel,rfl,by decide +kernel,by decide +kernel⟩
theorem GU(M:Md K mg x cB)
  (Gtimes:Dn P w K mg base Ei 3 "times" ["one","two"] (G4 IR K))
  (Gleast:Dn P w K mg base Ei 2 "least" ["parts"] (Hz K)):Dn P w K mg base Ei 4 "time_to_stop" ["dishes","left"] (Jf K):=by
 have nd:=(Ff).nd
 refine M.f_time_to_stop.ok Ff (λvs H Q E h=>?_) (λ_ _ _ _ _ _ us L=>match us,L with|[_,_],_=>rfl) (λf aj A ai s H vs Q E hr h=>?_)
 ·obtain⟨d,l,b,ms,D,gs,rfl,J,L,hg,X,U,B,ac,r,z,q⟩:=h
  rfl
 obtain⟨d,l,b,ms,D,gs,rfl,J,L,hg,X,U,B,ac,r,z,q⟩:=h
 refine⟨_,(rD (rM (rS Gleast hr (by decide) rfl Ed (mM (su rfl (N:=["thing","dishes","left"]) (caps:=[none,some 0,some 1]) (CompOk.of (by kernel_rfl)) (rW rfl) (sS (pv 0)) (λ_ _ _ _=>(rK (i:=0) (show(["thing","dishes","left"]:List Str).Nodup by decide +kernel) rfl (Or.inl rfl) (Or.inr rfl))) (λ_ _ _ _=>sj) (λ_ _ _ _=>(rS Gtimes hr (by decide) rfl Ed (mM (rN (sU (K:=K) rfl) (pv 2) (pv 0) (λ_ _=>rfl)) (mM (sF (mM rE (mM (Cv (K:=K) rfl dI lm ln (xi (K:=K) rfl) (pv 1) (mM (pv 0) rq)) rq))) rq))))) rq)))),?_⟩
 try dsimp -proj only[nox_K,hold_K,cxOf_K]
 refine⟨_,rfl,d,rfl,⟨_,J⟩,?_⟩
 refine sP (xs:=b.map V.int) (λi y c=>Same H c/\dr (IsF K c) y ((b.take i).map (Ez D b ms)))
  ⟨Same.refl _,.nil⟩ (λi y c _ G=>G.1.seq J) (λi x y c C G=>?_) (λy c G Y ah=>?_)
 ·obtain⟨k,j⟩:=G
  rw[cH]at C
  cases u:b[i]? with
  | none=>rw[u]at C;cases C
  | some t=>
   rw[u]at C
   have ab:V.int t=x:=Option.some.inj C
   subst ab
   have S:=da u
   have g:=r t S
   have ae:t.toNat<ms.length:=by omega
   have ad:(fr D ms)[t.toNat]?=some (FQ.red (EM.at0 ms t) D):=by
    unfold fr EM.at0
    rw[cH,cC,cz ae]
    rfl
   have af:=z _ (EM.at0_mem (ms:=ms) g.1 g.2)
   have R:=EM.cnt_pos S
   have aa:=EM.cnt_le b t
   obtain⟨v,O,va,rfl,hF⟩:=Paired.get hg ad
   refine⟨_,rfl,_,rfl,l,gs,t,_,rfl,rfl,k.seq L,sE g.1 O,?_⟩
   refine⟨_,rfl,.inl ⟨rfl,_,k.seq J⟩,_,rfl,d,b,t,rfl,rfl,k.seq J,by show 2<=sizeLine;decide,λp hp=>?_⟩
   have o:Same c (upd c p (.tup [.int 1,.int (b.count t:Nat)])):=rr hp _
   have T:upd c p (.tup [.int 1,.int (b.count t:Nat)]) p=some (.tup [.int 1,.int (b.count t:Nat)]):=rC
   generalize upd c p (.tup [.int 1,.int (b.count t:Nat)])=H2 at o T ⊢
   have I:=Paired.len j
   rw[cx,cV]at I
   have W:D≠0:=by omega
   have ak:EM.cnt b t=(b.count t:Nat):=rfl
   refine⟨va,p,FQ.red (EM.at0 ms t) D,(1,EM.cnt b t),rfl,(k.trans o).tup hF,SqT.of T,(tQ (n:=30) W (by omega) (by omega)).up (by decide),Sz.up (m:=30) ⟨by show(1:Int).natAbs<2^30;decide,by show(EM.cnt b t).natAbs<2^30;omega,by show EM.cnt b t≠0;omega⟩ (by decide),λpf H3 S3 ag=>⟨D9 (by omega),k.trans (o.trans S3),?_⟩⟩
   rw[cY,u,cS]
   refine Paired.app (rQ (o.trans S3) j) (.cons ⟨pf,rfl,?_⟩ .nil)
   have e:Ez D b ms t=IR (FQ.red (EM.at0 ms t) D) (1,EM.cnt b t):=by
    unfold Ez
    rw[AT (uQ W) (AY (a:=1) (D:=EM.cnt b t) (by omega)),ia]
   rw[e]
   exact SqT.of ag
 ·obtain⟨k,j⟩:=G
  rw[cx,dj]at j
  have I:=Paired.len j
  rw[cx]at I
  have o:Same c (upd c Y (.lst y)):=rr ah _
  refine⟨Y,y,b.map (Ez D b ms),rfl,SqL.of rC,rQ o j,by simpa using B,by rw[cx];omega,λp hp=>?_,λv O=>?_⟩
  ·obtain⟨t,Z,rfl⟩:=dv.mp hp
   have g:=r t Z
   have af:=z _ (EM.at0_mem (ms:=ms) g.1 g.2)
   have R:=EM.cnt_pos Z
   have aa:=EM.cnt_le b t
   have h1:0<D*EM.cnt b t:=gU X R
   have h2:D*EM.cnt b t<=262144*6:=jv U (by omega) (by omega) (by decide)
   exact(tQ (n:=30) (by omega) (by omega) (by omega)).up (by decide)
  ·rw[zi X B]at O
   exact q v _ (k.trans o) O
theorem Fu:Eb ["dishes","left","length"] ["dishes","left","length"] (D8 (Ec 24)):=⟨rfl,rfl,rfl,by decide +kernel,rfl,by decide +kernel,by decide +kernel⟩
theorem GZ(M:Md K mg x cB)
  (Gminus:Dn P w K mg base Ei 3 "minus" ["one","two"] (G4 IK K))
  (Gtimes:Dn P w K mg base Ei 3 "times" ["one","two"] (G4 IR K)):Dn P w K mg base Ei 4 "left_behind" ["dishes","left","length"] (Jc K):=by
 have nd:=(Fu).nd
 refine M.f_left_behind.ok Fu (λvs H Q E h=>?_) (λ_ _ _ _ _ _ us G=>match us,G with|[_,_,_],_=>rfl) (λf am A aj s H vs Q E hr h=>?_)
 ·obtain⟨d,l,p,b,ms,D,c,m,gs,rfl,hd,G,hg,hp,hD,S,R,ah,r,aa,ac,ai,U,q⟩:=h
  rfl
 obtain⟨d,l,p,b,ms,D,c,m,gs,rfl,hd,G,hg,hp,hD,S,R,ah,r,aa,ac,ai,U,q⟩:=h
 refine⟨_,(rD (rM (su rfl (N:=["thing","part","dishes","length"]) (caps:=[none,none,some 0,some 2]) (CompOk.of (by kernel_rfl)) (yZ (sZ sH (rW rfl) (sZ sH (rW rfl) wY))) (Ai rfl M.b_enumerate (mM (pv 1) rq)) (λ_ _ _ _=>(wQ (K:=K) rfl 2 rfl (sy (rK (i:=0) (show(["thing","part","dishes","length"]:List Str).Nodup by decide +kernel) rfl (Or.inl rfl) (Or.inr rfl)) (sy (rK (i:=1) (show(["thing","part","dishes","length"]:List Str).Nodup by decide +kernel) rfl (Or.inl rfl) (Or.inr rfl)) uk)))) (λ_ _ _ _=>sj) (λ_ _ _ _=>(rS Gminus hr (by decide) rfl Ed (mM (pv 1) (mM (rS Gtimes hr (by decide) rfl Ed (mM (sF (mM (Cv (K:=K) rfl dI lm ln (xi (K:=K) rfl) (pv 2) (mM (pv 0) rq)) (mM rE rq))) (mM (pv 3) rq))) rq))))))),?_⟩
 try dsimp -proj only[nox_K,hold_K,cxOf_K]
 have o:=Paired.len hg
 unfold fr at o
 rw[cx]at o
 have X:D≠0:=by omega
 have ar:0<D*c:=gU hD R
 have al:D*c<=262144*6:=jv S (by omega) (by omega) (by decide)
 refine⟨_,rfl,l,rfl,⟨_,G⟩,?_⟩
 refine zF (xs:=gs) (λi v e=>Same H e/\dr (IsF K e) v (fr (D*c) (((LM.rng ms.length).take i).map λj=>EM.at0 ms j*c-EM.cnt b j*m)))
  ⟨Same.refl _,.nil⟩ (λi v e _ C=>C.1.seq G) (λi x v e t hx ht C=>?_) (λv e C Dd I=>?_)
 ·obtain⟨L,g⟩:=C
  have aq:i<gs.length:=(cL.mp hx).1
  obtain⟨y,hy,B,rfl,hF⟩:=Paired.get' hg hx
  have af:=EM.rng_get (n:=ms.length) (k:=i) (by omega)
  have ad:(fr D ms)[i]?=some (FQ.red (EM.at0 ms (i:Int)) D):=by
   unfold fr EM.at0
   rw[cH,cC,gb,cz (by omega)]
   rfl
  rw[ad]at hy
  cases hy
  have an:=U _ (EM.at0_mem (ms:=ms) (t:=(i:Int)) (by omega) (by omega))
  have ag:=EM.cnt_nn b (i:Int)
  have ap:=EM.cnt_le b (i:Int)
  have S2:Same e (upd e t (.tup [.int i,.ref B])):=rr ht _
  have Z:upd e t (.tup [.int i,.ref B]) t=some (.tup [.int i,.ref B]):=rC
  generalize upd e t (.tup [.int i,.ref B])=O at S2 Z ⊢
  have z:=L.trans S2
  refine⟨t,_,rfl,SqT.of Z,rfl,_,_,rfl,_,_,rfl,rfl,?_⟩
  refine⟨_,rfl,_,rfl,.inl ⟨rfl,_,z.seq hd⟩,_,rfl,d,b,(i:Int),rfl,rfl,z.seq hd,by show 2<=sizeLine;decide,λJ ae=>?_⟩
  have S3:Same O (upd O J (.tup [.int (b.count (i:Int):Nat),.int 1])):=rr ae _
  have V:upd O J (.tup [.int (b.count (i:Int):Nat),.int 1]) J=some (.tup [.int (b.count (i:Int):Nat),.int 1]):=rC
  generalize upd O J (.tup [.int (b.count (i:Int):Nat),.int 1])=H3 at S3 V ⊢
  have u:=z.trans S3
  obtain⟨_,e0,ab⟩:=hp
  cases e0
  refine⟨_,rfl,J,p,(EM.cnt b (i:Int),1),FQ.red m (D*c),rfl,SqT.of V,u.tup ab,Sz.up (m:=30) ⟨by show(EM.cnt b (i:Int)).natAbs<2^30;omega,by show(1:Int).natAbs<2^30;decide,by show(1:Int)≠0;decide⟩ (by decide),(tQ (n:=30) (by omega) (by omega) (by omega)).up (by decide),λpm H4 S4 T=>?_⟩
  have em:IR (EM.cnt b (i:Int),1) (FQ.red m (D*c))=FQ.red (EM.cnt b (i:Int)*m) (D*c):=by
   rw[AT (AY (a:=EM.cnt b (i:Int)) (D:=1) (by decide)) (uQ (by omega)),jQ]
  rw[em]at T
  have ak:0<=EM.cnt b (i:Int)*m:=iQ ag r
  have ao:EM.cnt b (i:Int)*m<=6*262144:=jv (by omega) (by omega) r (by decide)
  have Y:=Paired.len g
  unfold fr at Y
  rw[cx,cx,cV,LM.rng_len]at Y
  refine⟨B,pm,FQ.red (EM.at0 ms (i:Int)) D,FQ.red (EM.cnt b (i:Int)*m) (D*c),rfl,(u.trans S4).tup hF,SqT.of T,(tQ (n:=30) X (by omega) (by omega)).up (by decide),(tQ (n:=30) (by omega) (by omega) (by omega)).up (by decide),λpf H5 S5 W=>⟨D9 (by omega),u.trans (S4.trans S5),?_⟩⟩
  rw[xo X (by omega)]at W
  rw[cY,af]
  unfold fr
  rw[cS,cS]
  exact Paired.app (rQ (S2.trans (S3.trans (S4.trans S5))) g) (.cons ⟨pf,rfl,SqT.of W⟩ .nil)
 ·obtain⟨L,g⟩:=C
  rw[o,eK (by rw[LM.rng_len];exact cI _)]at g
  exact q Dd v _ (L.trans (rr I _)) (L.free I) rC (rQ (rr I _) g)
theorem FC:Eb ["wishes","left","courses","dishes","length","gone"] ["wishes"] (D8 (Ec 25)):=⟨rfl,rfl,rfl,by decide +kernel,rfl,by decide +kernel,by decide +kernel⟩
theorem HP(M:Md K mg x cB)
  (Gtotal:Dn P w K mg base Ei 4 "total" ["parts"] (IV K))
  (Gbest_left:Dn P w K mg base Ei 1 "best_left" ["wish","left"] (I8 K))
  (Gtime_to_stop:Dn P w K mg base Ei 4 "time_to_stop" ["dishes","left"] (Jf K))
  (Gleft_behind:Dn P w K mg base Ei 4 "left_behind" ["dishes","left","length"] (Jc K)):Dn P w K mg base Ei 5 "courses_of" ["wishes"] (Hh K):=by
 have nd:=(FC).nd
 refine M.f_courses_of.ok FC (λvs H Q E h=>?_) (λ_ _ _ _ _ _ us hl=>match us,hl with|[_],_=>rfl) (λf bp A bn s H vs Q E u h=>?_)
 ·obtain⟨a,ws,W,n,rfl,hA,hW,C,q⟩:=h
  rfl
 obtain⟨a,ws,W,n,rfl,hA,hW,C,q⟩:=h
 refine⟨_,(rn (rG (i:=1) nd rfl (Or.inr rfl) (su rfl (N:=["wish"]) (caps:=[none]) (CompOk.of (by kernel_rfl)) (rW rfl) (sS (pv 0)) (λ_ _ _ _=>(rK (i:=0) (show(["wish"]:List Str).Nodup by decide +kernel) rfl (Or.inl rfl) (Or.inr rfl))) (λ_ _ _ _=>sj) (λ_ _ _ _=>(uY (K:=K) rfl M.c_WHOLE))))
   (rn (rG (i:=2) nd rfl (Or.inl rfl) (tU rq))
   (rn (uE dA (rR (xj u) (rS Gtotal u (by decide) rfl Ed (mM (pv 1) rq)) (tW M.c_NOTHING) (Ef _)) (rn (sB (i:=3) nd rfl rfl rfl rfl (N:=["wish","left"]) (caps:=[none,some 1]) (CompOk.of (by kernel_rfl)) (rW rfl) (sS (pv 0)) (λ_ _ _ _=>(rK (i:=0) (show(["wish","left"]:List Str).Nodup by decide +kernel) rfl (Or.inl rfl) (Or.inr rfl))) (λ_ _ _ _=>sj) (λ_ _ _ _=>(rS Gbest_left u (by decide) rfl Ed (mM (pv 0) (mM (pv 1) rq)))))
   (rn (rG (i:=4) nd rfl (Or.inl rfl) (rS Gtime_to_stop u (by decide) rfl Ed (mM (pv 3) (mM (pv 1) rq))))
   (rn (rG (i:=1) nd rfl (Or.inr rfl) (rS Gleft_behind u (by decide) rfl Ed (mM (pv 3) (mM (pv 1) (mM (pv 4) rq)))))
   (rn (sB (i:=5) nd rfl rfl rfl rfl (N:=["thing","left"]) (caps:=[none,some 1]) (CompOk.of (by kernel_rfl)) (rW rfl) (sS (xH rfl rfl M.b_sorted rfl M.b_set (pv 3))) (λ_ _ _ _=>(rK (i:=0) (show(["thing","left"]:List Str).Nodup by decide +kernel) rfl (Or.inl rfl) (Or.inr rfl))) (λ_ _ _ _=>(tX (rR (CH (K:=K) rfl u) (rN (sU (K:=K) rfl) (pv 1) (pv 0) (λ_ _=>rfl)) (uY (K:=K) rfl M.c_NOTHING) (Ef _)))) (λ_ _ _ _=>(pv 0)))
   (rD (sR (uI dI fT fU tJ (pv 2) (mM (sF (mM (pv 4) (mM (pv 3) (mM (sd sG rfl M.b_tuple Boot.«tuple» (mM (pv 5) rq)) rq)))) rq)))))))))
   (rD (rM (pv 2)))))),?_⟩
 try dsimp -proj only[nox_K,hold_K,cxOf_K]
 have aO:=Paired.len hW
 have hn:=C.len
 have bs:=C.n1
 have bm:=C.n6
 have au:(0:Nat)<=sizeLine:=by decide
 refine⟨_,rfl,a,rfl,⟨_,hA⟩,?_⟩
 refine sP (xs:=ws) (λi e Z=>Z=H/\dr (IsF K H) e (fr 1 (fA i 1)))
  ⟨rfl,.nil⟩ (λi e Z _ b=>by rw[b.1];exact hA) (λi x e Z o b=>?_) (λe Z b l0 aF=>?_)
 ·obtain⟨rfl,R⟩:=b
  have bu:i<ws.length:=(cL.mp o).1
  have aV:=Paired.len R
  unfold fr at aV
  rw[cx,eT]at aV
  refine λc hc=>⟨D9 (by omega),rfl,?_⟩
  rw[jR]
  unfold fr
  rw[cS]
  exact Paired.app R (.cons ⟨c,rfl,hc _⟩ .nil)
 obtain⟨rfl,R⟩:=b
 rw[aO,hn]at R
 refine⟨au,λy B=>?_⟩
 have ao:Z y=none:=(rr aF _).free B
 refine⟨λm σ H1=>∃(i:Nat) (l:cG) (Y cs:List V) (r3 r4 r5:Option V),m=n-i/\σ=[some (.ref a),some (.ref l),some (.ref y),r3,r4,r5]/\Same Z H1/\EM.Upto W n i/\H1 l=some (.lst Y)/\dr (IsF K H1) Y (fr (EM.st W n i).D (EM.st W n i).ms)/\l≠y/\
   H1 y=some (.lst cs)/\dr (IsC K y H1) cs (EL W n i),
  ⟨_,0,l0,e,[],_,_,_,rfl,rfl,(rr aF _).trans (rr B _),(λi hi=>absurd hi (gz _)),rr B _ _ _ rC,rQ ((rr aF _).trans (rr B _)) R,(λz=>by rw[z,rC]at B;cases B),rC,.nil⟩,λm σ H1 b=>?_⟩
 obtain⟨i,l,Y,cs,r3,r4,r5,rfl,rfl,S1,up,hl,hg,br,hc,ai⟩:=b
 obtain⟨St,_⟩:=EM.st_ok C i up
 have hD:=St.pos
 have aN:=EM.D_le St bm
 have aj:(EM.st W n i).D≠0:=by omega
 have aM:=St.len
 have aA:∀m∈(EM.st W n i).ms,0<=m/\m<=(EM.st W n i).D:=λm hm=>⟨St.nn m hm,St.le m hm⟩
 have aJ:=Paired.len hg
 unfold fr at aJ
 rw[cx]at aJ
 have aT:=Paired.len ai
 unfold EL at aT
 rw[cx,fb]at aT
 have bw:=EM.upto_le C up
 refine⟨_,rfl,l,Y,fr (EM.st W n i).D (EM.st W n i).ms,rfl,SqL.of hl,hg,λp hp=>?_,by unfold fr;rw[cx];omega,λv H2 I hv=>λc0 a5=>?_⟩
 ·unfold fr at hp
  obtain⟨x,o,rfl⟩:=dv.mp hp
  have:=aA x o
  exact tQ aj (by omega) (by omega)
 refine⟨_,_,hv.rep,IsF.rep (p:=(0,1)) ⟨c0,rfl,a5 _⟩,sA _,sA _,_,rfl,?_⟩
 rw[uM,CY aj]
 by_cases hs:(EM.st W n i).ms.sum=0
 ·rw[decide_eq_true ((sq aj).mpr hs)]
  exact⟨_,rfl,q y cs i H2 (S1.trans I) ao (I _ _ hc) ⟨up,hs⟩ (Paired.mapP ai λ_ _ h=>h.mono I)⟩
 rw[decide_eq_false (λz=>hs ((sq aj).mp z))]
 refine⟨_,(λbx Z z=>z),?_⟩
 have sp:=EM.step_of C up hs
 have af:=S1.trans I
 have ar:=I _ _ hl
 have ay:=rQ I hg
 have ac:=I _ _ hc
 have a4:=Paired.mapP ai λ_ _ (h:IsC K y H1 _ _)=>h.mono I
 clear hl hg hc ai hv
 have eC:EM.cs W (EM.st W n i)=⟨EM.at0 (EM.st W n i).ms (EM.pick (EM.dishes W (EM.st W n i).ms) (EM.st W n i).ms),(EM.st W n i).D*EM.cnt (EM.dishes W (EM.st W n i).ms) (EM.pick (EM.dishes W (EM.st W n i).ms) (EM.st W n i).ms),EM.dishes W (EM.st W n i).ms,EM.goneOf (EM.dishes W (EM.st W n i).ms) (EM.nextMs (EM.dishes W (EM.st W n i).ms) (EM.st W n i).ms)⟩:=rfl
 have eN:EM.st W n (i+1)=EM.nxt W (EM.st W n i):=rfl
 -- the dishes
 refine⟨_,rfl,a,rfl,⟨_,af.seq hA⟩,?_⟩
 refine sP (xs:=ws) (λj e U=>Same H2 U/\e=((W.take j).map (EM.best (EM.st W n i).ms)).map V.int)
  ⟨Same.refl _,rfl⟩ (λj e U _ b=>(af.trans b.1).seq hA) (λj x e U o b=>?_) (λe U b g aD=>?_)
 ·obtain⟨T,rfl⟩:=b
  obtain⟨aK,u,wa,rfl,be⟩:=Paired.get' hW o
  have bf:=da u
  have aG:=C.pm aK bf
  have bv:j<W.length:=(cL.mp u).1
  obtain⟨t,ba,bq,aB⟩:=EM.some_left hs
  refine⟨_,rfl,_,rfl,wa,l,aK,(EM.st W n i).ms,(EM.st W n i).D,Y,rfl,(af.trans T).tup be,SqL.of (T _ _ ar),rQ T ay,hD,λt S=>by rw[aM];exact LM.mem_rng.mp (aG.mem_iff.mp S),by rw[aG.length_eq,LM.rng_len];omega,⟨t,aG.mem_iff.mpr (LM.mem_rng.mpr ⟨ba,by omega⟩),aB⟩,λH4 S4=>⟨D9 (by rw[cx,cx,cV];omega),T.trans S4,?_⟩⟩
  rw[cY,u,cS,cS]
  rfl
 obtain⟨T,rfl⟩:=b
 rw[aO,dj]
 have eD:W.map (EM.best (EM.st W n i).ms)=EM.dishes W (EM.st W n i).ms:=rfl
 rw[eD]
 have a3:g≠y:=λz=>by rw[z,T _ _ ac]at aD;cases aD
 have ad:Same H2 (upd U g (.lst ((EM.dishes W (EM.st W n i).ms).map V.int))):=T.trans (rr aD _)
 have ah:upd U g (.lst ((EM.dishes W (EM.st W n i).ms).map V.int)) g=some (.lst ((EM.dishes W (EM.st W n i).ms).map V.int)):=rC
 generalize upd U g (.lst ((EM.dishes W (EM.st W n i).ms).map V.int))=H4 at ad ah ⊢
 have aU:=sp.dl
 have O:=sp.dm
 have a6:0<EM.at0 (EM.st W n i).ms (EM.pick (EM.dishes W (EM.st W n i).ms) (EM.st W n i).ms):=sp.m0
 have a8:EM.at0 (EM.st W n i).ms (EM.pick (EM.dishes W (EM.st W n i).ms) (EM.st W n i).ms)<=(EM.st W n i).D:=sp.mD
 have a2:0<EM.cnt (EM.dishes W (EM.st W n i).ms) (EM.pick (EM.dishes W (EM.st W n i).ms) (EM.st W n i).ms):=sp.c0
 have a0:EM.cnt (EM.dishes W (EM.st W n i).ms) (EM.pick (EM.dishes W (EM.st W n i).ms) (EM.st W n i).ms)<=6:=sp.c6
 have bc:EM.dishes W (EM.st W n i).ms≠[]:=λz=>by rw[z]at aU;simp at aU;omega
 -- the time
 refine⟨_,rfl,_,rfl,g,l,EM.dishes W (EM.st W n i).ms,(EM.st W n i).ms,(EM.st W n i).D,Y,rfl,SqL.of ah,SqL.of (ad _ _ ar),rQ ad ay,hD,aN,bc,by omega,λt S=>by rw[aM];exact(O t S).1,aA,λv5 H5 S5 bb=>?_⟩
 obtain⟨G,rfl,aY⟩:=bb
 have ab:=ad.trans S5
 -- what is left
 refine⟨_,rfl,_,rfl,_,rfl,g,l,G,EM.dishes W (EM.st W n i).ms,(EM.st W n i).ms,(EM.st W n i).D,_,_,Y,rfl,SqL.of (S5 _ _ ah),SqL.of (ab _ _ ar),rQ ab ay,⟨G,rfl,aY⟩,hD,aN,a2,a0,fq a6,a8,by omega,by omega,aA,λl6 aH H6 S6 an aW aE=>?_⟩
 have bk:=ab.trans S6
 have av:l6≠y:=λz=>by rw[z,ab _ _ ac]at an;cases an
 change dr (IsF K H6) aH (fr (EM.st W n (i+1)).D (EM.st W n (i+1)).ms)at aE
 have aq:=sp.S'
 rw[<-eN]at aq
 have aZ:(EM.st W n (i+1)).ms.length=n:=aq.len
 have aX:(EM.st W n (i+1)).D≠0:=by have:=aq.pos;omega
 have aS:=S6 _ _ (S5 _ _ ah)
 -- what is gone
 refine⟨_,rfl,g,EM.dishes W (EM.st W n i).ms,rfl,SqL.of aS,λt S=>by have:=(O t S).1;omega,λls r bl aa aR aI=>⟨ls,rfl,⟨_,SqL.of rC⟩,?_⟩⟩
 have J:Same H6 (upd H6 ls (.lst (r.map V.int))):=rr bl _
 have am:upd H6 ls (.lst (r.map V.int)) ls=some (.lst (r.map V.int)):=rC
 generalize upd H6 ls (.lst (r.map V.int))=H7 at J am ⊢
 have bz:r.length<=6:=EM.nodup_len 6 aR λt S=>by have:=(O t ((aa t).mp S)).1;omega
 refine vm (xs:=r.map V.int) (λj e L=>L=H7/\e=((r.take j).filter λt=>decide (EM.at0 (EM.st W n (i+1)).ms t=0)).map V.int)
  ⟨rfl,rfl⟩ (λj e L _ b=>by rw[b.1];exact SqL.of am) (λj x e L o b=>?_) (λe L b pg bi=>?_)
 ·obtain⟨rfl,rfl⟩:=b
  rw[cH]at o
  cases ae:r[j]? with
  | none=>rw[ae]at o;cases o
  | some t=>
   rw[ae]at o
   have bj:V.int t=x:=Option.some.inj o
   subst bj
   have a7:=(O t ((aa t).mp (da ae))).1
   have aB:t.toNat<(EM.st W n (i+1)).ms.length:=by omega
   have bg:(fr (EM.st W n (i+1)).D (EM.st W n (i+1)).ms)[t.toNat]?=some (FQ.red (EM.at0 (EM.st W n (i+1)).ms t) (EM.st W n (i+1)).D):=by
    unfold fr EM.at0
    rw[cH,cC,cz aB]
    rfl
   obtain⟨v,hv,hF⟩:=Paired.get aE bg
   refine⟨_,rfl,_,rfl,l6,aH,t,v,rfl,rfl,SqL.of (J _ _ aW),sE a7.1 hv,λc1 a9=>?_⟩
   refine⟨_,_,(hF.mono J).rep,IsF.rep (p:=(0,1)) ⟨c1,rfl,a9 _⟩,sA _,sA _,_,rfl,?_⟩
   rw[uM,cY,ae,gm,cS]
   have a1:(((r.take j).filter λt=>decide (EM.at0 (EM.st W n (i+1)).ms t=0)).map V.int).length<sizeLine:=by
    rw[cx]
    have h1:=d6 (λt=>decide (EM.at0 (EM.st W n (i+1)).ms t=0)) (r.take j)
    rw[cV]at h1
    exact D9 (by omega)
   refine Ey (λc=>?_) (λc=>?_)
   ·have hz:EM.at0 (EM.st W n (i+1)).ms t=0:=(sq aX).mp c
    refine⟨_,rfl,a1,rfl,?_⟩
    simp[hz]
   ·have hz:EM.at0 (EM.st W n (i+1)).ms t≠0:=λz=>c ((sq aX).mpr z)
    refine⟨rfl,?_⟩
    simp[hz]
 obtain⟨rfl,rfl⟩:=b
 rw[cx,dj,EM.gone_eq aa aR aI (λd hd=>by rw[aZ];exact(O d hd).1)]
 have eG:EM.goneOf (EM.dishes W (EM.st W n i).ms) (EM.st W n (i+1)).ms=(EM.cs W (EM.st W n i)).gone:=rfl
 rw[eG]
 have aC:Same L (upd L pg (.lst ((EM.cs W (EM.st W n i)).gone.map V.int))):=rr bi _
 have aw:upd L pg (.lst ((EM.cs W (EM.st W n i)).gone.map V.int)) pg=some (.lst ((EM.cs W (EM.st W n i)).gone.map V.int)):=rC
 generalize upd L pg (.lst ((EM.cs W (EM.st W n i)).gone.map V.int))=H9 at aC aw ⊢
 have aP:=bk.trans (J.trans aC)
 refine⟨_,rfl,.inl ⟨rfl,_,SqL.of (aP _ _ ac)⟩,_,rfl,_,rfl,_,rfl,pg,_,rfl,.inl ⟨SqL.of aw,λk bh=>?_⟩⟩
 refine⟨by show 3<=sizeLine;decide,λX aL=>?_⟩
 have ap:Same H9 (upd (upd H9 k (.tup ((EM.cs W (EM.st W n i)).gone.map V.int))) X (.tup [.ref G,.ref g,.ref k])):=(rr bh _).trans (rr aL _)
 have ax:upd (upd H9 k (.tup ((EM.cs W (EM.st W n i)).gone.map V.int))) X (.tup [.ref G,.ref g,.ref k]) k=some (.tup ((EM.cs W (EM.st W n i)).gone.map V.int)):=rr aL _ _ _ rC
 have az:upd (upd H9 k (.tup ((EM.cs W (EM.st W n i)).gone.map V.int))) X (.tup [.ref G,.ref g,.ref k]) X=some (.tup [.ref G,.ref g,.ref k]):=rC
 generalize upd (upd H9 k (.tup ((EM.cs W (EM.st W n i)).gone.map V.int))) X (.tup [.ref G,.ref g,.ref k])=HB at ap ax az ⊢
 have al:=aP.trans ap
 have ak:Same H6 HB:=J.trans (aC.trans ap)
 have ag:=al _ _ ac
 refine⟨y,cs,_,rfl,rfl,ag,D9 (by omega),?_⟩
 have aQ:=up.snoc hs
 have bo:=EM.upto_le C aQ
 refine⟨n-(i+1),by omega,i+1,l6,aH,cs++[.ref X],_,_,_,rfl,rfl,(af.trans al).over ao _,aQ,by rw[rH av];exact ak _ _ aW,Paired.mapP aE (λ_ _ h=>(h.mono ak).over ag),av,rC,?_⟩
 unfold EL
 rw[gf,cS]
 refine Paired.app (Paired.mapP a4 λ_ _ h=>(h.mono al).over ag) (.cons (IsC.over ?_ ag) .nil)
 refine⟨X,G,g,k,rfl,SqT.of az,⟨G,rfl,(S6.trans ak).tup aY⟩,ak _ _ aS,SqT.of ax,a3⟩
theorem Gg:Eb ["courses","person","thing"] ["courses","person","thing"] (D8 (Ec 26)):=⟨rfl,rfl,rfl,by decide +kernel,rfl,by decide +kernel,by decide +kernel⟩
theorem IJ(M:Md K mg x cB)
  (Gtotal:Dn P w K mg base Ei 4 "total" ["parts"] (IV K)):Dn P w K mg base Ei 5 "eaten_of" ["courses","person","thing"] (Hl K):=by
 have nd:=(Gg).nd
 refine M.f_eaten_of.ok Gg (λvs H Q E h=>?_) (λ_ _ _ _ _ _ us hl=>match us,hl with|[_,_,_],_=>rfl) (λf ah A af s H vs Q E hr h=>?_)
 ·obtain⟨c,cs,W,n,N,p,t,rfl,U,C,I,r,hp,q⟩:=h
  rfl
 obtain⟨c,cs,W,n,N,p,t,rfl,U,C,I,r,hp,q⟩:=h
 refine⟨_,(rD (rM (rS Gtotal hr (by decide) rfl Ed (mM (su rfl (N:=["length","dishes","gone","person","thing"]) (caps:=[none,none,none,some 1,some 2]) (CompOk.of (by kernel_rfl)) (yZ (sZ sH (rW rfl) (sZ sH (rW rfl) (sZ sH (rW rfl) wY)))) (sS (pv 0)) (λ_ _ _ _=>(wQ (K:=K) rfl 3 rfl (sy (rK (i:=0) (show(["length","dishes","gone","person","thing"]:List Str).Nodup by decide +kernel) rfl (Or.inl rfl) (Or.inr rfl)) (sy (rK (i:=1) (show(["length","dishes","gone","person","thing"]:List Str).Nodup by decide +kernel) rfl (Or.inl rfl) (Or.inr rfl)) (sy (rK (i:=2) (show(["length","dishes","gone","person","thing"]:List Str).Nodup by decide +kernel) rfl (Or.inl rfl) (Or.inr rfl)) uk))))) (λ_ _ _ _=>(tX (rR tO (rN (sU (K:=K) rfl) (pv 1) (pv 3) (λ_ _=>rfl)) (pv 4) (Ef _)))) (λ_ _ _ _=>(pv 0))) rq)))),?_⟩
 try dsimp -proj only[nox_K,hold_K,cxOf_K]
 have u:=Paired.len r
 unfold EL at u
 rw[cx,fb]at u
 have ao:=EM.upto_le C I
 have ae:=C.n6
 refine⟨_,rfl,c,rfl,⟨_,SqL.of U⟩,?_⟩
 refine vm (xs:=cs) (λi o G=>G=H/\i<=N/\∃b,dr (IsF K H) o b/\(∀p∈b,Sz 30 p)/\b.length<=i/\Fk b=FQ.red (EM.et W n i p t) (EM.st W n i).D)
  ⟨rfl,du _,[],.nil,(λ_ z=>nomatch z),du _,by show((0:Int),(1:Int))=FQ.red 0 1;exact(u7 (by decide)).symm⟩ (λi o G _ B=>by rw[B.1];exact SqL.of U) (λi x o G hx B=>?_) (λo G B Dd L=>?_)
 ·obtain⟨rfl,_,b,j,k,O,a⟩:=B
  obtain⟨co,ad,ac⟩:=Paired.get' r hx
  obtain⟨F,rfl⟩:=zj ad
  obtain⟨xa,l,d,g,rfl,h1,h2,h3,h4,_⟩:=ac
  have s:=EM.step_of C (I.mono (dB F)) (I i F)
  have hD:=s.S.pos
  have aa:=EM.D_le s.S ae
  have J:(EM.st W n i).D≠0:=by omega
  have X:=s.c0
  have ab:=s.c6
  have an:0<(EM.st W n i).D*EM.cn W (EM.st W n i):=gU hD X
  have ag:(EM.st W n i).D*EM.cn W (EM.st W n i)<=262144*6:=jv aa ab (by omega) (by decide)
  have ai:=s.m0
  have aj:=s.mD
  have ak:(EM.cs W (EM.st W n i)).ds.length=n:=s.dl
  have R:(EM.cs W (EM.st W n i)).D=(EM.st W n i).D*EM.cn W (EM.st W n i):=rfl
  have am:(EM.cs W (EM.st W n i)).ds=EM.dishes W (EM.st W n i).ms:=rfl
  have Z:EM.et W n (i+1) p t=EM.et W n i p t*EM.cn W (EM.st W n i)+if(EM.dishes W (EM.st W n i).ms).getD p 0=t then(EM.cs W (EM.st W n i)).m else 0:=rfl
  have Y:(EM.st W n (i+1)).D=(EM.st W n i).D*EM.cn W (EM.st W n i):=rfl
  have al:=Paired.len j
  refine⟨xa,_,rfl,h1,rfl,_,_,rfl,_,_,rfl,_,_,rfl,rfl,?_⟩
  refine⟨_,rfl,_,rfl,d,_,_,_,rfl,rfl,SqL.of h3,si (tw (by omega)),_,rfl,rfl,_,rfl,Ey (λe=>?_) (λe=>?_)⟩
  ·have T:(EM.dishes W (EM.st W n i).ms).getD p 0=t:=Ki e
   refine⟨_,rfl,D9 (by omega),rfl,F,b++[FQ.red (EM.cs W (EM.st W n i)).m (EM.cs W (EM.st W n i)).D],Paired.app j (.cons h2 .nil),λz hz=>?_,by rw[dq];simp;omega,?_⟩
   ·rcases dJ.mp hz with y|y
    ·exact k z y
    ·rw[cK.mp y,R]
     exact tQ (by omega) (by omega) (by omega)
   ·rw[uA,a,R,Aj J (by omega),Z,if_pos T,Y]
  ·have T:¬(EM.dishes W (EM.st W n i).ms).getD p 0=t:=λz=>e (by show V.int ((EM.dishes W (EM.st W n i).ms).getD p 0)=V.int t;rw[z])
   refine⟨rfl,F,b,j,k,by omega,?_⟩
   rw[a,Z,if_neg T,gD,Y,Bk J (by omega)]
 ·obtain⟨rfl,_,b,j,k,O,a⟩:=B
  rw[u]at O a
  refine⟨Dd,o,b,rfl,SqL.of rC,rQ (rr L _) j,k,by omega,λv H2 S2 hv=>q v H2 ((rr L _).trans S2) ?_⟩
  rw[<-a]
  exact hv
theorem Gm:Eb ["courses","person","count"] ["courses","person","count"] (D8 (Ec 27)):=⟨rfl,rfl,rfl,by decide +kernel,rfl,by decide +kernel,by decide +kernel⟩
theorem IY(M:Md K mg x cB)
  (Geaten_of:Dn P w K mg base Ei 5 "eaten_of" ["courses","person","thing"] (Hl K)):Dn P w K mg base Ei 6 "eaten_by" ["courses","person","count"] (G9 K):=by
 have T:=(Gm).nd
 refine M.f_eaten_by.ok Gm (λvs H Q E h=>?_) (λ_ _ _ _ _ _ F G=>match F,G with|[_,_,_],_=>rfl) (λf O A B s H vs Q E L h=>?_)
 ·obtain⟨c,cs,W,n,N,p,rfl,z,o,y,g,hp,q⟩:=h
  rfl
 obtain⟨c,cs,W,n,N,p,rfl,z,o,y,g,hp,q⟩:=h
 refine⟨_,(rD (rM (sd sG rfl M.b_tuple Boot.«tuple» (mM (su rfl (N:=["thing","courses","person"]) (caps:=[none,some 0,some 1]) (CompOk.of (by kernel_rfl)) (rW rfl) (rX rfl M.b_range (mM (pv 2) rq)) (λ_ _ _ _=>(rK (i:=0) (show(["thing","courses","person"]:List Str).Nodup by decide +kernel) rfl (Or.inl rfl) (Or.inr rfl))) (λ_ _ _ _=>sj) (λ_ _ _ _=>(rS Geaten_of L (by decide) rfl Ed (mM (pv 1) (mM (pv 2) (mM (pv 0) rq)))))) rq)))),?_⟩
 try dsimp -proj only[nox_K,hold_K,cxOf_K]
 have R:=o.n6
 refine⟨_,rfl,(n:Int),rfl,by omega,by omega,?_⟩
 refine sK (n:=n) (λj d e=>Same H e/\dr (IsF K e) d (fr (EM.st W n N).D (((LM.rng n).take j).map (EM.et W n N p))))
  ⟨Same.refl _,.nil⟩ (λj d e J r=>?_) (λd e r C l=>?_)
 ·obtain⟨b,a⟩:=r
  have m:=Paired.len a
  unfold fr at m
  rw[cx,cx,cV,LM.rng_len]at m
  refine⟨_,rfl,_,rfl,_,rfl,c,cs,W,n,N,p,(j:Int),by rw[d3];rfl,b _ _ z,o,y,Paired.mapP g (λ_ _ h=>h.mono b),hp,λv S u I=>⟨D9 (by omega),b.trans u,?_⟩⟩
  rw[cY,EM.rng_get J]
  unfold fr
  rw[cS,cS]
  exact Paired.app (rQ u a) (.cons I .nil)
 ·obtain⟨b,a⟩:=r
  rw[eK (by rw[LM.rng_len];exact cI _)]at a
  refine⟨C,d,rfl,.inl ⟨SqL.of rC,λt k=>q (.ref t) _ (b.trans ((rr l _).trans (rr k _))) ⟨t,d,rfl,SqT.of rC,?_⟩⟩⟩
  exact rQ ((rr l _).trans (rr k _)) a
theorem HY:Eb ["wishes","courses"] ["wishes"] (D8 (Ec 28)):=⟨rfl,rfl,rfl,by decide +kernel,rfl,by decide +kernel,by decide +kernel⟩
theorem JW(M:Md K mg x cB)
  (Gcourses_of:Dn P w K mg base Ei 5 "courses_of" ["wishes"] (Hh K))
  (Geaten_by:Dn P w K mg base Ei 6 "eaten_by" ["courses","person","count"] (G9 K)):Dn P w K mg base Ei 7 "eaten" ["wishes"] (HK K):=by
 have T:=(HY).nd
 refine M.f_eaten.ok HY (λvs H Q E h=>?_) (λ_ _ _ _ _ _ I J=>match I,J with|[_],_=>rfl) (λf U A C s H vs Q E B h=>?_)
 ·obtain⟨a,e,W,n,rfl,hA,p,g,q⟩:=h
  rfl
 obtain⟨a,e,W,n,rfl,hA,p,g,q⟩:=h
 refine⟨_,(rn (rG (i:=1) T rfl (Or.inr rfl) (rS Gcourses_of B (by decide) rfl Ed (mM (pv 0) rq)))
   (rD (rM (su rfl (N:=["person","wishes","courses"]) (caps:=[none,some 0,some 1]) (CompOk.of (by kernel_rfl)) (rW rfl) (rX rfl M.b_range (mM (rJ rP rfl M.b_len dD (mM (pv 0) rq)) rq)) (λ_ _ _ _=>(rK (i:=0) (show(["person","wishes","courses"]:List Str).Nodup by decide +kernel) rfl (Or.inl rfl) (Or.inr rfl))) (λ_ _ _ _=>sj) (λ_ _ _ _=>(rS Geaten_by B (by decide) rfl Ed (mM (pv 2) (mM (pv 0) (mM (rJ (ux (K:=K) rfl) rfl M.b_len dD (mM (pv 1) rq)) rq))))))))),?_⟩
 try dsimp -proj only[nox_K,hold_K,cxOf_K]
 have X:=g.n6
 have Y:=Paired.len p
 have hn:=g.len
 refine⟨_,rfl,a,e,W,n,rfl,hA,p,g,λc cs N L l V S t u=>?_⟩
 refine⟨_,rfl,a,_,rfl,.inl (l.seq hA),(e.length:Int),rfl,by omega,by omega,?_⟩
 have G:((e.length:Nat):Int).toNat=n:=by omega
 rw[G]
 refine sK (n:=n) (λj m o=>Same L o/\dr (RwFT K o (EM.st W n N).D) m ((db j).map (Fd W n N)))
  ⟨Same.refl _,.nil⟩ (λj m o R r=>?_) (λm o r F k=>?_)
 ·obtain⟨b,d⟩:=r
  have z:=Paired.len d
  rw[cx,fb]at z
  refine⟨_,rfl,_,rfl,_,rfl,a,_,rfl,.inl ((l.trans b).seq hA),c,cs,W,n,N,j,by rw[d3,show e.length=n by omega];rfl,b _ _ S,g,t.up,Paired.mapP u (λ_ _ h=>h.mono b),R,λv Z y O=>⟨D9 (by omega),b.trans y,?_⟩⟩
  rw[gf,cS]
  exact Paired.app (Paired.mapP d λ_ _ h=>h.mono y) (.cons O .nil)
 ·obtain⟨b,d⟩:=r
  exact q F m N _ (l.trans (b.trans (rr k _))) ((l.trans b).free k) rC t (Paired.mapP d λ_ _ h=>h.mono (rr k _))
theorem Fx:Eb ["left","begun","person","thing","part","deal"] ["left","begun"] (D8 (Ec 30)):=⟨rfl,rfl,rfl,by decide +kernel,rfl,by decide +kernel,by decide +kernel⟩
theorem En{m:Nat}(M:Md K mg x cB)
  (Gdeal_within:Dn P w K mg base Ei m "deal_within" ["left","begun"] (Jz (GG K) m)):Dn P w K mg base Ei (m+1) "deal_within" ["left","begun"] (GG K m):=by
 have O:=(Fx).nd
 refine M.f_deal_within.ok Fx (λvs H Q E h=>?_) (λ_ _ _ _ _ _ us hl=>match us,hl with|[_,_],_=>rfl) (λf aj A ai s H vs Q E hr h=>?_)
 ·obtain⟨l,b,y,e,T,n,k,a,rfl,J,G,u,D,ae,ac,q0,q1⟩:=h
  rfl
 obtain⟨l,b,y,e,T,n,k,a,rfl,J,G,u,D,ae,ac,q0,q1⟩:=h
 refine⟨_,(rn (rG (i:=2) O rfl (Or.inl rfl) (rJ rP rfl M.b_len dD (mM (pv 1) rq)))
   (rn (sv (rR tO (pv 2) (rJ rP rfl M.b_len dD (mM (pv 0) rq)) (Ef _)) (rD (rM (pv 1))) rV)
   (rn (sN dA rfl (Ai rfl M.b_enumerate (mM (rN rL (pv 0) (pv 2) (λ_ _=>rfl)) rq)) (yQ rfl (sy (rK (i:=3) O rfl (Or.inl rfl)) (sy (rK (i:=4) O rfl (Or.inl rfl)) uk))) (rD (sv (PW.pt (CA (rR (xj hr) (pv 4) (tW M.c_NOTHING) (Ef _)) (zQ (rR tZ (pv 3) (pv 1) (by with_unfolding_all rfl))))) (rn (rG (i:=5) O rfl (Or.inl rfl) (rS Gdeal_within hr (cI _) rfl Ed (mM (pv 0) (mM (rO zZ (pv 1) (sF (mM (pv 3) rq))) rq))))
   (rD (sv (rR A1 (pv 5) v9 (Ef _)) (rD (rM (pv 5))) rV))) rV)))
   (rD (rM v9))))),?_⟩
 try dsimp -proj only[nox_K,hold_K,cxOf_K]
 have al:=Paired.len G
 have am:=u.hi
 have ak:=u.len
 have hT:=u.t0
 have W:(a.map V.int).length=a.length:=cx _
 refine⟨_,rfl,b,_,rfl,.inr D,?_⟩
 refine⟨_,rfl,_,rfl,l,y,rfl,.inl J,rfl,_,rfl,Ey (λc=>?_) (λc=>?_)⟩
 ·have c':(a.map V.int).length=y.length:=by have:=Ki c;omega
  have ah:k=0:=by omega
  subst ah
  exact⟨_,rfl,q1 a rfl b H (Same.refl _) D⟩
 have c':a.length≠y.length:=λz=>c (by show V.int _=V.int _;rw[W,z])
 obtain⟨k,rfl⟩:∃k',k=k'+1:=⟨k-1,by omega⟩
 obtain⟨m,rfl⟩:∃m',m=m'+1:=⟨m-1,by omega⟩
 have C:a.length<e.length:=by omega
 obtain⟨rv,ag,ra,gs,rfl,X,B⟩:=Paired.get G (cz C)
 have af:=u.cols _ (cW C)
 have eM:e.getD a.length []=e[a.length]:=HM.getD_lt C
 have eE:∀t,HM.ent e a.length t=(e[a.length]).getD t 0:=λt=>by unfold HM.ent;rw[eM]
 generalize e[a.length]=o at B af eE
 have ab:=Paired.len B
 rw[yE]at ab
 refine⟨_,rfl,_,rfl,l,y,_,_,rfl,rfl,J,by rw[W];exact si ag,ra,rfl,⟨_,X⟩,?_⟩
 refine BU (xs:=gs) (λi I j=>Same H j/\(db i).findSome? (λt=>if HM.ent e a.length t≠0/\(t:Int)∉a then HM.within e k (a++[(t:Int)])else none)=none/\∃Z r4 r5,I=[some (.ref l),some (.ref b),some (.int (a.map V.int).length),Z,r4,r5])
  ⟨Same.refl _,rfl,_,_,_,rfl⟩ (λi I j _ F=>F.1.seq X) (λi v I j t hv ht F=>?_) (λI j F=>?_)
 ·obtain⟨S1,g,Z,r4,r5,rfl⟩:=F
  have hi:i<o.length:=by
   have:=(cL.mp hv).1
   omega
  obtain⟨p,hp,hF⟩:=Paired.get' B hv
  rw[z8 hi]at hp
  cases hp
  have r:Same H (upd j t (.tup [.int i,v])):=S1.trans (rr ht _)
  have Y:upd j t (.tup [.int i,v]) t=some (.tup [.int i,v]):=rC
  generalize upd j t (.tup [.int i,v])=N at r Y ⊢
  refine⟨t,_,rfl,SqT.of Y,rfl,_,_,rfl,_,_,rfl,rfl,?_⟩
  refine⟨_,rfl,λc0 aa=>⟨dF (FQ.red (o.getD i 0) T),dF (0,1),(hF.mono r).rep,IsF.rep ⟨c0,rfl,aa _⟩,sA _,sA _,_,rfl,?_⟩⟩
  rw[uM]
  refine GP (λc1=>?_) (λc1=>?_)
  case refine_2=>
   have hz:o.getD i 0=0:=(sq (by omega)).mp c1
   refine⟨r,?_,_,_,_,rfl⟩
   rw[LN.findSome_snoc g,if_neg (λz=>z.1 (by rw[eE];exact hz))]
  have hz:o.getD i 0≠0:=λz=>c1 ((sq (by omega)).mpr z)
  refine⟨_,rfl,_,rfl,b,_,rfl,.inr (r.tup D),rfl,vo _,_,rfl,?_⟩
  show if(!Jv (.int (i:Int)) (a.map V.int))=true then _ else _
  rw[wT]
  refine GP (λc2=>?_) (λc2=>?_)
  case refine_2=>
   refine⟨r,?_,_,_,_,rfl⟩
   rw[LN.findSome_snoc g,if_neg (λz=>z.2 c2)]
  have R:HM.ent e a.length i≠0/\(i:Int)∉a:=⟨by rw[eE];exact hz,c2⟩
  refine⟨_,rfl,_,rfl,_,rfl,by show 1<=sizeLine;decide,λL ad=>?_⟩
  have S3:Same N (upd N L (.tup [.int i])):=rr ad _
  have U:SqT K (upd N L (.tup [.int i])) L (([(i:Int)]:List Int).map V.int):=SqT.of rC
  generalize upd N L (.tup [.int i])=H3 at S3 U ⊢
  have S:=r.trans S3
  refine DJ (S.tup D) U (by simp;omega) λp4 H4 S4 h4=>?_
  have q:=S.trans S4
  refine⟨l,p4,y,e,T,n,k,a++[(i:Int)],rfl,q.seq J,Paired.mapP G (λ_ _ h=>h.mono q),u,h4,by rw[dq];simp;omega,by omega,λe5 H5 S5=>?_,λd e5 p5 H5 S5 h5=>?_⟩
  ·refine⟨_,rfl,rfl,_,rfl,Er ?_⟩
   refine⟨q.trans S5,?_,_,_,_,rfl⟩
   rw[LN.findSome_snoc g,if_pos R]
   exact e5
  ·refine⟨_,rfl,rfl,_,rfl,EN ?_⟩
   refine⟨_,rfl,q1 d ?_ p5 H5 (q.trans S5) h5⟩
   show(db e.length).findSome? _=some d
   exact LN.findSome_up (i:=i+1) (by rw[LN.findSome_snoc g,if_pos R];exact e5) (by omega)
 ·obtain⟨S1,g,Z,r4,r5,rfl⟩:=F
  refine q0 ?_ _ S1
  show(db e.length).findSome? _=none
  rw[show e.length=gs.length by omega]
  exact g
theorem Fv:Eb ["row","thing","weight","rest"] ["row","thing","weight"] (D8 (Ec 31)):=⟨rfl,rfl,rfl,by decide +kernel,rfl,by decide +kernel,by decide +kernel⟩
theorem GY(M:Md K mg x cB)
  (Gminus:Dn P w K mg base Ei 3 "minus" ["one","two"] (G4 IK K)):Dn P w K mg base Ei 4 "row_without" ["row","thing","weight"] (JJ K):=by
 have nd:=(Fv).nd
 refine M.f_row_without.ok Fv (λvs H Q E h=>?_) (λ_ _ _ _ _ _ V X=>match V,X with|[_,_,_],_=>rfl) (λf aa A S s H vs Q E hr h=>?_)
 ·obtain⟨r,w,a,m,t,T,x,rfl,d,j,B,⟨W,u⟩,⟨c,L⟩,R,⟨G,F⟩,⟨C,O⟩,q⟩:=h
  rfl
 obtain⟨r,w,a,m,t,T,x,rfl,d,j,B,⟨W,u⟩,⟨c,L⟩,R,⟨G,F⟩,⟨C,O⟩,q⟩:=h
 refine⟨_,(rn (rG (i:=3) nd rfl (Or.inl rfl) (sd sO rfl M.b_list Boot.«list» (mM (pv 0) rq)))
   (rn (wj (rS Gminus hr (by decide) rfl Ed (mM (rN rL (pv 0) (pv 1) (λ_ _=>rfl)) (mM (pv 2) rq))) (vY (pv 3) (pv 1) wy))
   (rD (rM (pv 3))))),?_⟩
 try dsimp -proj only[nox_K,hold_K,cxOf_K]
 have g:T≠0:=by omega
 have y:=Paired.len j
 rw[yE]at y
 obtain⟨_,Y,z⟩:=id B
 cases Y
 have I:t.toNat<m.length:=by omega
 refine⟨_,rfl,r,a,rfl,.inl d,λp hp=>?_⟩
 have b:Same H (upd H p (.lst a)):=rr hp _
 have l:upd H p (.lst a) p=some (.lst a):=rC
 generalize upd H p (.lst a)=H1 at b l ⊢
 obtain⟨v,Z,U,rfl,J⟩:=Paired.get j (z8 (D:=T) I)
 refine⟨_,rfl,_,rfl,r,a,t,_,rfl,rfl,b.seq d,sE c Z,_,rfl,U,w,_,_,rfl,b.tup J,b.tup z,vA g (by omega) (by omega),vA g (by omega) (by omega),λpf H2 o k=>?_⟩
 rw[Bz g]at k
 have n:=o _ _ l
 have N:Jn a.length t=some t.toNat:=by
  unfold Jn
  rw[if_pos c,if_pos (by omega)]
 refine⟨_,rfl,_,rfl,p,_,_,_,rfl,rfl,n,N,?_⟩
 refine⟨_,rfl,q p _ _ ((b.trans o).over hp _) hp rC ?_⟩
 have e:fr T (LM.addOne m t (-x))=(fr T m).set t.toNat (FQ.red (m.getD t.toNat 0-x) T):=by
  unfold fr LM.addOne
  rw[qp,mV]
 rw[e]
 exact Paired.mapP (vX (rQ (b.trans o) j) ⟨pf,rfl,SqT.of k⟩) λ_ _ h=>h.over n
theorem GV:Eb ["table","left","spent","lots","deal","weight"] ["table"] (D8 (Ec 32)):=⟨rfl,rfl,rfl,by decide +kernel,rfl,by decide +kernel,by decide +kernel⟩
theorem Jl(M:Md K mg x cB)
  (Gdeal_within:Dn P w K mg base Ei 7 "deal_within" ["left","begun"] (GG K 6))
  (Gleast:Dn P w K mg base Ei 2 "least" ["parts"] (Hz K))
  (Grow_without:Dn P w K mg base Ei 4 "row_without" ["row","thing","weight"] (JJ K))
  (Gplus:Dn P w K mg base Ei 3 "plus" ["one","two"] (G4 FN K)):Dn P w K mg base Ei 8 "lots_of" ["table"] (GH K):=by
 have nd:=(GV).nd
 refine M.f_lots_of.ok GV (λvs H Q E h=>?_) (λ_ _ _ _ _ _ us hl=>match us,hl with|[_],_=>rfl) (λf bj A bh s H vs Q E hr h=>?_)
 ·obtain⟨a,us,Z,T,n,rfl,hA,hZ,ok,q⟩:=h
  rfl
 obtain⟨a,us,Z,T,n,rfl,hA,hZ,ok,q⟩:=h
 refine⟨_,(rn (sB (i:=1) nd rfl rfl rfl rfl (N:=["row"]) (caps:=[none]) (CompOk.of (by kernel_rfl)) (rW rfl) (sS (pv 0)) (λ_ _ _ _=>(rK (i:=0) (show(["row"]:List Str).Nodup by decide +kernel) rfl (Or.inl rfl) (Or.inr rfl))) (λ_ _ _ _=>sj) (λ_ _ _ _=>(sd (w4 (K:=K) rfl) rfl M.b_list Boot.«list» (mM (pv 0) rq))))
   (rn (rG (i:=2) nd rfl (Or.inl rfl) (tW M.c_NOTHING))
   (rn (rG (i:=3) nd rfl (Or.inl rfl) (tU rq))
   (rn (uE dA (rR (xj hr) (pv 2) (tW M.c_WHOLE) (Ef _)) (rn (rG (i:=4) nd rfl (Or.inl rfl) (rS Gdeal_within hr (by decide) rfl Ed (mM (pv 1) (mM (sF rq) rq))))
   (rn (rG (i:=5) nd rfl (Or.inr rfl) (rS Gleast hr (by decide) rfl Ed (mM (su rfl (N:=["row","thing"]) (caps:=[none,none]) (CompOk.of (by kernel_rfl)) (yZ (sZ sH (rW rfl) (sZ sH (rW rfl) wY))) (Cn rfl M.b_zip (mM (pv 1) (mM (pv 4) rq))) (λ_ _ _ _=>(wQ (K:=K) rfl 2 rfl (sy (rK (i:=0) (show(["row","thing"]:List Str).Nodup by decide +kernel) rfl (Or.inl rfl) (Or.inr rfl)) (sy (rK (i:=1) (show(["row","thing"]:List Str).Nodup by decide +kernel) rfl (Or.inl rfl) (Or.inr rfl)) uk)))) (λ_ _ _ _=>sj) (λ_ _ _ _=>(rN (sU (K:=K) rfl) (pv 0) (pv 1) (λ_ _=>rfl)))) rq)))
   (rn (sB (i:=1) nd rfl rfl rfl rfl (N:=["row","thing","weight"]) (caps:=[none,none,some 5]) (CompOk.of (by kernel_rfl)) (yZ (sZ sH (rW rfl) (sZ sH (rW rfl) wY))) (Cn rfl M.b_zip (mM (pv 1) (mM (pv 4) rq))) (λ_ _ _ _=>(wQ (K:=K) rfl 2 rfl (sy (rK (i:=0) (show(["row","thing","weight"]:List Str).Nodup by decide +kernel) rfl (Or.inl rfl) (Or.inr rfl)) (sy (rK (i:=1) (show(["row","thing","weight"]:List Str).Nodup by decide +kernel) rfl (Or.inl rfl) (Or.inr rfl)) uk)))) (λ_ _ _ _=>sj) (λ_ _ _ _=>(rS Grow_without hr (by decide) rfl Ed (mM (pv 0) (mM (pv 1) (mM (pv 2) rq))))))
   (rn (rG (i:=2) nd rfl (Or.inl rfl) (rS Gplus hr (by decide) rfl Ed (mM (pv 2) (mM (pv 5) rq))))
   (rD (sR (uI dI fT fU tJ (pv 3) (mM (sF (mM (pv 5) (mM (pv 4) rq))) rq)))))))))
   (rD (rM (pv 3))))))),?_⟩
 try dsimp -proj only[nox_K,hold_K,cxOf_K]
 have a4:=Paired.len hZ
 have aF:=ok.lo
 have aJ:=ok.hi
 have hT:=ok.t0
 have aN:=ok.t1
 have X:T≠0:=by omega
 have bl:=ok.reg.len
 have ad:(0:Nat)<=sizeLine:=by decide
 refine⟨_,rfl,a,rfl,⟨_,hA⟩,?_⟩
 refine sP (xs:=us) (λi ys J=>Same H J/\dr (λv (m:List Int)=>∃a C,v = .ref a/\J a=some (.lst C)/\dr (IsF K J) C (fr T m)) ys (Z.take i)) ⟨Same.refl _,by rw[eP];exact .nil⟩ (λi ys J _ c=>c.1.seq hA) (λi x ys J Y c=>?_) (λys J c l0 aV=>?_)
 ·obtain⟨S1,af⟩:=c
  obtain⟨r,a8,ta,C,rfl,bg,a5⟩:=Paired.get' hZ Y
  have bc:=Paired.len af
  rw[cV]at bc
  refine⟨_,rfl,ta,C,rfl,.inr (S1.tup bg),λp hp=>⟨D9 (by omega),S1.trans (rr hp _),?_⟩⟩
  rw[cY,a8]
  exact Paired.app (Paired.mapP af λ_ _ ⟨a',ac,e1,e2,e3⟩=>⟨a',ac,e1,rr hp _ _ _ e2,rQ (rr hp _) e3⟩) (.cons ⟨p,C,rfl,rC,rQ (S1.trans (rr hp _)) a5⟩ .nil)
 obtain⟨S1,af⟩:=c
 rw[a4,dj]at af
 refine λc0 a3=>?_
 refine⟨ad,λL ay=>?_⟩
 have Sl:Same J (upd (upd J l0 (.lst ys)) L (.lst [])):=(rr aV _).trans (rr ay _)
 have aE:upd (upd J l0 (.lst ys)) L (.lst []) l0=some (.lst ys):=rr ay _ _ _ rC
 have aj:upd (upd J l0 (.lst ys)) L (.lst []) L=some (.lst []):=rC
 have ak:J L=none:=(rr aV _).free ay
 have a1:H L=none:=S1.free ak
 generalize upd (upd J l0 (.lst ys)) L (.lst [])=H1 at Sl aE aj ⊢
 refine⟨λm σ G=>∃(i:Nat) (lf sp:cG) (rs ls:List V) (r4 r5:Option V),m=(HM.it Z T i).2.toNat/\σ=[some (.ref a),some (.ref lf),some (.ref sp),some (.ref L),r4,r5]/\Same J G/\(∀j,j<i->(HM.it Z T j).2≠0)/\SqL K G lf rs/\dr (RwFX K G T L) rs (HM.it Z T i).1/\
   IsF K G (.ref sp) (FQ.red (T-(HM.it Z T i).2) T)/\G L=some (.lst ls)/\dr (IsLot K G T) ls (HM.lotsL Z T i),
  ⟨_,0,l0,c0,ys,[],_,_,rfl,rfl,Sl,(λj k=>absurd k (gz _)),SqL.of aE,Paired.mapP af (λ_ _ ⟨a',ac,e1,e2,e3⟩=>⟨a',ac,e1,(λz=>by rw[z,ak]at e2;cases e2),Sl _ _ e2,rQ Sl e3⟩),⟨c0,rfl,by rw[show T-(HM.it Z T 0).2=0 from Int.sub_self T,u7 X];exact a3 _⟩,aj,.nil⟩,λm σ G c=>?_⟩
 clear Sl aE aj
 obtain⟨i,lf,sp,rs,ls,r4,r5,rfl,rfl,S2,aw,ai,ap,aG,W,aH⟩:=c
 obtain⟨_,e0,aB⟩:=id aG
 cases e0
 have I:=HM.it_ok ok.reg hT aF i aw
 have a6:=I.r0
 have be:=I.rT
 refine⟨_,rfl,λc1 a7=>⟨_,_,aG.rep,IsF.rep (p:=(1,1)) ⟨c1,rfl,a7 _⟩,sA _,sA _,_,rfl,?_⟩⟩
 rw[uM]
 by_cases hz:(HM.it Z T i).2=0
 ·rw[decide_eq_true (by rw[hz,qh];exact x6 X)]
  exact⟨_,rfl,q i L ls G ⟨hz,aw⟩ (S1.trans S2) a1 W aH⟩
 rw[decide_eq_false (λz=>hz (by have:=(zI X).mp z;omega))]
 refine⟨_,(λbo J z=>z),?_⟩
 have S:=I.reg.step (by omega) aF
 have eN:(HM.it Z T (i+1))=(LM.addDeal (HM.it Z T i).1 (HM.dealOf (HM.it Z T i).1) (-HM.wOf (HM.it Z T i).1),(HM.it Z T i).2-HM.wOf (HM.it Z T i).1):=rfl
 have eL:HM.lotsL Z T (i+1)=HM.lotsL Z T i++[(HM.wOf (HM.it Z T i).1,HM.dealOf (HM.it Z T i).1)]:=by
  unfold HM.lotsL
  rw[gf,cS]
  rfl
 have a0:∀j,j<i+1->(HM.it Z T j).2≠0:=λj k=>by
  rcases fP.mp k with z|z
  ·exact aw j z
  ·rw[z];exact hz
 have bi:i<=60:=by
  have h1:=I.few hz
  have h2:=HM.pn_le aJ Z
  have h3:0<=HM.pn n (HM.it Z T i).1:=by
   have:=HM.sm_le (n:=n) (f:=λ_=>0) (g:=λp=>(HM.cnt n λt=>decide (HM.ent (HM.it Z T i).1 p t≠0):Nat)) λp _=>m3 _
   rw[HM.sm_zero]at this
   exact this
  omega
 have o:=I.reg
 clear I
 generalize HM.it Z T i=MR at *
 obtain⟨M,R⟩:=MR
 dsimp only at hz S eN eL o a6 be ap aG aB ⊢
 have ao:=o.len
 have bn:=Paired.len ap
 have aK:=S.pm
 have aD:=aK.len
 have bk:=S.w1
 have bm:=S.wR
 have a2:LD n T M:=⟨aF,aJ,hT,aN,ao,o.cols⟩
 -- the deal
 refine⟨_,rfl,ad,λpe bb=>?_⟩
 have S3:Same G (upd G pe (.tup [])):=rr bb _
 have aq:SqT K (upd G pe (.tup [])) pe (([]:List Int).map V.int):=SqT.of rC
 generalize upd G pe (.tup [])=H3 at S3 aq ⊢
 refine⟨lf,pe,rs,M,T,n,n,[],rfl,S3.seq ai,Paired.mapP ap (λ_ _ h=>(h.mono S3).fl),a2,aq,by simp,by omega,λz=>absurd (S.some.symm.trans z) (by simp),λd ed pd H4 S4 ag=>?_⟩
 rw[S.some]at ed
 cases ed
 have an:=S3.trans S4
 -- the weight
 have aL:∀p,p<n->HM.ent M p ((HM.dealOf M).getD p 0).toNat<=T:=λp hp=>by
  have hb:=aK.mem.mp (show(HM.dealOf M).getD p 0∈HM.dealOf M by rw[HM.getD_lt (by omega)];exact cW _)
  have h1:=HM.sm_one_le (n:=n) (λi=>o.nn p i) (show((HM.dealOf M).getD p 0).toNat<n by omega)
  rw[o.row p hp]at h1
  omega
 have vl:(HM.valsM M (HM.dealOf M)).length=n:=by unfold HM.valsM;simp[ao,aD]
 have aI:∀j,j<n->∃B C,rs[j]?=some (.ref B)/\SqL K G B C/\dr (IsF K G) C (fr T (M.getD j [])):=λj k=>by
  obtain⟨rv,ae,B,C,rfl,_,h1,h2⟩:=Paired.get ap (cz (show j<M.length by omega))
  exact⟨B,C,ae,SqL.of h1,by rw[HM.getD_lt (by omega)];exact h2⟩
 have al:∀j,j<n->(M.getD j []).length=n:=λj k=>by rw[HM.getD_lt (by omega)];exact o.cols _ (cW _)
 have aT:∀j,j<n->0<=(HM.dealOf M).getD j 0/\(HM.dealOf M).getD j 0<n:=λj k=>aK.mem.mp (by rw[HM.getD_lt (by omega)];exact cW _)
 have aW:rs.length=((HM.dealOf M).map V.int).length:=by rw[cx];omega
 refine⟨_,rfl,_,rfl,false,true,lf,pd,rfl,⟨_,an.seq ai⟩,⟨_,ag⟩,?_⟩
 refine xr (xs:=rs) (ys:=(HM.dealOf M).map V.int) (λj l b=>Same H4 b/\dr (IsF K b) l (fr T ((HM.valsM M (HM.dealOf M)).take j))) aW ⟨Same.refl _,by rw[eP];exact .nil⟩ (λj l b _ c=>⟨(an.trans c.1).seq ai,c.1.tup ag⟩) (λj x y l b t Y hy ht c=>?_) (λl b c Dd bf=>?_)
 ·obtain⟨S5,u⟩:=c
  have k:j<n:=by have:=(cL.mp Y).1;omega
  obtain⟨B,C,ae,h1,h2⟩:=aI j k
  rw[ae]at Y
  cases Y
  rw[tw (by omega)]at hy
  cases hy
  have hb:=aT j k
  have ba:((HM.dealOf M).getD j 0).toNat<(M.getD j []).length:=by rw[al j k];omega
  have U:Same b (upd b t (.tup [.ref B,.int ((HM.dealOf M).getD j 0)])):=rr ht _
  have ah:upd b t (.tup [.ref B,.int ((HM.dealOf M).getD j 0)]) t=some (.tup [.ref B,.int ((HM.dealOf M).getD j 0)]):=rC
  generalize upd b t (.tup [.ref B,.int ((HM.dealOf M).getD j 0)])=Hy at U ah ⊢
  obtain⟨v,hv,hF⟩:=Paired.get h2 (z8 (D:=T) ba)
  have O:=an.trans (S5.trans U)
  have av:=Paired.len u
  rw[yE,cV]at av
  refine⟨t,_,rfl,SqT.of ah,rfl,_,_,rfl,_,_,rfl,rfl,?_⟩
  refine⟨_,rfl,_,rfl,B,C,_,v,rfl,rfl,O.seq h1,sE hb.1 hv,D9 (by omega),S5.trans U,?_⟩
  rw[cY,HM.valsM_get ao aD k]
  unfold fr
  rw[cS]
  exact Paired.app (rQ U u) (.cons (hF.mono O) .nil)
 obtain⟨S5,u⟩:=c
 rw[show rs.length=(HM.valsM M (HM.dealOf M)).length by omega,dj]at u
 have U:Same b (upd b Dd (.lst l)):=rr bf _
 have aM:SqL K (upd b Dd (.lst l)) Dd l:=SqL.of rC
 generalize upd b Dd (.lst l)=H6 at U aM ⊢
 have aP:HM.valsM M (HM.dealOf M)≠[]:=λz=>by rw[z]at vl;simp at vl;omega
 refine⟨Dd,l,fr T (HM.valsM M (HM.dealOf M)),rfl,aM,rQ U u,(λz=>aP (by unfold fr at z;exact List.map_eq_nil_iff.mp z)),by rw[yE];omega,λp hp=>?_,λv hv=>?_⟩
 ·unfold fr at hp
  obtain⟨x,Y,rfl⟩:=dv.mp hp
  obtain⟨j,k,e⟩:=eO.mp Y
  have aS:j<n:=by omega
  have e2:=HM.valsM_get ao aD aS
  rw[cz k,e]at e2
  have e3:x=HM.ent M j ((HM.dealOf M).getD j 0).toNat:=Option.some.inj e2
  have h1:=aL j aS
  have h2:=o.nn j ((HM.dealOf M).getD j 0).toNat
  rw[<-e3]at h1 h2
  exact vA X (by omega) (by omega)
 have ew:GM (fr T (HM.valsM M (HM.dealOf M)))=FQ.red (HM.wOf M) T:=by
  unfold fr HM.wOf
  exact zw hT aP
 rw[ew]at hv
 obtain⟨wa,rfl,aA⟩:=hv
 have O:=an.trans (S5.trans U)
 -- what is left
 refine⟨_,rfl,_,rfl,false,true,lf,pd,rfl,⟨_,O.seq ai⟩,⟨_,(S5.trans U).tup ag⟩,?_⟩
 refine xr (xs:=rs) (ys:=(HM.dealOf M).map V.int) (λj l b=>Same H6 b/\dr (RwFX K b T L) l ((LM.addDeal M (HM.dealOf M) (-HM.wOf M)).take j)) aW ⟨Same.refl _,by rw[eP];exact .nil⟩ (λj l b _ c=>⟨(O.trans c.1).seq ai,(S5.trans (U.trans c.1)).tup ag⟩) (λj x y l b t Y hy ht c=>?_) (λl H7 c l7 am=>?_)
 ·obtain⟨S7,u⟩:=c
  have k:j<n:=by have:=(cL.mp Y).1;omega
  obtain⟨B,C,ae,h1,h2⟩:=aI j k
  rw[ae]at Y
  cases Y
  rw[tw (by omega)]at hy
  cases hy
  have hb:=aT j k
  have S8:Same b (upd b t (.tup [.ref B,.int ((HM.dealOf M).getD j 0)])):=rr ht _
  have ah:upd b t (.tup [.ref B,.int ((HM.dealOf M).getD j 0)]) t=some (.tup [.ref B,.int ((HM.dealOf M).getD j 0)]):=rC
  generalize upd b t (.tup [.ref B,.int ((HM.dealOf M).getD j 0)])=Hy at S8 ah ⊢
  have ab:=O.trans (S7.trans S8)
  have av:=Paired.len u
  rw[cV,HM.addDeal_len (by omega)]at av
  have h3:=aL j k
  have h4:=o.nn j ((HM.dealOf M).getD j 0).toNat
  refine⟨t,_,rfl,SqT.of ah,rfl,_,_,rfl,_,_,rfl,rfl,?_⟩
  refine⟨_,rfl,_,rfl,_,rfl,B,wa,C,M.getD j [],_,T,HM.wOf M,rfl,ab.seq h1,rQ ab h2,⟨wa,rfl,(S7.trans S8).tup aA⟩,⟨hT,aN⟩,⟨hb.1,by rw[al j k];exact hb.2⟩,by rw[al j k];exact aJ,⟨h4,h3⟩,⟨by omega,by omega⟩,λp ac Hw Sw aU hp aZ=>⟨D9 (by omega),S7.trans (S8.trans Sw),?_⟩⟩
  rw[cY,HM.addDeal_get (by omega) (by omega)]
  exact Paired.app (Paired.mapP u λ_ _ h=>h.mono (S8.trans Sw)) (.cons ⟨p,ac,rfl,(λz=>by rw[z,ab _ _ W]at aU;cases aU),hp,aZ⟩ .nil)
 obtain⟨S7,u⟩:=c
 rw[eK (by rw[HM.addDeal_len (by omega)];omega)]at u
 have S8:Same H7 (upd H7 l7 (.lst l)):=rr am _
 have aX:upd H7 l7 (.lst l) l7=some (.lst l):=rC
 generalize upd H7 l7 (.lst l)=H8 at S8 aX ⊢
 have ax:=S7.trans S8
 have ab:=O.trans ax
 -- spent
 refine⟨_,rfl,_,rfl,sp,wa,_,_,rfl,ab.tup aB,ax.tup aA,vA X (by omega) (by omega),vA X (by omega) (by omega),λpf H9 S9 aQ=>?_⟩
 rw[wx X]at aQ
 have aO:=ab.trans S9
 -- the lot
 have aY:=aO _ _ W
 have aC:=Paired.len aH
 unfold HM.lotsL at aC
 rw[cx,fb]at aC
 refine⟨_,rfl,.inl ⟨rfl,_,SqL.of aY⟩,_,rfl,_,rfl,by show 2<=sizeLine;decide,λpt a9=>?_⟩
 have SA:Same H9 (upd H9 pt (.tup [.ref wa,.ref pd])):=rr a9 _
 have ar:upd H9 pt (.tup [.ref wa,.ref pd]) pt=some (.tup [.ref wa,.ref pd]):=rC
 generalize upd H9 pt (.tup [.ref wa,.ref pd])=HA at SA ar ⊢
 have az:=aO.trans SA
 have aa:=az _ _ W
 refine⟨L,ls,_,rfl,rfl,aa,D9 (by omega),?_⟩
 have au:=S9.trans SA
 have aR:=ax.trans au
 refine⟨(R-HM.wOf M).toNat,by omega,i+1,l7,pf,l,ls++[.ref pt],_,_,by rw[eN],rfl,(S2.trans az).over ak _,a0,?_,?_,?_,rC,?_⟩
 ·exact SqL.over (SqL.of (au _ _ aX)) (λz=>by rw[z]at am;rw[(O.trans S7) _ _ W]at am;cases am)
 ·rw[eN]
  exact Paired.mapP u λ_ _ h=>(h.mono (S8.trans au)).over aa
 ·rw[eN]
  refine IsF.over ⟨pf,rfl,SqT.of (SA _ _ ?_)⟩ aa
  rw[aQ]
  show some (JN (FQ.red (T-R+HM.wOf M) T))=some (JN (FQ.red (T-(R-HM.wOf M)) T))
  rw[show T-R+HM.wOf M=T-(R-HM.wOf M)by omega]
 ·rw[eL]
  refine Paired.app (Paired.mapP aH λ_ _ h=>(h.mono az).over aa) (.cons (IsLot.over ⟨pt,wa,pd,rfl,SqT.of ar,⟨wa,rfl,aR.tup aA⟩,((S5.trans U).trans aR).tup ag⟩ aa) .nil)
theorem Ha:Eb ["lots","number","place","so_far"] ["lots","number"] (D8 (Ec 33)):=⟨rfl,rfl,rfl,by decide +kernel,rfl,by decide +kernel,by decide +kernel⟩
theorem JL(M:Md K mg x cB)
  (Gbefore:Dn P w K mg base Ei 1 "before" ["one","two"] (GL K))
  (Gplus:Dn P w K mg base Ei 3 "plus" ["one","two"] (G4 FN K)):Dn P w K mg base (FD P w) 4 "picked" ["lots","number"] (GB K x):=by
 have G:=(Ha).nd
 refine M.f_picked.okE Ha (λvs H Q E h=>?_) (λ_ _ _ _ _ _ us hl=>match us,hl with|[_,_],_=>rfl) (λf ai A ah s H vs Q E F h=>?_)
 ·obtain⟨L,m,t,a,T,n,p,rfl,D,g,l,hm,hz,hp,Y,q⟩:=h
  rfl
 obtain⟨L,m,t,a,T,n,p,rfl,D,g,l,hm,hz,hp,Y,q⟩:=h
 refine⟨_,(rn (sv (PW.pt (w5 (sQ (rS Gbefore F (by decide) rfl Ed (mM (pv 1) (mM (tW M.c_NOTHING) rq)))) (wf (tE (sQ (rS Gbefore F (by decide) rfl Ed (mM (pv 1) (mM (tW M.c_WHOLE) rq)))))))) (rD (tR M.x_NoPick rfl (mM sD rq))) rV)
   (rn (rG (i:=2) G rfl (Or.inl rfl) rE)
   (rn (rG (i:=3) G rfl (Or.inl rfl) (rN sk (rN rL (pv 0) rE (λ_ _=>rfl)) rE (λ_ _=>rfl)))
   (rn (uE rf (tE (sQ (rS Gbefore F (by decide) rfl Ed (mM (pv 1) (mM (pv 3) rq))))) (rn (rG (i:=2) G rfl (Or.inl rfl) (rO sC (pv 2) rE))
   (rD (rG (i:=3) G rfl (Or.inl rfl) (rS Gplus F (by decide) rfl Ed (mM (pv 3) (mM (rN sk (rN rL (pv 0) (pv 2) (λ_ _=>rfl)) rE (λ_ _=>rfl)) rq)))))))
   (rD (rM (rN sk (rN rL (pv 0) (pv 2) (λ_ _=>rfl)) rE (λ_ _=>rfl)))))))),?_⟩
 try dsimp -proj only[nox_K,hold_K,cxOf_K]
 obtain⟨_,X,r⟩:=id hm
 cases X
 have hT:=l.T0
 have o:T≠0:=by omega
 have v:Sz 4000 p:=hz.up (by decide)
 have ag:Sz 4000 ((0,1):Int×Int):=Sz.up (m:=30) ⟨by decide,by decide,by decide⟩ (by decide)
 have Z:Sz 4000 ((1,1):Int×Int):=Sz.up (m:=30) ⟨by decide,by decide,by decide⟩ (by decide)
 refine⟨_,rfl,λc0 aa=>⟨m,c0,p,(0,1),rfl,r,aa _,v,ag,_,rfl,?_⟩⟩
 show if Ev p (0,1)=true then _ else _
 refine Jm (λc=>⟨by show 1<=sizeLine;decide,Y (.inl c)⟩) (λn0=>?_)
 refine⟨_,rfl,λc1 ab=>⟨m,c1,p,(1,1),rfl,r,ab _,v,Z,_,rfl,?_⟩⟩
 show if(!Ev p (1,1))=true then _ else _
 refine Jm (λc=>⟨by show 1<=sizeLine;decide,Y (.inr (by simpa using c))⟩) (λS=>?_)
 have af:¬EO p:=λz=>by
  rcases z with z|z
  ·exact n0 z
  ·rw[z]at S;exact S rfl
 have q:=q af
 have y1:Ev p (1,1)=true:=by simpa using S
 have aj:=Paired.len g
 have ak:=l.ne
 obtain⟨v0,ac,a0,f0,g0,rfl,h1,h2,h3⟩:=Paired.get g (cz (show 0<a.length by omega))
 refine⟨_,rfl,L,t,0,_,rfl,rfl,D,si ac,a0,_,0,_,rfl,rfl,h1,rfl,?_⟩
 have e1:cw a 1=(a[0]).1:=by
  have:=cw_succ (cz (show 0<a.length by omega))
  rw[cw_zero,d3]at this
  exact this
 refine⟨λk σ B=>∃(i:Nat) (R:V),k=a.length-i/\i<a.length/\Same H B/\σ=[some (.ref L),some (.ref m),some (.int i),some R]/\IsF K B R (FQ.red (cw a (i+1)) T)/\∀j,j<i->Ev p (FQ.red (cw a (j+1)) T)=false,
  ⟨_,0,.ref f0,rfl,by omega,Same.refl _,rfl,by rw[nJ,e1];exact h2,λj W=>absurd W (gz _)⟩,λk σ B hP=>?_⟩
 obtain⟨i,R,rfl,C,b,rfl,ad,N⟩:=hP
 obtain⟨J,rfl,y⟩:=ad
 have bd:=l.bd (i:=i+1) C
 have zc:Sz 4000 (FQ.red (cw a (i+1)) T):=vA o (by omega) (by omega)
 refine⟨_,rfl,_,rfl,m,J,p,FQ.red (cw a (i+1)) T,rfl,b.tup r,y,v,zc,_,rfl,?_⟩
 show if(!Ev p (FQ.red (cw a (i+1)) T))=true then _ else _
 refine Jm (λc=>?_) (λc=>?_)
 ·have cn:Ev p (FQ.red (cw a (i+1)) T)=false:=by simpa using c
  have d:i+1<a.length:=by
   refine dM λz=>?_
   have e:i+1=a.length:=by omega
   rw[e,l.tot,x6 o,y1]at cn
   cases cn
  obtain⟨v1,u,O,f1,g1,rfl,U,k2,k3⟩:=Paired.get g (cz d)
  obtain⟨_,X,ae⟩:=id k2
  cases X
  have wb:=l.w1 _ (cW d)
  have al:=l.w2 _ (cW d)
  refine⟨_,(λam B z=>z),?_⟩
  refine⟨_,rfl,_,_,rfl,rfl,?_⟩
  refine⟨_,rfl,_,rfl,_,rfl,L,t,_,_,rfl,rfl,b.seq D,by show G6 t ((i:Int)+1)=_;exact sE (by omega) (by rw[show((i:Int)+1).toNat=i+1 by omega];exact u),O,_,0,_,rfl,rfl,b.tup U,rfl,J,f1,_,_,rfl,y,b.tup ae,zc,vA o (by omega) (by omega),λpf H2 S2 I=>?_⟩
  rw[wx o,<-cw_succ (cz d)]at I
  exact⟨a.length-(i+1),by omega,i+1,.ref pf,rfl,d,b.trans S2,rfl,⟨pf,rfl,SqT.of I⟩,λj W=>by
   rcases fP.mp W with z|z
   ·exact N j z
   ·rw[z];exact cn⟩
 ·have cy:Ev p (FQ.red (cw a (i+1)) T)=true:=by simpa using c
  obtain⟨v1,u,O,f1,g1,rfl,U,k2,k3⟩:=Paired.get g (cz C)
  refine⟨_,rfl,_,rfl,L,t,_,_,rfl,rfl,b.seq D,si u,O,_,1,_,rfl,rfl,b.tup U,rfl,?_⟩
  refine q i (.ref g1) B ⟨C,cy,N⟩ b ⟨g1,rfl,?_⟩
  rw[cC,cz C]
  exact b.tup k3
theorem FI:Eb ["value"] ["value"] (D8 (Ec 36)):=⟨rfl,rfl,rfl,by decide +kernel,rfl,by decide +kernel,by decide +kernel⟩
theorem Hx(M:Md K mg x cB):Dn P w K mg base Ei 1 "is_listing" ["value"] (He K):=by
 have l:=(FI).nd;refine M.f_is_listing.ok FI (λvs H Q E h=>?_) (λ_ _ _ _ _ _ d g=>match d,g with|[_],_=>rfl) (λf j A c s H vs Q E k h=>?_)
 ·obtain⟨v,t,rfl,b,q⟩:=h;rfl
 obtain⟨v,t,rfl,b,q⟩:=h;refine⟨_,(rD (rM (rJ z9 rfl M.b_isinstance Boot.«isinstance» (mM (pv 0) (mM (sF (mM (tS rfl M.b_list Boot.«list») (mM (tS rfl M.b_tuple Boot.«tuple») rq))) rq))))),?_⟩
 try dsimp -proj only[nox_K,hold_K,cxOf_K]
 refine⟨_,rfl,by show 2<=sizeLine;decide,λe a=>?_⟩;exact⟨v,e,t,rfl,SqT.of rC,b.mono (rr a _),q _ (rr a _)⟩
theorem FG:Eb ["rows"] ["rows"] (D8 (Ec 37)):=⟨rfl,rfl,rfl,by decide +kernel,rfl,by decide +kernel,by decide +kernel⟩
theorem Hq(M:Md K mg x cB)
  (Gis_listing:Dn P w K mg base Ei 1 "is_listing" ["value"] (He K)):Dn P w K mg base Ei 2 "has_people" ["rows"] (HX K):=by
 have y:=(FG).nd
 refine M.f_has_people.ok FG (λvs H Q E h=>?_) (λ_ _ _ _ _ _ b p=>match b,p with|[_],_=>rfl) (λf v A n s H vs Q E u h=>?_)
 ·obtain⟨a,b,rfl,d,q⟩:=h
  rfl
 obtain⟨a,b,rfl,d,q⟩:=h
 refine⟨_,(rD (rM (ut (rS Gis_listing u (by decide) rfl Ed (mM (pv 0) rq)) (vB (yo BH BH rE (rJ rP rfl M.b_len dD (mM (pv 0) rq)) (Bh M.c_MOST_PEOPLE)))))),?_⟩
 try dsimp -proj only[nox_K,hold_K,cxOf_K]
 have m:∃t,tyOf K H (.ref a) t/\(Go t "list"||Go t "tuple")=true:=by
  rcases d with d|d
  ·exact⟨"list",.inl ⟨rfl,_,d⟩,rfl⟩
  ·exact⟨"tuple",.inr ⟨rfl,_,d⟩,rfl⟩
 obtain⟨t,r,o⟩:=m
 refine⟨_,rfl,.ref a,t,rfl,r,λk g=>⟨_,rfl,?_⟩⟩
 rw[o]
 refine EN ?_
 have l:SqL K k a b\/SqT K k a b:=d.imp g.seq g.tup
 refine⟨_,rfl,a,b,rfl,l,_,_,rfl,rfl,_,rfl,?_⟩
 have j:=q k g
 refine Ey (λc=>?_) (λc=>?_)
 ·refine⟨_,_,rfl,rfl,?_⟩
  have e:decide ((b.length:Int)<=6)=decide (1<=b.length/\b.length<=6):=by
   apply gx.mpr;simp only[decide_eq_true_eq];omega
  dsimp only
  rw[e]
  exact j
 ·have e:decide (1<=b.length/\b.length<=6)=false:=decide_eq_false (by omega)
  rw[e]at j
  exact j
theorem F7:Eb ["wish","taken"] ["wish","taken"] (D8 (Ec 39)):=⟨rfl,rfl,rfl,by decide +kernel,rfl,by decide +kernel,by decide +kernel⟩
theorem IE(M:Md K mg x cB):Dn P w K mg base Ei 1 "best_free" ["wish","taken"] (IA K):=by
 have J:=(F7).nd;refine M.f_best_free.ok F7 (λvs H Q E h=>?_) (λ_ _ _ _ _ _ D m=>match D,m with|[_,_],_=>rfl) (λf G A C s H vs Q E I h=>?_)
 ·obtain⟨w,l,a,e,rfl,r,m,v,p,q⟩:=h;rfl
 obtain⟨w,l,a,e,rfl,r,m,v,p,q⟩:=h;refine⟨_,(rD (rM (rN rL (su rfl (N:=["thing","taken"]) (caps:=[none,some 1]) (CompOk.of (by kernel_rfl)) (rW rfl) (uG (pv 0)) (λ_ _ _ _=>(rK (i:=0) (show(["thing","taken"]:List Str).Nodup by decide +kernel) rfl (Or.inl rfl) (Or.inr rfl))) (λ_ _ _ _=>(tX (rR (uC (K:=K) rfl) (pv 0) (pv 1) (by with_unfolding_all rfl)))) (λ_ _ _ _=>(pv 0))) rE (λ_ _=>rfl)))),?_⟩
 try dsimp -proj only[nox_K,hold_K,cxOf_K]
 refine⟨_,rfl,w,rfl,⟨_,r⟩,?_⟩;refine uf (xs:=a.map V.int) (λj n o=>o=H/\n=(E4 (a.take j) e).map V.int)
  ⟨rfl,rfl⟩ (λj n o _ g=>by rw[g.1];exact r) (λj y n o d g=>?_) (λn o g F z=>?_)
 ·obtain⟨rfl,rfl⟩:=g;rw[cH]at d
  cases k:a[j]? with
  | none=>rw[k]at d;cases d
  | some u=>
   rw[k]at d;have B:V.int u=y:=Option.some.inj d;subst B;refine⟨_,rfl,_,rfl,l,_,rfl,m,rfl,vo _,_,rfl,?_⟩;have b:((E4 (a.take j) e).map V.int).length<sizeLine:=by
    rw[cx];have h1:=d6 (λt=>!decide (t∈e)) (a.take j);rw[cV]at h1;exact D9 (by unfold E4;omega)
   show if(!Jv (.int u) (e.map V.int))=true then _ else _
   unfold E4 at b ⊢;rw[wT,cY,k,gm,cS];refine GP (λc=>?_) (λc=>?_)
   ·refine⟨_,rfl,b,rfl,?_⟩;simp[c]
   ·refine⟨rfl,?_⟩;simp[c]
 ·obtain⟨rfl,rfl⟩:=g;rw[cx,dj];exact⟨F,_,0,_,rfl,rfl,SqL.of rC,sE (by decide) (by show _=_;rw[show(0:Int).toNat=0 from rfl];rw[cH,(xA p).1];rfl),q _ (rr z _)⟩
theorem Gh:Eb ["numbers","number"] ["numbers","number"] (D8 (Ec 40)):=⟨rfl,rfl,rfl,by decide +kernel,rfl,by decide +kernel,by decide +kernel⟩
theorem IU(M:Md K mg x cB):Dn P w K mg base Ei 1 "with_one" ["numbers","number"] (Hc K):=by
 have C:=(Gh).nd;refine M.f_with_one.ok Gh (λvs H Q E h=>?_) (λ_ _ _ _ _ _ n d=>match n,d with|[_,_],_=>rfl) (λf u A m s H vs Q E B h=>?_)
 ·obtain⟨a,e,x,rfl,hA,k,q⟩:=h;rfl
 obtain⟨a,e,x,rfl,hA,k,q⟩:=h;refine⟨_,(rD (rM (sd sG rfl M.b_tuple Boot.«tuple» (mM (rJ (xX) rfl M.b_sorted Boot.«sorted» (mM (rO zZ (pv 0) (sF (mM (pv 1) rq))) rq)) rq)))),?_⟩
 try dsimp -proj only[nox_K,hold_K,cxOf_K]
 refine⟨_,rfl,_,rfl,by show 1<=sizeLine;decide,λb g=>?_⟩;have c:Same H (upd H b (.tup [.int x])):=rr g _;have h1:SqT K (upd H b (.tup [.int x])) b (([x]:List Int).map V.int):=SqT.of rC;generalize upd H b (.tup [.int x])=y at c h1 ⊢;refine DJ (c.tup hA) h1 (by simp;omega) λt z o h2=>?_
 refine⟨t,e++[x],rfl,.inr h2,by simp;omega,λl v d hp r=>?_⟩;refine⟨l,_,rfl,.inl ⟨SqL.of rC,λp j=>q p _ (c.trans (o.trans ((rr d _).trans (rr j _)))) ?_⟩⟩;rw[TM.srt_eq hp r];exact SqT.of rC
theorem FK:Eb ["wishes","gone","taken","people"] ["wishes","gone","taken"] (D8 (Ec 41)):=⟨rfl,rfl,rfl,by decide +kernel,rfl,by decide +kernel,by decide +kernel⟩
theorem Hr(M:Md K mg x cB)
  (Gbest_free:Dn P w K mg base Ei 1 "best_free" ["wish","taken"] (IA K)):Dn P w K mg base Ei 2 "turns_from" ["wishes","gone","taken"] (Iy K):=by
 have nd:=(FK).nd
 refine M.f_turns_from.ok FK (λvs H Q E h=>?_) (λ_ _ _ _ _ _ us hl=>match us,hl with|[_,_,_],_=>rfl) (λf ae A ad s H vs Q E hr h=>?_)
 ·obtain⟨a,g,t,B,W,n,b,rfl,hA,R,u,Y,U,I,q⟩:=h
  rfl
 obtain⟨a,g,t,B,W,n,b,rfl,hA,R,u,Y,U,I,q⟩:=h
 refine⟨_,(rn (sB (i:=3) nd rfl rfl rfl rfl (N:=["person","gone"]) (caps:=[none,some 1]) (CompOk.of (by kernel_rfl)) (rW rfl) (rX rfl M.b_range (mM (rJ rP rfl M.b_len dD (mM (pv 0) rq)) rq)) (λ_ _ _ _=>(rK (i:=0) (show(["person","gone"]:List Str).Nodup by decide +kernel) rfl (Or.inl rfl) (Or.inr rfl))) (λ_ _ _ _=>(tX (rR (uC (K:=K) rfl) (pv 0) (pv 1) (by with_unfolding_all rfl)))) (λ_ _ _ _=>(pv 0)))
   (rD (rM (su rfl (N:=["person","wishes","taken"]) (caps:=[none,some 0,some 2]) (CompOk.of (by kernel_rfl)) (rW rfl) (sS (pv 3)) (λ_ _ _ _=>(rK (i:=0) (show(["person","wishes","taken"]:List Str).Nodup by decide +kernel) rfl (Or.inl rfl) (Or.inr rfl))) (λ_ _ _ _=>sj) (λ_ _ _ _=>(sF (mM (pv 0) (mM (rS Gbest_free hr (by decide) rfl Ed (mM (rN (sU (K:=K) rfl) (pv 1) (pv 0) (λ_ _=>rfl)) (mM (pv 2) rq))) rq)))))))),?_⟩
 try dsimp -proj only[nox_K,hold_K,cxOf_K]
 have ah:=Paired.len R
 have ai:=u.lo
 have ak:=u.hi
 have ag:=u.len
 have af:B.length=n:=by omega
 refine⟨_,rfl,a,B,rfl,.inl hA,_,rfl,by omega,by omega,?_⟩
 refine vW (n:=B.length) (λi d o=>o=H/\d=(((LM.rng n).take i).filter λp=>!decide (p∈b.1)).map V.int) ⟨rfl,rfl⟩ (λi d o hi e=>?_) (λd o e D hD=>?_)
 ·obtain⟨rfl,rfl⟩:=e
  have Z:(LM.rng n)[i]?=some (i:Int):=by unfold LM.rng;rw[cH,d9 (by omega)];rfl
  have S:((((LM.rng n).take i).filter λp=>!decide (p∈b.1)).map V.int).length<sizeLine:=by
   rw[cx]
   have h1:=d6 (λp=>!decide (p∈b.1)) ((LM.rng n).take i)
   rw[cV]at h1
   exact D9 (by omega)
  refine⟨_,rfl,_,rfl,g,_,rfl,.inr Y,rfl,vo _,_,rfl,?_⟩
  show if(!Jv (.int (0+(i:Int))) (b.1.map V.int))=true then _ else _
  rw[d3,wT,cY,Z,gm,cS]
  refine GP (λc=>?_) (λc=>?_)
  ·refine⟨_,rfl,S,rfl,?_⟩
   simp[c]
  ·refine⟨rfl,?_⟩
   simp[c]
 obtain⟨rfl,rfl⟩:=e
 rw[eK (by rw[LM.rng_len];omega),show qD (λp=>!decide (p∈b.1)) (LM.rng n)=TM.freeP n b.1 from rfl]
 have r:Same o (upd o D (.lst ((TM.freeP n b.1).map V.int))):=rr hD _
 have C:SqL K (upd o D (.lst ((TM.freeP n b.1).map V.int))) D ((TM.freeP n b.1).map V.int):=SqL.of rC
 generalize upd o D (.lst ((TM.freeP n b.1).map V.int))=H2 at r C ⊢
 refine⟨_,rfl,D,rfl,⟨_,C⟩,?_⟩
 refine sP (xs:=(TM.freeP n b.1).map V.int) (λj d z=>Same H2 z/\dr (IsF K z) d ((Et n W b).take j)) ⟨Same.refl _,by rw[eP];exact .nil⟩ (λj d z _ e=>e.1.seq C) (λj y d z O e=>?_) (λd z e De v=>?_)
 ·obtain⟨m,k⟩:=e
  have hj:j<(TM.freeP n b.1).length:=by have:=(cL.mp O).1;rw[cx]at this;exact this
  obtain⟨p,hp⟩:∃p,(TM.freeP n b.1)[j]?=some p:=⟨_,cz hj⟩
  rw[cH,hp]at O
  cases O
  have ac:=LM.mem_rng.mp (d8.mp (da hp)).1
  have F:p.toNat<W.length:=by omega
  have l:=u.pm _ (cW F)
  have eW:W.getD p.toNat []=W[p.toNat]:=HM.getD_lt F
  obtain⟨wv,T,ab⟩:=Paired.get R (cz F)
  obtain⟨wa,rfl,J⟩:=ab.mono (r.trans m)
  have aa:=Paired.len k
  rw[cV]at aa
  have aj:(TM.freeP n b.1).length<=n:=by
   have h1:=d6 (λp=>!decide (p∈b.1)) (LM.rng n)
   rw[LM.rng_len]at h1
   exact h1
  have et:(Et n W b)[j]?=some (p,Fc W[p.toNat] b.2):=by
   unfold Et
   rw[cH,hp]
   show some (p,Fa W p b.2)=_
   unfold Fa
   rw[eW]
  have G:=l.len
  generalize W[p.toNat]=X at J l et G
  refine⟨_,rfl,_,rfl,_,rfl,a,B,_,_,rfl,rfl,(r.trans m).seq hA,sE ac.1 T,_,rfl,wa,t,X,b.2,rfl,J,.inr ((r.trans m).tup U),by omega,Bj l I,λH4 S4=>⟨by show 2<=sizeLine;decide,λpt L=>⟨D9 (by omega),m.trans (S4.trans (rr L _)),?_⟩⟩⟩
  rw[cY,et]
  exact Paired.app (rQ (S4.trans (rr L _)) k) (.cons ⟨pt,rfl,SqT.of rC⟩ .nil)
 ·obtain⟨m,k⟩:=e
  rw[eK (by unfold Et;rw[cx,cx];exact cI _)]at k
  exact q De d _ (r.trans (m.trans (rr v _))) ((r.trans m).free v) rC (rQ (rr v _) k)
theorem F4:Eb ["count","orders","number"] ["count"] (D8 (Ec 42)):=⟨rfl,rfl,rfl,by decide +kernel,rfl,by decide +kernel,by decide +kernel⟩
theorem Ix(M:Md K mg x cB):Dn P w K mg base Ei 1 "orders_of" ["count"] (FL):=by
 have c:=(F4).nd;refine M.f_orders_of.ok F4 (λvs H Q E h=>?_) (λ_ _ _ _ _ _ j l=>match j,l with|[_],_=>rfl) (λf m A g s H vs Q E p h=>?_)
 ·obtain⟨k,rfl,hk,q⟩:=h;rfl
 obtain⟨k,rfl,hk,q⟩:=h;refine⟨_,(rn (rG (i:=1) c rfl (Or.inl rfl) rE)
   (rn (sN dA rfl (AV rfl M.b_range (mM rE (mM (rO sC (pv 0) rE) rq))) (rK (i:=2) c rfl (Or.inl rfl)) (rD (rG (i:=1) c rfl (Or.inl rfl) (rO sw (pv 1) (pv 2)))))
   (rD (rM (pv 1))))),?_⟩
 try dsimp -proj only[nox_K,hold_K,cxOf_K]
 refine⟨_,rfl,_,_,rfl,rfl,_,_,rfl,⟨by omega,by omega,by omega,by omega⟩,?_⟩;have e:((k:Int)+1-1).toNat=k:=by omega
 show ∃_,_;rw[e];refine sf (n:=k) (λi a d=>d=H/\∃r,a=[some (.int k),some (.int (TM.fct i)),r]) ⟨rfl,_,rfl⟩ (λi a d o b=>?_) (λa d b=>?_)
 ·obtain⟨rfl,r,rfl⟩:=b;refine⟨_,rfl,_,rfl,_,_,rfl,rfl,J8 (by omega),rfl,some (.int (1+(i:Int))),?_⟩;rw[show TM.fct (i+1)=TM.fct i*(1+(i:Int))by show TM.fct i*((i:Int)+1)=_;rw[qo (i:Int) 1]];rfl
 ·obtain⟨rfl,r,rfl⟩:=b;exact⟨_,rfl,q⟩
theorem F1:Eb ["wishes","counts","beginnings","turn","endings","longer","beginning","number","person","thing","state"] ["wishes"] (D8 (Ec 43)):=⟨rfl,rfl,rfl,by decide +kernel,rfl,by decide +kernel,by decide +kernel⟩
theorem HZ(M:Md K mg x cB)
  (Gorders_of:Dn P w K mg base Ei 1 "orders_of" ["count"] (FL))
  (Gturns_from:Dn P w K mg base Ei 2 "turns_from" ["wishes","gone","taken"] (Iy K))
  (Gwith_one:Dn P w K mg base Ei 1 "with_one" ["numbers","number"] (Hc K)):Dn P w K mg base Ei 3 "counts_of" ["wishes"] (HU P w K):=by
 have R:=(F1).nd
 refine M.f_counts_of.ok F1 (λvs H Q E h=>?_) (λ_ _ _ _ _ _ us hl=>match us,hl with|[_],_=>rfl) (λf bB A bz s H vs Q E hr h=>?_)
 ·obtain⟨a,ws,W,n,rfl,hA,hW,ok,q⟩:=h
  rfl
 obtain⟨a,ws,W,n,rfl,hA,hW,ok,q⟩:=h
 refine⟨_,(rn (rG (i:=1) R rfl (Or.inl rfl) (AM (W:=Gr) (P:=P) (w:=w) (K:=K) rfl rfl rfl))
   (rn (rG (i:=2) R rfl (Or.inl rfl) (BB (W:=Gw) (P:=P) (w:=w) (K:=K) rfl rfl rfl hr (sF (mM (sF rq) (mM (sF rq) rq))) rE))
   (rn (sN dA rfl (rX rfl M.b_range (mM (rJ rP rfl M.b_len dD (mM (pv 0) rq)) rq)) (rK (i:=3) R rfl (Or.inl rfl)) (rn (rG (i:=4) R rfl (Or.inl rfl) (rS Gorders_of hr (by decide) rfl Ed (mM (rO v7 (rO v7 (rJ rP rfl M.b_len dD (mM (pv 0) rq)) (pv 3)) rE) rq)))
   (rn (rG (i:=5) R rfl (Or.inl rfl) (AM (W:=Gw) (P:=P) (w:=w) (K:=K) rfl rfl rfl))
   (rn (sN dA rfl (BA (W:=Gw) (P:=P) (w:=w) (K:=K) rfl rfl rfl (pv 2)) (yQ rfl (sy (rK (i:=6) R rfl (Or.inl rfl)) (sy (rK (i:=7) R rfl (Or.inl rfl)) uk))) (rD (sN dA rfl (sS (rS Gturns_from hr (by decide) rfl Ed (mM (pv 0) (mM (rN sk (pv 6) rE (λ_ _=>rfl)) (mM (rN sk (pv 6) rE (λ_ _=>rfl)) rq))))) (yQ rfl (sy (rK (i:=8) R rfl (Or.inl rfl)) (sy (rK (i:=9) R rfl (Or.inl rfl)) uk))) (rn (wj (rO sC (x3 (W:=Gr) (P:=P) (w:=w) (K:=K) rfl rfl rfl hr (pv 1) (sF (mM (pv 8) (mM (pv 9) rq))) rE) (rO sw (pv 7) (pv 4))) (vY (pv 1) (sF (mM (pv 8) (mM (pv 9) rq))) (DS (W:=Gr) (P:=P) (w:=w) (K:=K) rfl rfl rfl hr)))
   (rn (rG (i:=10) R rfl (Or.inl rfl) (sF (mM (rS Gwith_one hr (by decide) rfl Ed (mM (rN sk (pv 6) rE (λ_ _=>rfl)) (mM (pv 8) rq))) (mM (rS Gwith_one hr (by decide) rfl Ed (mM (rN sk (pv 6) rE (λ_ _=>rfl)) (mM (pv 9) rq))) rq))))
   (rD (wj (rO sC (x3 (W:=Gw) (P:=P) (w:=w) (K:=K) rfl rfl rfl hr (pv 5) (pv 10) rE) (pv 7)) (vY (pv 5) (pv 10) (DS (W:=Gw) (P:=P) (w:=w) (K:=K) rfl rfl rfl hr)))))))))
   (rD (rG (i:=2) R rfl (Or.inl rfl) (pv 5)))))))
   (rD (rM (pv 1)))))),?_⟩
 try dsimp -proj only[nox_K,hold_K,cxOf_K]
 have bG:=Paired.len hW
 have bH:=ok.lo
 have bL:=ok.hi
 have bE:=ok.len
 have bf:ws.length=n:=by omega
 have ab:(0:Nat)<=sizeLine:=by decide
 have u:(2:Nat)<=sizeLine:=by decide
 refine λc H1 aQ aI av=>?_
 have S1:Same H H1:=by obtain⟨φ,rfl⟩:=aI;exact rr aQ _
 clear aI
 refine λm H2 U aC aH=>?_
 have af:H m=none:=S1.free U
 have S2:Same H1 H2:=by obtain⟨φ,rfl⟩:=aC;exact rr U _
 have Y:c≠m:=λz=>by obtain⟨φ,e⟩:=av.ext;rw[z,U]at e;cases e
 clear aC
 refine⟨ab,λF aY=>⟨ab,λD aP=>⟨u,λp3 ar=>?_⟩⟩⟩
 have S3:Same H2 (upd (upd (upd H2 F (.tup [])) D (.tup [])) p3 (.tup [.ref F,.ref D])):=(rr aY _).trans ((rr aP _).trans (rr ar _))
 have aM:SqT K (upd (upd (upd H2 F (.tup [])) D (.tup [])) p3 (.tup [.ref F,.ref D])) p3 [.ref F,.ref D]:=SqT.of rC
 have ax:SqT K (upd (upd (upd H2 F (.tup [])) D (.tup [])) p3 (.tup [.ref F,.ref D])) F (([]:List Int).map V.int):=SqT.of (rr ar _ _ _ (rr aP _ _ _ rC))
 have aL:SqT K (upd (upd (upd H2 F (.tup [])) D (.tup [])) p3 (.tup [.ref F,.ref D])) D (([]:List Int).map V.int):=SqT.of (rr ar _ _ _ rC)
 generalize upd (upd (upd H2 F (.tup [])) D (.tup [])) p3 (.tup [.ref F,.ref D])=H3 at S3 aM ax aL ⊢
 refine⟨p3,([],[]),1,rfl,rfl,⟨F,D,aM,ax,aL⟩,aH.mono S3,λH4 aF aS=>?_⟩
 have a5:=(aH.mono S3).ext
 have X4:KX [m] H3 H4:=KX.put (λb hb=>by rw[cK.mp hb];exact a5) (cK.mpr rfl) aF
 have aA:Same H H4:=X4.same (S1.trans (S2.trans S3)) λb hb=>by rw[cK.mp hb];exact af
 have aR:DictI Gr P w K H4 c []:=by
  obtain⟨ep,hC⟩:=av
  exact⟨ep,X4.dict (hC.mono (S2.trans S3)) (λz=>Y (cK.mp z))⟩
 clear X4 aF a5 S3 aM ax aL aH av S1 S2 aY aP ar U
 refine⟨_,rfl,a,ws,rfl,.inl (aA.seq hA),_,rfl,by omega,by omega,?_⟩
 refine sf (n:=ws.length) (λk G H5=>Same H H5/\∃(m:cG) (C:List (List Int×Int)) (B:List (Ew×Int)) (r3 r4 r5 r6 r7 r8 r9 S:Option V),G=[some (.ref a),some (.ref c),some (.ref m),r3,r4,r5,r6,r7,r8,r9,S]/\H m=none/\c≠m/\
   DictI Gr P w K H5 c C/\CI n W k C/\DictI Gw P w K H5 m B/\BI n W k B)
  ⟨aA,m,[],_,_,_,_,_,_,_,_,_,rfl,af,Y,aR,CI.zero,aS,BI.zero⟩ (λk G H5 hk r=>?_) (λG H5 r=>?_)
 ·clear aA aR aS Y af
  obtain⟨S5,m,C,B,r3,r4,r5,r6,r7,r8,r9,S,rfl,U,Y,hC,am,hB,ak⟩:=r
  have bC:k<n:=by omega
  refine⟨_,rfl,a,ws,rfl,.inl (S5.seq hA),_,rfl,_,_,rfl,rfl,_,_,rfl,rfl,n-(k+1),by show[V.int _]=[V.int _];rw[show(ws.length:Int)-(0+(k:Int))-1=((n-(k+1):Nat):Int)by omega],by omega,?_⟩
  have bI:=yG (show n-(k+1)<=6 by omega)
  refine λl H6 aq aB bv=>?_
  have aX:H l=none:=S5.free aq
  have S6:Same H5 H6:=by obtain⟨φ,rfl⟩:=aB;exact rr aq _
  have aD:c≠l:=λz=>by obtain⟨φ,e⟩:=hC.ext;rw[z,aq]at e;cases e
  have bs:m≠l:=λz=>by obtain⟨φ,e⟩:=hB.ext;rw[z,aq]at e;cases e
  clear aB
  obtain⟨ep,a0⟩:=hB.mono S6
  have a7:m∉[c,l]:=λz=>by
   rcases cZ.mp z with z|z
   ·exact Y z.symm
   ·exact bs (cK.mp z)
  have bu:∀b∈[c,l],H b=none:=λb hb=>by
   rcases cZ.mp hb with z|z
   ·rw[z];exact aQ
   ·rw[cK.mp z];exact aX
  have exts:∀{H':Hp} {C:List (List Int×Int)} {L:List (Ew×Int)},DictI Gr P w K H' c C->DictI Gw P w K H' l L->∀b∈[c,l],∃φ,H' b=some (.ext φ):=λh1 h2 b hb=>by
   rcases cZ.mp hb with z|z
   ·rw[z];exact h1.ext
   ·rw[cK.mp z];exact h2.ext
  refine⟨_,rfl,m,ep,B,rfl,a0,?_⟩
  refine Ah (kvs:=B) (λi G O=>Same H O/\DictE Gw P w K O m ep B/\∃(o:List (List Int×Int)) (L:List (Ew×Int)) (r6 r7 r8 r9 S:Option V),G=[some (.ref a),some (.ref c),some (.ref m),some (.int (0+(k:Int))),some (.int (TM.fct (n-(k+1)))),some (.ref l),r6,r7,r8,r9,S]/\
    DictI Gr P w K O c o/\DictI Gw P w K O l L/\TI0 n W k B i o L)
   ⟨S5.trans S6,a0,C,[],_,_,_,_,_,rfl,hC.mono S6,bv,TI0.start am⟩ (λi G O _ r=>r.2.1) (λi g J Z G O t az bk ht r=>?_) (λG O r=>?_)
  ·obtain⟨S7,aK,o,L,bp,bw,ay,aG,ah,rfl,ap,al,hT⟩:=r
   obtain⟨kx,ky,aw,aW,aZ⟩:=bk
   obtain⟨π,a6,aa⟩:=ak.key _ (da az)
   have I:=TM.pre_ok a6
   have bD:g.1.length=k:=by rw[show g=EE W π from aa];show(TM.srt π).length=k;rw[Bm,I.len]
   have bF:g.2.length=k:=by rw[show g=EE W π from aa];show(TM.srt (Jk W π)).length=k;rw[Bm];unfold Jk;rw[Ap,I.len]
   have S8:Same O (upd O t (.tup [.ref Z,.int J])):=rr ht _
   have a1:upd O t (.tup [.ref Z,.int J]) t=some (.tup [.ref Z,.int J]):=rC
   generalize upd O t (.tup [.ref Z,.int J])=H8 at S8 a1 ⊢
   refine⟨t,_,rfl,SqT.of a1,rfl,_,_,rfl,_,_,rfl,rfl,?_⟩
   refine⟨_,rfl,_,rfl,Z,_,0,_,rfl,rfl,S8.tup aw,rfl,_,rfl,Z,_,1,_,rfl,rfl,S8.tup aw,rfl,a,kx,ky,ws,W,n,g,rfl,(S7.trans S8).seq hA,Paired.mapP hW (λ_ _ h=>h.mono (S7.trans S8)),ok,S8.tup aW,S8.tup aZ,by omega,λtl ls H9 S9 bA aU a4=>?_⟩
   have y:=S8.trans S9
   have bn:=Paired.len a4
   have a9:(Et n W g).length<=6:=by
    unfold Et TM.freeP
    rw[cx]
    have h1:=d6 (λp=>!decide (p∈g.1)) (LM.rng n)
    rw[LM.rng_len]at h1
    omega
   have br:=exts (ap.mono y) (al.mono y)
   refine⟨tl,rfl,⟨_,SqL.of aU⟩,?_⟩
   refine uZ (xs:=ls) (λj G N=>KX [c,l] H9 N/\∃(o:List (List Int×Int)) (L:List (Ew×Int)) (r8 r9 S:Option V),G=[some (.ref a),some (.ref c),some (.ref m),some (.int (0+(k:Int))),some (.int (TM.fct (n-(k+1)))),some (.ref l),some (.ref Z),some (.int J),r8,r9,S]/\
     DictI Gr P w K N c o/\DictI Gw P w K N l L/\TJ n W k B i g J j o L)
    ⟨KX.refl br,o,L,_,_,_,rfl,ap.mono y,al.mono y,hT g J⟩ (λj G N _ r=>SqL.of (r.1.lst aU)) (λj v G N hv r=>?_) (λG N r=>?_)
   ·obtain⟨XA,o,L,ay,aG,ah,rfl,T,ao,X⟩:=r
    obtain⟨d,aE,pa,rfl,bl⟩:=Paired.get' a4 hv
    have bK:j<6:=by have:=(cL.mp aE).1;omega
    have bJ:i<=7776:=by
     have h1:=(cL.mp az).1
     have h2:6^k<=6^5:=eB (by decide) (by omega)
     have h3:=ak.len
     have h4:(6:Nat)^5=7776:=by decide
     omega
    have be:o.length<=1000000:=by have:=X.cl;omega
    have ba:L.length<=1000000:=by have:=X.ll;omega
    refine⟨pa,_,rfl,XA.tup bl,rfl,_,_,rfl,_,_,rfl,rfl,?_⟩
    -- the count
    refine⟨_,rfl,c,rfl,⟨_,T⟩,_,rfl,_,rfl,u,λpk aT=>?_⟩
    have SB:Same N (upd N pk (.tup [.int d.1,.int d.2])):=rr aT _
    have ai:SqT K (upd N pk (.tup [.int d.1,.int d.2])) pk (([d.1,d.2]:List Int).map V.int):=SqT.of rC
    generalize upd N pk (.tup [.int d.1,.int d.2])=HB at SB ai ⊢
    refine⟨pk,[d.1,d.2],0,o,rfl,rfl,T.mono SB,ai,?_⟩
    refine⟨_,rfl,_,rfl,_,_,rfl,rfl,J8 (by omega),_,_,rfl,rfl,?_⟩
    refine⟨_,rfl,_,rfl,_,rfl,u,λac aJ=>?_⟩
    have SC:Same HB (upd HB ac (.tup [.int d.1,.int d.2])):=rr aJ _
    have ag:SqT K (upd HB ac (.tup [.int d.1,.int d.2])) ac (([d.1,d.2]:List Int).map V.int):=SqT.of rC
    generalize upd HB ac (.tup [.int d.1,.int d.2])=HC at SC ag ⊢
    refine⟨c,ac,[d.1,d.2],_,o,rfl,rfl,rfl,T.mono (SB.trans SC),ag,be,λHD ae bj=>?_⟩
    have ad:=SB.trans SC
    have aV:=exts (T.mono ad) (ao.mono ad)
    have XD:KX [c,l] N HD:=(KX.of ad XA.is).trans (KX.put aV cM ae)
    have bi:DictI Gw P w K HD l L:=by
     obtain⟨e2,hL⟩:=ao.mono ad
     obtain⟨φ,bx,h1,rfl⟩:=ae
     exact⟨e2,hL.overX h1 (Ne.symm aD)⟩
    clear ae aV ag ai SB SC ad aT aJ
    -- the state
    have aj:=XA.trans XD
    have a2:=aj.tup ((y).tup aw)
    refine⟨_,rfl,Z,_,0,_,rfl,rfl,a2,rfl,_,rfl,kx,g.1,d.1,rfl,aj.tup (y.tup aW),by omega,λq1 HE SE bo=>?_⟩
    refine⟨_,rfl,Z,_,1,_,rfl,rfl,SE.tup a2,rfl,_,rfl,ky,g.2,d.2,rfl,SE.tup (aj.tup (y.tup aZ)),by omega,λq2 HF SF bm=>?_⟩
    refine⟨u,λqs aN=>?_⟩
    have SG:Same HD (upd HF qs (.tup [.ref q1,.ref q2])):=SE.trans (SF.trans (rr aN _))
    have au:Gw.at' K (upd HF qs (.tup [.ref q1,.ref q2])) (Fy g d) qs:=⟨q1,q2,SqT.of rC,(SF.trans (rr aN _)).tup bo,(rr aN _).tup bm⟩
    generalize upd HF qs (.tup [.ref q1,.ref q2])=HG at SG au ⊢
    have an:=bi.mono SG
    refine⟨_,rfl,l,rfl,⟨_,an⟩,_,rfl,qs,Fy g d,0,L,rfl,rfl,an,au,?_⟩
    refine⟨_,rfl,_,_,rfl,rfl,?_⟩
    refine⟨_,rfl,_,rfl,l,qs,Fy g d,_,L,rfl,rfl,rfl,an,au,ba,λHI aO bq=>?_⟩
    have a3:=bj.mono SG
    have bh:=exts a3 an
    have XI:KX [c,l] HD HI:=(KX.of SG XD.is).trans (KX.put bh (cO _ (cK.mpr rfl)) aO)
    have bc:DictI Gr P w K HI c (Im o [d.1,d.2] (J*TM.fct (n-(k+1)))):=by
     obtain⟨e2,hC⟩:=a3
     obtain⟨φ,bx,h1,rfl⟩:=aO
     exact⟨e2,hC.overX h1 aD⟩
    refine⟨aj.trans XI,_,_,_,_,_,rfl,bc,bq,X.step aE ?_⟩
    rw[show g=EE W π from aa]
    exact B5 a6 (by rw[<-show g=EE W π from aa];exact da aE)
   ·obtain⟨XA,o,L,ay,aG,ah,rfl,T,ao,X⟩:=r
    rw[bn]at X
    refine⟨XA.same (S7.trans y) bu,XA.dict (aK.mono y) a7,o,L,_,_,_,_,_,rfl,T,ao,X.done az a9⟩
  ·obtain⟨S7,aK,o,L,bp,bw,ay,aG,ah,rfl,ap,al,hT⟩:=r
   obtain⟨bb,a8⟩:=TI0.finish ak (by omega) hT
   exact⟨_,rfl,S7,l,o,L,_,_,_,_,_,_,_,_,rfl,aX,aD,ap,bb,al,a8⟩
 ·obtain⟨S5,m,C,B,r3,r4,r5,r6,r7,r8,r9,S,rfl,U,Y,hC,am,hB,ak⟩:=r
  rw[bf]at am
  exact⟨_,rfl,q c C H5 S5 hC am⟩
theorem ER:Eb ["counts","person","count","orders"] ["counts","person","count"] (D8 (Ec 44)):=⟨rfl,rfl,rfl,by decide +kernel,rfl,by decide +kernel,by decide +kernel⟩
theorem FX(M:Md K mg x cB)
  (Gorders_of:Dn P w K mg base Ei 1 "orders_of" ["count"] (FL))
  (Gfraction:Dn P w K mg base (FD P w) 2 "fraction" ["top","bottom"] (EF x)):Dn P w K mg base Ei 3 "shares_by_turns" ["counts","person","count"] (Ik P w K):=by
 have U:=(ER).nd
 refine M.f_shares_by_turns.ok ER (λvs H Q E h=>?_) (λ_ _ _ _ _ _ L R=>match L,R with|[_,_,_],_=>rfl) (λf Y A J s H vs Q E y h=>?_)
 ·obtain⟨d,C,W,n,p,rfl,t,j,k,q⟩:=h
  rfl
 obtain⟨d,C,W,n,p,rfl,t,j,k,q⟩:=h
 refine⟨_,(rn (rG (i:=3) U rfl (Or.inr rfl) (rS Gorders_of y (by decide) rfl Ed (mM (pv 2) rq)))
   (rD (rM (sd sG rfl M.b_tuple Boot.«tuple» (mM (su rfl (N:=["thing","counts","person","orders"]) (caps:=[none,some 0,some 1,some 3]) (CompOk.of (by kernel_rfl)) (rW rfl) (rX rfl M.b_range (mM (pv 2) rq)) (λ_ _ _ _=>(rK (i:=0) (show(["thing","counts","person","orders"]:List Str).Nodup by decide +kernel) rfl (Or.inl rfl) (Or.inr rfl))) (λ_ _ _ _=>sj) (λ_ _ _ _=>(rS Gfraction y (by decide) rfl FJ (mM (x3 (W:=Gr) (P:=P) (w:=w) (K:=K) rfl rfl rfl y (pv 1) (sF (mM (pv 2) (mM (pv 0) rq))) rE) (mM (pv 3) rq))))) rq))))),?_⟩
 try dsimp -proj only[nox_K,hold_K,cxOf_K]
 have Z:=yG k
 refine⟨_,rfl,n,rfl,k,?_⟩
 refine⟨_,rfl,_,rfl,by omega,by omega,?_⟩
 refine sK (n:=n) (λi e a=>Same H a/\dr (IsF K a) e ((EZ n W p).take i)) ⟨Same.refl _,by rw[eP];exact .nil⟩ (λi e a T v=>?_) (λe a v D O=>?_)
 ·obtain⟨c,b⟩:=v
  have G:=Paired.len b
  rw[cV]at G
  refine⟨_,rfl,d,rfl,⟨_,t.mono c⟩,_,rfl,_,rfl,by show 2<=sizeLine;decide,λpk I=>?_⟩
  rw[d3]
  have o:Same a (upd a pk (.tup [.int p,.int (i:Int)])):=rr I _
  have g:SqT K (upd a pk (.tup [.int p,.int (i:Int)])) pk (([p,(i:Int)]:List Int).map V.int):=SqT.of rC
  generalize upd a pk (.tup [.int p,.int (i:Int)])=H2 at o g ⊢
  refine⟨pk,[p,(i:Int)],0,C,rfl,rfl,t.mono (c.trans o),g,_,rfl,Ke C [p,(i:Int)],TM.fct n,rfl,λz=>by omega,λ_=>⟨vy (m:=30) (by omega) (by decide),λX H3 F r=>⟨D9 (by omega),c.trans (o.trans F),?_⟩⟩⟩
  rw[Cd C j.kn n W j.sum]at r
  rw[cY,show(EZ n W p)[i]?=some (FQ.red (EH n W (λl=>GA p i (l.getD 0 0) (l.getD 1 0)) n) (TM.fct n))by unfold EZ;rw[cH,d9 T];rfl]
  exact Paired.app (rQ (o.trans F) b) (.cons ⟨X,rfl,SqT.of r⟩ .nil)
 ·obtain⟨c,b⟩:=v
  rw[eK (by rw[zv];exact cI _)]at b
  have B:=rr O (.lst e)
  exact⟨D,e,rfl,.inl ⟨SqL.of rC,λS u=>q S e _ (c.trans (B.trans (rr u _))) (c.free (B.free u)) rC (rQ (B.trans (rr u _)) b)⟩⟩
theorem Gn:Eb ["wishes","counts"] ["wishes"] (D8 (Ec 45)):=⟨rfl,rfl,rfl,by decide +kernel,rfl,by decide +kernel,by decide +kernel⟩
theorem IL(M:Md K mg x cB)
  (Gcounts_of:Dn P w K mg base Ei 3 "counts_of" ["wishes"] (HU P w K))
  (Gshares_by_turns:Dn P w K mg base Ei 3 "shares_by_turns" ["counts","person","count"] (Ik P w K)):Dn P w K mg base Ei 4 "by_turns" ["wishes"] (Ga K):=by
 have T:=(Gn).nd
 refine M.f_by_turns.ok Gn (λvs H Q E h=>?_) (λ_ _ _ _ _ _ G L=>match G,L with|[_],_=>rfl) (λf U A F s H vs Q E B h=>?_)
 ·obtain⟨a,e,W,n,rfl,hA,o,j,q⟩:=h
  rfl
 obtain⟨a,e,W,n,rfl,hA,o,j,q⟩:=h
 refine⟨_,(rn (rG (i:=1) T rfl (Or.inr rfl) (rS Gcounts_of B (by decide) rfl Ed (mM (pv 0) rq)))
   (rD (rM (su rfl (N:=["person","wishes","counts"]) (caps:=[none,some 0,some 1]) (CompOk.of (by kernel_rfl)) (rW rfl) (rX rfl M.b_range (mM (rJ rP rfl M.b_len dD (mM (pv 0) rq)) rq)) (λ_ _ _ _=>(rK (i:=0) (show(["person","wishes","counts"]:List Str).Nodup by decide +kernel) rfl (Or.inl rfl) (Or.inr rfl))) (λ_ _ _ _=>sj) (λ_ _ _ _=>(rS Gshares_by_turns B (by decide) rfl Ed (mM (pv 2) (mM (pv 0) (mM (rJ (ux (K:=K) rfl) rfl M.b_len dD (mM (pv 1) rq)) rq))))))))),?_⟩
 try dsimp -proj only[nox_K,hold_K,cxOf_K]
 have Z:=Paired.len o
 have z:=j.hi
 have Y:=j.len
 have r:e.length=n:=by omega
 refine⟨_,rfl,a,e,W,n,rfl,hA,o,j,λd C O g I u=>?_⟩
 refine⟨_,rfl,a,e,rfl,.inl (g.seq hA),_,rfl,by omega,by omega,?_⟩
 refine sK (n:=e.length) (λi k l=>Same O l/\dr (RwG K l) k ((Ii n W).take i)) ⟨Same.refl _,by rw[eP];exact .nil⟩ (λi k l hi p=>?_) (λk l p D m=>?_)
 ·obtain⟨c,b⟩:=p
  have y:=Paired.len b
  rw[cV]at y
  refine⟨_,rfl,_,rfl,_,rfl,a,e,rfl,.inl ((g.trans c).seq hA),d,C,W,n,(i:Int),by show[V.ref d,V.int _,V.int _]=[V.ref d,V.int _,V.int _];rw[r,d3],I.mono c,u,z,λS R H3 v X J t=>⟨D9 (by omega),c.trans v,?_⟩⟩
  rw[cY,show(Ii n W)[i]?=some (EZ n W i)by unfold Ii;rw[cH,d9 (by omega)];rfl]
  exact Paired.app (Paired.mapP b λ_ _ h=>h.mono v) (.cons ⟨S,R,rfl,SqT.of J,t⟩ .nil)
 ·obtain⟨c,b⟩:=p
  rw[eK (by rw[BX];omega)]at b
  exact q D k _ (g.trans (c.trans (rr m _))) ((g.trans c).free m) rC (Paired.mapP b λ_ _ h=>h.mono (rr m _))
theorem GT:Eb ["value"] ["value"] (D8 (Ec 48)):=⟨rfl,rfl,rfl,by decide +kernel,rfl,by decide +kernel,by decide +kernel⟩
theorem Jt(M:Md K mg x cB):Dn P w K mg base Ei 1 "is_word" ["value"] (Ie):=by
 have T:=(GT).nd;refine M.f_is_word.ok GT (λvs H Q E h=>?_) (λ_ _ _ _ _ _ v C=>match v,C with|[_],_=>rfl) (λf L A t s H vs Q E S h=>?_)
 ·obtain⟨z,rfl,g,r,q⟩:=h;rfl
 obtain⟨z,rfl,g,r,q⟩:=h;refine⟨_,(rn (sv (PW.pt (w5 (tE (sQ (rJ sr rfl M.b_isinstance Boot.«isinstance» (mM (pv 0) (mM (tS rfl M.b_str Boot.«str») rq))))) (wf (tE (Ce BH BH rE (rJ xc rfl M.b_len dD (mM (pv 0) rq)) (Bh M.c_MOST_SIGNS)))))) (rD (rM ug)) rV)
   (rD (rM (rJ (yq rfl) rfl M.b_all Boot.«all» (mM (su rfl (N:=["sign"]) (caps:=[none]) (CompOk.of (by kernel_rfl)) (rW rfl) (DO (pv 0)) (λ_ _ _ _=>(rK (i:=0) (show(["sign"]:List Str).Nodup by decide +kernel) rfl (Or.inl rfl) (Or.inr rfl))) (λ_ _ _ _=>sj) (λ_ _ _ _=>(yo w8 w8 sD (pv 0) sD))) rq))))),?_⟩
 try dsimp -proj only[nox_K,hold_K,cxOf_K]
 have o:z.length<=sizeLine:=dB (D9 g);refine⟨_,rfl,_,"str","str",rfl,by decide,rfl,_,rfl,Er ?_⟩;refine⟨_,rfl,z,rfl,o,_,_,rfl,rfl,_,rfl,?_⟩;refine Ey (λG=>?_) (λG=>?_);rotate_left
 ·rw[v4 (by omega)]at q;exact⟨_,rfl,EN (q H (Same.refl _))⟩
 refine⟨_,_,rfl,rfl,_,rfl,?_⟩;by_cases n:(z.length:Int)<=12;rotate_left
 ·rw[v4 (by omega)]at q;dsimp only;rw[decide_eq_false n];exact EN (q H (Same.refl _))
 dsimp only;rw[decide_eq_true n];refine Er ?_;rw[zA (by omega)]at q;refine⟨_,rfl,z,rfl,r,?_⟩;have I:(fM "a").cps.toList=[97]:=by decide +kernel
 have J:(fM "z").cps.toList=[122]:=by decide +kernel
 have d:z.cps.size=z.cps.toList.length:=by simp
 have O:z.cps.toList.length<=1000:=by rw[<-d];exact g
 refine zM (z:=z) (λi k j=>j=H/\k=((z.cps.toList.take i).map λc=>decide (97<=c)&&decide (c<=122)).map V.bl) ⟨rfl,rfl⟩ (λi c k j p l=>?_) (λk j l D y=>?_)
 ·obtain⟨rfl,rfl⟩:=l;have R:i<z.cps.toList.length:=by rw[<-d];exact(ko.mp p).1
  have a:(((z.cps.toList.take i).map λc=>decide (97<=c)&&decide (c<=122)).map V.bl).length<sizeLine:=D9 (by rw[cx,cx,cV];omega);have m:z.cps.toList[i]?=some c:=by rw[gh];exact p
  have e:∀b:Bool,b=(decide (97<=c)&&decide (c<=122))->(((z.cps.toList.take i).map λc=>decide (97<=c)&&decide (c<=122)).map V.bl)++[V.bl b]=(((z.cps.toList.take (i+1)).map λc=>decide (97<=c)&&decide (c<=122)).map V.bl):=λb u=>by
   rw[cY,m,cS,cS,u];rfl
  refine⟨_,rfl,_,_,rfl,rfl,_,rfl,?_⟩;show if(!decide ([c]<(fM "a").cps.toList))=true then _ else _
  rw[I];by_cases F:c<97
  ·rw[decide_eq_true (show[c]<[97]by rw[gN];exact .inl F)];exact Er ⟨a,rfl,e false (by rw[decide_eq_false (by omega)];rfl)⟩
  ·rw[decide_eq_false (show ¬[c]<[97]by rw[gN];simp;omega)];refine EN ⟨_,_,rfl,rfl,a,rfl,e _ ?_⟩;show(!decide ((fM "z").cps.toList<[c]))=_;rw[J];by_cases B:122<c
   ·rw[decide_eq_true (show[122]<[c]by rw[gN];exact .inl B),decide_eq_false (show ¬c<=122 by omega),o3];rfl
   ·rw[decide_eq_false (show ¬[122]<[c]by rw[gN];simp;omega),decide_eq_true (show 97<=c by omega),decide_eq_true (show c<=122 by omega)];rfl
 ·obtain⟨rfl,rfl⟩:=l;rw[d,dj];refine⟨D,_,rfl,SqL.of rC,?_⟩;rw[qr];exact q _ (rr y _)
theorem GR:Eb ["words"] ["words"] (D8 (Ec 49)):=⟨rfl,rfl,rfl,by decide +kernel,rfl,by decide +kernel,by decide +kernel⟩
theorem Jp(M:Md K mg x cB)
  (Ghas_people:Dn P w K mg base Ei 2 "has_people" ["rows"] (HX K))
  (Gis_word:Dn P w K mg base Ei 1 "is_word" ["value"] (Ie)):Dn P w K mg base Ei 3 "is_roll" ["words"] (Io K):=by
 have W:=(GR).nd
 refine M.f_is_roll.ok GR (λvs H Q E h=>?_) (λ_ _ _ _ _ _ O z=>match O,z with|[_],_=>rfl) (λf T A L s H vs Q E I h=>?_)
 ·obtain⟨a,b,rfl,hA,t,p,q⟩:=h
  rfl
 obtain⟨a,b,rfl,hA,t,p,q⟩:=h
 refine⟨_,(rD (rM (ut (rS Ghas_people I (by decide) rfl Ed (mM (pv 0) rq)) (ut (rJ (yq rfl) rfl M.b_all Boot.«all» (mM (su rfl (N:=["word"]) (caps:=[none]) (CompOk.of (by kernel_rfl)) (rW rfl) (sS (pv 0)) (λ_ _ _ _=>(rK (i:=0) (show(["word"]:List Str).Nodup by decide +kernel) rfl (Or.inl rfl) (Or.inr rfl))) (λ_ _ _ _=>sj) (λ_ _ _ _=>(rS Gis_word I (by decide) rfl Ed (mM (pv 0) rq)))) rq)) (vB (tG tO (zn rfl rfl M.b_len rfl M.b_set (pv 0)) (rJ rP rfl M.b_len dD (mM (pv 0) rq)) (Ef _))))))),?_⟩
 try dsimp -proj only[nox_K,hold_K,cxOf_K]
 refine⟨_,rfl,a,b.map V.str,rfl,.inl hA,λF u=>⟨_,rfl,?_⟩⟩
 rw[cx]
 refine Ey (λc=>?_) (λc=>?_)
 rotate_left
 ·have C:=q F u
  rw[y6 c]at C
  exact C
 have o:=u.seq hA
 refine⟨_,rfl,a,rfl,⟨_,o⟩,?_⟩
 refine sP (xs:=b.map V.str) (λi m d=>Same F d/\m=((b.take i).map Ep).map V.bl) ⟨Same.refl _,rfl⟩ (λi m d _ k=>k.1.seq o) (λi v m d j k=>?_) (λm d k D R=>?_)
 ·obtain⟨y,rfl⟩:=k
  rw[cH]at j
  cases e:b[i]? with
  | none=>rw[e]at j;cases j
  | some w=>
   rw[e]at j
   have G:V.str w=v:=Option.some.inj j
   subst G
   have U:i<b.length:=(cL.mp e).1
   obtain⟨z,S⟩:=p w (da e)
   refine⟨_,rfl,w,rfl,z,S,λJ l=>⟨D9 (by rw[cx,cx,cV];omega),y.trans l,?_⟩⟩
   rw[cY,e,cS,cS]
   rfl
 obtain⟨y,rfl⟩:=k
 rw[cx,dj]
 have l:Same d (upd d D (.lst ((b.map Ep).map V.bl))):=rr R _
 have r:upd d D (.lst ((b.map Ep).map V.bl)) D=some (.lst ((b.map Ep).map V.bl)):=rC
 generalize upd d D (.lst ((b.map Ep).map V.bl))=J at l r ⊢
 have g:=u.trans (y.trans l)
 have n:=q J g
 refine⟨D,b.map Ep,rfl,SqL.of r,_,rfl,?_⟩
 rw[qr]
 show if b.all Ep=true then _ else _
 cases B:b.all Ep with
 | false=>
  rw[xg B]at n
  exact Er n
 | true=>
  rw[y9 c B]at n
  refine EN ?_
  refine⟨_,rfl,a,b,rfl,g.seq hA,t,_,rfl,a,_,rfl,.inl (g.seq hA),rfl,?_⟩
  rw[cx]
  exact n
theorem E7:Eb ["self","people","things"] ["self","people","things"] (D8 (Hi 50 0)):=⟨rfl,rfl,rfl,by decide +kernel,rfl,by decide +kernel,by decide +kernel⟩
theorem Gp(M:Md K mg x cB)
  (Gis_roll:Dn P w K mg base Ei 3 "is_roll" ["words"] (Io K)):Bn P w K mg base (FD P w) 4 cB "Book" ["self","people","things"] (Jy K cB x):=by
 have nd:=(E7).nd
 refine M.k_Book.okE E7 (λvs H Q E h=>?_) (λ_ _ _ _ _ _ us hl=>match us,hl with|[_,_,_],_=>rfl) (λf ag A af s H vs Q E hr h=>?_)
 ·obtain⟨s0,a,b,g,l,m,rfl,hs,hA,I,U,L,S,T,D,q⟩:=h
  rfl
 obtain⟨s0,a,b,g,l,m,rfl,hs,hA,I,U,L,S,T,D,q⟩:=h
 refine⟨_,(rn (sv (PW.pt (w5 (tE (sQ (rS Gis_roll hr (by decide) rfl Ed (mM (pv 1) rq)))) (w5 (tE (sQ (rS Gis_roll hr (by decide) rfl Ed (mM (pv 2) rq)))) (wf (rR zd (rJ rP rfl M.b_len dD (mM (pv 1) rq)) (rJ rP rfl M.b_len dD (mM (pv 2) rq)) (Ef _)))))) (rD (tR M.x_NoRoll rfl (mM sD rq))) rV)
   (rn (z7 (pv 0) (sd ui rfl M.b_tuple Boot.«tuple» (mM (pv 1) rq)) rfl)
   (rn (z7 (pv 0) (sd ui rfl M.b_tuple Boot.«tuple» (mM (pv 2) rq)) rfl)
   (rD (z7 (pv 0) C2 rfl))))),?_⟩
 try dsimp -proj only[nox_K,hold_K,cxOf_K]
 refine⟨_,rfl,a,l,rfl,hA,U,S,λH1 Y=>⟨_,rfl,?_⟩⟩
 cases Z:EQ l with
 | false=>exact EN ⟨by show 1<=sizeLine;decide,D (λz=>by rw[uc.mpr z.1]at Z;cases Z) H1 Y⟩
 | true=>
 have rp:=uc.mp Z
 refine Er ?_
 refine⟨_,rfl,b,m,rfl,Y.seq I,L,T,λr S2=>⟨_,rfl,?_⟩⟩
 have k:=Y.trans S2
 cases et:EQ m with
 | false=>exact EN ⟨by show 1<=sizeLine;decide,D (λz=>by rw[uc.mpr z.2.1]at et;cases et) r k⟩
 | true=>
 have rt:=uc.mp et
 refine Er ?_
 refine⟨_,rfl,a,_,rfl,.inl (k.seq hA),_,rfl,b,_,rfl,.inl (k.seq I),rfl,_,rfl,?_⟩
 rw[cx,cx]
 by_cases el:l.length=m.length
 rotate_left
 ·refine K3 (MH (by omega)) ⟨by show 1<=sizeLine;decide,D (λz=>el z.2.2) r k⟩
 refine GJ (by rw[el]) ?_
 have y:=k _ _ hs
 have ae:=k.seq hA
 have aa:=k.seq I
 refine⟨_,rfl,a,_,rfl,ae,λc n O ab=>?_⟩
 have G:=rr O (.frz n (.tup (l.map V.str)))
 refine⟨_,rfl,s0,cB,g,_,rfl,G _ _ y,M.cl,M.na_people,by show 0<1000;decide,?_⟩
 have X:c≠s0:=Ne.symm (rF y O)
 have U3:SameBut1 s0 H (upd (upd r c (.frz n (.tup (l.map V.str)))) s0 (.ins cB g (EI "people" (.ref c) []))):=(SameBut1.of (k.trans G)).trans SameBut1.upd
 have t:upd (upd r c (.frz n (.tup (l.map V.str)))) s0 (.ins cB g (EI "people" (.ref c) [])) s0=some (.ins cB g [("people",.ref c)]):=rC
 have C:upd (upd r c (.frz n (.tup (l.map V.str)))) s0 (.ins cB g (EI "people" (.ref c) [])) c=some (.frz n (.tup (l.map V.str))):=by rw[rH X,rC]
 have R:=(G.seq aa).overI (o:= .ins cB g (EI "people" (.ref c) [])) (G _ _ y)
 dsimp only
 generalize upd (upd r c (.frz n (.tup (l.map V.str)))) s0 (.ins cB g (EI "people" (.ref c) []))=B at U3 t C R ⊢
 refine⟨_,rfl,b,_,rfl,R,λj p v ac=>?_⟩
 have T2:=rr v (.frz p (.tup (m.map V.str)))
 refine⟨_,rfl,s0,cB,g,_,rfl,T2 _ _ t,M.cl,M.na_things,by show 1<1000;decide,?_⟩
 have n2:j≠s0:=Ne.symm (rF t v)
 have n3:c≠j:=rF C v
 have U4:SameBut1 s0 H (upd (upd B j (.frz p (.tup (m.map V.str)))) s0 (.ins cB g (EI "things" (.ref j) [("people",.ref c)]))):=(U3.trans (SameBut1.of T2)).trans SameBut1.upd
 have u:upd (upd B j (.frz p (.tup (m.map V.str)))) s0 (.ins cB g (EI "things" (.ref j) [("people",.ref c)])) s0=some (.ins cB g [("people",.ref c),("things",.ref j)]):=rC
 have W:upd (upd B j (.frz p (.tup (m.map V.str)))) s0 (.ins cB g (EI "things" (.ref j) [("people",.ref c)])) c=some (.frz n (.tup (l.map V.str))):=by rw[rH X,rH n3];exact C
 have N:upd (upd B j (.frz p (.tup (m.map V.str)))) s0 (.ins cB g (EI "things" (.ref j) [("people",.ref c)])) j=some (.frz p (.tup (m.map V.str))):=by rw[rH n2,rC]
 dsimp only
 generalize upd (upd B j (.frz p (.tup (m.map V.str)))) s0 (.ins cB g (EI "things" (.ref j) [("people",.ref c)]))=H4 at U4 u W N ⊢
 refine λd J=>?_
 have F:=rr J (.dK (wK []))
 have n4:d≠s0:=Ne.symm (rF u J)
 have ad:H d=none:=by
  cases e:H d with
  | none=>rfl
  | some o=>rw[U4 d o n4 e]at J;cases J
 refine⟨_,rfl,s0,cB,g,_,rfl,F _ _ u,M.cl,M.na_wishes_told,by show 2<1000;decide,?_⟩
 refine q rp rt el d _ ((U4.trans (SameBut1.of F)).trans SameBut1.upd) ad ⟨g,c,j,n,p,rC,?_,ab,?_,ac,?_⟩
 ·rw[rH X];exact F _ _ W
 ·rw[rH n2];exact F _ _ N
 ·rw[rH n4,rC]
theorem EG:Eb ["self","person"] ["self","person"] (D8 (Hi 50 1)):=⟨rfl,rfl,rfl,by decide +kernel,rfl,by decide +kernel,by decide +kernel⟩
theorem Fz(M:Md K mg x cB):Mn P w K mg base (FD P w) 1 cB "check_person" ["self","person"] (HH cB x):=by
 have y:=(EG).nd;refine M.m_check_person.okE EG (λvs H Q E h=>?_) (λ_ _ _ _ _ _ j k=>match j,k with|[_,_],_=>rfl) (λf o A g s H vs Q E v h=>?_)
 ·obtain⟨s0,d,a,l,R,p,rfl,b,e,q⟩:=h;rfl
 obtain⟨s0,d,a,l,R,p,rfl,b,e,q⟩:=h;refine⟨_,(rD (sv (rR tZ (pv 1) (uo (pv 0) rfl) (by with_unfolding_all rfl)) (rD (tR M.x_NoPerson rfl (mM sD rq))) rV)),?_⟩
 try dsimp -proj only[nox_K,hold_K,cxOf_K]
 obtain⟨n,m,r,t,u,h1,h2,h3,h4,h5,h6⟩:=b.ex;refine⟨_,rfl,_,rfl,s0,cB,n,_,_,rfl,h1,M.cl,M.na_people,rfl,m,_,rfl,.inr (SqT.frz h2),rfl,zV _,_,rfl,?_⟩;show if(!Jv (.str p) (a.map V.str))=true then _ else _
 rw[A4];by_cases c:p∈a
 ·rw[decide_eq_true c];exact Er (q c)
 ·rw[decide_eq_false c];exact EN ⟨by show 1<=sizeLine;decide,e c⟩
theorem FT:Eb ["self","person","text","words"] ["self","person","text"] (D8 (Hi 50 2)):=⟨rfl,rfl,rfl,by decide +kernel,rfl,by decide +kernel,by decide +kernel⟩
theorem HR(M:Md K mg x cB)
  (GBook_check_person:Mn P w K mg base (FD P w) 1 cB "check_person" ["self","person"] (HH cB x)):Mn P w K mg base (FD P w) 2 cB "wish" ["self","person","text"] (IN K cB x):=by
 have nd:=(FT).nd
 refine M.m_wish.okE FT (λvs H Q E h=>?_) (λ_ _ _ _ _ _ e hl=>match e,hl with|[_,_,_],_=>rfl) (λf aq A ap s H vs Q E o h=>?_)
 ·obtain⟨s0,d,ps,j,R,p,t,rfl,hb,an,ab,ae,B,C,hR,qP,qW,q⟩:=h
  rfl
 obtain⟨s0,d,ps,j,R,p,t,rfl,hb,an,ab,ae,B,C,hR,qP,qW,q⟩:=h
 refine⟨_,(rn (sR (vi (pl:=_) (pv 0) M.cl GBook_check_person o (by decide) (Iw (λ_ _ _ z=>z)) (mM (pv 1) rq)))
   (rn (rG (i:=3) nd rfl (Or.inl rfl) (uI gF PySem.F.slot_str_split PySem.F.type_str_split BJ (pv 2) (mM sD rq)))
   (rn (sv (rR (xj o) (rJ (uT) rfl M.b_sorted Boot.«sorted» (mM (pv 3) rq)) (rJ (uT) rfl M.b_sorted Boot.«sorted» (mM (uo (pv 0) rfl) rq)) (Ef _)) (rD (tR M.x_NoWishes rfl (mM sD rq))) rV)
   (rD (wj (sd sG rfl M.b_tuple Boot.«tuple» (mM (su rfl (N:=["word","self"]) (caps:=[none,some 0]) (CompOk.of (by kernel_rfl)) (rW rfl) (sS (pv 3)) (λ_ _ _ _=>(rK (i:=0) (show(["word","self"]:List Str).Nodup by decide +kernel) rfl (Or.inl rfl) (Or.inr rfl))) (λ_ _ _ _=>sj) (λ_ _ _ _=>(AZ (K:=K) rfl (vD (K:=K) rfl (pv 1) rfl) (pv 0)))) rq)) (vY (uo (pv 0) rfl) (pv 1) DX)))))),?_⟩
 try dsimp -proj only[nox_K,hold_K,cxOf_K]
 obtain⟨J,pp,pt,op,ot,h1,h2,h3,h4,h5,h6⟩:=hb.ex
 have ah:∀w∈L2.wordsOf t,GS w:=Bl B
 refine⟨_,rfl,s0,J,_,rfl,h1,rfl,_,rfl,s0,d,ps,j,R,p,rfl,hb,(λc=>qP c H (Same.refl _)),λhp=>?_⟩
 refine⟨_,rfl,rfl,t," ",rfl,rfl,by decide,dB (D9 (by omega)),λm al=>?_⟩
 have S1:Same H (upd H m (.lst ((L2.wordsOf t).map V.str))):=rr al _
 have l:upd H m (.lst ((L2.wordsOf t).map V.str)) m=some (.lst ((L2.wordsOf t).map V.str)):=rC
 change LR _ _ _ _ (upd H m (.lst ((L2.wordsOf t).map V.str)))
 generalize upd H m (.lst ((L2.wordsOf t).map V.str))=H1 at S1 l ⊢
 refine⟨_,rfl,m,L2.wordsOf t,rfl,.inl (SqL.of l),C,λl1 n ak u ag=>?_⟩
 have S2:Same H1 (upd H1 l1 (.lst (n.map V.str))):=rr ak _
 have T:upd H1 l1 (.lst (n.map V.str)) l1=some (.lst (n.map V.str)):=rC
 generalize upd H1 l1 (.lst (n.map V.str))=Z at S2 T ⊢
 have O:=S1.trans S2
 refine⟨_,rfl,s0,cB,J,_,_,rfl,O _ _ h1,M.cl,M.na_things,rfl,pt,j,rfl,.inr (SqT.frz (O _ _ h4)),by omega,λY e af y aj=>?_⟩
 have U:Same Z (upd Z Y (.lst (e.map V.str))):=rr af _
 have I:upd Z Y (.lst (e.map V.str)) Y=some (.lst (e.map V.str)):=rC
 generalize upd Z Y (.lst (e.map V.str))=H3 at U I ⊢
 have a:=O.trans U
 refine⟨.list (n.map gM),.list (e.map gM),.lst (SqL.of (U _ _ T)) (Reps.strs n) (by rw[cx,u.length_eq];omega),.lst (SqL.of I) (Reps.strs e) (by rw[cx,y.length_eq];omega),vE (yW λw g=>ah w (u.mem_iff.mp g)) (by decide),vE (yW λw g=>ab w (y.mem_iff.mp g)) (by decide),_,rfl,?_⟩
 rw[Bx]
 by_cases k:(L2.wordsOf t).Perm j
 rotate_left
 ·rw[decide_eq_false (λ(z:n=e)=>k (u.symm.trans (by rw[z];exact y)))]
  exact EN ⟨by show 1<=sizeLine;decide,qW hp k H3 a⟩
 rw[decide_eq_true (xF ag aj (u.trans (k.trans y.symm)))]
 refine Er ?_
 have S:=(S2.trans U) _ _ l
 have ao:=a _ _ h1
 have aa:=a _ _ h4
 refine⟨_,rfl,m,rfl,⟨_,SqL.of S⟩,?_⟩
 refine sP (xs:=(L2.wordsOf t).map V.str) (λi W X=>X=H3/\W=(Gj j ((L2.wordsOf t).take i)).map V.int) ⟨rfl,rfl⟩ (λi W X _ L=>by rw[L.1];exact SqL.of S) (λi v W X G L=>?_) (λW X L D hD=>?_)
 ·obtain⟨rfl,rfl⟩:=L
  rw[cH]at G
  cases g:(L2.wordsOf t)[i]? with
  | none=>rw[g]at G;cases G
  | some w=>
   rw[g]at G
   have ac:V.str w=v:=Option.some.inj G
   subst ac
   have hi:i<(L2.wordsOf t).length:=(cL.mp g).1
   have hm:w∈j:=k.mem_iff.mp (da g)
   refine⟨_,rfl,s0,cB,J,_,_,rfl,ao,M.cl,M.na_things,rfl,pt,ot,_,rfl,aa,h5,_,rfl,j,w,rfl,SqT.frz aa,hm,D9 (by unfold Gj;rw[cx,cx,cV];omega),rfl,?_⟩
   unfold Gj
   rw[cY,g,cS,cS]
   rfl
 obtain⟨rfl,rfl⟩:=L
 rw[cx,dj]
 have S4:=rr hD (.lst ((Gj j (L2.wordsOf t)).map V.int))
 refine⟨D,_,rfl,.inl ⟨SqL.of rC,λr o=>?_⟩⟩
 have S5:=rr o (.tup ((Gj j (L2.wordsOf t)).map V.int))
 have b:=a.trans (S4.trans S5)
 have ai:=b _ _ h6
 have am:r≠d:=λz=>by rw[z,(a.trans S4) _ _ h6]at o;cases o
 have ad:H r=none:=(a.trans S4).free o
 refine⟨_,rfl,s0,cB,J,_,_,rfl,b _ _ h1,M.cl,M.na_wishes_told,rfl,_,rfl,d,R,p,rfl,rfl,ai,hR,?_⟩
 refine q hp k r _ ((SameBut1.of b).trans SameBut1.upd) ad (by rw[rH am,rC]) ⟨J,pp,pt,op,ot,?_,?_,h3,?_,h5,rC⟩
 ·rw[rH (sI h1 h6 (λz=>nomatch z))];exact b _ _ h1
 ·rw[rH (sI h2 h6 (λz=>nomatch z))];exact b _ _ h2
 ·rw[rH (sI h4 h6 (λz=>nomatch z))];exact b _ _ h4
theorem Fg:Eb ["self"] ["self"] (D8 (Hi 50 3)):=⟨rfl,rfl,rfl,by decide +kernel,rfl,by decide +kernel,by decide +kernel⟩
theorem GN(M:Md K mg x cB):Mn P w K mg base Ei 1 cB "lacking" ["self"] (Hb cB):=by
 have S:=(Fg).nd;refine M.m_lacking.ok Fg (λvs H Q E h=>?_) (λ_ _ _ _ _ _ B j=>match B,j with|[_],_=>rfl) (λf F A z s H vs Q E O h=>?_)
 ·obtain⟨s0,d,b,C,R,rfl,o,y,q⟩:=h;rfl
 obtain⟨s0,d,b,C,R,rfl,o,y,q⟩:=h;refine⟨_,(rD (rM (su rfl (N:=["person","self"]) (caps:=[none,some 0]) (CompOk.of (by kernel_rfl)) (rW rfl) (uG (uo (pv 0) rfl)) (λ_ _ _ _=>(rK (i:=0) (show(["person","self"]:List Str).Nodup by decide +kernel) rfl (Or.inl rfl) (Or.inr rfl))) (λ_ _ _ _=>(tX (rR Ag (pv 0) (vD (K:=K) rfl (pv 1) rfl) (by with_unfolding_all rfl)))) (λ_ _ _ _=>(pv 0))))),?_⟩
 try dsimp -proj only[nox_K,hold_K,cxOf_K]
 obtain⟨u,D,G,I,J,h1,h2,h3,h4,h5,h6⟩:=o.ex;have t:=SqT.frz (K:=K) h2;refine⟨_,rfl,s0,cB,u,_,_,rfl,h1,M.cl,M.na_people,rfl,D,rfl,⟨_,t⟩,?_⟩;refine uf (xs:=b.map V.str) (λi k m=>m=H/\k=((b.take i).filter λp=>!(El R p).isSome).map V.str) ⟨rfl,rfl⟩ (λi k m _ a=>by rw[a.1];exact t) (λi v k m e a=>?_) (λk m a l j=>?_)
 ·obtain⟨rfl,rfl⟩:=a;rw[cH]at e
  cases g:b[i]? with
  | none=>rw[g]at e;cases e
  | some w=>
   rw[g]at e;have r:V.str w=v:=Option.some.inj e;subst r;have L:i<b.length:=(cL.mp g).1;have n:(((b.take i).filter λp=>!(El R p).isSome).map V.str).length<sizeLine:=by
    rw[cx];have h1:=d6 (λp=>!(El R p).isSome) (b.take i);rw[cV]at h1;exact D9 (by omega)
   refine⟨_,rfl,_,rfl,s0,cB,u,_,_,rfl,h1,M.cl,M.na_wishes_told,rfl,d,R,w,rfl,rfl,h6,_,rfl,?_⟩;rw[cY,g,gm,cS]
   cases c:(!(El R w).isSome)with
   | true=>
    refine EN ⟨_,rfl,n,rfl,?_⟩;show _=_++List.map V.str ([w].filter _);rw[List.filter_cons_of_pos (p:=λp=>!(El R p).isSome) c];rfl
   | false=>
    refine Er ⟨rfl,?_⟩;show _=_++List.map V.str ([w].filter _);rw[List.filter_cons_of_neg (p:=λp=>!(El R p).isSome) (by rw[c];exact de)];exact(fV _).symm
 ·obtain⟨rfl,rfl⟩:=a;rw[cx,dj];exact q l _ (rr j _) j rC
theorem E9:Eb ["self","way","wishes"] ["self","way"] (D8 (Hi 50 4)):=⟨rfl,rfl,rfl,by decide +kernel,rfl,by decide +kernel,by decide +kernel⟩
theorem Gv(M:Md K mg x cB)
  (GBook_lacking:Mn P w K mg base Ei 1 cB "lacking" ["self"] (Hb cB))
  (Geaten:Dn P w K mg base Ei 7 "eaten" ["wishes"] (HK K))
  (Gby_turns:Dn P w K mg base Ei 4 "by_turns" ["wishes"] (Ga K)):Mn P w K mg base (FD P w) 8 cB "table_by" ["self","way"] (Gb K cB x):=by
 have nd:=(E9).nd
 refine M.m_table_by.okE E9 (λvs H Q E h=>?_) (λ_ _ _ _ _ _ t hl=>match t,hl with|[_,_],_=>rfl) (λf al A ak s H vs Q E hr h=>?_)
 ·obtain⟨s0,d,a,ts,R,r,rfl,X,J,qU,q⟩:=h
  rfl
 obtain⟨s0,d,a,ts,R,r,rfl,X,J,qU,q⟩:=h
 refine⟨_,(rn (sv (BC (Dl (pl:=_) (pv 0) M.cl GBook_lacking hr (by decide) Ed) (λ_=>rfl)) (rD (tR M.x_Unready rfl (mM sD rq))) rV)
   (rn (sB (i:=2) nd rfl rfl rfl rfl (N:=["person","self"]) (caps:=[none,some 0]) (CompOk.of (by kernel_rfl)) (rW rfl) (uG (uo (pv 0) rfl)) (λ_ _ _ _=>(rK (i:=0) (show(["person","self"]:List Str).Nodup by decide +kernel) rfl (Or.inl rfl) (Or.inr rfl))) (λ_ _ _ _=>sj) (λ_ _ _ _=>(rN D7 (vD (K:=K) rfl (pv 1) rfl) (pv 0) (λ_ _=>rfl))))
   (rn (sv (rR tO (pv 1) sD (Ef _)) (rD (rM (rS Geaten hr (by decide) rfl Ed (mM (pv 2) rq)))) rV)
   (rn (sv (rR tO (pv 1) sD (Ef _)) (rD (rM (rS Gby_turns hr (by decide) rfl Ed (mM (pv 2) rq)))) rV)
   (rD (tR M.x_NoWay rfl (mM sD rq))))))),?_⟩
 try dsimp -proj only[nox_K,hold_K,cxOf_K]
 obtain⟨U,pp,pt,op,ot,h1,h2,h3,h4,h5,h6⟩:=X.ex
 refine⟨_,rfl,s0,U,_,rfl,h1,rfl,s0,d,a,ts,R,rfl,X,J,λl H1 n an hl=>?_⟩
 refine⟨_,.inl ⟨_,SqL.of hl,rfl⟩,?_⟩
 by_cases hall:∀p∈a,El R p≠none
 rotate_left
 ·have ai:∃p∈a,El R p=none:=dM λz=>hall λp hp e=>z ⟨p,hp,e⟩
  have ag:¬(a.filter λp=>!(El R p).isSome)=[]:=λz=>hall (yH.mp z)
  have e:(!(((a.filter λp=>!(El R p).isSome).map V.str).isEmpty))=true:=by simpa using ag
  rw[e]
  exact EN ⟨by show 1<=sizeLine;decide,qU ai H1 n⟩
 have e:(!(((a.filter λp=>!(El R p).isSome).map V.str).isEmpty))=false:=by rw[yH.mpr hall];rfl
 rw[e]
 refine Er ?_
 obtain⟨W,hT,y,qN,q⟩:=q hall
 have ah:=Paired.len hT
 have L:=n _ _ h1
 have hP:=SqT.frz (K:=K) (n _ _ h2)
 have af:=n _ _ h6
 refine⟨_,rfl,s0,cB,U,_,_,rfl,L,M.cl,M.na_people,rfl,pp,rfl,⟨_,hP⟩,?_⟩
 refine vJ (xs:=a.map V.str) (λi b g=>g=H1/\dr (IsR K H1) b (W.take i)) ⟨rfl,by rw[eP];exact .nil⟩ (λi b g _ m=>by rw[m.1];exact hP) (λi v b g B m=>?_) (λb g m o ae=>?_)
 ·obtain⟨rfl,k⟩:=m
  rw[cH]at B
  cases Y:a[i]? with
  | none=>rw[Y]at B;cases B
  | some w=>
   rw[Y]at B
   have ab:V.str w=v:=Option.some.inj B
   subst ab
   obtain⟨am,aa,u,ad,ac⟩:=Paired.get' hT Y
   have aj:=Paired.len k
   rw[cV]at aj
   refine⟨_,rfl,s0,cB,U,_,_,rfl,L,M.cl,M.na_wishes_told,rfl,_,rfl,d,R,w,u,rfl,rfl,af,ad,D9 (by omega),rfl,?_⟩
   rw[cY,aa]
   exact Paired.app k (.cons (ac.mono n) .nil)
 obtain⟨rfl,k⟩:=m
 rw[cx,ah,dj]at k
 have O:Same g (upd g o (.lst b)):=rr ae _
 have D:upd g o (.lst b) o=some (.lst b):=rC
 generalize upd g o (.lst b)=H3 at O D ⊢
 have G:=Paired.mapP k λ_ _ (h:IsR K g _ _)=>h.mono O
 have j:=n.trans O
 refine⟨_,rfl,rfl,_,rfl,?_⟩
 refine Ey (λc=>?_) (λc=>?_)
 ·have ew:r="eaten":=by injection c
  refine⟨_,rfl,o,b,W,a.length,rfl,SqL.of D,G,⟨y.lo,y.hi,y.len,y.pm⟩,λZ t N S T F C hN I=>?_⟩
  exact q _ _ Z t S (.inl ⟨ew,N,hN,rfl,rfl⟩) (j.trans T) (j.free F) C I
 refine⟨_,rfl,rfl,_,rfl,?_⟩
 refine Ey (λc2=>?_) (λc2=>?_)
 ·have ew:r="turns":=by injection c2
  refine⟨_,rfl,o,b,W,a.length,rfl,SqL.of D,G,y,λZ t S T F C I=>?_⟩
  rw[Ba]at I
  exact q _ _ Z t S (.inr ⟨ew,rfl,rfl⟩) (j.trans T) (j.free F) C (tP I)
 ·exact⟨by show 1<=sizeLine;decide,qN (λz=>c (by rw[z])) (λz=>c2 (by rw[z])) H3 j⟩
theorem Fq:Eb ["self","person","way","table","row"] ["self","person","way"] (D8 (Hi 50 5)):=⟨rfl,rfl,rfl,by decide +kernel,rfl,by decide +kernel,by decide +kernel⟩
theorem G7(M:Md K mg x cB)
  (GBook_check_person:Mn P w K mg base (FD P w) 1 cB "check_person" ["self","person"] (HH cB x))
  (GBook_table_by:Mn P w K mg base (FD P w) 8 cB "table_by" ["self","way"] (Gb K cB x)):Mn P w K mg base (FD P w) 9 cB "shares" ["self","person","way"] (GE K cB x):=by
 have nd:=(Fq).nd
 refine M.m_shares.okE Fq (λvs H Q E h=>?_) (λ_ _ _ _ _ _ us hl=>match us,hl with|[_,_,_],_=>rfl) (λf aB A az s H vs Q E hr h=>?_)
 ·obtain⟨s0,d,a,e,R,p,aa,rfl,hb,ae,am,qP,qU,q⟩:=h
  rfl
 obtain⟨s0,d,a,e,R,p,aa,rfl,hb,ae,am,qP,qU,q⟩:=h
 refine⟨_,(rn (sR (vi (pl:=_) (pv 0) M.cl GBook_check_person hr (by decide) (Iw (λ_ _ _ z=>z)) (mM (pv 1) rq)))
   (rn (rG (i:=3) nd rfl (Or.inl rfl) (vi (pl:=_) (pv 0) M.cl GBook_table_by hr (by decide) (Iw (λ_ _ _ z=>z)) (mM (pv 2) rq)))
   (rn (rG (i:=4) nd rfl (Or.inr rfl) (rN rL (pv 3) (AZ (K:=K) rfl (uo (pv 0) rfl) (pv 1)) (λ_ _=>rfl)))
   (rD (rM (su rfl (N:=["thing","self","row"]) (caps:=[none,some 0,some 4]) (CompOk.of (by kernel_rfl)) (rW rfl) (uG (rN D7 (uo (pv 0) rfl) (pv 1) (λ_ _=>rfl))) (λ_ _ _ _=>(rK (i:=0) (show(["thing","self","row"]:List Str).Nodup by decide +kernel) rfl (Or.inl rfl) (Or.inr rfl))) (λ_ _ _ _=>(tX (rR (As (K:=K) rfl hr) (rN (tY (K:=K) rfl) (pv 2) (pv 0) (λ_ _=>rfl)) (uY (K:=K) rfl M.c_NOTHING) (Ef _)))) (λ_ _ _ _=>(sF (mM (rN (tY (K:=K) rfl) (vD (K:=K) rfl (pv 1) rfl) (pv 0) (λ_ _=>rfl)) (mM (rN (tY (K:=K) rfl) (pv 2) (pv 0) (λ_ _=>rfl)) rq)))))))))),?_⟩
 try dsimp -proj only[nox_K,hold_K,cxOf_K]
 obtain⟨J,pp,pt,op,ot,h1,h2,h3,h4,h5,h6⟩:=hb.ex
 have O:(2:Nat)<=sizeLine:=by decide
 refine⟨_,rfl,s0,J,_,rfl,h1,rfl,_,rfl,s0,d,a,e,R,p,rfl,hb,(λc=>qP c H (Same.refl _)),λhp=>?_⟩
 refine⟨_,rfl,s0,J,_,rfl,h1,rfl,_,rfl,s0,d,a,e,R,aa,rfl,hb,ae,qU hp,λhall=>?_⟩
 obtain⟨W,hT,Y,qN,q⟩:=q hp hall
 refine⟨W,hT,Y,qN,λZ T tb us H1 ac n aA o hZ=>?_⟩
 have L:=ac.tb Y
 have hi:a.idxOf p<a.length:=g8.mpr hp
 have aD:=L.reg.len
 have aE:=Y.len
 have aF:=L.t0
 obtain⟨uv,au,ra,gs,rfl,aw,G⟩:=Paired.get hZ (cz (show a.idxOf p<Z.length by omega))
 obtain⟨b,af,v,al,I⟩:=Paired.get hT (cz (show a.idxOf p<W.length by omega))
 have ep:b=p:=by
  have:=jh hi
  rw[cz hi]at af
  rw[<-Option.some.inj af]
  exact this
 subst ep
 have m:=Y.pm _ (cW (show a.idxOf b<W.length by omega))
 have ab:=L.reg.cols _ (cW (show a.idxOf b<Z.length by omega))
 have q2:=λl xs H'=>q Z T l xs H' ac
 rw[show W[a.idxOf b]=W.getD (a.idxOf b) []from(HM.getD_lt (show a.idxOf b<W.length by omega)).symm]at I m
 rw[show Z[a.idxOf b]=Z.getD (a.idxOf b) []from(HM.getD_lt (show a.idxOf b<Z.length by omega)).symm]at G ab
 generalize W.getD (a.idxOf b) []=j at I m q2
 generalize Z.getD (a.idxOf b) []=z at G ab q2
 have X:=n _ _ h1
 refine⟨_,rfl,_,rfl,s0,cB,J,_,_,rfl,X,M.cl,M.na_people,rfl,pp,op,_,rfl,n _ _ h2,h3,_,rfl,a,b,rfl,SqT.frz (n _ _ h2),hp,tb,_,_,_,rfl,rfl,SqL.of o,si au,?_⟩
 obtain⟨wa,rfl,an⟩:=I
 have F:=n.tup an
 have ay:=n _ _ h6
 have aj:=n _ _ h4
 have aG:=m.len
 refine⟨_,rfl,s0,cB,J,_,_,rfl,X,M.cl,M.na_wishes_told,rfl,_,rfl,d,R,b,_,rfl,rfl,ay,al,wa,rfl,⟨_,F⟩,?_⟩
 refine uf (xs:=j.map V.int) (λi u S=>Same H1 S/\dr (IsShr K S T) u (Ex e (j.take i) z)) ⟨Same.refl _,.nil⟩ (λi u S _ r=>r.1.tup F) (λi y u S D r=>?_) (λu S r l hl=>?_)
 ·obtain⟨g,k⟩:=r
  rw[cH]at D
  cases B:j[i]? with
  | none=>rw[B]at D;cases D
  | some t=>
   rw[B]at D
   have aq:V.int t=y:=Option.some.inj D
   subst aq
   have o:=m.mem.mp (da B)
   have ar:t.toNat<z.length:=by omega
   have ap:(fr T z)[t.toNat]?=some (FQ.red (EM.at0 z t) T):=by
    unfold fr EM.at0
    rw[cH,cC,cz ar]
    rfl
   obtain⟨fv,ad,hF⟩:=Paired.get G ap
   have av:=Paired.len k
   have ag:u.length<sizeLine:=by
    rw[av]
    unfold Ex
    rw[cx]
    have h1:=d6 (λt=>decide (EM.at0 z t≠0)) (j.take i)
    rw[cV]at h1
    exact D9 (by omega)
   have ao:Ex e (j.take (i+1)) z=Ex e (j.take i) z++if EM.at0 z t≠0 then[(e.getD t.toNat ea,EM.at0 z t)]else[]:=by
    unfold Ex
    rw[cY,B,gm,cS]
    by_cases c:EM.at0 z t=0
    ·simp[c]
    ·simp[c]
   have U:=g.tup aw
   refine⟨_,rfl,_,rfl,ra,gs,t,fv,rfl,rfl,U,sE o.1 ad,λc0 ah=>?_⟩
   refine⟨dF (FQ.red (EM.at0 z t) T),dF (0,1),(hF.mono g).rep,IsF.rep ⟨c0,rfl,ah _⟩,sA _,sA _,_,rfl,?_⟩
   rw[uM,ao]
   refine GP (λc=>?_) (λc=>?_)
   ·have hn:EM.at0 z t≠0:=λe0=>c ((sq (by omega)).mpr e0)
    have ax:t.toNat<e.length:=by omega
    have ak:(e.map V.str)[t.toNat]?=some (.str (e.getD t.toNat ea)):=by rw[cH,cC,cz ax];rfl
    obtain⟨fg,rfl,aC⟩:=id hF
    refine⟨_,rfl,s0,cB,J,_,_,rfl,g _ _ X,M.cl,M.na_things,rfl,_,rfl,pt,_,t,_,rfl,rfl,SqT.frz (g _ _ aj),sE o.1 ak,_,rfl,_,rfl,ra,gs,t,_,rfl,rfl,U,sE o.1 ad,O,λtp ai=>?_⟩
    have C:=rr ai (.tup [.str (e.getD t.toNat ea),.ref fg])
    refine⟨ag,g.trans C,?_⟩
    rw[if_pos hn]
    exact Paired.app (Paired.mapP k λ_ _ h=>h.mono C) (.cons ⟨tp,fg,rfl,SqT.of rC,hF.mono (g.trans C)⟩ .nil)
   ·have hn:EM.at0 z t=0:=(sq (by omega)).mp c
    refine⟨g,?_⟩
    rw[if_neg (λe0=>e0 hn),fV]
    exact k
 ·obtain⟨g,k⟩:=r
  rw[cx,dj]at k
  have C:=rr hl (.lst u)
  exact q2 l u _ (n.trans (g.trans C)) ((n.trans g).free hl) rC (Paired.mapP k λ_ _ h=>h.mono C)
theorem F0:Eb ["self","way","number","lots","words"] ["self","way","number"] (D8 (Hi 50 6)):=⟨rfl,rfl,rfl,by decide +kernel,rfl,by decide +kernel,by decide +kernel⟩
theorem Ic(M:Md K mg x cB)
  (Glots_of:Dn P w K mg base Ei 8 "lots_of" ["table"] (GH K))
  (GBook_table_by:Mn P w K mg base (FD P w) 8 cB "table_by" ["self","way"] (Gb K cB x))
  (Gpicked:Dn P w K mg base (FD P w) 4 "picked" ["lots","number"] (GB K x)):Mn P w K mg base (FD P w) 9 cB "deal" ["self","way","number"] (Ia K cB x):=by
 have nd:=(F0).nd
 refine M.m_deal.okE F0 (λvs H Q E h=>?_) (λ_ _ _ _ _ _ us hl=>match us,hl with|[_,_,_],_=>rfl) (λf ax A av s H vs Q E L h=>?_)
 ·obtain⟨s0,d,m,r,a,R,U,X,rfl,hb,ac,ak,hm,ad,aa,qU,q⟩:=h
  rfl
 obtain⟨s0,d,m,r,a,R,U,X,rfl,hb,ac,ak,hm,ad,aa,qU,q⟩:=h
 refine⟨_,(rn (rG (i:=3) nd rfl (Or.inl rfl) (rS Glots_of L (by decide) rfl Ed (mM (vi (pl:=_) (pv 0) M.cl GBook_table_by L (by decide) (Iw (λ_ _ _ z=>z)) (mM (pv 1) rq)) rq)))
   (rn (sB (i:=4) nd rfl rfl rfl rfl (N:=["thing","self"]) (caps:=[none,some 0]) (CompOk.of (by kernel_rfl)) (rW rfl) (uG (rS Gpicked L (by decide) rfl (Iw (λ_ _ _ z=>z)) (mM (pv 3) (mM (pv 2) rq)))) (λ_ _ _ _=>(rK (i:=0) (show(["thing","self"]:List Str).Nodup by decide +kernel) rfl (Or.inl rfl) (Or.inr rfl))) (λ_ _ _ _=>sj) (λ_ _ _ _=>(rN (tY (K:=K) rfl) (vD (K:=K) rfl (pv 1) rfl) (pv 0) (λ_ _=>rfl))))
   (rD (rM (zt rfl rfl M.b_list rfl M.b_zip (mM (uo (pv 0) rfl) (mM (pv 4) rq))))))),?_⟩
 try dsimp -proj only[nox_K,hold_K,cxOf_K]
 obtain⟨dx,pp,pt,op,ot,h1,h2,h3,h4,h5,h6⟩:=hb.ex
 refine⟨_,rfl,s0,dx,_,rfl,h1,rfl,_,rfl,s0,d,r,a,R,U,rfl,hb,ac,qU,λhall=>?_⟩
 obtain⟨W,hT,hW,qN,qR,q⟩:=q hall
 refine⟨W,hT,hW,qN,λZ T tb us H1 g S1 aw D hZ=>?_⟩
 have G:=g.tb hW
 refine⟨tb,us,Z,T,r.length,rfl,SqL.of D,hZ,G,λk pL ls H2 c S2 ay hL aj=>?_⟩
 have J:=S1.trans S2
 have aq:=A0 G (g.le hW) c
 refine⟨_,rfl,_,rfl,pL,m,ls,_,T,r.length,X,rfl,SqL.of hL,aj,aq,hm.mono J,ad,aa,(λL=>qR g.way L H2 J),λap i v H3 b S3 ai=>?_⟩
 obtain⟨va,rfl,o⟩:=ai
 have q2:=λl xs H'=>q ap Z T k i l xs H' g c b
 have ae:i<k:=by
  have:=b.lt
  unfold HM.lotsL at this
  rwa[cx,fb]at this
 have ed:(HM.lotsL Z T k).getD i (0,[])=HM.lotAt Z T i:=by
  unfold HM.lotsL
  rw[cC,cH,d9 ae]
  rfl
 have B:=(Br G c ae).1
 rw[ed]at q2 o
 generalize(HM.lotAt Z T i).2=p at o B q2
 have am:=B.len
 have C:=J.trans S3
 refine⟨va,rfl,⟨_,o⟩,?_⟩
 refine vJ (xs:=p.map V.int) (λj O S=>S=H3/\O=(Ee a (p.take j)).map V.str) ⟨rfl,rfl⟩ (λj O S _ I=>by rw[I.1];exact o) (λj y O S u I=>?_) (λO S I pw an=>?_)
 ·obtain⟨rfl,rfl⟩:=I
  rw[cH]at u
  cases e:p[j]? with
  | none=>rw[e]at u;cases u
  | some t=>
   rw[e]at u
   have al:V.int t=y:=Option.some.inj u
   subst al
   have D:=B.mem.mp (da e)
   have ar:t.toNat<a.length:=by omega
   have ah:(a.map V.str)[t.toNat]?=some (.str (a.getD t.toNat ea)):=by rw[cH,cC,cz ar];rfl
   refine⟨_,rfl,s0,cB,dx,_,_,rfl,C _ _ h1,M.cl,M.na_things,rfl,_,rfl,pt,_,t,_,rfl,rfl,SqT.frz (C _ _ h4),sE D.1 ah,D9 (by unfold Ee;rw[cx,cx,cV];omega),rfl,?_⟩
   unfold Ee
   rw[cY,e,cS,cS]
   rfl
 obtain⟨rfl,rfl⟩:=I
 rw[cx,dj]
 have ab:(Ee a p).length=r.length:=by unfold Ee;rw[cx,am]
 have S4:=rr an (.lst ((Ee a p).map V.str))
 have n:=C.trans S4
 refine⟨_,rfl,s0,cB,dx,_,_,rfl,n _ _ h1,M.cl,M.na_people,rfl,_,rfl,true,false,pp,pw,r.map V.str,(Ee a p).map V.str,rfl,SqT.frz (n _ _ h2),SqL.of rC,by rw[cx,cx,ab],by rw[cx];omega,λl ao H5 S5 au hl Y af=>?_⟩
 refine q2 l _ H5 (n.trans S5) (n.free au) hl ?_
 rw[cx]at Y
 refine s9 (by rw[cx,oG,ab,Y];simp) λj v x F hx=>?_
 rw[cH]at F
 cases ht:ao[j]? with
 | none=>rw[ht]at F;cases F
 | some t=>
  rw[ht]at F
  have ag:V.ref t=v:=Option.some.inj F
  subst ag
  obtain⟨x1,x2⟩:=x
  obtain⟨e1,e2⟩:=i4.mp hx
  exact⟨t,rfl,SqT.of (af j t (.str x1) (.str x2) ht (by rw[cH,e1];rfl) (by rw[cH,e2];rfl))⟩
theorem Fe:Eb ["_law_script","_law_k"] ["_law_script","_law_k"] (D8 (Ec 52)):=⟨rfl,rfl,rfl,by decide +kernel,rfl,by decide +kernel,by decide +kernel⟩
theorem GF(M:Md K mg x cB):Dn P w K mg base Ei 1 "_law_cell_at" ["_law_script","_law_k"] (IS K):=by
 have o:=(Fe).nd;refine M.f__law_cell_at.ok Fe (λvs H Q E h=>?_) (λ_ _ _ _ _ _ l d=>match l,d with|[_,_],_=>rfl) (λf m A j s H vs Q E n h=>?_)
 ·obtain⟨a,b,k,rfl,g,h0,q⟩:=h;rfl
 obtain⟨a,b,k,rfl,g,h0,q⟩:=h;refine⟨_,(rn (sv (rR Az (pv 1) (rJ rP rfl M.b_len dD (mM (pv 0) rq)) (Ef _)) (rD (rM (rN rL (pv 0) (pv 1) (λ_ _=>rfl)))) rV)
   (rD (rM rE))),?_⟩
 try dsimp -proj only[nox_K,hold_K,cxOf_K]
 have d:(b.map V.int).length=b.length:=cx _;refine⟨_,rfl,_,rfl,a,_,rfl,.inl g,_,_,rfl,rfl,_,rfl,?_⟩;refine Ey (λc=>?_) (λc=>?_)
 ·rw[d]at c;refine⟨_,rfl,_,rfl,a,_,k,_,rfl,rfl,g,sE h0 (tw (by omega)),?_⟩;have e:LM.cellAt b k=b.getD k.toNat 0:=by unfold LM.cellAt;rw[if_pos c]
  rw[<-e];exact q
 ·rw[d]at c;have e:LM.cellAt b k=0:=by unfold LM.cellAt;rw[if_neg c]
  rw[e]at q;exact q
theorem FF:Eb ["_law_cell","_law_many","_law_found","_law_number","_law_k"] ["_law_cell","_law_many"] (D8 (Ec 53)):=⟨rfl,rfl,rfl,by decide +kernel,rfl,by decide +kernel,by decide +kernel⟩
theorem HL(M:Md K mg x cB):Dn P w K mg base Ei 1 "_law_mixed" ["_law_cell","_law_many"] (Jh):=by
 have k:=(FF).nd;refine M.f__law_mixed.ok FF (λvs H Q E h=>?_) (λ_ _ _ _ _ _ y a=>match y,a with|[_,_],_=>rfl) (λf I A u s H vs Q E J h=>?_)
 ·obtain⟨c,m,rfl,G,q⟩:=h;rfl
 obtain⟨c,m,rfl,G,q⟩:=h;refine⟨_,(rn (rG (i:=2) k rfl (Or.inl rfl) (tU rq))
   (rn (rG (i:=3) k rfl (Or.inl rfl) (rO tF (pv 0) rE))
   (rn (sv (rR tO (rO rZ (pv 0) rE) rE (Ef _)) (rn (sN dA rfl (rX rfl M.b_range (mM (pv 1) rq)) (rK (i:=4) k rfl (Or.inl rfl)) (rn (sR (uI dI fT fU tJ (pv 2) (mM (rO rZ (pv 3) rE) rq)))
   (rD (rG (i:=3) k rfl (Or.inl rfl) (rO tF (pv 3) rE)))))
   (rD (rM (pv 2)))) rV)
   (rn (rG (i:=3) k rfl (Or.inl rfl) (rO rZ (rO sC (rO sw (rO rZ (pv 3) rE) rE) rE) rE))
   (rn (sN dA rfl (rX rfl M.b_range (mM (pv 1) rq)) (rK (i:=4) k rfl (Or.inl rfl)) (rn (rG (i:=3) k rfl (Or.inl rfl) (rO rZ (rO sC (rO sC (rO sC (rO sw (pv 3) (pv 3)) (rO sw rE (pv 3))) (pv 4)) rE) rE))
   (rD (sR (uI dI fT fU tJ (pv 2) (mM (pv 3) rq))))))
   (rD (rM (pv 2)))))))),?_⟩
 try dsimp -proj only[nox_K,hold_K,cxOf_K]
 have l:(0:Nat)<=sizeLine:=by decide
 refine⟨l,λp hp=>?_⟩;refine⟨_,rfl,c,2,rfl,rfl,c9 (by decide) (by decide),?_⟩;refine⟨_,rfl,c,2,rfl,rfl,by show(0:Int)<2;decide,rfl,_,rfl,?_⟩;refine Ey (λo=>?_) (λo=>?_)
 ·have t:c%2=1:=Ki o;refine⟨_,rfl,(m:Int),rfl,by omega,by omega,?_⟩;refine sf (n:=m) (λi d b=>Same H b/\b p=some (.lst ((LM.oddGo (c/2) i).1.map V.int))/\∃r,d=[some (.int c),some (.int m),some (.ref p),some (.int (LM.oddGo (c/2) i).2),r])
   ⟨rr hp _,rC,_,rfl⟩ (λi d b D g=>?_) (λd b g=>?_)
  ·obtain⟨j,a,r,rfl⟩:=g;have e:=LM.oddGo_len (c/2) i;refine⟨_,rfl,.inl ⟨rfl,_,SqL.of a⟩,_,rfl,_,5040,rfl,rfl,by show(0:Int)<5040;decide,p,_,_,rfl,rfl,a,D9 (by rw[cx,e];omega),?_⟩;refine⟨_,rfl,_,5040,rfl,rfl,c9 (by decide) (by decide),?_⟩;refine⟨j.over hp _,?_,_,rfl⟩;rw[rC,LM.oddGo,cS];rfl
  ·obtain⟨j,a,r,rfl⟩:=g;refine⟨_,rfl,q p b j hp ?_⟩;rw[a,LM.mixed,if_pos t]
 ·have t:¬c%2=1:=λz=>o (by show V.int (c%2)=V.int 1;rw[z])
  refine⟨_,rfl,_,_,rfl,rfl,by show(0:Int)<2147483647;decide,_,_,rfl,rfl,J8 (by decide),_,_,rfl,rfl,_,_,rfl,rfl,by show(0:Int)<2147483647;decide,?_⟩;refine⟨_,rfl,(m:Int),rfl,by omega,by omega,?_⟩;have B:=dO (c/2%2147483647*16807+11) (show(2147483647:Int)≠0 by decide);have v:=dC (c/2%2147483647*16807+11) (show(0:Int)<2147483647 by decide);refine sf (n:=m) (λi d b=>Same H b/\b p=some (.lst ((LM.evenGo ((c/2%2147483647*16807+11)%2147483647) i).1.map V.int))/\∃r,d=[some (.int c),some (.int m),some (.ref p),some (.int (LM.evenGo ((c/2%2147483647*16807+11)%2147483647) i).2),r])
   ⟨rr hp _,rC,_,rfl⟩ (λi d b D g=>?_) (λd b g=>?_)
  ·obtain⟨j,a,r,rfl⟩:=g;have e:=LM.evenGo_len ((c/2%2147483647*16807+11)%2147483647) i;have C:=LM.evenGo_num _ B v i;refine⟨_,rfl,_,rfl,_,_,rfl,rfl,JO (by omega),_,rfl,_,_,rfl,rfl,JO (by decide),_,_,rfl,rfl,_,rfl,_,_,rfl,rfl,_,_,rfl,rfl,_,_,rfl,rfl,by show(0:Int)<2147483647;decide,?_⟩;refine⟨_,rfl,.inl ⟨rfl,_,SqL.of a⟩,_,rfl,p,_,_,rfl,rfl,a,D9 (by rw[cx,e];omega),?_⟩;refine⟨j.over hp _,?_,some (.int (0+(i:Int))),?_⟩
   ·rw[rC,LM.evenGo,cS,LM.evenX,d3];rfl
   ·rw[LM.evenGo,LM.evenX,d3];rfl
  ·obtain⟨j,a,r,rfl⟩:=g;refine⟨_,rfl,q p b j hp ?_⟩;rw[a,LM.mixed,if_neg t]
theorem FS:Eb ["_law_number","_law_count","_law_found","_law_k"] ["_law_number","_law_count"] (D8 (Ec 54)):=⟨rfl,rfl,rfl,by decide +kernel,rfl,by decide +kernel,by decide +kernel⟩
theorem Iv(M:Md K mg x cB):Dn P w K mg base Ei 1 "_law_perm" ["_law_number","_law_count"] (IM):=by
 have l:=(FS).nd;refine M.f__law_perm.ok FS (λvs H Q E h=>?_) (λ_ _ _ _ _ _ o b=>match o,b with|[_,_],_=>rfl) (λf v A m s H vs Q E B h=>?_)
 ·obtain⟨a,n,rfl,u,q⟩:=h;rfl
 obtain⟨a,n,rfl,u,q⟩:=h;refine⟨_,(rn (rG (i:=2) l rfl (Or.inl rfl) (tU rq))
   (rn (sN dA rfl (rX rfl M.b_range (mM (pv 1) rq)) (rK (i:=3) l rfl (Or.inl rfl)) (rn (sR (uI dI PySem.F.slot_list_insert PySem.F.type_list_insert A6 (pv 2) (mM (rO rZ (pv 0) (rO sC (pv 3) rE)) (mM (pv 3) rq))))
   (rD (rG (i:=0) l rfl (Or.inl rfl) (rO tF (pv 0) (rO sC (pv 3) rE))))))
   (rD (rM (pv 2))))),?_⟩
 try dsimp -proj only[nox_K,hold_K,cxOf_K]
 have d:(0:Nat)<=sizeLine:=by decide
 refine⟨d,λp hp=>?_⟩;refine⟨_,rfl,(n:Int),rfl,by omega,by omega,?_⟩;refine sf (n:=n) (λi g e=>Same H e/\e p=some (.lst ((LM.permGo a i).1.map V.int))/\∃r,g=[some (.int (LM.permGo a i).2),some (.int n),some (.ref p),r])
  ⟨rr hp _,rC,_,rfl⟩ (λi g e z j=>?_) (λg e j=>?_)
 ·obtain⟨k,b,r,rfl⟩:=j;have c:(LM.permGo a i).1.length=i:=LM.perm_len a i;have t:=dO (LM.permGo a i).2 (show(0+(i:Int)+1)≠0 by omega);have y:=dC (LM.permGo a i).2 (show 0<(0+(i:Int)+1)by omega);refine⟨_,rfl,.inl ⟨rfl,_,SqL.of b⟩,_,rfl,_,rfl,_,_,rfl,rfl,_,_,rfl,rfl,by show 0<(0+(i:Int)+1);omega,_,rfl,p,_,_,_,rfl,rfl,b,t,by rw[cx,c];omega,D9 (by rw[cx,c];omega),?_⟩;refine⟨_,rfl,_,rfl,_,_,rfl,rfl,_,_,rfl,rfl,c9 (by omega) (by omega),?_⟩;refine⟨k.over hp _,?_,some (.int (0+(i:Int))),?_⟩
  ·rw[rC,LM.permGo,LM.ins,d3,cS,dN,pQ,pR]
  ·rw[LM.permGo,d3];rfl
 ·obtain⟨k,b,r,rfl⟩:=j;exact⟨_,rfl,q p e k hp b⟩
theorem FV:Eb ["_law_cell","_law_size","_law_found","_law_rest","_law_k"] ["_law_cell","_law_size"] (D8 (Ec 57)):=⟨rfl,rfl,rfl,by decide +kernel,rfl,by decide +kernel,by decide +kernel⟩
theorem Il(M:Md K mg x cB):Dn P w K mg base Ei 1 "_law_base" ["_law_cell","_law_size"] (JM):=by
 have o:=(FV).nd;refine M.f__law_base.ok FV (λvs H Q E h=>?_) (λ_ _ _ _ _ _ N d=>match N,d with|[_,_],_=>rfl) (λf T A I s H vs Q E W h=>?_)
 ·obtain⟨c,n,rfl,S,q⟩:=h;rfl
 obtain⟨c,n,rfl,S,q⟩:=h;refine⟨_,(rn (rG (i:=2) o rfl (Or.inl rfl) sD)
   (rn (rG (i:=3) o rfl (Or.inl rfl) (rO tF (pv 0) rE))
   (rn (sv (rR tO (rO rZ (pv 0) rE) rE (Ef _)) (rD (rG (i:=3) o rfl (Or.inl rfl) (rO rZ (rO sC (rO sw (rO rZ (pv 3) rE) rE) rE) rE))) rV)
   (rn (sN dA rfl (rX rfl M.b_range (mM (pv 1) rq)) (rK (i:=4) o rfl (Or.inl rfl)) (rn (sv (rR tO (rO rZ (pv 0) rE) rE (Ef _)) (rD (rG (i:=3) o rfl (Or.inl rfl) (rO rZ (rO sC (rO sC (rO sC (rO sw (pv 3) (pv 3)) (rO sw rE (pv 3))) (pv 4)) rE) rE))) rV)
   (rn (rG (i:=2) o rfl (Or.inl rfl) (rO ue (pv 2) (rN yM sD (rO rZ (pv 3) rE) (λ_ _=>rfl))))
   (rD (sv (rR tO (rO rZ (pv 0) rE) rE (Ef _)) (rD (rG (i:=3) o rfl (Or.inl rfl) (rO tF (pv 3) rE))) rV)))))
   (rD (rM (pv 2))))))),?_⟩
 try dsimp -proj only[nox_K,hold_K,cxOf_K]
 have O:=dO (c/2%2147483647*16807+11) (show(2147483647:Int)≠0 by decide);have L:=dC (c/2%2147483647*16807+11) (show(0:Int)<2147483647 by decide);refine⟨_,rfl,c,2,rfl,rfl,c9 (by decide) (by decide),?_⟩;have nil:Ltr "":=λc v=>nomatch (show c∈([]:List Nat)from v)
 have p:JB.length<=sizeLine:=by show 26<=sizeLine;decide
 have pick:∀r:Int,∃k:Nat,k<26/\G6 JB.cps.toList (r%26)=some (97+k):=λr=>by
  have G:=dO r (show(26:Int)≠0 by decide);have D:=dC r (show(0:Int)<26 by decide);exact⟨(r%26).toNat,by omega,Cp G D⟩
 have a:∀k:Nat,(⟨#[97+k]⟩:Str).length=1:=λ_=>rfl
 refine⟨_,rfl,c,2,rfl,rfl,by show(0:Int)<2;decide,rfl,_,rfl,?_⟩;refine Ey (λt=>?_) (λt=>?_)
 ·have v:c%2=0:=Ki t;refine⟨_,rfl,_,_,rfl,rfl,by show(0:Int)<2147483647;decide,_,_,rfl,rfl,J8 (by decide),_,_,rfl,rfl,_,_,rfl,rfl,by show(0:Int)<2147483647;decide,?_⟩;refine⟨_,rfl,(n:Int),rfl,by omega,by omega,?_⟩;refine sf (n:=n) (λi g j=>j=H/\∃(z:Str) (r:Int) (k:Option V),g=[some (.int c),some (.int n),some (.str z),some (.int r),k]/\z.length=i/\Ltr z/\0<=r/\r<2147483647) ⟨rfl,"",_,_,rfl,rfl,nil,O,L⟩ (λi g j R l=>?_) (λg j l=>?_)
  ·obtain⟨rfl,z,r,k,rfl,b,d,X,U⟩:=l;refine⟨_,rfl,c,2,rfl,rfl,by show(0:Int)<2;decide,rfl,_,rfl,Ji t ?_⟩;refine⟨_,rfl,_,rfl,_,_,rfl,rfl,JO (by omega),_,rfl,_,_,rfl,rfl,JO (by decide),_,_,rfl,rfl,_,rfl,_,_,rfl,rfl,_,_,rfl,rfl,_,_,rfl,rfl,by show(0:Int)<2147483647;decide,?_⟩;dsimp -proj only;have C:=dO (r*r+48271*r+(0+(i:Int))+1) (show(2147483647:Int)≠0 by decide);have F:=dC (r*r+48271*r+(0+(i:Int))+1) (show(0:Int)<2147483647 by decide);generalize(r*r+48271*r+(0+(i:Int))+1)%2147483647=y at C F;obtain⟨m,B,u⟩:=pick y;refine⟨_,rfl,_,rfl,y,26,rfl,rfl,by show(0:Int)<26;decide,JB,_,_,rfl,rfl,p,u,z,_,rfl,rfl,by rw[a,b];exact dB (D9 (by omega)),?_⟩;refine⟨_,rfl,c,2,rfl,rfl,by show(0:Int)<2;decide,rfl,_,rfl,Hj (λJ=>by have:=Ki J;omega) ?_⟩;exact⟨rfl,_,y,_,rfl,by rw[tq,a,b],d.app (Ltr.one B),C,F⟩
  ·obtain⟨rfl,z,r,k,rfl,b,d,_⟩:=l;exact⟨_,rfl,q z b d⟩
 ·refine⟨_,rfl,(n:Int),rfl,by omega,by omega,?_⟩;have v:c%2=1:=by
   have G:=dO c (show(2:Int)≠0 by decide);have D:=dC c (show(0:Int)<2 by decide);have:¬c%2=0:=λe=>t (by show V.int (c%2)=V.int 0;rw[e])
   omega
  refine sf (n:=n) (λi g j=>j=H/\∃(z:Str) (r:Int) (k:Option V),g=[some (.int c),some (.int n),some (.str z),some (.int r),k]/\z.length=i/\Ltr z) ⟨rfl,"",_,_,rfl,rfl,nil⟩ (λi g j R l=>?_) (λg j l=>?_)
  ·obtain⟨rfl,z,r,k,rfl,b,d⟩:=l;refine⟨_,rfl,c,2,rfl,rfl,by show(0:Int)<2;decide,rfl,_,rfl,Hj t ?_⟩;obtain⟨m,B,u⟩:=pick r;refine⟨_,rfl,_,rfl,r,26,rfl,rfl,by show(0:Int)<26;decide,JB,_,_,rfl,rfl,p,u,z,_,rfl,rfl,by rw[a,b];exact dB (D9 (by omega)),?_⟩;refine⟨_,rfl,c,2,rfl,rfl,by show(0:Int)<2;decide,rfl,_,rfl,Ji (by show V.int (c%2)=V.int 1;rw[v]) ?_⟩;refine⟨_,rfl,r,26,rfl,rfl,c9 (by decide) (by decide),?_⟩;exact⟨rfl,_,_,_,rfl,by rw[tq,a,b],d.app (Ltr.one B)⟩
  ·obtain⟨rfl,z,r,k,rfl,b,d⟩:=l;exact⟨_,rfl,q z b d⟩
theorem FZ:Eb ["_law_base_here","_law_place","_law_size","_law_k","_law_letters","_law_other"] ["_law_base_here","_law_place","_law_size","_law_k"] (D8 (Ec 58)):=⟨rfl,rfl,rfl,by decide +kernel,rfl,by decide +kernel,by decide +kernel⟩
theorem Ig(M:Md K mg x cB):Dn P w K mg base Ei 1 "_law_word" ["_law_base_here","_law_place","_law_size","_law_k"] (Ip):=by
 have o:=(FZ).nd;refine M.f__law_word.ok FZ (λvs H Q E h=>?_) (λ_ _ _ _ _ _ u g=>match u,g with|[_,_,_,_],_=>rfl) (λf B A t s H vs Q E G h=>?_)
 ·obtain⟨b,p,a,k,rfl,l,g,hp,y,hk,q⟩:=h;rfl
 obtain⟨b,p,a,k,rfl,l,g,hp,y,hk,q⟩:=h;refine⟨_,(rn (rG (i:=4) o rfl (Or.inl rfl) sD)
   (rn (rG (i:=5) o rfl (Or.inl rfl) (rN yM (pv 4) (rO rZ (rO sC (uI gF PySem.F.slot_str_find PySem.F.type_str_find C1 (pv 4) (mM (rN yM (pv 0) (pv 1) (λ_ _=>rfl)) rq)) (rO sw rE (pv 3))) rE) (λ_ _=>rfl)))
   (rD (rM (rO ue (rO ue (u9 zL (pv 0) A7 (uJ (pv 1))) (pv 5)) (u9 zL (pv 0) (uJ (rO sC (pv 1) rE)) (uJ (pv 2)))))))),?_⟩
 try dsimp -proj only[nox_K,hold_K,cxOf_K]
 have j:JB.length<=sizeLine:=by show 26<=sizeLine;decide
 have c:b.length<=sizeLine:=dB (D9 (by omega));have C:b.cps.toList.length=12:=by rw[<-t5];exact l
 have d:p<b.cps.toList.length:=by omega
 have D:=g _ (cW d);have r:G6 b.cps.toList (p:Int)=some b.cps.toList[p]:=si (cz d);have n:=BT (show b.cps.toList[p]-97<26 by omega);rw[show 97+(b.cps.toList[p]-97)=b.cps.toList[p]by omega]at n;have z:=dO (((b.cps.toList[p]-97:Nat):Int)+3*(k:Int)) (show(26:Int)≠0 by decide);have v:=dC (((b.cps.toList[p]-97:Nat):Int)+3*(k:Int)) (show(0:Int)<26 by decide);refine⟨_,rfl,_,rfl,rfl,_,rfl,_,rfl,b,_,_,rfl,rfl,c,r,JB,_,rfl,rfl,_,rfl,_,_,rfl,rfl,JO (by decide),_,_,rfl,rfl,_,_,rfl,rfl,by show(0:Int)<26;decide,JB,_,_,rfl,rfl,j,by rw[n];exact Cp z v,?_⟩;refine⟨_,rfl,_,rfl,_,rfl,b,rfl,c,?_⟩;rw[yF (show p<=b.cps.toList.length by omega)];refine⟨_,rfl,_,_,rfl,rfl,by rw[uB,cV];exact dB (D9 (by show _+1<=1000;omega)),?_⟩;refine⟨_,rfl,_,rfl,_,_,rfl,rfl,_,rfl,_,rfl,_,rfl,b,rfl,c,?_⟩;rw[show((p:Int)+1)=((p+1:Nat):Int)by push_cast;rfl,zO (show p+1<=a by omega) (show a<=b.cps.toList.length by omega)];refine⟨_,_,rfl,rfl,by rw[tq,uB,uB,uB,cV,cV,iY];exact dB (D9 (by show _+1+_<=1000;omega)),?_⟩;have e:(((⟨(b.cps.toList.take p).toArray⟩:Str)++⟨#[97+((((b.cps.toList[p]-97:Nat):Int)+3*(k:Int))%26).toNat]⟩)++⟨((b.cps.toList.drop (p+1)).take (a-(p+1))).toArray⟩:Str)=⟨(ES b.cps.toList p a k).toArray⟩:=by
  refine wG ?_;rw[sJ,sJ];unfold ES;rw[HM.getD_lt d,show((((b.cps.toList[p]-97:Nat):Int)+3*(k:Int))%26).toNat=(b.cps.toList[p]-97+3*k)%26 by omega];simp
 have m:=q;rw[<-e]at m;exact m
theorem FB:Eb ["_law_script","_law_at","_law_many","_law_cell","_law_size","_law_base_here","_law_words_here","_law_k","_law_word_here"] ["_law_script","_law_at","_law_many"] (D8 (Ec 59)):=⟨rfl,rfl,rfl,by decide +kernel,rfl,by decide +kernel,by decide +kernel⟩
theorem Hv(M:Md K mg x cB)
  (G_law_cell_at:Dn P w K mg base Ei 1 "_law_cell_at" ["_law_script","_law_k"] (IS K))
  (G_law_base:Dn P w K mg base Ei 1 "_law_base" ["_law_cell","_law_size"] (JM))
  (G_law_word:Dn P w K mg base Ei 1 "_law_word" ["_law_base_here","_law_place","_law_size","_law_k"] (Ip)):Dn P w K mg base Ei 2 "_law_words" ["_law_script","_law_at","_law_many"] (Hf K):=by
 have j:=(FB).nd
 refine M.f__law_words.ok FB (λvs H Q E h=>?_) (λ_ _ _ _ _ _ S z=>match S,z with|[_,_,_],_=>rfl) (λf T A R s H vs Q E B h=>?_)
 ·obtain⟨a,y,r,n,rfl,J,h1,h6,q⟩:=h
  rfl
 obtain⟨a,y,r,n,rfl,J,h1,h6,q⟩:=h
 refine⟨_,(rn (rG (i:=3) j rfl (Or.inl rfl) (rS G_law_cell_at B (by decide) rfl Ed (mM (pv 0) (mM (pv 1) rq))))
   (rn (rG (i:=4) j rfl (Or.inl rfl) (rO sC rE (rO rZ (pv 3) rE)))
   (rn (rG (i:=5) j rfl (Or.inl rfl) (rS G_law_base B (by decide) rfl Ed (mM (rS G_law_cell_at B (by decide) rfl Ed (mM (pv 0) (mM (rO sC (pv 1) rE) rq))) (mM rE rq))))
   (rn (rG (i:=6) j rfl (Or.inl rfl) (tU rq))
   (rn (sN dA rfl (rX rfl M.b_range (mM (pv 2) rq)) (rK (i:=7) j rfl (Or.inl rfl)) (rn (rG (i:=8) j rfl (Or.inl rfl) (rS G_law_word B (by decide) rfl Ed (mM (pv 5) (mM (rO rZ (rO tF (pv 3) rE) (pv 4)) (mM (pv 4) (mM (pv 7) rq))))))
   (rn (sv (rR tO (rO rZ (rO tF (pv 3) rE) rE) rE (Ef _)) (rD (rG (i:=8) j rfl (Or.inl rfl) (u9 zL (pv 5) A7 (uJ (rO sC (pv 7) rE))))) rV)
   (rD (sR (uI dI fT fU tJ (pv 6) (mM (pv 8) rq)))))))
   (rD (rM (pv 6)))))))),?_⟩
 try dsimp -proj only[nox_K,hold_K,cxOf_K]
 refine⟨_,rfl,_,rfl,a,y,_,rfl,J,by omega,?_⟩
 generalize LM.cellAt y (r:Int)=c
 have m0:=dO c (show(12:Int)≠0 by decide)
 have W:=dC c (show(0:Int)<12 by decide)
 obtain⟨d,N⟩:∃d:Nat,1+c%12=(d:Int):=⟨(1+c%12).toNat,by omega⟩
 have Z:=dO (c/48) (show(d:Int)≠0 by omega)
 have X:=dC (c/48) (show(0:Int)<d by omega)
 obtain⟨p,hp⟩:∃p:Nat,c/48%(d:Int)=(p:Int):=⟨(c/48%(d:Int)).toNat,by omega⟩
 refine⟨_,rfl,c,12,rfl,rfl,by show(0:Int)<12;decide,_,_,rfl,rfl,?_⟩
 dsimp only
 rw[N]
 refine⟨_,rfl,_,rfl,_,_,rfl,rfl,a,y,_,rfl,J,by omega,_,12,rfl,by decide,λb D z=>?_⟩
 have t:(0:Nat)<=sizeLine:=by decide
 have O:b.length<=sizeLine:=dB (D9 (by omega))
 have U:b.cps.toList.length=12:=by rw[<-t5];exact D
 refine⟨t,λl m=>?_⟩
 refine⟨_,rfl,(n:Int),rfl,by omega,by omega,?_⟩
 refine sf (n:=n) (λi C u=>Same H u/\u l=some (.lst (((db i).map λk=>if c/12%4=1 then(⟨(b.cps.toList.take (k+1)).toArray⟩:Str)else⟨(ES b.cps.toList p d k).toArray⟩).map V.str))/\∃k w,C=[some (.ref a),some (.int r),some (.int n),some (.int c),some (.int d),some (.str b),some (.ref l),k,w]) ⟨rr m _,rC,_,_,rfl⟩ (λi C u Y I=>?_) (λC u I=>?_)
 ·obtain⟨v,g,k,w,rfl⟩:=I
  have o:(((db i).map λk=>if c/12%4=1 then(⟨(b.cps.toList.take (k+1)).toArray⟩:Str)else⟨(ES b.cps.toList p d k).toArray⟩).map V.str).length<sizeLine:=D9 (by rw[cx,cx,fb];omega)
  refine⟨_,rfl,_,rfl,c,48,rfl,rfl,c9 (by decide) (by decide),_,rfl,_,_,rfl,rfl,by show(0:Int)<d;omega,_,rfl,_,rfl,b,p,d,i,by show[V.str b,V.int (c/48%(d:Int)),V.int d,V.int (0+(i:Int))]=_;rw[hp,d3],D,z,by omega,by omega,by omega,?_⟩
  refine⟨_,rfl,c,12,rfl,rfl,c9 (by decide) (by decide),_,_,rfl,rfl,by show(0:Int)<4;decide,rfl,_,rfl,?_⟩
  refine Ey (λG=>?_) (λG=>?_)
  ·have L:c/12%4=1:=Ki G
   refine⟨_,rfl,_,rfl,_,_,rfl,rfl,_,rfl,b,rfl,O,?_⟩
   rw[show((0:Int)+(i:Int)+1)=((i+1:Nat):Int)by omega,yF (show i+1<=b.cps.toList.length by omega)]
   refine⟨_,rfl,.inl ⟨rfl,_,SqL.of g⟩,_,rfl,l,_,_,rfl,rfl,g,o,?_⟩
   refine⟨v.over m _,?_,_,_,rfl⟩
   rw[rC,gf,cS,cS,m4,if_pos L]
   rfl
  ·have L:¬c/12%4=1:=λe=>G (by show V.int (c/12%4)=V.int 1;rw[e])
   refine⟨_,rfl,.inl ⟨rfl,_,SqL.of g⟩,_,rfl,l,_,_,rfl,rfl,g,o,?_⟩
   refine⟨v.over m _,?_,_,_,rfl⟩
   rw[rC,gf,cS,cS,m4,if_neg L]
   rfl
 ·obtain⟨v,g,k,w,rfl⟩:=I
  exact⟨_,rfl,q l _ u v m g (zm D z (by omega) (by omega) h1 h6) (by rw[cx,fb])⟩
theorem Fi:Eb ["_law_one","_law_other","_law_rest"] ["_law_one","_law_other"] (D8 (Ec 55)):=⟨rfl,rfl,rfl,by decide +kernel,rfl,by decide +kernel,by decide +kernel⟩
theorem GO(M:Md K mg x cB):Dn P w K mg base Ei 1 "_law_divisor" ["_law_one","_law_other"] (Hd):=by
 have l:=(Fi).nd;refine M.f__law_divisor.ok Fi (λvs H Q E h=>?_) (λ_ _ _ _ _ _ u B=>match u,B with|[_,_],_=>rfl) (λf G A t s H vs Q E L h=>?_)
 ·obtain⟨i,j,rfl,o,q⟩:=h;rfl
 obtain⟨i,j,rfl,o,q⟩:=h;refine⟨_,(rn (uE dA (rR zd (pv 1) rE (Ef _)) (rn (rG (i:=2) l rfl (Or.inl rfl) (rO rZ (pv 0) (pv 1)))
   (rn (rG (i:=0) l rfl (Or.inl rfl) (pv 1))
   (rD (rG (i:=1) l rfl (Or.inl rfl) (pv 2))))))
   (rD (rM (rJ wH rfl M.b_abs Boot.«abs» (mM (pv 0) rq))))),?_⟩
 try dsimp -proj only[nox_K,hold_K,cxOf_K]
 refine yJ (λm g n=>n=H/\∃(a b:Int) (r:Option V),g=[some (.int a),some (.int b),r]/\0<=b/\Int.gcd a b=Int.gcd i j/\m=b.toNat)
  ⟨_,rfl,_,_,_,rfl,o,rfl,rfl⟩ (λm g n D=>?_) (λg n J N y h=>?_)
 ·obtain⟨rfl,a,b,r,rfl,I,p,rfl⟩:=D;refine⟨_,rfl,rfl,_,rfl,?_⟩;refine GP (λc=>?_) (λc=>?_)
  ·have d:b≠0:=λz=>c (by rw[z])
   refine⟨_,rfl,_,rfl,a,b,rfl,rfl,by show(0:Int)<b;omega,_,rfl,_,rfl,?_⟩;refine⟨(a%b).toNat,?_,rfl,b,a%b,_,rfl,dO _ d,?_,rfl⟩
   ·have:=dC a (show 0<b by omega);have:=dO a d;omega
   ·rw[FQ.gcd_turn,p]
  ·have d:b=0:=Ki c;subst d;refine⟨_,rfl,a,rfl,?_⟩;have e:(if a<0 then -a else a)=(Int.gcd i j:Int):=by rw[<-p];simp;split <;> omega
   rw[e];exact q
 ·obtain⟨v,e,C,k,F,q⟩:=h;exact⟨v,e,C,k,F,y _ _ q⟩
theorem Fn:Eb ["_law_top","_law_bottom","_law_share"] ["_law_top","_law_bottom"] (D8 (Ec 56)):=⟨rfl,rfl,rfl,by decide +kernel,rfl,by decide +kernel,by decide +kernel⟩
theorem G1(M:Md K mg x cB)
  (G_law_divisor:Dn P w K mg base Ei 1 "_law_divisor" ["_law_one","_law_other"] (Hd)):Dn P w K mg base Ei 2 "_law_lowest" ["_law_top","_law_bottom"] (Ir):=by
 have e:=(Fn).nd
 refine M.f__law_lowest.ok Fn (λvs H Q E h=>?_) (λ_ _ _ _ _ _ j k=>match j,k with|[_,_],_=>rfl) (λf m A g s H vs Q E l h=>?_)
 ·obtain⟨t,b,rfl,d,c,q⟩:=h
  rfl
 obtain⟨t,b,rfl,d,c,q⟩:=h
 refine⟨_,(rn (sv (rR Az (pv 1) rE (Ef _)) Bd rV)
   (rn (sv (rR tO (pv 1) rE (Ef _)) (rD (rG (i:=1) e rfl (Or.inl rfl) rE)) rV)
   (rn (rG (i:=2) e rfl (Or.inl rfl) (rS G_law_divisor l (by decide) rfl Ed (mM (pv 0) (mM (pv 1) rq))))
   (rD (rM (sF (mM (rO tF (pv 0) (pv 2)) (mM (rO tF (pv 1) (pv 2)) rq)))))))),?_⟩
 try dsimp -proj only[nox_K,hold_K,cxOf_K]
 refine⟨_,rfl,_,_,rfl,rfl,_,rfl,Hj (by omega) ?_⟩
 refine⟨_,rfl,rfl,_,rfl,Hj (MH (by omega)) ?_⟩
 refine⟨_,rfl,_,rfl,t,b,rfl,fq d,?_⟩
 have a:=(uV (t:=t) (b:=b) (by omega) c).2 (by omega)
 have n:0<Int.gcd t b:=fB _ (by omega)
 refine⟨_,rfl,_,rfl,t,_,rfl,rfl,⟨by omega,a.1.2⟩,_,rfl,_,rfl,b,_,rfl,rfl,⟨by omega,a.1.2⟩,by show 2<=sizeLine;decide,λp hp=>q p _ (rr hp _) ?_⟩
 rw[rC]
 show some (HO.tup [V.int (t/_),V.int (b/_)])=_
 rw[<-iM t (by omega),<-iM b (by omega),a.2.1,a.2.2]
 rfl
theorem FW:Eb ["_law_found","_law_due","_law_k"] ["_law_found","_law_due"] (D8 (Ec 60)):=⟨rfl,rfl,rfl,by decide +kernel,rfl,by decide +kernel,by decide +kernel⟩
theorem EY{n:Nat}(M:Md K mg x cB)
  (G_law_same:Dn P w K mg base Ei n "_law_same" ["_law_found","_law_due"] (Jz (Hu K) n)):Dn P w K mg base Ei (n+1) "_law_same" ["_law_found","_law_due"] (Hu K n):=by
 have T:=(FW).nd
 refine M.f__law_same.ok FW (λvs H Q E h=>?_) (λ_ _ _ _ _ _ O R=>match O,R with|[_,_],_=>rfl) (λf U A N s H vs Q E z h=>?_)
 ·obtain⟨v,u,d,rfl,L,l,c,q⟩:=h
  rfl
 obtain⟨v,u,d,rfl,L,l,c,q⟩:=h
 refine⟨_,(rn (sv (PW.pt (w5 (sQ (rJ sr rfl M.b_isinstance Boot.«isinstance» (mM (pv 1) (mM (tS rfl M.b_tuple Boot.«tuple») rq)))) (wf (sQ (rJ sr rfl M.b_isinstance Boot.«isinstance» (mM (pv 1) (mM (tS rfl M.b_list Boot.«list») rq))))))) (rn (sv (PW.pt (w5 (rR zd (rJ sr rfl M.b_isinstance Boot.«isinstance» (mM (pv 0) (mM (tS rfl M.b_tuple Boot.«tuple») rq))) (rJ sr rfl M.b_isinstance Boot.«isinstance» (mM (pv 1) (mM (tS rfl M.b_tuple Boot.«tuple») rq))) (Ef _)) (wf (rR zd (rJ sr rfl M.b_isinstance Boot.«isinstance» (mM (pv 0) (mM (tS rfl M.b_list Boot.«list») rq))) (rJ sr rfl M.b_isinstance Boot.«isinstance» (mM (pv 1) (mM (tS rfl M.b_list Boot.«list») rq))) (Ef _))))) (rD (rM ug)) rV)
   (rn (sv (rR zd (rJ rP rfl M.b_len dD (mM (pv 0) rq)) (rJ rP rfl M.b_len dD (mM (pv 1) rq)) (Ef _)) (rD (rM ug)) rV)
   (rn (sN dA rfl (rX rfl M.b_range (mM (rJ rP rfl M.b_len dD (mM (pv 1) rq)) rq)) (rK (i:=2) T rfl (Or.inl rfl)) (rD (sv (tE (sQ (rS G_law_same z (cI _) rfl Ed (mM (rN Co (pv 0) (pv 2) (λ_ _=>rfl)) (mM (rN Co (pv 1) (pv 2) (λ_ _=>rfl)) rq))))) (rD (rM ug)) rV)))
   (rD (rM ug))))) rV)
   (rn (sv (sQ (rJ sr rfl M.b_isinstance Boot.«isinstance» (mM (pv 1) (mM (tS rfl M.b_bool Boot.«bool») rq)))) (rD (rM (ut (rJ sr rfl M.b_isinstance Boot.«isinstance» (mM (pv 0) (mM (tS rfl M.b_bool Boot.«bool») rq))) (vB (tG (yn z) (pv 0) (pv 1) (Ef _)))))) rV)
   (rn (sv (sQ (rJ sr rfl M.b_isinstance Boot.«isinstance» (mM (pv 1) (mM (tS rfl M.b_int Boot.«int») rq)))) (rD (rM (ut (rJ sr rfl M.b_isinstance Boot.«isinstance» (mM (pv 0) (mM (tS rfl M.b_int Boot.«int») rq))) (ut (Cy (rJ sr rfl M.b_isinstance Boot.«isinstance» (mM (pv 0) (mM (tS rfl M.b_bool Boot.«bool») rq)))) (vB (tG (yn z) (pv 0) (pv 1) (Ef _))))))) rV)
   (rn (sv (sQ (rJ sr rfl M.b_isinstance Boot.«isinstance» (mM (pv 1) (mM (tS rfl M.b_str Boot.«str») rq)))) (rD (rM (ut (rJ sr rfl M.b_isinstance Boot.«isinstance» (mM (pv 0) (mM (tS rfl M.b_str Boot.«str») rq))) (vB (tG (yn z) (pv 0) (pv 1) (Ef _)))))) rV)
   (rD (rM (ut (tG Bs (pv 1) v9 (Ef _)) (vB (tG Bs (pv 0) v9 (Ef _)))))))))),?_⟩
 try dsimp -proj only[nox_K,hold_K,cxOf_K]
 cases L with
 | non=>
  cases l
  refine⟨_,rfl,_,_,"NoneType",rfl,by decide,rfl,_,rfl,Er ⟨_,rfl,_,_,"NoneType",rfl,by decide,rfl,_,rfl,Er ?_⟩⟩
  refine⟨_,rfl,_,_,"NoneType",rfl,by decide,rfl,_,rfl,Er ?_⟩
  refine⟨_,rfl,_,_,"NoneType",rfl,by decide,rfl,_,rfl,Er ?_⟩
  refine⟨_,rfl,_,_,"NoneType",rfl,by decide,rfl,_,rfl,Er ?_⟩
  exact⟨_,rfl,rfl,_,rfl,EN ⟨_,rfl,rfl,q⟩⟩
 | bl b=>
  cases l
  refine⟨_,rfl,_,_,"bool",rfl,by decide,rfl,_,rfl,Er ⟨_,rfl,_,_,"bool",rfl,by decide,rfl,_,rfl,Er ?_⟩⟩
  refine⟨_,rfl,_,_,"bool",rfl,by decide,rfl,_,rfl,EN ?_⟩
  refine⟨_,rfl,_,_,"bool",rfl,by decide,rfl,_,rfl,EN ?_⟩
  refine⟨_,rfl,_,rfl,_,_,.bl b,.bl b,rfl,rfl,?_⟩
  rw[show gy (.bool b) (.bool b)=true by simp[gy]]
  exact q
 | int i=>
  cases l
  refine⟨_,rfl,_,_,"int",rfl,by decide,rfl,_,rfl,Er ⟨_,rfl,_,_,"int",rfl,by decide,rfl,_,rfl,Er ?_⟩⟩
  refine⟨_,rfl,_,_,"int",rfl,by decide,rfl,_,rfl,Er ?_⟩
  refine⟨_,rfl,_,_,"int",rfl,by decide,rfl,_,rfl,EN ?_⟩
  refine⟨_,rfl,_,_,"int",rfl,by decide,rfl,_,rfl,EN ⟨_,rfl,_,_,"int",rfl,by decide,rfl,_,rfl,_,rfl,EN ?_⟩⟩
  refine⟨_,rfl,_,rfl,_,_,.int i,.int i,rfl,rfl,?_⟩
  rw[show gy (.int i) (.int i)=true by simp[gy]]
  exact q
 | str x=>
  cases l
  have B:ga (.str x)=true:=by cases n <;> simpa [F9]using c
  refine⟨_,rfl,_,_,"str",rfl,by decide,rfl,_,rfl,Er ⟨_,rfl,_,_,"str",rfl,by decide,rfl,_,rfl,Er ?_⟩⟩
  refine⟨_,rfl,_,_,"str",rfl,by decide,rfl,_,rfl,Er ?_⟩
  refine⟨_,rfl,_,_,"str",rfl,by decide,rfl,_,rfl,Er ?_⟩
  refine⟨_,rfl,_,_,"str",rfl,by decide,rfl,_,rfl,EN ?_⟩
  refine⟨_,rfl,_,_,"str",rfl,by decide,rfl,_,rfl,EN ?_⟩
  refine⟨_,rfl,_,rfl,_,_,.str x,.str x,B,B,?_⟩
  rw[show gy (.str x) (.str x)=true by simp[gy]]
  exact q
 | @lst a xs ds hv hvs hl1=>
  cases l with
  | @lst b ys _ hu hus hl2=>
  cases n with
  | zero=>cases c
  | succ n=>

  have p:=Reps.length hvs
  have o:=Reps.length hus
  refine⟨_,rfl,_,_,"list",rfl,by decide,.inl ⟨rfl,_,hu⟩,_,rfl,Er ⟨_,rfl,_,_,"list",rfl,by decide,.inl ⟨rfl,_,hu⟩,_,rfl,EN ?_⟩⟩
  refine⟨_,rfl,_,_,"list",rfl,by decide,.inl ⟨rfl,_,hv⟩,_,rfl,_,_,"list",rfl,by decide,.inl ⟨rfl,_,hu⟩,rfl,_,rfl,GJ rfl ?_⟩
  refine⟨_,rfl,_,_,"list",rfl,by decide,.inl ⟨rfl,_,hv⟩,_,rfl,_,_,"list",rfl,by decide,.inl ⟨rfl,_,hu⟩,rfl,_,rfl,GJ rfl ?_⟩
  refine⟨_,rfl,_,_,rfl,.inl hv,_,rfl,_,_,rfl,.inl hu,rfl,_,rfl,GJ (by rw[p,o]) ?_⟩
  refine⟨_,rfl,_,_,rfl,.inl hu,_,rfl,by omega,by omega,?_⟩
  refine sf (λi g m=>m=H/\∃r,g=[some _,some _,r]) ⟨rfl,_,rfl⟩ (λi g m S k=>?_) (λg m k=>?_)
  ·obtain⟨rfl,r,rfl⟩:=k
   have e:i<ds.length:=by omega
   have t:ds[i]?=some ds[i]:=by simp[e]
   obtain⟨x,I,G⟩:=Reps.get hvs t
   obtain⟨y,D,F⟩:=Reps.get hus t
   have j:F9 n ds[i]=true:=dZ.mp c _ (cW e)
   have C:G6 xs (0+(i:Int))=some x:=by rw[d3];exact si I
   have J:G6 ys (0+(i:Int))=some y:=by rw[d3];exact si D
   exact⟨_,rfl,_,rfl,.inl ⟨_,xs,_,x,rfl,rfl,hv,C,_,rfl,_,rfl,.inl ⟨_,ys,_,y,rfl,rfl,hu,J,x,y,ds[i],rfl,G,F,j,_,rfl,Er ⟨rfl,_,rfl⟩⟩⟩⟩
  ·obtain⟨rfl,r,rfl⟩:=k
   exact q
 | @tup a xs ds hv hvs hl1=>
  cases l with
  | @tup b ys _ hu hus hl2=>
  cases n with
  | zero=>cases c
  | succ n=>

  have p:=Reps.length hvs
  have o:=Reps.length hus
  refine⟨_,rfl,_,_,"tuple",rfl,by decide,.inr ⟨rfl,_,hu⟩,_,rfl,EN ?_⟩
  refine⟨_,rfl,_,_,"tuple",rfl,by decide,.inr ⟨rfl,_,hv⟩,_,rfl,_,_,"tuple",rfl,by decide,.inr ⟨rfl,_,hu⟩,rfl,_,rfl,GJ rfl ?_⟩
  refine⟨_,rfl,_,_,"tuple",rfl,by decide,.inr ⟨rfl,_,hv⟩,_,rfl,_,_,"tuple",rfl,by decide,.inr ⟨rfl,_,hu⟩,rfl,_,rfl,GJ rfl ?_⟩
  refine⟨_,rfl,_,_,rfl,.inr hv,_,rfl,_,_,rfl,.inr hu,rfl,_,rfl,GJ (by rw[p,o]) ?_⟩
  refine⟨_,rfl,_,_,rfl,.inr hu,_,rfl,by omega,by omega,?_⟩
  refine sf (λi g m=>m=H/\∃r,g=[some _,some _,r]) ⟨rfl,_,rfl⟩ (λi g m S k=>?_) (λg m k=>?_)
  ·obtain⟨rfl,r,rfl⟩:=k
   have e:i<ds.length:=by omega
   have t:ds[i]?=some ds[i]:=by simp[e]
   obtain⟨x,I,G⟩:=Reps.get hvs t
   obtain⟨y,D,F⟩:=Reps.get hus t
   have j:F9 n ds[i]=true:=dZ.mp c _ (cW e)
   have C:G6 xs (0+(i:Int))=some x:=by rw[d3];exact si I
   have J:G6 ys (0+(i:Int))=some y:=by rw[d3];exact si D
   exact⟨_,rfl,_,rfl,.inr (.inl ⟨_,xs,_,x,rfl,rfl,hv,C,_,rfl,_,rfl,.inr (.inl ⟨_,ys,_,y,rfl,rfl,hu,J,x,y,ds[i],rfl,G,F,j,_,rfl,Er ⟨rfl,_,rfl⟩⟩)⟩)⟩
  ·obtain⟨rfl,r,rfl⟩:=k
   exact q
theorem Fb:Eb ["_law_way","_law_wishes"] ["_law_way","_law_wishes"] (D8 (Ec 61)):=⟨rfl,rfl,rfl,by decide +kernel,rfl,by decide +kernel,by decide +kernel⟩
theorem Gu(M:Md K mg x cB)
  (Geaten:Dn P w K mg base Ei 7 "eaten" ["wishes"] (HK K))
  (Gby_turns:Dn P w K mg base Ei 4 "by_turns" ["wishes"] (Ga K)):Dn P w K mg base Ei 8 "_law_table_by" ["_law_way","_law_wishes"] (Ho K):=by
 have I:=(Fb).nd
 refine M.f__law_table_by.ok Fb (λvs H Q E h=>?_) (λ_ _ _ _ _ _ a j=>match a,j with|[_,_],_=>rfl) (λf G A D s H vs Q E C h=>?_)
 ·obtain⟨w,a,W,n,e,rfl,m,t,B,d,q⟩:=h
  rfl
 obtain⟨w,a,W,n,e,rfl,m,t,B,d,q⟩:=h
 refine⟨_,(rn (sv (rR tO (pv 0) sD (Ef _)) (rD (rM (rS Geaten C (by decide) rfl Ed (mM (sd sO rfl M.b_list Boot.«list» (mM (pv 1) rq)) rq)))) rV)
   (rD (rM (rS Gby_turns C (by decide) rfl Ed (mM (sd sO rfl M.b_list Boot.«list» (mM (pv 1) rq)) rq))))),?_⟩
 try dsimp -proj only[nox_K,hold_K,cxOf_K]
 refine⟨_,rfl,rfl,_,rfl,?_⟩
 refine Ey (λc=>?_) (λc=>?_)
 ·have p:e="eaten":=by injection c
  refine⟨_,rfl,w,_,rfl,.inl t,λl j=>?_⟩
  have b:=rr j (.lst a)
  refine⟨l,a,W,n,rfl,SqL.of rC,Paired.mapP B (λ_ _ h=>h.mono b),⟨d.lo,d.hi,d.len,d.pm⟩,λu v N r y g k F o=>?_⟩
  exact q _ _ u v r (.inl ⟨p,N,F,rfl,rfl⟩) (b.trans y) (b.free g) k o
 ·have p:e="turns":=by
   rcases m with z|z
   ·exact absurd (by rw[z]) c
   ·exact z
  refine⟨_,rfl,w,_,rfl,.inl t,λl j=>?_⟩
  have b:=rr j (.lst a)
  refine⟨l,a,W,n,rfl,SqL.of rC,Paired.mapP B (λ_ _ h=>h.mono b),d,λu v r y g k o=>?_⟩
  rw[Ba]at o
  exact q _ _ u v r (.inr ⟨p,rfl,rfl⟩) (b.trans y) (b.free g) k (tP o)
theorem EK:Eb ["_law_book","_law_people","_law_things","_law_wishes","_law_place","_law_way","_law_row","_law_due","_law_k","_law_found"] ["_law_book","_law_people","_law_things","_law_wishes","_law_place","_law_way"] (D8 (Ec 62)):=⟨rfl,rfl,rfl,by decide +kernel,rfl,by decide +kernel,by decide +kernel⟩
theorem FM(M:Md K mg x cB)
  (G_law_table_by:Dn P w K mg base Ei 8 "_law_table_by" ["_law_way","_law_wishes"] (Ho K))
  (GBook_shares:Mn P w K mg base (FD P w) 9 cB "shares" ["self","person","way"] (GE K cB x))
  (G_law_same:Dn P w K mg base Ei 4 "_law_same" ["_law_found","_law_due"] (Hu K 3)):Dn P w K mg base Ei 10 "_law_shares_well" ["_law_book","_law_people","_law_things","_law_wishes","_law_place","_law_way"] (FP K cB):=by
 have nd:=(EK).nd
 refine M.f__law_shares_well.ok EK (λvs H Q E h=>?_) (λ_ _ _ _ _ _ us hl=>match us,hl with|[_,_,_,_,_,_],_=>rfl) (λf aS A aQ s H vs Q E hr h=>?_)
 ·obtain⟨s0,d,w,pl,tl,Y,g,m,a,I,rfl,aq,rp,rt,an,aw,ak,S,D,q⟩:=h
  rfl
 obtain⟨s0,d,w,pl,tl,Y,g,m,a,I,rfl,aq,rp,rt,an,aw,ak,S,D,q⟩:=h
 refine⟨_,(rn (rG (i:=6) nd rfl (Or.inr rfl) (rN rL (rS G_law_table_by hr (by decide) rfl Ed (mM (pv 5) (mM (pv 3) rq))) (pv 4) (λ_ _=>rfl)))
   (rn (sB (i:=7) nd rfl rfl rfl rfl (N:=["_law_thing","_law_things","_law_row"]) (caps:=[none,some 2,some 6]) (CompOk.of (by kernel_rfl)) (rW rfl) (uG (rN rL (pv 3) (pv 4) (λ_ _=>rfl))) (λ_ _ _ _=>(rK (i:=0) (show(["_law_thing","_law_things","_law_row"]:List Str).Nodup by decide +kernel) rfl (Or.inl rfl) (Or.inr rfl))) (λ_ _ _ _=>(tX (rR DY (rN (tY (K:=K) rfl) (rN (tY (K:=K) rfl) (pv 2) (pv 0) (λ_ _=>rfl)) rE (λ_ _=>rfl)) rE (Ef _)))) (λ_ _ _ _=>(sF (mM (rN (sU (K:=K) rfl) (pv 1) (pv 0) (λ_ _=>rfl)) (mM (rN (tY (K:=K) rfl) (pv 2) (pv 0) (λ_ _=>rfl)) rq)))))
   (rn (sN dA rfl (rX rfl M.b_range (mM rE rq)) (rK (i:=8) nd rfl (Or.inl rfl)) (rn (rG (i:=9) nd rfl (Or.inl rfl) (vi (pl:=_) (pv 0) M.cl GBook_shares hr (by decide) FJ (mM (rN rL (pv 1) (pv 4) (λ_ _=>rfl)) (mM (pv 5) rq))))
   (rn (sv (tE (sQ (rS G_law_same hr (by decide) rfl Ed (mM (pv 9) (mM (pv 7) rq))))) (rD (rM ug)) rV)
   (rD (sR (xR dI jn jo wC (pv 9)))))))
   (rD (rM ug))))),?_⟩
 try dsimp -proj only[nox_K,hold_K,cxOf_K]
 have ah:(2:Nat)<=sizeLine:=by decide
 obtain⟨us,W,R,hb,hw,hu,hT,hW,hall,a0⟩:=aq.all rp
 have aB:=rp.hi
 have aW:=hW.len
 have aT:=Paired.len hu
 refine⟨_,rfl,_,rfl,w,us,W,Y.length,I,rfl,D,SqL.of hw,hu,hW,λZ T q1 aX H1 am S1 aZ aE hZ=>?_⟩
 have O:=am.tb hW
 have aV:=O.reg.len
 have ar:=O.t0
 obtain⟨uv,aK,ra,gs,rfl,aN,ac⟩:=Paired.get hZ (cz (show a<Z.length by omega))
 obtain⟨wv,az,wa,rfl,ae⟩:=Paired.get hu (cz (show a<W.length by omega))
 have j:=hW.pm _ (cW (show a<W.length by omega))
 have al:=O.reg.cols _ (cW (show a<Z.length by omega))
 have ag:∀t:Int,0<=EM.at0 (Z.getD a []) t:=λt=>O.reg.nn a t.toNat
 rw[show W[a]=W.getD a []from(HM.getD_lt (show a<W.length by omega)).symm]at ae j
 rw[show Z[a]=Z.getD a []from(HM.getD_lt (show a<Z.length by omega)).symm]at ac al
 obtain⟨b,ad⟩:∃b,b=W.getD a []:=⟨_,rfl⟩
 obtain⟨z,ez⟩:∃z,z=Z.getD a []:=⟨_,rfl⟩
 rw[<-ad]at ae j
 rw[<-ez]at ac al ag
 have aY:=j.len
 have ab:=S1.tup ae
 refine⟨_,rfl,q1,_,_,_,rfl,rfl,SqL.of aE,si aK,?_⟩
 refine⟨_,rfl,_,rfl,w,_,_,_,rfl,rfl,SqL.of (S1 _ _ hw),si az,wa,rfl,⟨_,ab⟩,?_⟩
 refine uf (xs:=b.map V.int) (λi p u=>Same H1 u/\dr (IsShr K u T) p (Ex g (b.take i) z)) ⟨Same.refl _,.nil⟩ (λi p u _ v=>v.1.tup ab) (λi y p u B v=>?_) (λp u v l hl=>?_)
 ·obtain⟨r,o⟩:=v
  rw[cH]at B
  cases L:b[i]? with
  | none=>rw[L]at B;cases B
  | some t=>
   rw[L]at B
   have aH:V.int t=y:=Option.some.inj B
   subst aH
   have J:=j.mem.mp (da L)
   have aI:t.toNat<z.length:=by omega
   have aG:(fr T z)[t.toNat]?=some (FQ.red (EM.at0 z t) T):=by
    unfold fr EM.at0
    rw[cH,cC,cz aI]
    rfl
   obtain⟨fv,ao,fg,rfl,ap⟩:=Paired.get ac aG
   have aL:=Paired.len o
   have ay:p.length<sizeLine:=by
    rw[aL]
    unfold Ex
    rw[cx]
    have h1:=d6 (λt=>decide (EM.at0 z t≠0)) (b.take i)
    rw[cV]at h1
    exact D9 (by omega)
   have aF:Ex g (b.take (i+1)) z=Ex g (b.take i) z++if EM.at0 z t≠0 then[(g.getD t.toNat ea,EM.at0 z t)]else[]:=by
    unfold Ex
    rw[cY,L,gm,cS]
    by_cases c:EM.at0 z t=0
    ·simp[c]
    ·simp[c]
   have ai:=r.tup aN
   refine⟨_,rfl,_,rfl,ra,gs,t,_,rfl,rfl,ai,sE J.1 ao,fg,_,0,_,rfl,rfl,r.tup ap,rfl,_,_,rfl,rfl,_,rfl,?_⟩
   rw[aF]
   refine Ey (λc=>?_) (λc=>?_)
   ·have hn:EM.at0 z t≠0:=(zN ar (ag t)).mp c
    have U:t.toNat<g.length:=by omega
    have aC:(g.map V.str)[t.toNat]?=some (.str (g.getD t.toNat ea)):=by rw[cH,cC,cz U];rfl
    refine⟨_,rfl,_,rfl,tl,_,t,_,rfl,rfl,(S1.trans r).seq ak,sE J.1 aC,_,rfl,_,rfl,ra,gs,t,_,rfl,rfl,ai,sE J.1 ao,ah,λtp aA=>?_⟩
    have C:=rr aA (.tup [.str (g.getD t.toNat ea),.ref fg])
    refine⟨ay,r.trans C,?_⟩
    rw[if_pos hn]
    exact Paired.app (Paired.mapP o λ_ _ h=>h.mono C) (.cons ⟨tp,fg,rfl,SqT.of rC,⟨fg,rfl,(r.trans C).tup ap⟩⟩ .nil)
   ·have hn:¬EM.at0 z t≠0:=λe0=>c ((zN ar (ag t)).mpr e0)
    refine⟨r,?_⟩
    rw[if_neg hn,fV]
    exact o
 obtain⟨r,o⟩:=v
 rw[cx,dj]at o
 have C:=rr hl (.lst p)
 have au:upd u l (.lst p) l=some (.lst p):=rC
 have G:=Paired.mapP o λ_ _ (h:IsShr K u T _ _)=>h.mono C
 have aa:=S1.trans (r.trans C)
 generalize upd u l (.lst p)=H3 at C au G aa ⊢
 have a1:(Ex g b z).length<=6:=by
  unfold Ex
  rw[cx]
  have h1:=d6 (λt=>decide (EM.at0 z t≠0)) b
  omega
 have aP:∀x∈Ex g b z,GS x.1:=λx hx=>by
  unfold Ex at hx
  obtain⟨t,ht,rfl⟩:=dv.mp hx
  have J:=j.mem.mp (d8.mp ht).1
  have U:t.toNat<g.length:=by omega
  show GS (g.getD t.toNat ea)
  rw[cC,cz U]
  exact(rt.ok _ (cW U)).2
 have aR:=Paired.len G
 have aM:(Y.map V.str)[a]?=some (.str Y[a]):=by rw[cH,cz S];rfl
 refine⟨2,rfl,by decide,by decide,?_⟩
 refine sf (n:=2) (λi σ H4=>Same H3 H4/\∃k f,σ=[some (.ref s0),some (.ref pl),some (.ref tl),some (.ref w),some (.int a),some (.str I),some (.ref ra),some (.ref l),k,f]) ⟨Same.refl _,_,_,rfl⟩ (λi σ H4 hi hP=>?_) (λσ H4 hP=>?_)
 ·obtain⟨X,k,f,rfl⟩:=hP
  have af:=aa.trans X
  have av:=hb.mono af
  obtain⟨dx,pp,pt,op,ot,h1,h2,h3,h4,h5,h6⟩:=av.ex
  refine⟨_,rfl,s0,dx,_,rfl,h1,rfl,_,rfl,_,rfl,pl,_,_,_,rfl,rfl,af.seq aw,si aM,_,rfl,?_⟩
  refine⟨s0,d,Y,g,R,Y[a],I,rfl,av,dg aB (by decide),an,(λz=>absurd (cW S) z),(λ_ ⟨y,B,e⟩=>absurd e (hall y B)),λ_ _=>⟨W,hT.mono af,hW,(λn1 n2=>by rcases D with z|z;exact absurd z n1;exact absurd z n2),λZ' T' l' xs H5 ax S5 aO aj hx=>?_⟩⟩
  obtain⟨rfl,rfl⟩:=am.uniq ax
  rw[yR rp.nd S,<-ad,<-ez]at hx
  have aU:=Paired.len hx
  have aD:=(X.trans S5) _ _ au
  have aJ:=Paired.mapP G λ_ _ (h:IsShr K H3 _ _ _)=>h.mono (X.trans S5)
  refine⟨_,rfl,_,rfl,_,_,_,rfl,.lst (SqL.of aj) (Reps.of_shr hx) (by omega),.lst (SqL.of aD) (Reps.of_shr aJ) (by omega),Da aP,_,rfl,Er ?_⟩
  refine⟨_,rfl,.inl ⟨rfl,_,SqL.of aj⟩,l',_,rfl,rfl,aj,?_⟩
  exact⟨X.trans (S5.over aO _),_,_,rfl⟩
 ·obtain⟨X,k,f,rfl⟩:=hP
  exact q H4 (aa.trans X)
theorem EV:Eb ["_law_book","_law_people","_law_things","_law_wishes","_law_way","_law_number","_law_deal","_law_due","_law_k","_law_found"] ["_law_book","_law_people","_law_things","_law_wishes","_law_way","_law_number"] (D8 (Ec 63)):=⟨rfl,rfl,rfl,by decide +kernel,rfl,by decide +kernel,by decide +kernel⟩
theorem Ge(M:Md K mg x cB)
  (G_law_table_by:Dn P w K mg base Ei 8 "_law_table_by" ["_law_way","_law_wishes"] (Ho K))
  (Glots_of:Dn P w K mg base Ei 8 "lots_of" ["table"] (GH K))
  (Gpicked:Dn P w K mg base (FD P w) 4 "picked" ["lots","number"] (GB K x))
  (GBook_deal:Mn P w K mg base (FD P w) 9 cB "deal" ["self","way","number"] (Ia K cB x))
  (G_law_same:Dn P w K mg base Ei 4 "_law_same" ["_law_found","_law_due"] (Hu K 3)):Dn P w K mg base Ei 10 "_law_deal_well" ["_law_book","_law_people","_law_things","_law_wishes","_law_way","_law_number"] (Hg K cB):=by
 have nd:=(EV).nd
 refine M.f__law_deal_well.ok EV (λvs H Q E h=>?_) (λ_ _ _ _ _ _ us hl=>match us,hl with|[_,_,_,_,_,_],_=>rfl) (λf aX A aV s H vs Q E r h=>?_)
 ·obtain⟨s0,d,w,pl,tl,g,b,o,m,L,aa,rfl,av,rp,rt,au,al,aq,C,hg,af,ac,ai,q⟩:=h
  rfl
 obtain⟨s0,d,w,pl,tl,g,b,o,m,L,aa,rfl,av,rp,rt,au,al,aq,C,hg,af,ac,ai,q⟩:=h
 refine⟨_,(rn (rG (i:=6) nd rfl (Or.inr rfl) (rS Gpicked r (by decide) rfl FJ (mM (rS Glots_of r (by decide) rfl Ed (mM (rS G_law_table_by r (by decide) rfl Ed (mM (pv 4) (mM (pv 3) rq))) rq)) (mM (pv 5) rq))))
   (rn (sB (i:=7) nd rfl rfl rfl rfl (N:=["_law_k","_law_people","_law_things","_law_deal"]) (caps:=[none,some 1,some 2,some 6]) (CompOk.of (by kernel_rfl)) (rW rfl) (rX rfl M.b_range (mM (rJ rP rfl M.b_len dD (mM (pv 1) rq)) rq)) (λ_ _ _ _=>(rK (i:=0) (show(["_law_k","_law_people","_law_things","_law_deal"]:List Str).Nodup by decide +kernel) rfl (Or.inl rfl) (Or.inr rfl))) (λ_ _ _ _=>sj) (λ_ _ _ _=>(sF (mM (rN (sU (K:=K) rfl) (pv 1) (pv 0) (λ_ _=>rfl)) (mM (rN (sU (K:=K) rfl) (pv 2) (rN (tY (K:=K) rfl) (pv 3) (pv 0) (λ_ _=>rfl)) (λ_ _=>rfl)) rq)))))
   (rn (sN dA rfl (rX rfl M.b_range (mM rE rq)) (rK (i:=8) nd rfl (Or.inl rfl)) (rn (rG (i:=9) nd rfl (Or.inl rfl) (vi (pl:=_) (pv 0) M.cl GBook_deal r (by decide) FJ (mM (pv 4) (mM (pv 5) rq))))
   (rn (sv (tE (sQ (rS G_law_same r (by decide) rfl Ed (mM (pv 9) (mM (pv 7) rq))))) (rD (rM ug)) rV)
   (rD (sR (xR dI jn jo wC (pv 9)))))))
   (rD (rM ug))))),?_⟩
 try dsimp -proj only[nox_K,hold_K,cxOf_K]
 have ah:(2:Nat)<=sizeLine:=by decide
 obtain⟨us,W,R,hb,hw,hu,hT,hW,hall,a2⟩:=av.all rp
 have ap:=rp.hi
 refine⟨_,rfl,_,rfl,w,us,W,b.length,L,rfl,C,SqL.of hw,hu,hW,λZ T q1 aQ H1 ab S1 a0 aJ hZ=>?_⟩
 have ae:=ab.tb hW
 refine⟨q1,aQ,Z,T,b.length,rfl,SqL.of aJ,hZ,ae,λk pL ls H2 G S2 a1 hL aI=>?_⟩
 have aw:=S1.trans S2
 have aP:=A0 ae (ab.le hW) G
 refine⟨_,rfl,pL,g,ls,_,T,b.length,aa,rfl,SqL.of hL,aI,aP,hg.mono aw,af,ac,(λr=>absurd r ai),λ_ i v H3 B S3 aG=>?_⟩
 obtain⟨va,rfl,ag⟩:=aG
 have ax:i<k:=by
  have:=B.lt
  unfold HM.lotsL at this
  rwa[cx,fb]at this
 have ed:(HM.lotsL Z T k).getD i (0,[])=HM.lotAt Z T i:=by
  unfold HM.lotsL
  rw[cC,cH,d9 ax]
  rfl
 have O:=(Br ae G ax).1
 rw[ed]at ag
 obtain⟨c,ao⟩:∃c,c=(HM.lotAt Z T i).2:=⟨_,rfl⟩
 rw[<-ao]at ag O
 have aM:=O.len
 have Y:=aw.trans S3
 have aL:(Ee o c).length=b.length:=by unfold Ee;rw[cx,aM]
 have aH:(b.zip (Ee o c)).length=b.length:=by rw[oG,aL,Nat.min_self]
 refine⟨_,rfl,pl,_,rfl,.inl (Y.seq al),(b.length:Int),by rw[cx],Cm _,CC (dg ap (by decide)),?_⟩
 refine sK (n:=b.length) (λj p D=>Same H3 D/\dr (JT K D) p ((b.zip (Ee o c)).take j)) ⟨Same.refl _,.nil⟩ (λj p D hj I=>?_) (λp D I l hl=>?_)
 ·obtain⟨S4,u⟩:=I
  have am:j<c.length:=by omega
  have aD:=O.mem.mp (cW am)
  have aS:(c[j]).toNat<o.length:=by omega
  have aF:(o.map V.str)[(c[j]).toNat]?=some (.str (o.getD (c[j]).toNat ea)):=by rw[cH,cC,cz aS];rfl
  have aR:(b.map V.str)[j]?=some (.str b[j]):=by rw[cH,cz hj];rfl
  have aE:(c.map V.int)[j]?=some (.int c[j]):=by rw[cH,cz am];rfl
  have aO:=Paired.len u
  rw[cV]at aO
  have az:=Y.trans S4
  have aK:(b.zip (Ee o c))[j]?=some (b[j],o.getD (c[j]).toNat ea):=by
   rw[i4]
   refine⟨cz hj,?_⟩
   unfold Ee
   rw[cH,cz am]
   rfl
  refine⟨_,rfl,_,rfl,pl,_,_,_,rfl,rfl,az.seq al,by rw[d3];exact si aR,_,rfl,_,rfl,_,rfl,va,_,_,_,rfl,rfl,S4.tup ag,by rw[d3];exact si aE,tl,_,_,_,rfl,rfl,az.seq aq,sE aD.1 aF,ah,λtp aC=>?_⟩
  have X:=rr aC (.tup [.str b[j],.str (o.getD (c[j]).toNat ea)])
  refine⟨D9 (by omega),S4.trans X,?_⟩
  rw[cY,aK]
  exact Paired.app (Paired.mapP u λ_ _ ⟨a,e,h⟩=>⟨a,e,X.tup h⟩) (.cons ⟨tp,rfl,SqT.of rC⟩ .nil)
 obtain⟨S4,u⟩:=I
 rw[<-aH,dj]at u
 have X:=rr hl (.lst p)
 have ay:upd D l (.lst p) l=some (.lst p):=rC
 have J:dr (JT K (upd D l (.lst p))) p (b.zip (Ee o c)):=Paired.mapP u λ_ _ ⟨a,e,h⟩=>⟨a,e,X.tup h⟩
 have ad:=Y.trans (S4.trans X)
 generalize upd D l (.lst p)=H5 at X ay J ad ⊢
 have aU:∀x∈b.zip (Ee o c),GS x.1/\GS x.2:=λx hx=>by
  obtain⟨x1,x2⟩:=x
  have hm:=jS hx
  exact⟨(rp.ok _ hm.1).2,(rt.ok _ (v6 (λt ht=>by have:=O.mem.mp ht;omega) _ hm.2)).2⟩
 have aW:=Paired.len J
 refine⟨2,rfl,by decide,by decide,?_⟩
 refine sf (n:=2) (λi σ H6=>Same H5 H6/\∃k f,σ=[some (.ref s0),some (.ref pl),some (.ref tl),some (.ref w),some (.str L),some (.ref g),some (.ref va),some (.ref l),k,f]) ⟨Same.refl _,_,_,rfl⟩ (λi0 σ H6 aY I=>?_) (λσ H6 I=>?_)
 ·obtain⟨S,k0,f,rfl⟩:=I
  have aj:=ad.trans S
  have ar:=hb.mono aj
  obtain⟨dx,pp,pt,op,ot,h1,h2,h3,h4,h5,h6⟩:=ar.ex
  refine⟨_,rfl,s0,dx,_,rfl,h1,rfl,_,rfl,_,rfl,?_⟩
  refine⟨s0,d,g,b,o,R,L,aa,rfl,ar,dg ap (by decide),au,hg.mono aj,af,ac,(λ⟨y,hy,e⟩=>absurd e (hall y hy)),λ_=>⟨W,hT.mono aj,hW,(λn1 n2=>by rcases C with z|z;exact absurd z n1;exact absurd z n2),(λ_ r=>absurd r ai),λ_ Z' T' k' i' l' xs H7 aA an U S7 aT ak hx=>?_⟩⟩
  obtain⟨rfl,rfl⟩:=ab.uniq aA
  cases G.uniq an
  cases B.uniq U
  rw[ed,<-ao]at hx
  have aZ:=Paired.len hx
  have aB:=(S.trans S7) _ _ ay
  have aN:dr (JT K H7) p (b.zip (Ee o c)):=Paired.mapP J λ_ _ ⟨a,e,h⟩=>⟨a,e,(S.trans S7).tup h⟩
  refine⟨_,rfl,_,rfl,_,_,_,rfl,.lst (SqL.of ak) (Reps.of_pw hx) (by omega),.lst (SqL.of aB) (Reps.of_pw aN) (by omega),Dv aU,_,rfl,Er ?_⟩
  refine⟨_,rfl,.inl ⟨rfl,_,SqL.of ak⟩,l',_,rfl,rfl,ak,?_⟩
  exact⟨S.trans (S7.over aT _),_,_,rfl⟩
 ·obtain⟨S,k0,f,rfl⟩:=I
  exact q H6 (ad.trans S)
theorem F5:Eb ["_law_book","_law_people","_law_things","_law_wishes","_law_place","_law_number"] ["_law_book","_law_people","_law_things","_law_wishes","_law_place","_law_number"] (D8 (Ec 64)):=⟨rfl,rfl,rfl,by decide +kernel,rfl,by decide +kernel,by decide +kernel⟩
theorem Ib(M:Md K mg x cB)
  (G_law_perm:Dn P w K mg base Ei 1 "_law_perm" ["_law_number","_law_count"] (IM))
  (GBook_wish:Mn P w K mg base (FD P w) 2 cB "wish" ["self","person","text"] (IN K cB x)):Dn P w K mg base Ei 3 "_law_wish" ["_law_book","_law_people","_law_things","_law_wishes","_law_place","_law_number"] (GQ K cB):=by
 have nd:=(F5).nd
 refine M.f__law_wish.ok F5 (λvs H Q E h=>?_) (λ_ _ _ _ _ _ g hl=>match g,hl with|[_,_,_,_,_,_],_=>rfl) (λf aB A aw s H vs Q E hr h=>?_)
 ·obtain⟨s0,d,w,pl,tl,e,b,qq,m,a,num,rfl,S,ag,rp,G,L,Z,ae,n1,n2,v,q⟩:=h
  rfl
 obtain⟨s0,d,w,pl,tl,e,b,qq,m,a,num,rfl,S,ag,rp,G,L,Z,ae,n1,n2,v,q⟩:=h
 refine⟨_,(rn (wj (sd sG rfl M.b_tuple Boot.«tuple» (mM (rS G_law_perm hr (by decide) rfl Ed (mM (pv 5) (mM (rJ rP rfl M.b_len dD (mM (pv 1) rq)) rq))) rq)) (vY (pv 3) (pv 4) wy))
   (rD (rM (vi (pl:=_) (pv 0) M.cl GBook_wish hr (by decide) FJ (mM (rN rL (pv 1) (pv 4) (λ_ _=>rfl)) (mM (uI gF jF jG x9 sD (mM (su rfl (N:=["_law_thing","_law_things"]) (caps:=[none,some 2]) (CompOk.of (by kernel_rfl)) (rW rfl) (uG (rN rL (pv 3) (pv 4) (λ_ _=>rfl))) (λ_ _ _ _=>(rK (i:=0) (show(["_law_thing","_law_things"]:List Str).Nodup by decide +kernel) rfl (Or.inl rfl) (Or.inr rfl))) (λ_ _ _ _=>sj) (λ_ _ _ _=>(rN (sU (K:=K) rfl) (pv 1) (pv 0) (λ_ _=>rfl)))) rq)) rq)))))),?_⟩
 try dsimp -proj only[nox_K,hold_K,cxOf_K]
 obtain⟨g,W,R,hb,hw,hu,ar,ai,hq⟩:=S.ex
 have aG:=rp.lo
 have aE:=rp.hi
 have aD:=Paired.len hu
 obtain⟨aC,av⟩:=S.dk
 refine⟨_,rfl,_,rfl,pl,_,rfl,.inl (SqL.of Z),num,e.length,by rw[cx];rfl,by omega,λp1 H1 S1 az aj=>?_⟩
 refine⟨p1,_,rfl,.inl ⟨SqL.of aj,λc ad=>?_⟩⟩
 have B:LN.Pm e.length (LM.perm num e.length):=Db num e.length
 have T1:=rr ad (.tup ((LM.perm num e.length).map V.int))
 have O:upd H1 c (.tup ((LM.perm num e.length).map V.int)) c=some (.tup ((LM.perm num e.length).map V.int)):=rC
 have C:=S1.trans T1
 have ay:H c=none:=S1.free ad
 generalize upd H1 c (.tup ((LM.perm num e.length).map V.int))=p at C O ⊢
 have X:=C _ _ hw
 have ak:Jn g.length (a:Int)=some a:=by
  unfold Jn
  rw[if_pos (by omega),if_pos (by omega)]
  exact congrArg some (by omega)
 refine⟨_,rfl,_,rfl,w,_,_,_,rfl,rfl,X,ak,?_⟩
 have U3:SameBut2 d w H (upd p w (.lst (g.set a (.ref c)))):=(SameBut2.of C).trans (SameBut2.of2 SameBut1.upd)
 have u:upd p w (.lst (g.set a (.ref c))) w=some (.lst (g.set a (.ref c))):=rC
 have Y:BookAt cB (upd p w (.lst (g.set a (.ref c)))) s0 d e b R:=(hb.mono C).overL X
 have k:upd p w (.lst (g.set a (.ref c))) c=some (.tup ((LM.perm num e.length).map V.int)):=by rw[rH (sI O X (λz=>nomatch z))];exact O
 have J:upd p w (.lst (g.set a (.ref c))) pl=some (.lst (e.map V.str)):=by rw[rH n1];exact C _ _ Z
 have U:upd p w (.lst (g.set a (.ref c))) tl=some (.lst (b.map V.str)):=by rw[rH n2];exact C _ _ ae
 generalize upd p w (.lst (g.set a (.ref c)))=H3 at U3 u Y k J U ⊢
 obtain⟨dx,pp,pt,op,ot,h1,h2,h3,h4,h5,h6⟩:=Y.ex
 have au:(e.map V.str)[a]?=some (.str e[a]):=by rw[cH,cz v];rfl
 have ap:(g.set a (.ref c))[a]?=some (.ref c):=by rw[jx,if_pos rfl,if_pos (by omega)]
 rw[<-L]at k B
 have ac:=wO (num:=num) G
 obtain⟨ok,aA,aF⟩:=wP (num:=num) G
 refine⟨_,rfl,s0,dx,_,rfl,h1,rfl,_,rfl,_,rfl,pl,_,_,_,rfl,rfl,SqL.of J,si au,rfl,_,rfl,_,rfl,w,_,_,_,rfl,rfl,SqL.of u,si ap,c,rfl,⟨_,SqT.of k⟩,?_⟩
 refine vJ (xs:=(LM.perm num b.length).map V.int) (λj ys D=>D=H3/\ys=(Ee b ((LM.perm num b.length).take j)).map V.str) ⟨rfl,rfl⟩ (λj ys D _ T=>by rw[T.1];exact SqT.of k) (λj y ys D I T=>?_) (λys D T l hl=>?_)
 ·obtain⟨rfl,rfl⟩:=T
  rw[cH]at I
  cases n:(LM.perm num b.length)[j]? with
  | none=>rw[n]at I;cases I
  | some t=>
   rw[n]at I
   have aq:V.int t=y:=Option.some.inj I
   subst aq
   have ab:=x8 t (da n)
   have hj:=(cL.mp n).1
   rw[LM.perm_len]at hj
   have am:(b.map V.str)[t.toNat]?=some (.str (b.getD t.toNat ea)):=by rw[cH,cC,cz ab.2];rfl
   refine⟨_,rfl,_,rfl,tl,_,t,_,rfl,rfl,SqL.of U,sE ab.1 am,D9 (by unfold Ee;rw[cx,cx,cV];omega),rfl,?_⟩
   unfold Ee
   rw[cY,n,cS,cS]
   rfl
 obtain⟨rfl,rfl⟩:=T
 rw[cx,dj]
 have o:=rr hl (.lst ((Ee b (LM.perm num b.length)).map V.str))
 have af:upd D l (.lst ((Ee b (LM.perm num b.length)).map V.str)) l=some (.lst ((Ee b (LM.perm num b.length)).map V.str)):=rC
 generalize upd D l (.lst ((Ee b (LM.perm num b.length)).map V.str))=H5 at o af ⊢
 have aa:(L2.wordsOf (fh " " (Ee b (LM.perm num b.length)))).Perm b:=by rw[ac];exact xT B
 refine⟨_,l,_,rfl,rfl,SqL.of af,by decide,ok.sumk,?_⟩
 refine⟨s0,d,e,b,R,e[a],fh " " (Ee b (LM.perm num b.length)),rfl,Y.mono o,dg G.hi (by decide),(λw hw=>(G.ok w hw).2),ok.out.1,ok.out.2.1,ok.out.2.2,eQ ai (lA ag (by decide)),(λz=>absurd (cW v) z),(λ_ z=>absurd aa z),λ_ _ r H6 U6 ax ah an=>?_⟩
 rw[ac,xQ G B]at ah
 have al:=o _ _ h6
 have ao:w≠d:=sI u h6 (λz=>nomatch z)
 refine q H6 ((U3.trans (SameBut2.of o)).trans (SameBut2.of1 U6)) (Bk52.put rp av hw hu ar ai hq ((U3.trans (SameBut2.of o)).trans (SameBut2.of1 U6)) (cz v) an (U6 _ _ ao (o _ _ u)) ⟨r,rfl,SqT.of ah⟩ ⟨c,rfl,SqT.of (U6 _ _ (sI (o _ _ k) al (λz=>nomatch z)) (o _ _ k))⟩ (L▸B))
theorem Fh:Eb ["_law_book","_law_people","_law_things","_law_xs","_law_words_here","_law_refused_here"] ["_law_book","_law_people","_law_things","_law_xs"] (D8 (Ec 65)):=⟨rfl,rfl,rfl,by decide +kernel,rfl,by decide +kernel,by decide +kernel⟩
theorem GI(M:Md K mg x cB)
  (G_law_perm:Dn P w K mg base Ei 1 "_law_perm" ["_law_number","_law_count"] (IM))
  (GBook_wish:Mn P w K mg base (FD P w) 2 cB "wish" ["self","person","text"] (IN K cB x)):Dn P w K mg base Ei 3 "_law_refused" ["_law_book","_law_people","_law_things","_law_xs"] (Gk K cB):=by
 have nd:=(Fh).nd
 refine M.f__law_refused.ok Fh (λvs H Q E h=>?_) (λ_ _ _ _ _ _ us hl=>match us,hl with|[_,_,_,_],_=>rfl) (λf aA A az s H vs Q E hr h=>?_)
 ·obtain⟨s0,d,w,pl,tl,I,p,a,qq,m,xs,rfl,ak,aj,rp,C,ai,v,ab,r,X,q⟩:=h
  rfl
 obtain⟨s0,d,w,pl,tl,I,p,a,qq,m,xs,rfl,ak,aj,rp,C,ai,v,ab,r,X,q⟩:=h
 refine⟨_,(rn (sB (i:=4) nd rfl rfl rfl rfl (N:=["_law_thing","_law_things"]) (caps:=[none,some 2]) (CompOk.of (by kernel_rfl)) (rW rfl) (sS (rS G_law_perm hr (by decide) rfl Ed (mM (rN rL (pv 3) rE (λ_ _=>rfl)) (mM (rJ rP rfl M.b_len dD (mM (pv 1) rq)) rq)))) (λ_ _ _ _=>(rK (i:=0) (show(["_law_thing","_law_things"]:List Str).Nodup by decide +kernel) rfl (Or.inl rfl) (Or.inr rfl))) (λ_ _ _ _=>sj) (λ_ _ _ _=>(rN (sU (K:=K) rfl) (pv 1) (pv 0) (λ_ _=>rfl))))
   (rn (sv (rR tO (rO rZ (rN rL (pv 3) rE (λ_ _=>rfl)) rE) rE (Ef _)) (rD (wj (rO ue (uI gF jF jG x9 sD (mM (pv 2) rq)) sD) (vY (pv 4) (rO rZ (rO tF (rN rL (pv 3) rE (λ_ _=>rfl)) rE) (rJ rP rfl M.b_len dD (mM (pv 4) rq))) wy))) (rD (sv (rR tO (rO rZ (rN rL (pv 3) rE (λ_ _=>rfl)) rE) rE (Ef _)) (rD (sR (uI dI fT fU tJ (pv 4) (mM (rN rL (pv 4) rE (λ_ _=>rfl)) rq)))) (rD (sR (xR dI PySem.F.slot_list_pop PySem.F.type_list_pop DC (pv 4)))))))
   (rn (rG (i:=5) nd rfl (Or.inl rfl) ug)
   (rn (CP rfl rfl M.x_NoWishes rfl (C5 (DI (pl:=_) (pv 0) M.cl GBook_wish hr (by decide) (mM (rN rL (pv 1) (rO rZ (rN rL (pv 3) rE (λ_ _=>rfl)) (rJ rP rfl M.b_len dD (mM (pv 1) rq))) (λ_ _=>rfl)) (mM (uI gF jF jG x9 sD (mM (pv 4) rq)) rq)))) (λ_=>(rD (rG (i:=5) nd rfl (Or.inl rfl) ug))))
   (rD (rM (pv 5))))))),?_⟩
 try dsimp -proj only[nox_K,hold_K,cxOf_K]
 obtain⟨us,W,R,hb,hw,hu,aC,ay,hq⟩:=ak.ex
 obtain⟨dx,pp,pt,op,ot,h1,h2,h3,h4,h5,h6⟩:=hb.ex
 have ax:=rp.lo
 have aB:=rp.hi
 have at0:=vP (ns:=xs) (i:=0) (X.symm▸by decide)
 have ap:=vP (ns:=xs) (i:=3) (X.symm▸by decide)
 have ae:=vP (ns:=xs) (i:=4) (X.symm▸by decide)
 have T:(0:Int)<((p.map V.str).length:Int):=by rw[cx];exact Int.natCast_pos.mpr ax
 have aa:a.length<=60:=dg C.hi (by decide)
 have ac:R.length<1000:=eQ ay (lA aj (by decide))
 refine⟨_,rfl,I,_,_,_,rfl,rfl,r,ap,_,rfl,pl,_,rfl,.inl v,xs.getD 3 0,a.length,by rw[cx,ai];rfl,by omega,λp0 H1 S1 aD U=>?_⟩
 generalize xs.getD 3 0=num at U
 obtain⟨S,an,Y⟩:=wP (num:=num) C
 have am:=S1.seq ab
 refine⟨p0,rfl,⟨_,SqL.of U⟩,?_⟩
 refine sP (xs:=(LM.perm num a.length).map V.int) (λj ys J=>J=H1/\ys=(Ee a ((LM.perm num a.length).take j)).map V.str) ⟨rfl,rfl⟩ (λj ys J _ hP=>by rw[hP.1];exact SqL.of U) (λj y ys J hy hP=>?_) (λys J hP l hl=>?_)
 ·obtain⟨rfl,rfl⟩:=hP
  rw[cH]at hy
  cases D:(LM.perm num a.length)[j]? with
  | none=>rw[D]at hy;cases hy
  | some t=>
   rw[D]at hy
   have aw:V.int t=y:=Option.some.inj hy
   subst aw
   have ah:=x8 t (da D)
   have hj:=(cL.mp D).1
   rw[LM.perm_len]at hj
   have ar:(a.map V.str)[t.toNat]?=some (.str (a.getD t.toNat ea)):=by rw[cH,cC,cz ah.2];rfl
   refine⟨_,rfl,_,rfl,tl,_,t,_,rfl,rfl,am,sE ah.1 ar,D9 (by unfold Ee;rw[cx,cx,cV];omega),rfl,?_⟩
   unfold Ee
   rw[cY,D,cS,cS]
   rfl
 obtain⟨rfl,rfl⟩:=hP
 rw[cx,dj]
 have S2:Same J (upd J l (.lst ((Ee a (LM.perm num a.length)).map V.str))):=rr hl _
 have o:upd J l (.lst ((Ee a (LM.perm num a.length)).map V.str)) l=some (.lst ((Ee a (LM.perm num a.length)).map V.str)):=rC
 have af:H l=none:=S1.free hl
 generalize upd J l (.lst ((Ee a (LM.perm num a.length)).map V.str))=H3 at S2 o ⊢
 have ao:Ee a (LM.perm num a.length)≠[]:=λz=>by rw[z,jU]at Y;omega
 generalize Ee a (LM.perm num a.length)=b at S an Y o ao
 have O:=S1.trans S2
 have Z:(b.map V.str).length=b.length:=cx ..
 have i0:=dO (xs.getD 0 0) (show(p.length:Int)≠0 by omega)
 have i1:=dC (xs.getD 0 0) (show(0:Int)<p.length by omega)
 have al:(xs.getD 0 0%(p.length:Int)).toNat<p.length:=by omega
 have ad:(p.map V.str)[(xs.getD 0 0%(p.length:Int)).toNat]?=some (.str p[(xs.getD 0 0%(p.length:Int)).toNat]):=by rw[cH,cz al];rfl
 have ag:=cW al
 refine⟨_,rfl,I,_,_,_,rfl,rfl,O.seq r,ae,_,_,rfl,rfl,by show(0:Int)<3;decide,rfl,_,rfl,Ey (λc=>?_) (λc=>?_)⟩
 ·have k0:=dO (xs.getD 4 0/3) (show(b.length:Int)≠0 by omega)
  have k1:=dC (xs.getD 4 0/3) (show(0:Int)<b.length by omega)
  obtain⟨k,hk⟩:∃k:Nat,xs.getD 4 0/3%(b.length:Int)=(k:Int):=⟨(xs.getD 4 0/3%(b.length:Int)).toNat,by omega⟩
  have au:k<b.length:=by omega
  have aq:Jn (b.map V.str).length (k:Int)=some k:=by
   unfold Jn
   rw[Z,if_pos (by omega),if_pos (by omega)]
   exact congrArg some (by omega)
  obtain⟨f1,f2,f3,f4⟩:=Js C
  refine⟨rfl,_,rfl,_,tl,a,rfl,rfl,O.seq ab,by decide,C.sumk,_,_,rfl,rfl,dB (D9 f4),?_⟩
  refine⟨_,rfl,_,rfl,I,_,_,_,rfl,rfl,O.seq r,ae,_,_,rfl,rfl,c9 (by decide) (by decide),_,rfl,l,_,rfl,.inl (SqL.of o),_,_,rfl,rfl,by show(0:Int)<((b.map V.str).length:Int);rw[Z];omega,?_⟩
  dsimp only
  rw[Z,hk]
  refine⟨l,_,_,_,rfl,rfl,o,aq,?_⟩
  have g:=O.over af (.lst ((b.map V.str).set k (.str (fh "" a++"q"))))
  have u:upd H3 l (.lst ((b.map V.str).set k (.str (fh "" a++"q")))) l=some (.lst ((b.set k (fh "" a++"q")).map V.str)):=by rw[rC,qp]
  generalize upd H3 l (.lst ((b.map V.str).set k (.str (fh "" a++"q"))))=H4 at g u ⊢

  have n:=S.gset (k:=k) f2 f3
  have L:=Ak (k:=k) S au f1 f3
  refine⟨_,rfl,s0,dx,_,rfl,g _ _ h1,rfl,_,rfl,_,rfl,I,_,_,_,rfl,rfl,g.seq r,at0,_,rfl,pl,_,rfl,.inl (g.seq v),_,_,rfl,rfl,T,?_⟩
  dsimp only
  rw[cx]
  refine⟨pl,_,_,_,rfl,rfl,g.seq v,sE i0 ad,rfl,_,rfl,_,l,_,rfl,rfl,SqL.of u,by decide,n.sumk,?_⟩
  refine⟨s0,d,p,a,R,_,_,rfl,hb.mono g,aa,(λw hw=>(C.ok w hw).2),n.out.1,n.out.2.1,n.out.2.2,ac,(λz=>absurd ag z),(λ_ _ H5 S5=>⟨x.NoWishes,rfl,M.e_NoWishes,λe he=>⟨_,rfl,q _ (g.trans (S5.trans (rr he _)))⟩⟩),(λ_ z=>absurd z L)⟩

 refine⟨_,rfl,I,_,_,_,rfl,rfl,O.seq r,ae,_,_,rfl,rfl,by show(0:Int)<3;decide,rfl,_,rfl,Ey (λc2=>?_) (λc2=>?_)⟩
 ·obtain⟨B,G⟩:∃B,b[0]?=some B:=⟨_,cz (show 0<b.length by omega)⟩
  have av:(b.map V.str)[0]?=some (.str B):=by rw[cH,G];rfl
  refine⟨_,rfl,.inl ⟨rfl,_,SqL.of o⟩,_,rfl,l,_,_,_,rfl,rfl,SqL.of o,si av,l,_,_,rfl,rfl,o,D9 (by rw[Z];omega),?_⟩
  have g:=O.over af (.lst (b.map V.str++[.str B]))
  have u:upd H3 l (.lst (b.map V.str++[.str B])) l=some (.lst ((b++[B]).map V.str)):=by rw[rC,cS];rfl
  generalize upd H3 l (.lst (b.map V.str++[.str B]))=H4 at g u ⊢

  have n:=S.gapp (da G)
  have L:=AH S (da G) Y
  refine⟨_,rfl,s0,dx,_,rfl,g _ _ h1,rfl,_,rfl,_,rfl,I,_,_,_,rfl,rfl,g.seq r,at0,_,rfl,pl,_,rfl,.inl (g.seq v),_,_,rfl,rfl,T,?_⟩
  dsimp only
  rw[cx]
  refine⟨pl,_,_,_,rfl,rfl,g.seq v,sE i0 ad,rfl,_,rfl,_,l,_,rfl,rfl,SqL.of u,by decide,n.sumk,?_⟩
  refine⟨s0,d,p,a,R,_,_,rfl,hb.mono g,aa,(λw hw=>(C.ok w hw).2),n.out.1,n.out.2.1,n.out.2.2,ac,(λz=>absurd ag z),(λ_ _ H5 S5=>⟨x.NoWishes,rfl,M.e_NoWishes,λe he=>⟨_,rfl,q _ (g.trans (S5.trans (rr he _)))⟩⟩),(λ_ z=>absurd z L)⟩

 ·obtain⟨B,G⟩:∃B,(b.map V.str)[(b.map V.str).length-1]?=some B:=⟨_,cz (show(b.map V.str).length-1<(b.map V.str).length by omega)⟩
  refine⟨_,rfl,.inl ⟨rfl,_,SqL.of o⟩,l,_,_,rfl,rfl,o,G,?_⟩
  have g:=O.over af (.lst (b.map V.str).dropLast)
  have u:upd H3 l (.lst (b.map V.str).dropLast) l=some (.lst (b.dropLast.map V.str)):=by rw[rC,List.map_dropLast]
  generalize upd H3 l (.lst (b.map V.str).dropLast)=H4 at g u ⊢

  have n:=S.gdrop
  have L:=Al S C Y
  refine⟨_,rfl,s0,dx,_,rfl,g _ _ h1,rfl,_,rfl,_,rfl,I,_,_,_,rfl,rfl,g.seq r,at0,_,rfl,pl,_,rfl,.inl (g.seq v),_,_,rfl,rfl,T,?_⟩
  dsimp only
  rw[cx]
  refine⟨pl,_,_,_,rfl,rfl,g.seq v,sE i0 ad,rfl,_,rfl,_,l,_,rfl,rfl,SqL.of u,by decide,n.sumk,?_⟩
  refine⟨s0,d,p,a,R,_,_,rfl,hb.mono g,aa,(λw hw=>(C.ok w hw).2),n.out.1,n.out.2.1,n.out.2.2,ac,(λz=>absurd ag z),(λ_ _ H5 S5=>⟨x.NoWishes,rfl,M.e_NoWishes,λe he=>⟨_,rfl,q _ (g.trans (S5.trans (rr he _)))⟩⟩),(λ_ z=>absurd z L)⟩
theorem F3:Eb ["_law_book","_law_people","_law_things","_law_wishes","_law_xs","_law_place","_law_way","_law_number"] ["_law_book","_law_people","_law_things","_law_wishes","_law_xs"] (D8 (Ec 66)):=⟨rfl,rfl,rfl,by decide +kernel,rfl,by decide +kernel,by decide +kernel⟩
theorem ID(M:Md K mg x cB)
  (G_law_wish:Dn P w K mg base Ei 3 "_law_wish" ["_law_book","_law_people","_law_things","_law_wishes","_law_place","_law_number"] (GQ K cB))
  (G_law_refused:Dn P w K mg base Ei 3 "_law_refused" ["_law_book","_law_people","_law_things","_law_xs"] (Gk K cB))
  (G_law_shares_well:Dn P w K mg base Ei 10 "_law_shares_well" ["_law_book","_law_people","_law_things","_law_wishes","_law_place","_law_way"] (FP K cB))
  (G_law_lowest:Dn P w K mg base Ei 2 "_law_lowest" ["_law_top","_law_bottom"] (Ir))
  (G_law_deal_well:Dn P w K mg base Ei 10 "_law_deal_well" ["_law_book","_law_people","_law_things","_law_wishes","_law_way","_law_number"] (Hg K cB)):Dn P w K mg base Ei 11 "_law_deed" ["_law_book","_law_people","_law_things","_law_wishes","_law_xs"] (Iz K cB):=by
 have nd:=(F3).nd
 refine M.f__law_deed.ok F3 (λvs H Q E h=>?_) (λ_ _ _ _ _ _ us hl=>match us,hl with|[_,_,_,_,_],_=>rfl) (λf ai A ah s H vs Q E O h=>?_)
 ·obtain⟨s0,d,w,B,F,n,p,R,m,a,rfl,y,L,v,S,u,r,t,n1,n2,b,l,ac,q⟩:=h
  rfl
 obtain⟨s0,d,w,B,F,n,p,R,m,a,rfl,y,L,v,S,u,r,t,n1,n2,b,l,ac,q⟩:=h
 refine⟨_,(rn (rG (i:=5) nd rfl (Or.inl rfl) (rO rZ (rN rL (pv 4) rE (λ_ _=>rfl)) (rJ rP rfl M.b_len dD (mM (pv 1) rq))))
   (rn (rG (i:=6) nd rfl (Or.inl rfl) (rN rL (tU (mM sD (mM sD rq))) (sd xh rfl M.b_int Boot.«int» (mM (tG tO (rO rZ (rN rL (pv 4) rE (λ_ _=>rfl)) rE) rE (Ef _)) rq)) (λ_ _=>rfl)))
   (rn (sv (rR tO (rO rZ (rN rL (pv 4) rE (λ_ _=>rfl)) rE) rE (Ef _)) (rD (rM (tG Bs (rS G_law_wish O (by decide) rfl Ed (mM (pv 0) (mM (pv 1) (mM (pv 2) (mM (pv 3) (mM (pv 5) (mM (rN rL (pv 4) rE (λ_ _=>rfl)) rq))))))) v9 (Ef _)))) rV)
   (rn (sv (PW.pt (CA (rR tO (rO rZ (rN rL (pv 4) rE (λ_ _=>rfl)) rE) rE (Ef _)) (zQ (tE (sQ (rS G_law_refused O (by decide) rfl Ed (mM (pv 0) (mM (pv 1) (mM (pv 2) (mM (pv 4) rq)))))))))) (rD (rM ug)) rV)
   (rn (sv (rR Az (rO rZ (rN rL (pv 4) rE (λ_ _=>rfl)) rE) rE (Ef _)) (rD (rM (rS G_law_shares_well O (by decide) rfl Ed (mM (pv 0) (mM (pv 1) (mM (pv 2) (mM (pv 3) (mM (pv 5) (mM (pv 6) rq))))))))) rV)
   (rn (rG (i:=7) nd rfl (Or.inl rfl) (rS G_law_lowest O (by decide) rfl Ed (mM (rO rZ (rN rL (pv 4) rE (λ_ _=>rfl)) (rO sC rE (rO rZ (rN rL (pv 4) rE (λ_ _=>rfl)) (rO CB rE rE)))) (mM (rO sC rE (rO rZ (rN rL (pv 4) rE (λ_ _=>rfl)) (rO CB rE rE))) rq))))
   (rD (rM (rS G_law_deal_well O (by decide) rfl Ed (mM (pv 0) (mM (pv 1) (mM (pv 2) (mM (pv 3) (mM (pv 6) (mM (pv 7) rq))))))))))))))),?_⟩
 try dsimp -proj only[nox_K,hold_K,cxOf_K]
 have N:(2:Nat)<=sizeLine:=by decide
 have ak:=v.lo
 have aj:=v.hi
 have at0:=vP (ns:=a) (i:=0) (l.symm▸by decide)
 have ag:=vP (ns:=a) (i:=1) (l.symm▸by decide)
 have G:=vP (ns:=a) (i:=2) (l.symm▸by decide)
 have ab:=vP (ns:=a) (i:=3) (l.symm▸by decide)
 have af:=vP (ns:=a) (i:=4) (l.symm▸by decide)
 have W:=vP (ns:=a) (i:=5) (l.symm▸by decide)
 have i0:=dO (a.getD 0 0) (show(p.length:Int)≠0 by omega)
 have i1:=dC (a.getD 0 0) (show(0:Int)<p.length by omega)
 obtain⟨e,aa⟩:∃e:Nat,a.getD 0 0%(p.length:Int)=(e:Int):=⟨(a.getD 0 0%(p.length:Int)).toNat,by omega⟩
 have Y:e<p.length:=by omega
 refine⟨_,rfl,n,_,_,_,rfl,rfl,b,at0,_,rfl,B,_,rfl,.inl (SqL.of r),_,_,rfl,rfl,by show(0:Int)<((p.map V.str).length:Int);rw[cx];omega,?_⟩
 dsimp only
 rw[cx,aa]
 refine⟨N,λT ad=>?_⟩
 have j:=rr ad (.lst [V.str "eaten",V.str "turns"])
 have J:upd H T (.lst [V.str "eaten",V.str "turns"]) T=some (.lst [V.str "eaten",V.str "turns"]):=rC
 generalize upd H T (.lst [V.str "eaten",V.str "turns"])=H1 at j J ⊢
 obtain⟨U,X,ae⟩:=Lr (decide (V.int (a.getD 1 0%5)=V.int 1))
 refine⟨_,rfl,n,_,_,_,rfl,rfl,j.seq b,ag,_,_,rfl,rfl,by show(0:Int)<5;decide,rfl,.inr ⟨_,rfl,T,_,_,_,rfl,rfl,SqL.of J,ae,?_⟩⟩
 have p4:(0:Int)<4:=by decide
 refine⟨_,rfl,n,_,_,_,rfl,rfl,j.seq b,G,_,_,rfl,rfl,p4,rfl,_,rfl,Ey (λc=>?_) (λc=>?_)⟩
 ·refine⟨_,rfl,_,rfl,_,rfl,_,rfl,_,rfl,_,rfl,n,_,_,_,rfl,rfl,j.seq b,ab,?_⟩
  refine⟨s0,d,w,B,F,p,R,_,m,e,_,rfl,y.mono j,L,v,S,u,j _ _ r,j _ _ t,n1,n2,Y,λC U2 k=>⟨rfl,?_⟩⟩
  exact q C ((SameBut2.of j).trans U2) (k.imp (λi _ _=> .inl trivial) (cI _))
 refine⟨_,rfl,n,_,_,_,rfl,rfl,j.seq b,G,_,_,rfl,rfl,p4,rfl,_,rfl,?_⟩
 show if decide (V.int (a.getD 2 0%4)=V.int 1)=true then _ else _
 apply LG (λC=>Same H1 C) H1 (Same.refl _)
 case hA=>
  intro hG
  refine⟨_,rfl,_,rfl,_,rfl,_,rfl,?_⟩
  exact⟨s0,d,w,B,F,n,p,R,_,m,a,rfl,y.mono j,L,v,S,u,j.seq (SqL.of r),j.seq (SqL.of t),j.seq b,l,λC Z=>⟨_,rfl,Er (hG C Z)⟩⟩
 intro C Z
 have o:=j.trans Z
 have k:=y.mono o
 refine⟨_,rfl,n,_,_,_,rfl,rfl,o.seq b,G,_,_,rfl,rfl,p4,_,_,rfl,rfl,_,rfl,Ey (λc3=>?_) (λc3=>?_)⟩
 ·refine⟨_,rfl,_,rfl,_,rfl,_,rfl,_,rfl,_,rfl,?_⟩
  exact⟨s0,d,w,B,F,p,R,m,e,U,rfl,k,v,S,u,o.seq (SqL.of r),o.seq (SqL.of t),Y,X,λH3 z=>q H3 (SameBut2.of (o.trans z)) ((k.mono z).imp (λi _ h=>h) (ec m))⟩
 have e6:(10:Int)^(6:Int).toNat=1000000:=by decide
 have b0:=dO (a.getD 5 0) (show(1000000:Int)≠0 by decide)
 have b1:=dC (a.getD 5 0) (show(0:Int)<1000000 by decide)
 have cp:LB 10 6:=⟨by decide,by decide,by decide⟩
 have t0:=dO (a.getD 4 0) (show(1+a.getD 5 0%1000000:Int)≠0 by omega)
 have t1:=dC (a.getD 4 0) (show(0:Int)<1+a.getD 5 0%1000000 by omega)
 have I:=o.seq b
 refine⟨_,rfl,n,_,_,_,rfl,rfl,I,af,_,rfl,n,_,_,_,rfl,rfl,I,W,_,_,rfl,rfl,cp,_,_,rfl,rfl,by show(0:Int)<10^(6:Int).toNat;decide,_,_,rfl,rfl,_,_,rfl,rfl,by show(0:Int)<1+a.getD 5 0%10^(6:Int).toNat;rw[e6];omega,?_⟩
 refine⟨_,rfl,n,_,_,_,rfl,rfl,I,W,_,_,rfl,rfl,cp,_,_,rfl,rfl,by show(0:Int)<10^(6:Int).toNat;decide,_,_,rfl,rfl,?_⟩
 dsimp only
 rw[e6]
 obtain⟨z1,z2,z3⟩:=K9 t0 t1 (by omega)
 refine⟨_,_,rfl,by omega,cU (show _<2^20 by omega) (eB (by decide) (by decide)),λg H3 z hg=>?_⟩
 have D:=o.trans z
 refine⟨_,rfl,_,rfl,_,rfl,_,rfl,_,rfl,_,rfl,?_⟩
 exact⟨s0,d,w,B,F,g,p,R,m,U,_,rfl,k.mono z,v,S,u,D.seq (SqL.of r),D.seq (SqL.of t),X,⟨g,rfl,SqT.of hg⟩,z1,z2,z3,λH4 S4=>q H4 (SameBut2.of (D.trans S4)) ((k.mono (z.trans S4)).imp (λi _ h=>h) (ec m))⟩
theorem Jx:Eb ["_law_script","_law_count","_law_rolls","_law_handed","_law_books","_law_told","_law_j","_law_k","_law_xs","_law_cell","_law_way"] ["_law_script"] (D8 (Ec 67)):=⟨rfl,rfl,rfl,by decide +kernel,rfl,by decide +kernel,by decide +kernel⟩
theorem LA{fl:cG}{fdl:FuncData}(Fl:Fun K "law" "law" (Ec 67) fl fdl)(M:Md K mg x cB)
  (G_law_cell_at:Dn P w K mg base Ei 1 "_law_cell_at" ["_law_script","_law_k"] (IS K))
  (G_law_words:Dn P w K mg base Ei 2 "_law_words" ["_law_script","_law_at","_law_many"] (Hf K))
  (GBook___init__:Bn P w K mg base (FD P w) 4 cB "Book" ["self","people","things"] (Jy K cB x))
  (G_law_mixed:Dn P w K mg base Ei 1 "_law_mixed" ["_law_cell","_law_many"] (Jh))
  (G_law_wish:Dn P w K mg base Ei 3 "_law_wish" ["_law_book","_law_people","_law_things","_law_wishes","_law_place","_law_number"] (GQ K cB))
  (G_law_deed:Dn P w K mg base Ei 11 "_law_deed" ["_law_book","_law_people","_law_things","_law_wishes","_law_xs"] (Iz K cB))
  (G_law_shares_well:Dn P w K mg base Ei 10 "_law_shares_well" ["_law_book","_law_people","_law_things","_law_wishes","_law_place","_law_way"] (FP K cB)):FnOk P w K mg base Ei 12 fl fdl ["_law_script"] (Jj K):=by
 have nd:=(Jx).nd
 refine Fl.ok Jx (λvs H Q E h=>?_) (λcj A ci s H vs Q E hr h=>?_)
 ·obtain⟨a,ns,rfl,hS,cc,q⟩:=h
  rfl
 obtain⟨a,ns,rfl,hS,cc,q⟩:=h
 refine⟨_,(rn (rG (i:=1) nd rfl (Or.inl rfl) (rO sC rE (rO rZ (rS G_law_cell_at hr (by decide) rfl Ed (mM (pv 0) (mM rE rq))) rE)))
   (rn (rG (i:=2) nd rfl (Or.inl rfl) (tU (mM (rS G_law_words hr (by decide) rfl Ed (mM (pv 0) (mM rE (mM (pv 1) rq)))) (mM (rS G_law_words hr (by decide) rfl Ed (mM (pv 0) (mM rE (mM (pv 1) rq)))) rq))))
   (rn (rG (i:=3) nd rfl (Or.inl rfl) (tU (mM (sd sO rfl M.b_list Boot.«list» (mM (rN rL (pv 2) rE (λ_ _=>rfl)) rq)) (mM (sd sO rfl M.b_list Boot.«list» (mM (rN rL (pv 2) rE (λ_ _=>rfl)) rq)) rq))))
   (rn (rG (i:=4) nd rfl (Or.inl rfl) (tU (mM (DW GBook___init__ hr (by decide) rfl FJ (mM (rN rL (pv 3) rE (λ_ _=>rfl)) (mM (rN rL (pv 3) rE (λ_ _=>rfl)) rq))) (mM (DW GBook___init__ hr (by decide) rfl FJ (mM (rN rL (pv 3) rE (λ_ _=>rfl)) (mM (rN rL (pv 3) rE (λ_ _=>rfl)) rq))) rq))))
   (rn (sR (xR dI jn jo wC (rN rL (pv 3) rE (λ_ _=>rfl))))
   (rn (sR (xR dI PySem.F.slot_list_reverse PySem.F.type_list_reverse zf (rN rL (pv 3) rE (λ_ _=>rfl))))
   (rn (rG (i:=5) nd rfl (Or.inl rfl) (tU (mM (su rfl (N:=["_law_k"]) (caps:=[none]) (CompOk.of (by kernel_rfl)) (rW rfl) (rX rfl M.b_range (mM (pv 1) rq)) (λ_ _ _ _=>(rK (i:=0) (show(["_law_k"]:List Str).Nodup by decide +kernel) rfl (Or.inl rfl) (Or.inr rfl))) (λ_ _ _ _=>sj) (λ_ _ _ _=>(sF rq))) (mM (su rfl (N:=["_law_k"]) (caps:=[none]) (CompOk.of (by kernel_rfl)) (rW rfl) (rX rfl M.b_range (mM (pv 1) rq)) (λ_ _ _ _=>(rK (i:=0) (show(["_law_k"]:List Str).Nodup by decide +kernel) rfl (Or.inl rfl) (Or.inr rfl))) (λ_ _ _ _=>sj) (λ_ _ _ _=>(sF rq))) rq))))
   (rn (sN dA rfl (rX rfl M.b_range (mM rE rq)) (rK (i:=6) nd rfl (Or.inl rfl)) (rD (sN dA rfl (rX rfl M.b_range (mM (pv 1) rq)) (rK (i:=7) nd rfl (Or.inl rfl)) (rn (rG (i:=8) nd rfl (Or.inl rfl) (rS G_law_mixed hr (by decide) rfl Ed (mM (rS G_law_cell_at hr (by decide) rfl Ed (mM (pv 0) (mM (rO sC rE (pv 7)) rq))) (mM rE rq))))
   (rD (sv (rR A1 (rS G_law_wish hr (by decide) rfl Ed (mM (rN rL (pv 4) (pv 6) (λ_ _=>rfl)) (mM (rN rL (pv 2) (pv 6) (λ_ _=>rfl)) (mM (rN rL (pv 2) (rO v7 rE (pv 6)) (λ_ _=>rfl)) (mM (rN rL (pv 5) (pv 6) (λ_ _=>rfl)) (mM (pv 7) (mM (rN rL (pv 8) (pv 6) (λ_ _=>rfl)) rq))))))) v9 (Ef _)) (rD (rM ug)) rV))))))
   (rn (sN dA rfl (sS (u9 CQ (pv 0) (uJ rE) (uJ rE))) (rK (i:=9) nd rfl (Or.inl rfl)) (rn (rG (i:=8) nd rfl (Or.inl rfl) (rS G_law_mixed hr (by decide) rfl Ed (mM (pv 9) (mM rE rq))))
   (rn (rG (i:=6) nd rfl (Or.inl rfl) (rO rZ (rN rL (pv 8) rE (λ_ _=>rfl)) rE))
   (rD (sv (tE (sQ (rS G_law_deed hr (by decide) rfl Ed (mM (rN rL (pv 4) (pv 6) (λ_ _=>rfl)) (mM (rN rL (pv 2) (pv 6) (λ_ _=>rfl)) (mM (rN rL (pv 2) (rO v7 rE (pv 6)) (λ_ _=>rfl)) (mM (rN rL (pv 5) (pv 6) (λ_ _=>rfl)) (mM (pv 8) rq)))))))) (rD (rM ug)) rV)))))
   (rn (sN dA rfl (rX rfl M.b_range (mM rE rq)) (rK (i:=6) nd rfl (Or.inl rfl)) (rD (sN dA rfl (rX rfl M.b_range (mM (pv 1) rq)) (rK (i:=7) nd rfl (Or.inl rfl)) (rn (rG (i:=10) nd rfl (Or.inl rfl) (rN rL (tU (mM sD (mM sD rq))) (sd xh rfl M.b_int Boot.«int» (mM (tG tO (pv 7) (rO rZ (rS G_law_cell_at hr (by decide) rfl Ed (mM (pv 0) (mM rE rq))) (pv 1)) (Ef _)) rq)) (λ_ _=>rfl)))
   (rD (sv (tE (sQ (rS G_law_shares_well hr (by decide) rfl Ed (mM (rN rL (pv 4) (pv 6) (λ_ _=>rfl)) (mM (rN rL (pv 2) (pv 6) (λ_ _=>rfl)) (mM (rN rL (pv 2) (rO v7 rE (pv 6)) (λ_ _=>rfl)) (mM (rN rL (pv 5) (pv 6) (λ_ _=>rfl)) (mM (pv 7) (mM (pv 10) rq))))))))) (rD (rM ug)) rV))))))
   (rD (rM ug)))))))))))),?_⟩
 try dsimp -proj only[nox_K,hold_K,cxOf_K]
 have aF:(0:Nat)<=sizeLine:=by decide
 have O:(2:Nat)<=sizeLine:=by decide
 obtain⟨n,hn,bW,bb⟩:∃n:Nat,1+LM.cellAt ns 0%5=(n:Int)/\1<=n/\n<=5:=by
  have h0:=dO (LM.cellAt ns 0) (show(5:Int)≠0 by decide)
  have h1:=dC (LM.cellAt ns 0) (show(0:Int)<5 by decide)
  exact⟨(1+LM.cellAt ns 0%5).toNat,by omega,by omega,by omega⟩
 have n6:n<=6:=dg bb (by decide)
 have z0:=Cm n
 have z1:=CC (dg bb (by decide))
 refine⟨_,rfl,a,ns,0,rfl,hS,fE 0,_,_,rfl,rfl,by show(0:Int)<5;decide,_,_,rfl,rfl,?_⟩
 dsimp only
 rw[hn]
 refine⟨_,rfl,_,rfl,a,ns,1,n,rfl,hS,bW,n6,λC A H1 S1 _ hA rA bw=>?_⟩
 refine⟨_,rfl,_,rfl,a,ns,3,n,rfl,S1.seq hS,bW,n6,λG B H2 S2 _ hB rB bi=>?_⟩
 have bB:A.length<=60:=dg rA.hi (by decide)
 have b2:B.length<=60:=dg rB.hi (by decide)
 have bI:=bw.trans bi.symm
 refine⟨O,λl bc=>?_⟩
 have bj:=S1.trans (S2.trans (rr bc (.lst [.ref C,.ref G])))
 have al:=(S2.trans (rr bc (.lst [.ref C,.ref G]))) _ _ hA
 have ar:=(rr bc (.lst [.ref C,.ref G])) _ _ hB
 have X:upd H2 l (.lst [.ref C,.ref G]) l=some (.lst [.ref C,.ref G]):=rC
 generalize upd H2 l (.lst [.ref C,.ref G])=H3 at bj al ar X ⊢
 have ac:=bj.seq hS
 clear bj S1 S2 bc hA hB hS
 refine⟨_,rfl,l,_,_,_,rfl,rfl,SqL.of X,rfl,C,_,rfl,.inl (SqL.of al),λh0 ao=>?_⟩
 have r:=rr ao (.lst (A.map V.str))
 have av:upd H3 h0 (.lst (A.map V.str)) h0=some (.lst (A.map V.str)):=rC
 have cg:=SqL.free ac ao
 have bD:C≠h0:=rF al ao
 have bV:G≠h0:=rF ar ao
 have b3:l≠h0:=rF X ao
 generalize upd H3 h0 (.lst (A.map V.str))=H4 at r av ⊢
 refine⟨_,rfl,l,_,_,_,rfl,rfl,SqL.of (r _ _ X),rfl,G,_,rfl,.inl (SqL.of (r _ _ ar)),λh1 ad=>?_⟩
 have T2:=rr ad (.lst (B.map V.str))
 have au:upd H4 h1 (.lst (B.map V.str)) h1=some (.lst (B.map V.str)):=rC
 have b9:=SqL.free (r.seq ac) ad
 have b1:C≠h1:=rF (r _ _ al) ad
 have bH:G≠h1:=rF (r _ _ ar) ad
 have bO:l≠h1:=rF (r _ _ X) ad
 have bR:h0≠h1:=rF av ad
 have ax:=T2 _ _ av
 have bx:=r.trans T2
 generalize upd H4 h1 (.lst (B.map V.str))=H5 at bx T2 au ax ⊢
 refine⟨O,λT a8=>?_⟩
 have Y:=rr a8 (.lst [.ref h0,.ref h1])
 have af:upd H5 T (.lst [.ref h0,.ref h1]) T=some (.lst [.ref h0,.ref h1]):=rC
 have S6:=bx.trans Y
 have aA:=Y _ _ ax
 have ay:=Y _ _ au
 have b0:T≠h0:=Ne.symm (rF ax a8)
 have b7:T≠h1:=Ne.symm (rF au a8)
 generalize upd H5 T (.lst [.ref h0,.ref h1])=H6 at S6 af aA ay ⊢
 have bQ:=S6.seq ac
 have bX:=S6 _ _ al
 have bC:=S6 _ _ ar
 have bp:=S6 _ _ X
 clear S6 r T2 bx Y ac al ar X ao ad a8 av ax au
 -- the first book
 refine⟨_,rfl,T,_,_,_,rfl,rfl,SqL.of af,rfl,_,rfl,T,_,_,_,rfl,rfl,SqL.of af,rfl,λs0 dx ah aK aH=>?_⟩
 have aN:upd H6 dx (.own s0) s0=none:=by rw[rH (Ne.symm aH)];exact ah
 have Y:=(rr aK (.own s0)).trans (rr aN (.ins cB dx []))
 refine⟨s0,h0,h1,dx,A,B,rfl,rC,SqL.of (Y _ _ aA),SqL.of (Y _ _ ay),bB,b2,rA.ok,rB.ok,(λz=>absurd ⟨rA,rB,bI⟩ z),λ_ _ _ d0 H7 U7 ch aG=>⟨rfl,?_⟩⟩
 have S7:Same H6 H7:=λb o e=>U7 b o (rF e ah) (Y b o e)
 have aO:=S7 _ _ aA
 have aW:=S7 _ _ ay
 have aw:=S7 _ _ af
 clear Y aN ah aK aH U7 ch
 -- the second book
 refine⟨_,rfl,T,_,_,_,rfl,rfl,SqL.of aw,rfl,_,rfl,T,_,_,_,rfl,rfl,SqL.of aw,rfl,λU dy ah aK aH=>?_⟩
 have aN:upd H7 dy (.own U) U=none:=by rw[rH (Ne.symm aH)];exact ah
 have Y:=(rr aK (.own U)).trans (rr aN (.ins cB dy []))
 refine⟨U,h1,h0,dy,B,A,rfl,rC,SqL.of (Y _ _ aW),SqL.of (Y _ _ aO),b2,bB,rB.ok,rA.ok,(λz=>absurd ⟨rB,rA,bI.symm⟩ z),λ_ _ _ d1 H8 U8 bm bZ=>⟨rfl,?_⟩⟩
 have S8:Same H7 H8:=λb o e=>U8 b o (rF e ah) (Y b o e)
 have dd:d0≠d1:=λz=>by
  obtain⟨_,_,_,_,_,_,_,_,_,_,h6⟩:=aG.ex
  rw[<-z,Y _ _ h6]at bm
  cases bm
 have aG:=aG.mono S8
 have aI:=S7.trans S8
 have a4:=S8 _ _ aO
 have aX:=S8 _ _ aW
 have br:=S8 _ _ aw
 have bF:=aI.seq bQ
 have bL:=aI _ _ bX
 have bE:=aI _ _ bC
 have be:=aI _ _ bp
 clear Y aN ah aK aH U8 bm S7 S8 aI aA ay af bQ bX bC bp aO aW aw
 refine⟨O,λt ba=>?_⟩
 have r:=rr ba (.lst [.ref s0,.ref U])
 have aP:upd H8 t (.lst [.ref s0,.ref U]) t=some (.lst [.ref s0,.ref U]):=rC
 have bg:t≠h0:=Ne.symm (rF a4 ba)
 have bz:t≠h1:=Ne.symm (rF aX ba)
 generalize upd H8 t (.lst [.ref s0,.ref U])=H9 at r aP ⊢
 -- the lists that were handed are spoilt
 have ak:=r _ _ a4
 have aQ:=r _ _ br
 refine⟨_,rfl,T,_,_,_,rfl,rfl,SqL.of aQ,rfl,.inl ⟨rfl,_,SqL.of ak⟩,h0,_,rfl,rfl,ak,?_⟩
 have aa:upd H9 h0 (.lst []) h1=some (.lst (B.map V.str)):=by rw[rH (Ne.symm bR)];exact r _ _ aX
 have aZ:upd H9 h0 (.lst []) T=some (.lst [.ref h0,.ref h1]):=by rw[rH b0];exact aQ
 have aY:BookAt cB (upd H9 h0 (.lst [])) s0 d0 A B []:=(aG.mono r).overL ak
 have a2:BookAt cB (upd H9 h0 (.lst [])) U d1 B A []:=(bZ.mono r).overL ak
 have bs:SqL K (upd H9 h0 (.lst [])) a (ns.map V.int):=SqL.overF cg (r.seq bF)
 have bA:upd H9 h0 (.lst []) C=some (.lst (A.map V.str)):=by rw[rH bD];exact r _ _ bL
 have bh:upd H9 h0 (.lst []) G=some (.lst (B.map V.str)):=by rw[rH bV];exact r _ _ bE
 have aU:upd H9 h0 (.lst []) l=some (.lst [.ref C,.ref G]):=by rw[rH b3];exact r _ _ be
 have aV:upd H9 h0 (.lst []) t=some (.lst [.ref s0,.ref U]):=by rw[rH bg];exact aP
 generalize upd H9 h0 (.lst [])=HA at aa aZ aY a2 bs bA bh aU aV ⊢
 refine⟨_,rfl,T,_,_,_,rfl,rfl,SqL.of aZ,rfl,.inl ⟨rfl,_,SqL.of aa⟩,h1,_,rfl,rfl,aa,?_⟩
 have a1:BookAt cB (upd HA h1 (.lst (B.map V.str).reverse)) s0 d0 A B []:=aY.overL aa
 have a3:BookAt cB (upd HA h1 (.lst (B.map V.str).reverse)) U d1 B A []:=a2.overL aa
 have aE:SqL K (upd HA h1 (.lst (B.map V.str).reverse)) a (ns.map V.int):=SqL.overF b9 bs
 have aM:upd HA h1 (.lst (B.map V.str).reverse) C=some (.lst (A.map V.str)):=by rw[rH b1];exact bA
 have aC:upd HA h1 (.lst (B.map V.str).reverse) G=some (.lst (B.map V.str)):=by rw[rH bH];exact bh
 have aj:upd HA h1 (.lst (B.map V.str).reverse) l=some (.lst [.ref C,.ref G]):=by rw[rH bO];exact aU
 have ai:upd HA h1 (.lst (B.map V.str).reverse) t=some (.lst [.ref s0,.ref U]):=by rw[rH bz];exact aV
 generalize upd HA h1 (.lst (B.map V.str).reverse)=HB at a1 a3 aE aM aC aj ai ⊢
 clear aa aZ aY a2 bs bA bh aU aV ak aQ r aG bZ aP a4 aX br bF bL bE be bg bz b0 b7 bR bD b1 bV bH b3 bO ba
 -- nothing told
 refine⟨_,rfl,(n:Int),rfl,z0,z1,?_⟩
 refine sK (n:=n) (λi ys R=>Same HB R/\dr (IsR K R) ys (fA i [])) ⟨Same.refl _,.nil⟩ (λi ys R hi f=>?_) (λys R f J bv=>?_)
 ·obtain⟨S,aJ⟩:=f
  have aL:=Paired.len aJ
  rw[eT]at aL
  refine⟨aF,λp hp=>⟨D9 (aL▸dB (cU hi (dg bb (by decide)))),S.trans (rr hp _),?_⟩⟩
  rw[jR]
  exact Paired.app (Paired.mapP aJ λ_ _ h=>h.mono (rr hp _)) (.cons ⟨p,rfl,SqT.of rC⟩ .nil)
 obtain⟨S0,bf⟩:=f
 have T0:=rr bv (.lst ys)
 have ae:upd R J (.lst ys) J=some (.lst ys):=rC
 have aS:=Paired.mapP bf λ_ _ (h:IsR K R _ _)=>h.mono T0
 have SC:=S0.trans T0
 have ap:HB J=none:=S0.free bv
 generalize upd R J (.lst ys)=HC at SC ae aS ⊢
 clear T0 S0 bf bv R
 refine⟨_,rfl,(n:Int),rfl,z0,z1,?_⟩
 refine sK (n:=n) (λi ys R=>Same HC R/\dr (IsR K R) ys (fA i [])) ⟨Same.refl _,.nil⟩ (λi ys R hi f=>?_) (λzs R f I a7=>?_)
 ·obtain⟨S,aJ⟩:=f
  have aL:=Paired.len aJ
  rw[eT]at aL
  refine⟨aF,λp hp=>⟨D9 (aL▸dB (cU hi (dg bb (by decide)))),S.trans (rr hp _),?_⟩⟩
  rw[jR]
  exact Paired.app (Paired.mapP aJ λ_ _ h=>h.mono (rr hp _)) (.cons ⟨p,rfl,SqT.of rC⟩ .nil)
 obtain⟨S0,bn⟩:=f
 have T0:=S0.trans (rr a7 (.lst zs))
 have az:upd R I (.lst zs) I=some (.lst zs):=rC
 have aT:=Paired.mapP bn λ_ _ (h:IsR K R _ _)=>h.mono (rr a7 (.lst zs))
 have ag:HC I=none:=S0.free a7
 generalize upd R I (.lst zs)=HD at T0 az aT ⊢
 clear S0 bn a7 R
 refine⟨O,λL an=>?_⟩
 have T2:=T0.trans (rr an (.lst [.ref J,.ref I]))
 have SE:=SC.trans T2
 have bo:upd HD L (.lst [.ref J,.ref I]) L=some (.lst [.ref J,.ref I]):=rC
 have nw:J≠I:=rF ae ag
 have bT:∀j,a≠pk J I j\/∀H,SqL K H a (ns.map V.int):=uj (P:=λx=>a≠x\/∀H,SqL K H a (ns.map V.int)) (SqL.free aE ap) (SqL.free (SC.seq aE) ag)
 have D:Lm l t L C G d0 d1 J I:=⟨uj (rF aj ap) (rF (SC _ _ aj) ag),uj (rF ai ap) (rF (SC _ _ ai) ag),uj (Ne.symm (rF (T0 _ _ ae) an)) (Ne.symm (rF az an)),(λi j=>uj (P:=λy=>y≠pk J I j) (uj (P:=λy=>C≠y) (rF aM ap) (rF (SC _ _ aM) ag) j) (uj (P:=λy=>G≠y) (rF aC ap) (rF (SC _ _ aC) ag) j) i),dd,nw⟩
 have at0:At52 K cB (upd HD L (.lst [.ref J,.ref I])) l t L C G s0 U d0 d1 J I A B (λ_ _=>False) 0:=by
  refine⟨SE _ _ aj,SE _ _ ai,bo,λj=>?_,λj g=>?_⟩
  ·rcases mO j with z|z
   ·subst z;exact SE _ _ aM
   ·obtain⟨j,rfl⟩:∃i,j=i+1:=⟨j-1,by omega⟩
    exact SE _ _ aC
  ·rcases(show j=0\/j=1 by omega)with rfl|rfl
   ·exact⟨ys,fA n [],[],a1.mono SE,T2 _ _ ae,Paired.mapP aS (λ_ _ h=>h.mono T2),by rw[eT];exact bw.symm,cI 0,(λ_ _ _ z=>nomatch z)⟩
   ·exact⟨zs,fA n [],[],a3.mono SE,(rr an _) _ _ az,Paired.mapP aT (λ_ _ h=>h.mono (rr an _)),by rw[eT];exact bi.symm,cI 0,(λ_ _ _ z=>nomatch z)⟩
 have bY:=SE.seq aE
 generalize upd HD L (.lst [.ref J,.ref I])=HE at at0 bY ⊢
 clear SE T2 T0 SC bo an ae az aS aT ap ag a1 a3 aE aM aC aj ai nw
 have am:∀j,Roll (pk A B j):=uj rA rB
 have Z:∀j,(pk A B j).length=n:=uj (P:=λz:List Str=>z.length=n) bw bi
 -- all tell their wishes
 refine⟨2,rfl,by decide,by decide,?_⟩
 refine sf (n:=2) (λj u H1=>SqL K H1 a (ns.map V.int)/\At52 K cB H1 l t L C G s0 U d0 d1 J I A B (λi _=>i<j) (6*j)/\∃c6 c7 c8,u=[some (.ref a),some (.int n),some (.ref l),some (.ref T),some (.ref t),some (.ref L),c6,c7,c8,none,none])
  ⟨bY,at0.imp (λj _ i _ z=>absurd z (by omega)) (cI _),_,_,_,rfl⟩ (λj u H1 g f=>?_) (λu H1 f=>?_)
 ·obtain⟨aD,ab,c6,c7,c8,rfl⟩:=f
  refine⟨_,rfl,(n:Int),rfl,z0,z1,?_⟩
  refine sf (n:=n) (λk u H2=>SqL K H2 a (ns.map V.int)/\At52 K cB H2 l t L C G s0 U d0 d1 J I A B (λi x=>i<j\/(i=j/\x<k)) (6*j+k)/\∃c7 c8,u=[some (.ref a),some (.int n),some (.ref l),some (.ref T),some (.ref t),some (.ref L),some (.int (0+(j:Int))),c7,c8,none,none])
   ⟨aD,ab.imp (λi _ x _ z=>by omega) (by omega),_,_,rfl⟩ (λk u H2 hk f=>?_) (λu H2 f=>?_)
  ·obtain⟨a6,aR,c7,c8,rfl⟩:=f
   have mx:=AS (LM.cellAt ns (6+(0+(k:Int)))) g
   refine⟨_,rfl,_,rfl,_,_,rfl,rfl,a,ns,_,rfl,a6,by omega,_,2,rfl,by decide,λxa H3 S3 b4 aB=>?_⟩
   have d:=aR.mono S3
   have ej:(0+(j:Int))=(j:Int):=d3 _
   have ek:(0+(k:Int))=(k:Int):=d3 _
   rw[ej,ek]
   refine⟨_,rfl,_,rfl,t,_,_,_,rfl,rfl,SqL.of d.bl,wS g,_,rfl,_,rfl,l,_,_,_,rfl,rfl,SqL.of d.rl,wS g,_,rfl,_,rfl,_,_,rfl,rfl,l,_,_,_,rfl,rfl,SqL.of d.rl,AI g,_,rfl,_,rfl,L,_,_,_,rfl,rfl,SqL.of d.tl,wS g,_,rfl,_,rfl,_,rfl,xa,_,_,_,rfl,rfl,SqL.of aB,mx,?_⟩
   refine⟨_,_,_,_,_,pk A B j,pk A B (1-j),_,_,k,_,rfl,d.bk j g,by omega,am j,am _,by rw[Z,Z],d.ro j,d.ro _,D.ro j j,D.ro _ j,by rw[Z];exact hk,λH4 U4 cf=>⟨rfl,_,rfl,Er ?_⟩⟩
   have m:=d.step D g U4 cf (ec _)
   obtain⟨kv,hd⟩:=(d.bk j g).dk
   obtain⟨us,hw⟩:=(d.bk j g).wl
   exact⟨SqL.keep2 (bT j) hd U4 (S3.seq a6),m.imp (λi _ x _ z=>Kq z) (by omega),_,_,rfl⟩
  ·obtain⟨a6,aR,c7,c8,rfl⟩:=f
   exact⟨a6,aR.imp (λi _ x hx z=>by rw[Z]at hx;omega) (by omega),_,_,_,rfl⟩
 obtain⟨aD,ab,c6,c7,c8,rfl⟩:=f
 -- the deeds
 refine⟨_,rfl,12,rfl,36,rfl,a,_,rfl,aD,λc hc=>?_⟩
 have T5:=rr hc (.lst (Gy (ns.map V.int) (some 12) (some 36)))
 have bU:=vv (ns.map V.int) (some 12) (some 36)
 rw[cx]at bU
 have bN:∀i v,(Gy (ns.map V.int) (some 12) (some 36))[i]?=some v->∃c:Int,v=V.int c:=λi v h=>C0 h
 refine⟨c,rfl,⟨_,SqL.of rC⟩,?_⟩
 have a5:upd H1 c (.lst (Gy (ns.map V.int) (some 12) (some 36))) c=some (.lst (Gy (ns.map V.int) (some 12) (some 36))):=rC
 have a0:=ab.mono T5
 have bu:=T5.seq aD
 have cd:∀j,c≠pk J I j:=uj (λz=>by obtain⟨us,hw⟩:=(ab.bk 0 (by decide)).wl;rw[z,show H1 J=some (.lst us)from hw]at hc;cases hc) (λz=>by obtain⟨us,hw⟩:=(ab.bk 1 (by decide)).wl;rw[z,show H1 I=some (.lst us)from hw]at hc;cases hc)
 generalize upd H1 c (.lst (Gy (ns.map V.int) (some 12) (some 36)))=H2 at T5 a5 a0 bu ⊢
 generalize Gy (ns.map V.int) (some 12) (some 36)=xs at a5 bU bN ⊢
 refine uZ (xs:=xs) (λi u H3=>SqL K H3 a (ns.map V.int)/\H3 c=some (.lst xs)/\At52 K cB H3 l t L C G s0 U d0 d1 J I A B (λ_ _=>True) (12+i)/\∃c6 c8 c9,u=[some (.ref a),some (.int n),some (.ref l),some (.ref T),some (.ref t),some (.ref L),c6,c7,c8,c9,none])
  ⟨bu,a5,a0.imp (λj g i _ _=>g) (by omega),_,_,_,rfl⟩ (λi u H3 _ f=>SqL.of f.2.1) (λi v u H3 hv f=>?_) (λu H3 f=>?_)
 ·obtain⟨ac,a9,d,c6,c8,c9,rfl⟩:=f
  have ck:i<xs.length:=(cL.mp hv).1
  obtain⟨cl,rfl⟩:=bN i v hv
  refine⟨_,rfl,cl,7,rfl,by decide,λxa H4 S4 b4 aB=>?_⟩
  have bG:=LM.mixed_len cl 7
  have bJ:=vP (ns:=LM.mixed cl 7) (i:=6) (by omega)
  have bS:=LM.mixed_bd cl 7
  generalize LM.mixed cl 7=ms at aB bG bJ bS
  have m:=d.mono S4
  have j0:=dO (ms.getD 6 0) (show(2:Int)≠0 by decide)
  have j1:=dC (ms.getD 6 0) (show(0:Int)<2 by decide)
  obtain⟨j,b8⟩:∃j:Nat,ms.getD 6 0%2=(j:Int):=⟨(ms.getD 6 0%2).toNat,by omega⟩
  have g:j<2:=by omega
  refine⟨_,rfl,xa,_,_,_,rfl,rfl,SqL.of aB,bJ,_,_,rfl,rfl,by show(0:Int)<2;decide,?_⟩
  dsimp only
  rw[b8]
  refine⟨_,rfl,_,rfl,t,_,_,_,rfl,rfl,SqL.of m.bl,wS g,_,rfl,_,rfl,l,_,_,_,rfl,rfl,SqL.of m.rl,wS g,_,rfl,_,rfl,_,_,rfl,rfl,l,_,_,_,rfl,rfl,SqL.of m.rl,AI g,_,rfl,_,rfl,L,_,_,_,rfl,rfl,SqL.of m.tl,wS g,_,rfl,?_⟩
  refine⟨_,_,_,_,_,xa,pk A B j,pk A B (1-j),_,ms,rfl,m.bk j g,by omega,am j,am _,by rw[Z,Z],m.ro j,m.ro _,D.ro j j,D.ro _ j,SqL.of aB,bG,bS,λH5 U5 cb=>⟨_,rfl,Er ?_⟩⟩
  obtain⟨kv,hd⟩:=(m.bk j g).dk
  obtain⟨us,hw⟩:=(m.bk j g).wl
  exact⟨SqL.keep2 (bT j) hd U5 (S4.seq ac),U5 _ _ (sI (S4 _ _ a9) hd (λz=>nomatch z)) (cd j) (S4 _ _ a9),(m.step D g U5 cb (ec _)).imp (λi _ x _ _=>by split <;> trivial) (by omega),_,_,_,rfl⟩
 obtain⟨ac,a9,d,c6,c8,c9,rfl⟩:=f
 clear a9 a0 bu a5 T5 hc ab aD
 -- what all get
 refine⟨2,rfl,by decide,by decide,?_⟩
 refine sf (n:=2) (λj u H4=>Same H3 H4/\∃c6 c7 aq,u=[some (.ref a),some (.int n),some (.ref l),some (.ref T),some (.ref t),some (.ref L),c6,c7,c8,c9,aq]) ⟨Same.refl _,_,_,_,rfl⟩ (λj u H4 g f=>?_) (λu H4 f=>q _)
 obtain⟨S4,cm,bM,aq,rfl⟩:=f
 refine⟨_,rfl,(n:Int),rfl,z0,z1,?_⟩
 refine sf (n:=n) (λk u H5=>Same H4 H5/\∃c7 aq,u=[some (.ref a),some (.int n),some (.ref l),some (.ref T),some (.ref t),some (.ref L),some (.int (0+(j:Int))),c7,c8,c9,aq]) ⟨Same.refl _,_,_,rfl⟩ (λk u H5 hk f=>?_) (λu H5 f=>?_)
 ·obtain⟨S5,bM,aq,rfl⟩:=f
  have ce:=S4.trans S5
  refine⟨O,λwl bP=>?_⟩
  have S6:=ce.trans (rr bP (.lst [V.str "eaten",V.str "turns"]))
  have bq:upd H5 wl (.lst [V.str "eaten",V.str "turns"]) wl=some (.lst [V.str "eaten",V.str "turns"]):=rC
  have bK:=rr bP (.lst [V.str "eaten",V.str "turns"])
  generalize upd H5 wl (.lst [V.str "eaten",V.str "turns"])=H6 at S6 bq bK ⊢
  obtain⟨b6,ca,b5⟩:=Lr (decide (V.int (0+(k:Int))=V.int (LM.cellAt ns 5%(n:Int))))
  refine⟨_,rfl,_,rfl,a,ns,5,rfl,S6.seq ac,by decide,_,rfl,_,_,rfl,rfl,by show(0:Int)<(n:Int);omega,rfl,.inr ⟨_,rfl,wl,_,_,_,rfl,rfl,SqL.of bq,b5,?_⟩⟩
  have W:=d.mono S6
  have ej:(0+(j:Int))=(j:Int):=d3 _
  have ek:(0+(k:Int))=(k:Int):=d3 _
  rw[ej,ek]
  refine⟨_,rfl,_,rfl,t,_,_,_,rfl,rfl,SqL.of W.bl,wS g,_,rfl,_,rfl,l,_,_,_,rfl,rfl,SqL.of W.rl,wS g,_,rfl,_,rfl,_,_,rfl,rfl,l,_,_,_,rfl,rfl,SqL.of W.rl,AI g,_,rfl,_,rfl,L,_,_,_,rfl,rfl,SqL.of W.tl,wS g,_,rfl,_,rfl,?_⟩
  exact⟨_,_,_,_,_,pk A B j,pk A B (1-j),_,k,b6,rfl,W.bk j g,am j,am _,by rw[Z,Z],SqL.of (W.ro j),SqL.of (W.ro _),by rw[Z];exact hk,ca,λH7 S7=>⟨_,rfl,Er ⟨S5.trans (bK.trans S7),_,_,rfl⟩⟩⟩
 ·obtain⟨S5,bM,aq,rfl⟩:=f
  exact⟨S4.trans S5,_,_,_,rfl⟩
end
open PySem.W
abbrev Kf:String:="wishlots.lots"
abbrev IG:String:="wishlots.turns"
abbrev IX:String:="wishlots.eating"
abbrev HQ:String:="wishlots.fractions"
abbrev GC:String:="wishlots.book"
abbrev Fw:String:="law_wishlots_k52_whole_book"
def vs(x:String)(n:Nat):cA:= .str (.ofString x) n
def i(n:Nat):cA:= .int n 0
def en(P:Params)(x:String)(n:Nat)(v:cA):DictEntry:={hash:=PyData.keyHash P (.ofString x),key:=vs x n,val:=v}
def di(l:List DictEntry)(n:Nat):Obj:={cls:= .type "dict",data:= .dict l.toArray n}
def tu(l:List cA):Obj:={cls:= .type "tuple",data:= .seq l.toArray}
def nf(l:List cA):Obj:={cls:= .none,data:= .fields l.toArray}
def ft(k:Nat)(x:String):Obj:={cls:= .none,data:= .func {name:= .ofString x,qualname:= .ofString x,params:=Ek (Ec k),body:= .stmts (Eg (Ec k)),scope:=D8 (Ec k),globals:=0,closure:=[],defaults:= .none,kwdefaults:= .none}}
def fo(k:Nat)(x m:String)(t c:Nat):Obj:={cls:= .type "function",data:= .func {name:= .ofString x,qualname:= .ofString x,params:=Ek (Ec k),body:= .stmts (Eg (Ec k)),scope:=D8 (Ec k),globals:=3,closure:=[],defaults:= .none,kwdefaults:= .none,pyModule:=vs m t,code:= .ref c}}
def co(x:String)(a b c:Nat)(r:List cA)(z:Nat):Obj:={cls:= .type "code",data:= .fields (vs x a::vs x b::vs "/claim/cut.py" c::(r++[vs "/claim/cut.py" z])).toArray}
def fc(k j:Nat)(x q:String):Obj:={cls:= .none,data:= .func {name:= .ofString x,qualname:= .ofString q,params:=Ek (Hi k j),body:= .stmts (Eg (Hi k j)),scope:=D8 (Hi k j),globals:=0,closure:=[],defaults:= .none,kwdefaults:= .none}}
def fm(k j:Nat)(x q m:String)(t c:Nat):Obj:={cls:= .type "function",data:= .func {name:= .ofString x,qualname:= .ofString q,params:=Ek (Hi k j),body:= .stmts (Eg (Hi k j)),scope:=D8 (Hi k j),globals:=3,closure:=[],defaults:= .none,kwdefaults:= .none,pyModule:=vs m t,code:= .ref c}}
def cq(x q:String)(a b c:Nat)(r:List cA)(z:Nat):Obj:={cls:= .type "code",data:= .fields (vs x a::vs q b::vs "/claim/cut.py" c::(r++[vs "/claim/cut.py" z])).toArray}
def Ln(P:Params):List DictEntry:=[en P "__name__" 165 (vs Fw 652),en P "__doc__" 166 (.none),en P "__package__" 167 (.none),en P "__loader__" 168 (.builtin "__main__.__loader__#opaque"),en P "__spec__" 169 (.none),en P "__annotations__" 170 (.ref 6),en P "__builtins__" 171 (.ref 4),en P "__file__" 173 (vs "/claim/cut.py" 172),en P "__cached__" 174 (.none),en P "WishError" 206 (.ref 24),en P "NoFraction" 222 (.ref 37),en P "NoWishes" 238 (.ref 49),en P "NoPick" 254 (.ref 61),en P "NoRoll" 270 (.ref 73),en P "NoPerson" 286 (.ref 85),en P "Unready" 302 (.ref 97),en P "NoWay" 318 (.ref 109),en P "NOTHING" 323 (.ref 112),en P "WHOLE" 326 (.ref 113),en P "is_whole" 333 (.ref 120),en P "common_divisor" 344 (.ref 127),en P "fraction" 353 (.ref 134),en P "plus" 361 (.ref 141),en P "minus" 369 (.ref 148),en P "times" 377 (.ref 155),en P "before" 385 (.ref 162),en P "total" 394 (.ref 169),en P "least" 403 (.ref 176),en P "best_left" 411 (.ref 181),en P "time_to_stop" 417 (.ref 186),en P "left_behind" 423 (.ref 191),en P "courses_of" 429 (.ref 196),en P "eaten_of" 435 (.ref 201),en P "eaten_by" 441 (.ref 206),en P "eaten" 447 (.ref 211),en P "deal_within" 461 (.ref 218),en P "row_without" 471 (.ref 225),en P "lots_of" 477 (.ref 230),en P "picked" 487 (.ref 237),en P "MOST_PEOPLE" 491 (.int 6 490),en P "is_listing" 498 (.ref 244),en P "has_people" 505 (.ref 251),en P "best_free" 513 (.ref 256),en P "with_one" 521 (.ref 263),en P "turns_from" 527 (.ref 268),en P "orders_of" 536 (.ref 275),en P "counts_of" 553 (.ref 282),en P "shares_by_turns" 559 (.ref 287),en P "by_turns" 565 (.ref 292),en P "MOST_SIGNS" 569 (.int 12 568),en P "is_word" 575 (.ref 297),en P "is_roll" 581 (.ref 302),en P "Book" 651 (.ref 351),en P "_law_cell_at" 661 (.ref 362),en P "_law_mixed" 672 (.ref 369),en P "_law_perm" 682 (.ref 376),en P "_law_divisor" 691 (.ref 383),en P "_law_lowest" 700 (.ref 390),en P "_law_base" 711 (.ref 397),en P "_law_word" 723 (.ref 404),en P "_law_words" 738 (.ref 411),en P "_law_same" 747 (.ref 418),en P "_law_table_by" 755 (.ref 425),en P "_law_shares_well" 761 (.ref 430),en P "_law_deal_well" 767 (.ref 435),en P "_law_wish" 773 (.ref 440),en P "_law_refused" 779 (.ref 445),en P "_law_deed" 793 (.ref 452),en P "law" 799 (.ref 457)]
def MV:List cA:=[i 2,i 0,.ref 20,i 4,i 0,.ref 33,i 6,i 0,.ref 45,i 8,i 0,.ref 57,i 10,i 0,.ref 69,i 12,i 0,.ref 81,i 14,i 0,.ref 93,i 16,i 0,.ref 105,i 21,i 0,.ref 119,i 23,i 0,.ref 126,i 31,i 0,.ref 133,i 38,i 0,.ref 140,i 40,i 0,.ref 147,i 42,i 0,.ref 154,i 44,i 0,.ref 161,i 46,i 0,.ref 168,i 51,i 0,.ref 175,i 58,i 0,.ref 180,i 60,i 0,.ref 185,i 62,i 0,.ref 190,i 64,i 0,.ref 195,i 74,i 0,.ref 200,i 76,i 0,.ref 205,i 78,i 0,.ref 210,i 82,i 0,.ref 217,i 92,i 0,.ref 224,i 96,i 0,.ref 229,i 107,i 0,.ref 236,i 118,i 0,.ref 243,i 120,i 0,.ref 250,i 123,i 0,.ref 255,i 125,i 0,.ref 262,i 127,i 0,.ref 267,i 130,i 0,.ref 274,i 135,i 0,.ref 281,i 148,i 0,.ref 286,i 151,i 0,.ref 291,i 156,i 0,.ref 296,i 160,i 0,.ref 301,i 162,i 0,.ref 308,i 206,i 0,.ref 361,i 210,i 0,.ref 368,i 223,i 0,.ref 375,i 229,i 0,.ref 382,i 235,i 0,.ref 389,i 242,i 0,.ref 396,i 254,i 0,.ref 403,i 258,i 0,.ref 410,i 269,i 0,.ref 417,i 286,i 0,.ref 424,i 290,i 0,.ref 429,i 299,i 0,.ref 434,i 308,i 0,.ref 439,i 311,i 0,.ref 444,i 325,i 0,.ref 451,i 336,i 0,.ref 456]
noncomputable def obs(P:Params):List Obj:=(jp P).objs.toList++[tu [],
 nf [],
 co "<module>" 182 183 184 [i 1,i 0,i 0,i 0,i 0,.ref 11,.bool false,i 181,.ref 12,.none,.none,.none,.none,i 185,i 1] 186,
 {cls:= .type "frame",slots:= #[some (.ref 13),some (.ref 3),some (.ref 3),none,some (vs "__main__" 164),none,some (.ref 0)]},
 tu [.type "ValueError"],
 {cls:= .type "builtin_function_or_method",data:= .fields #[.builtin "type.__prepare__",.type "type"]},
 di [en P "__module__" 196 (vs "wishlots.errors" 187),en P "__qualname__" 198 (vs "WishError" 197),en P "__firstlineno__" 200 (.int 2 199),en P "__static_attributes__" 201 (.ref 22)] 4,
 tu [],
 nf [],
 co "WishError" 191 192 193 [i 2,i 0,i 0,i 0,i 0,.ref 18,.bool false,i 181,.ref 19,.none,.none,.none,.none,i 194,i 2] 195,
 {cls:= .type "frame",slots:= #[some (.ref 20),some (.ref 3),some (.ref 17),none,some (vs "wishlots.errors" 187),none,some (.ref 0)]},
 tu [],
 di [en P "__module__" 196 (vs "wishlots.errors" 187),en P "__firstlineno__" 200 (.int 2 199),en P "__static_attributes__" 201 (.ref 22),en P "__weakref__" 203 (.ref 25),en P "__doc__" 204 (.none)] 3,
 {cls:= .type "type",data:= .cls {name:="WishError",bases:=[.type "ValueError"],mro:=[.ref 24,.type "ValueError",.type "Exception",.type "BaseException",.type "object"],ns:=23,qualname:="WishError",subclasses:=[.ref 37,.ref 49,.ref 61,.ref 73,.ref 85,.ref 97,.ref 109]},slots:= #[some (.ref 15),none,some (vs "WishError" 189),some (vs "WishError" 197),some (.builtin "ValueError.__new__"),some (.bool true)]},
 {cls:= .type "getset_descriptor",data:= .fields #[vs "__weakref__" 202,.ref 24,.builtin "ExceptionGroup.__weakref__",.none]},
 {cls:= .type "super",data:= .fields #[.ref 24,.ref 24,.ref 24]},
 {cls:= .type "builtin_function_or_method",data:= .fields #[.builtin "object.__init_subclass__",.ref 24]},
 tu [.ref 24],
 {cls:= .type "builtin_function_or_method",data:= .fields #[.builtin "type.__prepare__",.type "type"]},
 di [en P "__module__" 214 (vs "wishlots.errors" 187),en P "__qualname__" 216 (vs "NoFraction" 215),en P "__firstlineno__" 218 (.int 4 217),en P "__static_attributes__" 219 (.ref 35)] 4,
 tu [],
 nf [],
 co "NoFraction" 209 210 211 [i 4,i 0,i 0,i 0,i 0,.ref 31,.bool false,i 181,.ref 32,.none,.none,.none,.none,i 212,i 4] 213,
 {cls:= .type "frame",slots:= #[some (.ref 33),some (.ref 3),some (.ref 30),none,some (vs "wishlots.errors" 187),none,some (.ref 0)]},
 tu [],
 di [en P "__module__" 214 (vs "wishlots.errors" 187),en P "__firstlineno__" 218 (.int 4 217),en P "__static_attributes__" 219 (.ref 35),en P "__doc__" 220 (.none)] 2,
 {cls:= .type "type",data:= .cls {name:="NoFraction",bases:=[.ref 24],mro:=[.ref 37,.ref 24,.type "ValueError",.type "Exception",.type "BaseException",.type "object"],ns:=36,qualname:="NoFraction"},slots:= #[some (.ref 28),none,some (vs "NoFraction" 207),some (vs "NoFraction" 215),some (.builtin "ValueError.__new__"),some (.bool true)]},
 {cls:= .type "super",data:= .fields #[.ref 37,.ref 37,.ref 37]},
 {cls:= .type "builtin_function_or_method",data:= .fields #[.builtin "object.__init_subclass__",.ref 37]},
 tu [.ref 24],
 {cls:= .type "builtin_function_or_method",data:= .fields #[.builtin "type.__prepare__",.type "type"]},
 di [en P "__module__" 230 (vs "wishlots.errors" 187),en P "__qualname__" 232 (vs "NoWishes" 231),en P "__firstlineno__" 234 (.int 6 233),en P "__static_attributes__" 235 (.ref 47)] 4,
 tu [],
 nf [],
 co "NoWishes" 225 226 227 [i 6,i 0,i 0,i 0,i 0,.ref 43,.bool false,i 181,.ref 44,.none,.none,.none,.none,i 228,i 6] 229,
 {cls:= .type "frame",slots:= #[some (.ref 45),some (.ref 3),some (.ref 42),none,some (vs "wishlots.errors" 187),none,some (.ref 0)]},
 tu [],
 di [en P "__module__" 230 (vs "wishlots.errors" 187),en P "__firstlineno__" 234 (.int 6 233),en P "__static_attributes__" 235 (.ref 47),en P "__doc__" 236 (.none)] 2,
 {cls:= .type "type",data:= .cls {name:="NoWishes",bases:=[.ref 24],mro:=[.ref 49,.ref 24,.type "ValueError",.type "Exception",.type "BaseException",.type "object"],ns:=48,qualname:="NoWishes"},slots:= #[some (.ref 40),none,some (vs "NoWishes" 223),some (vs "NoWishes" 231),some (.builtin "ValueError.__new__"),some (.bool true)]},
 {cls:= .type "super",data:= .fields #[.ref 49,.ref 49,.ref 49]},
 {cls:= .type "builtin_function_or_method",data:= .fields #[.builtin "object.__init_subclass__",.ref 49]},
 tu [.ref 24],
 {cls:= .type "builtin_function_or_method",data:= .fields #[.builtin "type.__prepare__",.type "type"]},
 di [en P "__module__" 246 (vs "wishlots.errors" 187),en P "__qualname__" 248 (vs "NoPick" 247),en P "__firstlineno__" 250 (.int 8 249),en P "__static_attributes__" 251 (.ref 59)] 4,
 tu [],
 nf [],
 co "NoPick" 241 242 243 [i 8,i 0,i 0,i 0,i 0,.ref 55,.bool false,i 181,.ref 56,.none,.none,.none,.none,i 244,i 8] 245,
 {cls:= .type "frame",slots:= #[some (.ref 57),some (.ref 3),some (.ref 54),none,some (vs "wishlots.errors" 187),none,some (.ref 0)]},
 tu [],
 di [en P "__module__" 246 (vs "wishlots.errors" 187),en P "__firstlineno__" 250 (.int 8 249),en P "__static_attributes__" 251 (.ref 59),en P "__doc__" 252 (.none)] 2,
 {cls:= .type "type",data:= .cls {name:="NoPick",bases:=[.ref 24],mro:=[.ref 61,.ref 24,.type "ValueError",.type "Exception",.type "BaseException",.type "object"],ns:=60,qualname:="NoPick"},slots:= #[some (.ref 52),none,some (vs "NoPick" 239),some (vs "NoPick" 247),some (.builtin "ValueError.__new__"),some (.bool true)]},
 {cls:= .type "super",data:= .fields #[.ref 61,.ref 61,.ref 61]},
 {cls:= .type "builtin_function_or_method",data:= .fields #[.builtin "object.__init_subclass__",.ref 61]},
 tu [.ref 24],
 {cls:= .type "builtin_function_or_method",data:= .fields #[.builtin "type.__prepare__",.type "type"]},
 di [en P "__module__" 262 (vs "wishlots.errors" 187),en P "__qualname__" 264 (vs "NoRoll" 263),en P "__firstlineno__" 266 (.int 10 265),en P "__static_attributes__" 267 (.ref 71)] 4,
 tu [],
 nf [],
 co "NoRoll" 257 258 259 [i 10,i 0,i 0,i 0,i 0,.ref 67,.bool false,i 181,.ref 68,.none,.none,.none,.none,i 260,i 10] 261,
 {cls:= .type "frame",slots:= #[some (.ref 69),some (.ref 3),some (.ref 66),none,some (vs "wishlots.errors" 187),none,some (.ref 0)]},
 tu [],
 di [en P "__module__" 262 (vs "wishlots.errors" 187),en P "__firstlineno__" 266 (.int 10 265),en P "__static_attributes__" 267 (.ref 71),en P "__doc__" 268 (.none)] 2,
 {cls:= .type "type",data:= .cls {name:="NoRoll",bases:=[.ref 24],mro:=[.ref 73,.ref 24,.type "ValueError",.type "Exception",.type "BaseException",.type "object"],ns:=72,qualname:="NoRoll"},slots:= #[some (.ref 64),none,some (vs "NoRoll" 255),some (vs "NoRoll" 263),some (.builtin "ValueError.__new__"),some (.bool true)]},
 {cls:= .type "super",data:= .fields #[.ref 73,.ref 73,.ref 73]},
 {cls:= .type "builtin_function_or_method",data:= .fields #[.builtin "object.__init_subclass__",.ref 73]},
 tu [.ref 24],
 {cls:= .type "builtin_function_or_method",data:= .fields #[.builtin "type.__prepare__",.type "type"]},
 di [en P "__module__" 278 (vs "wishlots.errors" 187),en P "__qualname__" 280 (vs "NoPerson" 279),en P "__firstlineno__" 282 (.int 12 281),en P "__static_attributes__" 283 (.ref 83)] 4,
 tu [],
 nf [],
 co "NoPerson" 273 274 275 [i 12,i 0,i 0,i 0,i 0,.ref 79,.bool false,i 181,.ref 80,.none,.none,.none,.none,i 276,i 12] 277,
 {cls:= .type "frame",slots:= #[some (.ref 81),some (.ref 3),some (.ref 78),none,some (vs "wishlots.errors" 187),none,some (.ref 0)]},
 tu [],
 di [en P "__module__" 278 (vs "wishlots.errors" 187),en P "__firstlineno__" 282 (.int 12 281),en P "__static_attributes__" 283 (.ref 83),en P "__doc__" 284 (.none)] 2,
 {cls:= .type "type",data:= .cls {name:="NoPerson",bases:=[.ref 24],mro:=[.ref 85,.ref 24,.type "ValueError",.type "Exception",.type "BaseException",.type "object"],ns:=84,qualname:="NoPerson"},slots:= #[some (.ref 76),none,some (vs "NoPerson" 271),some (vs "NoPerson" 279),some (.builtin "ValueError.__new__"),some (.bool true)]},
 {cls:= .type "super",data:= .fields #[.ref 85,.ref 85,.ref 85]},
 {cls:= .type "builtin_function_or_method",data:= .fields #[.builtin "object.__init_subclass__",.ref 85]},
 tu [.ref 24],
 {cls:= .type "builtin_function_or_method",data:= .fields #[.builtin "type.__prepare__",.type "type"]},
 di [en P "__module__" 294 (vs "wishlots.errors" 187),en P "__qualname__" 296 (vs "Unready" 295),en P "__firstlineno__" 298 (.int 14 297),en P "__static_attributes__" 299 (.ref 95)] 4,
 tu [],
 nf [],
 co "Unready" 289 290 291 [i 14,i 0,i 0,i 0,i 0,.ref 91,.bool false,i 181,.ref 92,.none,.none,.none,.none,i 292,i 14] 293,
 {cls:= .type "frame",slots:= #[some (.ref 93),some (.ref 3),some (.ref 90),none,some (vs "wishlots.errors" 187),none,some (.ref 0)]},
 tu [],
 di [en P "__module__" 294 (vs "wishlots.errors" 187),en P "__firstlineno__" 298 (.int 14 297),en P "__static_attributes__" 299 (.ref 95),en P "__doc__" 300 (.none)] 2,
 {cls:= .type "type",data:= .cls {name:="Unready",bases:=[.ref 24],mro:=[.ref 97,.ref 24,.type "ValueError",.type "Exception",.type "BaseException",.type "object"],ns:=96,qualname:="Unready"},slots:= #[some (.ref 88),none,some (vs "Unready" 287),some (vs "Unready" 295),some (.builtin "ValueError.__new__"),some (.bool true)]},
 {cls:= .type "super",data:= .fields #[.ref 97,.ref 97,.ref 97]},
 {cls:= .type "builtin_function_or_method",data:= .fields #[.builtin "object.__init_subclass__",.ref 97]},
 tu [.ref 24],
 {cls:= .type "builtin_function_or_method",data:= .fields #[.builtin "type.__prepare__",.type "type"]},
 di [en P "__module__" 310 (vs "wishlots.errors" 187),en P "__qualname__" 312 (vs "NoWay" 311),en P "__firstlineno__" 314 (.int 16 313),en P "__static_attributes__" 315 (.ref 107)] 4,
 tu [],
 nf [],
 co "NoWay" 305 306 307 [i 16,i 0,i 0,i 0,i 0,.ref 103,.bool false,i 181,.ref 104,.none,.none,.none,.none,i 308,i 16] 309,
 {cls:= .type "frame",slots:= #[some (.ref 105),some (.ref 3),some (.ref 102),none,some (vs "wishlots.errors" 187),none,some (.ref 0)]},
 tu [],
 di [en P "__module__" 310 (vs "wishlots.errors" 187),en P "__firstlineno__" 314 (.int 16 313),en P "__static_attributes__" 315 (.ref 107),en P "__doc__" 316 (.none)] 2,
 {cls:= .type "type",data:= .cls {name:="NoWay",bases:=[.ref 24],mro:=[.ref 109,.ref 24,.type "ValueError",.type "Exception",.type "BaseException",.type "object"],ns:=108,qualname:="NoWay"},slots:= #[some (.ref 100),none,some (vs "NoWay" 303),some (vs "NoWay" 311),some (.builtin "ValueError.__new__"),some (.bool true)]},
 {cls:= .type "super",data:= .fields #[.ref 109,.ref 109,.ref 109]},
 {cls:= .type "builtin_function_or_method",data:= .fields #[.builtin "object.__init_subclass__",.ref 109]},
 tu [.int 0 321,.int 1 322],
 tu [.int 1 324,.int 1 325],
 tu [],
 nf [],
 tu [vs "value" 330],
 tu [],
 ft 12 "is_whole",
 co "is_whole" 327 328 329 [i 21,i 1,i 0,i 0,i 3,.ref 114,.bool true,i 181,.ref 115,.none,.ref 116,.ref 117,.ref 118,i 331,i 21] 332,
 fo 12 "is_whole" HQ 319 119,
 tu [],
 nf [],
 tu [vs "one" 337,vs "two" 338,vs "greater" 339,vs "smaller" 340,vs "rest" 341],
 tu [],
 ft 13 "common_divisor",
 co "common_divisor" 334 335 336 [i 23,i 2,i 0,i 0,i 3,.ref 121,.bool true,i 181,.ref 122,.none,.ref 123,.ref 124,.ref 125,i 342,i 23] 343,
 fo 13 "common_divisor" HQ 319 126,
 tu [],
 nf [],
 tu [vs "top" 348,vs "bottom" 349,vs "divisor" 350],
 tu [],
 ft 14 "fraction",
 co "fraction" 345 346 347 [i 31,i 2,i 0,i 0,i 3,.ref 128,.bool true,i 181,.ref 129,.none,.ref 130,.ref 131,.ref 132,i 351,i 31] 352,
 fo 14 "fraction" HQ 319 133,
 tu [],
 nf [],
 tu [vs "one" 357,vs "two" 358],
 tu [],
 ft 15 "plus",
 co "plus" 354 355 356 [i 38,i 2,i 0,i 0,i 3,.ref 135,.bool true,i 181,.ref 136,.none,.ref 137,.ref 138,.ref 139,i 359,i 38] 360,
 fo 15 "plus" HQ 319 140,
 tu [],
 nf [],
 tu [vs "one" 365,vs "two" 366],
 tu [],
 ft 16 "minus",
 co "minus" 362 363 364 [i 40,i 2,i 0,i 0,i 3,.ref 142,.bool true,i 181,.ref 143,.none,.ref 144,.ref 145,.ref 146,i 367,i 40] 368,
 fo 16 "minus" HQ 319 147,
 tu [],
 nf [],
 tu [vs "one" 373,vs "two" 374],
 tu [],
 ft 17 "times",
 co "times" 370 371 372 [i 42,i 2,i 0,i 0,i 3,.ref 149,.bool true,i 181,.ref 150,.none,.ref 151,.ref 152,.ref 153,i 375,i 42] 376,
 fo 17 "times" HQ 319 154,
 tu [],
 nf [],
 tu [vs "one" 381,vs "two" 382],
 tu [],
 ft 18 "before",
 co "before" 378 379 380 [i 44,i 2,i 0,i 0,i 3,.ref 156,.bool true,i 181,.ref 157,.none,.ref 158,.ref 159,.ref 160,i 383,i 44] 384,
 fo 18 "before" HQ 319 161,
 tu [],
 nf [],
 tu [vs "parts" 389,vs "so_far" 390,vs "part" 391],
 tu [],
 ft 19 "total",
 co "total" 386 387 388 [i 46,i 1,i 0,i 0,i 3,.ref 163,.bool true,i 181,.ref 164,.none,.ref 165,.ref 166,.ref 167,i 392,i 46] 393,
 fo 19 "total" HQ 319 168,
 tu [],
 nf [],
 tu [vs "parts" 398,vs "smallest" 399,vs "part" 400],
 tu [],
 ft 20 "least",
 co "least" 395 396 397 [i 51,i 1,i 0,i 0,i 3,.ref 170,.bool true,i 181,.ref 171,.none,.ref 172,.ref 173,.ref 174,i 401,i 51] 402,
 fo 20 "least" HQ 319 175,
 tu [],
 nf [],
 ft 22 "best_left",
 co "best_left" 406 407 408 [i 58,i 2,i 0,i 0,i 3,.ref 177,.bool true,i 181,.ref 178,.none,.none,.none,.ref 179,i 409,i 58] 410,
 fo 22 "best_left" IX 404 180,
 tu [],
 nf [],
 ft 23 "time_to_stop",
 co "time_to_stop" 412 413 414 [i 60,i 2,i 0,i 0,i 3,.ref 182,.bool true,i 181,.ref 183,.none,.none,.none,.ref 184,i 415,i 60] 416,
 fo 23 "time_to_stop" IX 404 185,
 tu [],
 nf [],
 ft 24 "left_behind",
 co "left_behind" 418 419 420 [i 62,i 3,i 0,i 0,i 3,.ref 187,.bool true,i 181,.ref 188,.none,.none,.none,.ref 189,i 421,i 62] 422,
 fo 24 "left_behind" IX 404 190,
 tu [],
 nf [],
 ft 25 "courses_of",
 co "courses_of" 424 425 426 [i 64,i 1,i 0,i 0,i 3,.ref 192,.bool true,i 181,.ref 193,.none,.none,.none,.ref 194,i 427,i 64] 428,
 fo 25 "courses_of" IX 404 195,
 tu [],
 nf [],
 ft 26 "eaten_of",
 co "eaten_of" 430 431 432 [i 74,i 3,i 0,i 0,i 3,.ref 197,.bool true,i 181,.ref 198,.none,.none,.none,.ref 199,i 433,i 74] 434,
 fo 26 "eaten_of" IX 404 200,
 tu [],
 nf [],
 ft 27 "eaten_by",
 co "eaten_by" 436 437 438 [i 76,i 3,i 0,i 0,i 3,.ref 202,.bool true,i 181,.ref 203,.none,.none,.none,.ref 204,i 439,i 76] 440,
 fo 27 "eaten_by" IX 404 205,
 tu [],
 nf [],
 ft 28 "eaten",
 co "eaten" 442 443 444 [i 78,i 1,i 0,i 0,i 3,.ref 207,.bool true,i 181,.ref 208,.none,.none,.none,.ref 209,i 445,i 78] 446,
 fo 28 "eaten" IX 404 210,
 tu [],
 nf [],
 tu [vs "left" 453,vs "begun" 454,vs "person" 455,vs "thing" 456,vs "part" 457,vs "deal" 458],
 tu [],
 ft 30 "deal_within",
 co "deal_within" 450 451 452 [i 82,i 2,i 0,i 0,i 3,.ref 212,.bool true,i 181,.ref 213,.none,.ref 214,.ref 215,.ref 216,i 459,i 82] 460,
 fo 30 "deal_within" Kf 448 217,
 tu [],
 nf [],
 tu [vs "row" 465,vs "thing" 466,vs "weight" 467,vs "rest" 468],
 tu [],
 ft 31 "row_without",
 co "row_without" 462 463 464 [i 92,i 3,i 0,i 0,i 3,.ref 219,.bool true,i 181,.ref 220,.none,.ref 221,.ref 222,.ref 223,i 469,i 92] 470,
 fo 31 "row_without" Kf 448 224,
 tu [],
 nf [],
 ft 32 "lots_of",
 co "lots_of" 472 473 474 [i 96,i 1,i 0,i 0,i 3,.ref 226,.bool true,i 181,.ref 227,.none,.none,.none,.ref 228,i 475,i 96] 476,
 fo 32 "lots_of" Kf 448 229,
 tu [],
 nf [],
 tu [vs "lots" 481,vs "number" 482,vs "place" 483,vs "so_far" 484],
 tu [],
 ft 33 "picked",
 co "picked" 478 479 480 [i 107,i 2,i 0,i 0,i 3,.ref 231,.bool true,i 181,.ref 232,.none,.ref 233,.ref 234,.ref 235,i 485,i 107] 486,
 fo 33 "picked" Kf 448 236,
 tu [],
 nf [],
 tu [vs "value" 495],
 tu [],
 ft 36 "is_listing",
 co "is_listing" 492 493 494 [i 118,i 1,i 0,i 0,i 3,.ref 238,.bool true,i 181,.ref 239,.none,.ref 240,.ref 241,.ref 242,i 496,i 118] 497,
 fo 36 "is_listing" "wishlots.tables" 488 243,
 tu [],
 nf [],
 tu [vs "rows" 502],
 tu [],
 ft 37 "has_people",
 co "has_people" 499 500 501 [i 120,i 1,i 0,i 0,i 3,.ref 245,.bool true,i 181,.ref 246,.none,.ref 247,.ref 248,.ref 249,i 503,i 120] 504,
 fo 37 "has_people" "wishlots.tables" 488 250,
 tu [],
 nf [],
 ft 39 "best_free",
 co "best_free" 508 509 510 [i 123,i 2,i 0,i 0,i 3,.ref 252,.bool true,i 181,.ref 253,.none,.none,.none,.ref 254,i 511,i 123] 512,
 fo 39 "best_free" IG 506 255,
 tu [],
 nf [],
 tu [vs "numbers" 517,vs "number" 518],
 tu [],
 ft 40 "with_one",
 co "with_one" 514 515 516 [i 125,i 2,i 0,i 0,i 3,.ref 257,.bool true,i 181,.ref 258,.none,.ref 259,.ref 260,.ref 261,i 519,i 125] 520,
 fo 40 "with_one" IG 506 262,
 tu [],
 nf [],
 ft 41 "turns_from",
 co "turns_from" 522 523 524 [i 127,i 3,i 0,i 0,i 3,.ref 264,.bool true,i 181,.ref 265,.none,.none,.none,.ref 266,i 525,i 127] 526,
 fo 41 "turns_from" IG 506 267,
 tu [],
 nf [],
 tu [vs "count" 531,vs "orders" 532,vs "number" 533],
 tu [],
 ft 42 "orders_of",
 co "orders_of" 528 529 530 [i 130,i 1,i 0,i 0,i 3,.ref 269,.bool true,i 181,.ref 270,.none,.ref 271,.ref 272,.ref 273,i 534,i 130] 535,
 fo 42 "orders_of" IG 506 274,
 tu [],
 nf [],
 tu [vs "wishes" 540,vs "counts" 541,vs "beginnings" 542,vs "turn" 543,vs "endings" 544,vs "longer" 545,vs "beginning" 546,vs "number" 547,vs "person" 548,vs "thing" 549,vs "state" 550],
 tu [],
 ft 43 "counts_of",
 co "counts_of" 537 538 539 [i 135,i 1,i 0,i 0,i 3,.ref 276,.bool true,i 181,.ref 277,.none,.ref 278,.ref 279,.ref 280,i 551,i 135] 552,
 fo 43 "counts_of" IG 506 281,
 tu [],
 nf [],
 ft 44 "shares_by_turns",
 co "shares_by_turns" 554 555 556 [i 148,i 3,i 0,i 0,i 3,.ref 283,.bool true,i 181,.ref 284,.none,.none,.none,.ref 285,i 557,i 148] 558,
 fo 44 "shares_by_turns" IG 506 286,
 tu [],
 nf [],
 ft 45 "by_turns",
 co "by_turns" 560 561 562 [i 151,i 1,i 0,i 0,i 3,.ref 288,.bool true,i 181,.ref 289,.none,.none,.none,.ref 290,i 563,i 151] 564,
 fo 45 "by_turns" IG 506 291,
 tu [],
 nf [],
 ft 48 "is_word",
 co "is_word" 570 571 572 [i 156,i 1,i 0,i 0,i 3,.ref 293,.bool true,i 181,.ref 294,.none,.none,.none,.ref 295,i 573,i 156] 574,
 fo 48 "is_word" GC 566 296,
 tu [],
 nf [],
 ft 49 "is_roll",
 co "is_roll" 576 577 578 [i 160,i 1,i 0,i 0,i 3,.ref 298,.bool true,i 181,.ref 299,.none,.none,.none,.ref 300,i 579,i 160] 580,
 fo 49 "is_roll" GC 566 301,
 tu [],
 {cls:= .type "builtin_function_or_method",data:= .fields #[.builtin "type.__prepare__",.type "type"]},
 di [en P "__module__" 589 (vs GC 566),en P "__qualname__" 591 (vs "Book" 590),en P "__firstlineno__" 593 (.int 162 592),en P "__init__" 602 (.ref 316),en P "check_person" 610 (.ref 323),en P "wish" 616 (.ref 328),en P "lacking" 622 (.ref 333),en P "table_by" 628 (.ref 338),en P "shares" 634 (.ref 343),en P "deal" 640 (.ref 348),en P "__static_attributes__" 644 (.ref 349)] 11,
 tu [],
 nf [i 164,i 4,.ref 315,i 171,i 4,.ref 322,i 175,i 4,.ref 327,i 182,i 4,.ref 332,i 185,i 4,.ref 337,i 195,i 4,.ref 342,i 201,i 4,.ref 347],
 co "Book" 584 585 586 [i 162,i 0,i 0,i 0,i 0,.ref 306,.bool false,i 181,.ref 307,.none,.none,.none,.none,i 587,i 162] 588,
 {cls:= .type "frame",slots:= #[some (.ref 308),some (.ref 3),some (.ref 305),none,some (vs GC 566),none,some (.ref 0)]},
 tu [],
 nf [],
 tu [vs "self" 597,vs "people" 598,vs "things" 599],
 tu [],
 fc 50 0 "__init__" "Book.__init__",
 cq "__init__" "Book.__init__" 594 595 596 [i 164,i 3,i 0,i 0,i 3,.ref 310,.bool true,i 181,.ref 311,.none,.ref 312,.ref 313,.ref 314,i 600,i 164] 601,
 fm 50 0 "__init__" "Book.__init__" GC 566 315,
 tu [],
 nf [],
 tu [vs "self" 606,vs "person" 607],
 tu [],
 fc 50 1 "check_person" "Book.check_person",
 cq "check_person" "Book.check_person" 603 604 605 [i 171,i 2,i 0,i 0,i 3,.ref 317,.bool true,i 181,.ref 318,.none,.ref 319,.ref 320,.ref 321,i 608,i 171] 609,
 fm 50 1 "check_person" "Book.check_person" GC 566 322,
 tu [],
 nf [],
 fc 50 2 "wish" "Book.wish",
 cq "wish" "Book.wish" 611 612 613 [i 175,i 3,i 0,i 0,i 3,.ref 324,.bool true,i 181,.ref 325,.none,.none,.none,.ref 326,i 614,i 175] 615,
 fm 50 2 "wish" "Book.wish" GC 566 327,
 tu [],
 nf [],
 fc 50 3 "lacking" "Book.lacking",
 cq "lacking" "Book.lacking" 617 618 619 [i 182,i 1,i 0,i 0,i 3,.ref 329,.bool true,i 181,.ref 330,.none,.none,.none,.ref 331,i 620,i 182] 621,
 fm 50 3 "lacking" "Book.lacking" GC 566 332,
 tu [],
 nf [],
 fc 50 4 "table_by" "Book.table_by",
 cq "table_by" "Book.table_by" 623 624 625 [i 185,i 2,i 0,i 0,i 3,.ref 334,.bool true,i 181,.ref 335,.none,.none,.none,.ref 336,i 626,i 185] 627,
 fm 50 4 "table_by" "Book.table_by" GC 566 337,
 tu [],
 nf [],
 fc 50 5 "shares" "Book.shares",
 cq "shares" "Book.shares" 629 630 631 [i 195,i 3,i 0,i 0,i 3,.ref 339,.bool true,i 181,.ref 340,.none,.none,.none,.ref 341,i 632,i 195] 633,
 fm 50 5 "shares" "Book.shares" GC 566 342,
 tu [],
 nf [],
 fc 50 6 "deal" "Book.deal",
 cq "deal" "Book.deal" 635 636 637 [i 201,i 3,i 0,i 0,i 3,.ref 344,.bool true,i 181,.ref 345,.none,.none,.none,.ref 346,i 638,i 201] 639,
 fm 50 6 "deal" "Book.deal" GC 566 347,
 tu [vs "people" 641,vs "things" 642,vs "wishes_told" 643],
 di [en P "__module__" 589 (vs GC 566),en P "__firstlineno__" 593 (.int 162 592),en P "__init__" 602 (.ref 316),en P "check_person" 610 (.ref 323),en P "wish" 616 (.ref 328),en P "lacking" 622 (.ref 333),en P "table_by" 628 (.ref 338),en P "shares" 634 (.ref 343),en P "deal" 640 (.ref 348),en P "__static_attributes__" 644 (.ref 349),en P "__dict__" 646 (.ref 352),en P "__weakref__" 648 (.ref 353),en P "__doc__" 649 (.none)] 4,
 {cls:= .type "type",data:= .cls {name:="Book",bases:=[.type "object"],mro:=[.ref 351,.type "object"],ns:=350,qualname:="Book"},slots:= #[none,none,some (vs "Book" 582),some (vs "Book" 590),some (.builtin "object.__new__"),some (.bool true)]},
 {cls:= .type "getset_descriptor",data:= .fields #[vs "__dict__" 645,.ref 351,.builtin "function.__dict__",.builtin "function.__dict__#set"]},
 {cls:= .type "getset_descriptor",data:= .fields #[vs "__weakref__" 647,.ref 351,.builtin "ExceptionGroup.__weakref__",.none]},
 {cls:= .type "super",data:= .fields #[.ref 351,.ref 351,.ref 351]},
 {cls:= .type "builtin_function_or_method",data:= .fields #[.builtin "object.__init_subclass__",.ref 351]},
 tu [],
 nf [],
 tu [vs "_law_script" 657,vs "_law_k" 658],
 tu [],
 ft 52 "_law_cell_at",
 co "_law_cell_at" 654 655 656 [i 206,i 2,i 0,i 0,i 3,.ref 356,.bool true,i 181,.ref 357,.none,.ref 358,.ref 359,.ref 360,i 659,i 206] 660,
 fo 52 "_law_cell_at" Fw 652 361,
 tu [],
 nf [],
 tu [vs "_law_cell" 665,vs "_law_many" 666,vs "_law_found" 667,vs "_law_number" 668,vs "_law_k" 669],
 tu [],
 ft 53 "_law_mixed",
 co "_law_mixed" 662 663 664 [i 210,i 2,i 0,i 0,i 3,.ref 363,.bool true,i 181,.ref 364,.none,.ref 365,.ref 366,.ref 367,i 670,i 210] 671,
 fo 53 "_law_mixed" Fw 652 368,
 tu [],
 nf [],
 tu [vs "_law_number" 676,vs "_law_count" 677,vs "_law_found" 678,vs "_law_k" 679],
 tu [],
 ft 54 "_law_perm",
 co "_law_perm" 673 674 675 [i 223,i 2,i 0,i 0,i 3,.ref 370,.bool true,i 181,.ref 371,.none,.ref 372,.ref 373,.ref 374,i 680,i 223] 681,
 fo 54 "_law_perm" Fw 652 375,
 tu [],
 nf [],
 tu [vs "_law_one" 686,vs "_law_other" 687,vs "_law_rest" 688],
 tu [],
 ft 55 "_law_divisor",
 co "_law_divisor" 683 684 685 [i 229,i 2,i 0,i 0,i 3,.ref 377,.bool true,i 181,.ref 378,.none,.ref 379,.ref 380,.ref 381,i 689,i 229] 690,
 fo 55 "_law_divisor" Fw 652 382,
 tu [],
 nf [],
 tu [vs "_law_top" 695,vs "_law_bottom" 696,vs "_law_share" 697],
 tu [],
 ft 56 "_law_lowest",
 co "_law_lowest" 692 693 694 [i 235,i 2,i 0,i 0,i 3,.ref 384,.bool true,i 181,.ref 385,.none,.ref 386,.ref 387,.ref 388,i 698,i 235] 699,
 fo 56 "_law_lowest" Fw 652 389,
 tu [],
 nf [],
 tu [vs "_law_cell" 704,vs "_law_size" 705,vs "_law_found" 706,vs "_law_rest" 707,vs "_law_k" 708],
 tu [],
 ft 57 "_law_base",
 co "_law_base" 701 702 703 [i 242,i 2,i 0,i 0,i 3,.ref 391,.bool true,i 181,.ref 392,.none,.ref 393,.ref 394,.ref 395,i 709,i 242] 710,
 fo 57 "_law_base" Fw 652 396,
 tu [],
 nf [],
 tu [vs "_law_base_here" 715,vs "_law_place" 716,vs "_law_size" 717,vs "_law_k" 718,vs "_law_letters" 719,vs "_law_other" 720],
 tu [],
 ft 58 "_law_word",
 co "_law_word" 712 713 714 [i 254,i 4,i 0,i 0,i 3,.ref 398,.bool true,i 181,.ref 399,.none,.ref 400,.ref 401,.ref 402,i 721,i 254] 722,
 fo 58 "_law_word" Fw 652 403,
 tu [],
 nf [],
 tu [vs "_law_script" 727,vs "_law_at" 728,vs "_law_many" 729,vs "_law_cell" 730,vs "_law_size" 731,vs "_law_base_here" 732,vs "_law_words_here" 733,vs "_law_k" 734,vs "_law_word_here" 735],
 tu [],
 ft 59 "_law_words",
 co "_law_words" 724 725 726 [i 258,i 3,i 0,i 0,i 3,.ref 405,.bool true,i 181,.ref 406,.none,.ref 407,.ref 408,.ref 409,i 736,i 258] 737,
 fo 59 "_law_words" Fw 652 410,
 tu [],
 nf [],
 tu [vs "_law_found" 742,vs "_law_due" 743,vs "_law_k" 744],
 tu [],
 ft 60 "_law_same",
 co "_law_same" 739 740 741 [i 269,i 2,i 0,i 0,i 3,.ref 412,.bool true,i 181,.ref 413,.none,.ref 414,.ref 415,.ref 416,i 745,i 269] 746,
 fo 60 "_law_same" Fw 652 417,
 tu [],
 nf [],
 tu [vs "_law_way" 751,vs "_law_wishes" 752],
 tu [],
 ft 61 "_law_table_by",
 co "_law_table_by" 748 749 750 [i 286,i 2,i 0,i 0,i 3,.ref 419,.bool true,i 181,.ref 420,.none,.ref 421,.ref 422,.ref 423,i 753,i 286] 754,
 fo 61 "_law_table_by" Fw 652 424,
 tu [],
 nf [],
 ft 62 "_law_shares_well",
 co "_law_shares_well" 756 757 758 [i 290,i 6,i 0,i 0,i 3,.ref 426,.bool true,i 181,.ref 427,.none,.none,.none,.ref 428,i 759,i 290] 760,
 fo 62 "_law_shares_well" Fw 652 429,
 tu [],
 nf [],
 ft 63 "_law_deal_well",
 co "_law_deal_well" 762 763 764 [i 299,i 6,i 0,i 0,i 3,.ref 431,.bool true,i 181,.ref 432,.none,.none,.none,.ref 433,i 765,i 299] 766,
 fo 63 "_law_deal_well" Fw 652 434,
 tu [],
 nf [],
 ft 64 "_law_wish",
 co "_law_wish" 768 769 770 [i 308,i 6,i 0,i 0,i 3,.ref 436,.bool true,i 181,.ref 437,.none,.none,.none,.ref 438,i 771,i 308] 772,
 fo 64 "_law_wish" Fw 652 439,
 tu [],
 nf [],
 ft 65 "_law_refused",
 co "_law_refused" 774 775 776 [i 311,i 4,i 0,i 0,i 3,.ref 441,.bool true,i 181,.ref 442,.none,.none,.none,.ref 443,i 777,i 311] 778,
 fo 65 "_law_refused" Fw 652 444,
 tu [],
 nf [],
 tu [vs "_law_book" 783,vs "_law_people" 784,vs "_law_things" 785,vs "_law_wishes" 786,vs "_law_xs" 787,vs "_law_place" 788,vs "_law_way" 789,vs "_law_number" 790],
 tu [],
 ft 66 "_law_deed",
 co "_law_deed" 780 781 782 [i 325,i 5,i 0,i 0,i 3,.ref 446,.bool true,i 181,.ref 447,.none,.ref 448,.ref 449,.ref 450,i 791,i 325] 792,
 fo 66 "_law_deed" Fw 652 451,
 tu [],
 nf [],
 ft 67 "law",
 co "law" 794 795 796 [i 336,i 1,i 0,i 0,i 3,.ref 453,.bool true,i 181,.ref 454,.none,.none,.none,.ref 455,i 797,i 336] 798,
 fo 67 "law" Fw 652 456]
noncomputable def hp(m f e:Nat)(x:cA)(P:Params):Heap:={objs:=((((obs P).take m).set 3 (di (en P "__name__" 165 x::(Ln P).tail.take e) (e+1))).set 12 (nf (MV.take f))).toArray}
noncomputable def all(P:Params):List Obj:=(obs P).set 3 (di (Ln P) 69)
def L3:List cG:=[3,23,24,25,36,37,48,49,60,61,72,73,84,85,96,97,108,109,112,113,119,120,126,127,133,134,140,141,147,148,154,155,161,162,168,169,175,176,180,181,185,186,190,191,195,196,200,201,205,206,210,211,217,218,224,225,229,230,236,237,243,244,250,251,255,256,262,263,267,268,274,275,281,282,286,287,291,292,296,297,301,302,315,316,322,323,327,328,332,333,337,338,342,343,347,348,350,351,352,353,361,362,368,369,375,376,382,383,389,390,396,397,403,404,410,411,417,418,424,425,429,430,434,435,439,440,444,445,451,452,456,457]
noncomputable def K0(P:Params):cu:=L3.map λa=>(a,(all P).getD a default)
theorem DZ:∀P,L3=(K0 P).map (·.1):=λ_=>rfl
noncomputable abbrev hk:Hook:=kHook K0 L3 DZ
def vw:cT:={cJ with main:={cJ.main with body:=[Ec 1,Ec 2,Ec 3,Ec 4,Ec 5,Ec 6,Ec 7,Ec 8,Ec 10,Ec 11,Ec 12,Ec 13,Ec 14,Ec 15,Ec 16,Ec 17,Ec 18,Ec 19,Ec 20,Ec 22,Ec 23,Ec 24,Ec 25,Ec 26,Ec 27,Ec 28,Ec 30,Ec 31,Ec 32,Ec 33,Ec 35,Ec 36,Ec 37,Ec 39,Ec 40,Ec 41,Ec 42,Ec 43,Ec 44,Ec 45,Ec 47,Ec 48,Ec 49,Ec 50,Ec 52,Ec 53,Ec 54,Ec 55,Ec 56,Ec 57,Ec 58,Ec 59,Ec 60,Ec 61,Ec 62,Ec 63,Ec 64,Ec 65,Ec 66,Ec 67]}}
def ME:List Stmt:=[Ec 0,Ec 1,Ec 2,Ec 3,Ec 4,Ec 5,Ec 6,Ec 7,Ec 8]
def MD:List Stmt:=[Ec 9,Ec 10,Ec 11,Ec 12,Ec 13,Ec 14,Ec 15,Ec 16,Ec 17,Ec 18,Ec 19,Ec 20,Ec 21,Ec 22,Ec 23,Ec 24]
def MA:List Stmt:=[Ec 25,Ec 26,Ec 27,Ec 28,Ec 29,Ec 30,Ec 31,Ec 32,Ec 33,Ec 34,Ec 35,Ec 36,Ec 37,Ec 38,Ec 39,Ec 40]
def MC:List Stmt:=[Ec 41,Ec 42,Ec 43,Ec 44,Ec 45,Ec 46,Ec 47,Ec 48,Ec 49]
def Mw:List Stmt:=[Ec 50]
def My:List Stmt:=[Ec 51,Ec 52,Ec 53,Ec 54,Ec 55,Ec 56,Ec 57,Ec 58,Ec 59,Ec 60,Ec 61,Ec 62,Ec 63]
def MG:List Stmt:=[Ec 64,Ec 65,Ec 66,Ec 67]
def bd:List Stmt:=ME++(MD++(MA++(MC++(Mw++(My++(MG++([])))))))
def ev:Env:={scope:=cJ.main.scope,locals:=mainNs,globals:=mainNs,cells:=[],code:= .ref 13,frame:=some 14}
def cE:Code:= .body bd ev
abbrev tf:List Frame:=[topFrame ⟨0,0,0,0⟩]
noncomputable def hA(P:Params):Heap:={objs:=((obs P).take 15).toArray}
theorem pre(w:dc)(os:OsState):topGo treeTable cJ w 11 (some (.ref 6)) 12 ⟨jp w.params,Array.mk [],eh,p9,os⟩ (topStub cJ)=some (⟨hA w.params,Array.mk [],eh,187,os⟩,⟨denote treeTable cE,cE,⟨0,0,0,0⟩,tf⟩):=by kernel_rfl
theorem ML(w:dc)(os:OsState):segRun treeTable cJ w 11 (some (.ref 6)) 1 1 ⟨hA w.params,Array.mk [],eh,187,os⟩ (blockOf bd ev cE ⟨0,0,0,0⟩ tf)=some (.next,⟨hA w.params,Array.mk [],eh,187,os⟩,cE,⟨0,0,0,0⟩):=by kernel_rfl
noncomputable def h0:Params->Heap:=hp 112 24 16 (vs "wishlots.errors" 187)
theorem g0(w:dc)(os:OsState):segRun treeTable cJ w 11 (some (.ref 6)) 1 1687 ⟨hA w.params,Array.mk [],eh,187,os⟩ (piecesOf ME ev cE ⟨0,0,0,0⟩ tf)=some (.next,⟨h0 w.params,Array.mk [],eh,319,os⟩,cE,⟨16,0,17,8⟩):=by kernel_rfl
noncomputable def h1:Params->Heap:=hp 192 60 30 (vs IX 404)
theorem g1(w:dc)(os:OsState):segRun treeTable cJ w 11 (some (.ref 6)) 1 396 ⟨h0 w.params,Array.mk [],eh,319,os⟩ (piecesOf MD ev cE ⟨16,0,17,8⟩ tf)=some (.next,⟨h1 w.params,Array.mk [],eh,424,os⟩,cE,⟨62,0,63,100⟩):=by kernel_rfl
noncomputable def h2:Params->Heap:=hp 264 96 43 (vs IG 506)
theorem g2(w:dc)(os:OsState):segRun treeTable cJ w 11 (some (.ref 6)) 1 379 ⟨h1 w.params,Array.mk [],eh,424,os⟩ (piecesOf MA ev cE ⟨62,0,63,100⟩ tf)=some (.next,⟨h2 w.params,Array.mk [],eh,522,os⟩,cE,⟨125,0,126,45⟩):=by kernel_rfl
noncomputable def h3:Params->Heap:=hp 303 117 51 (vs GC 566)
theorem g3(w:dc)(os:OsState):segRun treeTable cJ w 11 (some (.ref 6)) 1 219 ⟨h2 w.params,Array.mk [],eh,522,os⟩ (piecesOf MC ev cE ⟨125,0,126,45⟩ tf)=some (.next,⟨h3 w.params,Array.mk [],eh,582,os⟩,cE,⟨160,0,161,107⟩):=by kernel_rfl
noncomputable def h4:Params->Heap:=hp 356 120 52 (vs GC 566)
theorem g4(w:dc)(os:OsState):segRun treeTable cJ w 11 (some (.ref 6)) 1 398 ⟨h3 w.params,Array.mk [],eh,582,os⟩ (piecesOf Mw ev cE ⟨160,0,161,107⟩ tf)=some (.next,⟨h4 w.params,Array.mk [],eh,652,os⟩,cE,⟨162,0,204,44⟩):=by kernel_rfl
noncomputable def h5:Params->Heap:=hp 436 156 64 (vs Fw 652)
theorem g5(w:dc)(os:OsState):segRun treeTable cJ w 11 (some (.ref 6)) 1 384 ⟨h4 w.params,Array.mk [],eh,652,os⟩ (piecesOf My ev cE ⟨162,0,204,44⟩ tf)=some (.next,⟨h5 w.params,Array.mk [],eh,768,os⟩,cE,⟨299,0,307,15⟩):=by kernel_rfl
noncomputable def h6:Params->Heap:=hp 458 168 68 (vs Fw 652)
theorem g6(w:dc)(os:OsState):segRun treeTable cJ w 11 (some (.ref 6)) 1 115 ⟨h5 w.params,Array.mk [],eh,768,os⟩ (piecesOf MG ev cE ⟨299,0,307,15⟩ tf)=some (.next,⟨h6 w.params,Array.mk [],eh,800,os⟩,cE,⟨336,0,359,15⟩):=by kernel_rfl
theorem fin(w:dc)(os:OsState):topRun treeTable cJ w 11 (some (.ref 6)) 2 ⟨h6 w.params,Array.mk [],eh,800,os⟩ (restOf [] ev cE ⟨336,0,359,15⟩ tf)=some ⟨h6 w.params,Array.mk [],eh,800,os⟩:=by kernel_rfl
theorem run(w:dc)(os:OsState):topRun treeTable cJ w 11 (some (.ref 6)) (12+(1+(1687+(396+(379+(219+(398+(384+(115+(2)))))))))) ⟨jp w.params,Array.mk [],eh,p9,os⟩ (topStub cJ)=some ⟨h6 w.params,Array.mk [],eh,800,os⟩:=go_top (pre w os) (piece_block (ML w os) (j7 (g0 w os) (j7 (g1 w os) (j7 (g2 w os) (j7 (g3 w os) (j7 (g4 w os) (j7 (g5 w os) (j7 (g6 w os) (fin w os)))))))))
theorem MJ:∀w:dc,(fencedOpening treeTable cJ w 7866).map (λs=>(s.heap,s.gens,s.drawn,s.toks))=some (jp w.params,Array.mk [],eh,p9):=boot_open (by kernel_rfl) rfl λs=>by kernel_rfl
theorem size:∀w:dc,((jp w.params).isNs fD&&(Array.mk []:Array GenState).size==0,(jp w.params).objs.size,(jp w.params).nsMap fD "__annotations__")=(true,11,some (.ref 6)):=λw=>by kernel_rfl
abbrev xt:cD->Bool:=λs=>xlAt vw [] s&&recOk (RowW.records (OpenRow.toRowW f8.row)) s
theorem Li:∀w:dc,(λos=>((staticsOk (importedModules cJ.main.body) (jp w.params) (h6 w.params)&&namesBound cJ (h6 w.params)&&gensDone ⟨h6 w.params,Array.mk [],eh,800,os⟩&&laidKept (jp w.params) (h6 w.params)),openSeen vw [] (importedModules cJ.main.body) xt true ⟨h6 w.params,Array.mk [],eh,800,os⟩,hk.obs ⟨h6 w.params,Array.mk [],eh,800,os⟩))=λ_=>(true,openGood vw [],hk.val w):=λw=>by kernel_rfl
theorem MO:LeftO cJ vw [] xt hk.obs hk.val 7866:=LeftO.of_pieces MJ size run rfl Li
theorem ET{K:Frag}{h:Heap}{mg:Str->Option cA}{n:Str}{st:Stmt}(f c:cG)(pm:cA)(X:K.In h)(G:h.Ns fD mg)
  (e:(nsIn K fD n,K.lookup f,codeIn K (.ref c) n,keepIn K (.ref f))=(some (some (.ref f)),some ⟨.type "function",none,.func (fnOf n n (Ek st) (Eg st) (D8 st) .none .none .none pm none (.ref c) .none),#[]⟩,true,true)):Def K mg n st:=by
 have d:=Prod.mk.inj e
 have a:=Prod.mk.inj d.2
 have b:=Prod.mk.inj a.2
 exact⟨_,_,yz (st:=st) a.1 b.1 b.2,kG X G d.1⟩
theorem KS{K:Frag}{C:cG}{m q:Str}{st:Stmt}(f c:cG)(pm:cA)
  (e:((findIn K (.ref C) m,isFn K (.ref f)),K.lookup f,codeIn K (.ref c) q,keepIn K (.ref f))=((some (some (.ref f)),true),some ⟨.type "function",none,.func (fnOf m q (Ek st) (Eg st) (D8 st) .none .none .none pm none (.ref c) .none),#[]⟩,true,true)):MDef K C m q st:=by
 have g:=Prod.mk.inj e
 have b:=Prod.mk.inj g.1
 have d:=Prod.mk.inj g.2
 have a:=Prod.mk.inj d.2
 exact⟨_,_,yz (st:=st) d.1 a.1 a.2,b.1,b.2,a.2⟩
theorem MM{K:Frag}{h:Heap}{mg:Str->Option cA}{C:cG}{x q:Str}{st:Stmt}(f c:cG)(pm:cA)(X:K.In h)(G:h.Ns fD mg)
  (e0:(makesIn K C,findIn K (.ref C) "__init__",isFn K (.ref f),keepIn K (.ref C),nsIn K fD x)=(true,some (some (.ref f)),true,true,some (some (.ref C))))
  (e:(K.lookup f,codeIn K (.ref c) q,keepIn K (.ref f))=(some ⟨.type "function",none,.func (fnOf "__init__" q (Ek st) (Eg st) (D8 st) .none .none .none pm none (.ref c) .none),#[]⟩,true,true)):BDef K mg C x q st:=by
 have a:=Prod.mk.inj e0
 have j:=Prod.mk.inj a.2
 have b:=Prod.mk.inj j.2
 have k:=Prod.mk.inj b.2
 have g:=Prod.mk.inj e
 have d:=Prod.mk.inj g.2
 exact⟨_,_,yz (st:=st) g.1 d.1 d.2,⟨a.1,j.1,b.1,k.1⟩,kG X G k.2⟩
theorem all_mk{l:OpenLaw}{w:dc}{K:Frag}{h:Heap}{mg:Str->Option cA}{fa:cG}{x:Xs}{cB:cG}(f c:cG)(pm:cA)(X:K.In h)(G:h.Ns fD mg)(hfa:mg "law"=some (.ref fa))(M:Md K mg x cB)
  (e:(nsIn K fD "law",K.lookup f,codeIn K (.ref c) "law",keepIn K (.ref f))=(some (some (.ref f)),some ⟨.type "function",none,.func (fnOf "law" "law" (Ek (Ec 67)) (Eg (Ec 67)) (D8 (Ec 67)) .none .none .none pm none (.ref c) .none),#[]⟩,true,true)):
  ∃fd:FuncData,(∀(s:cD) (v:cA),BindsTo s fd ⟨[v],[]⟩ [("_law_script",v)])/\∀base:Heap,K.In base->base.Ns fD mg->FnOk l.prog w K mg base Ei 12 fa fd ["_law_script"] (Jj K):=by
 have e1:=Prod.mk.inj e
 have e2:=Prod.mk.inj e1.2
 have e3:=Prod.mk.inj e2.2
 have e4:=hfa.symm.trans (kG X G e1.1)
 cases e4
 refine⟨fnOf "law" "law" (Ek (Ec 67)) (Eg (Ec 67)) (D8 (Ec 67)) .none .none .none pm none (.ref c) .none,λs v=> .of_eq rfl,λbase _ _=>?_⟩
 have am:=IQ (P:=l.prog) (w:=w) (base:=base) M
 have u:=Gd (P:=l.prog) (w:=w) (base:=base) M
 have d:=IT (P:=l.prog) (w:=w) (base:=base) M am u
 have aa:=Kz (P:=l.prog) (w:=w) (base:=base) M d
 have aj:=J1 (P:=l.prog) (w:=w) (base:=base) M d
 have ak:=JZ (P:=l.prog) (w:=w) (base:=base) M d
 have W:=JK (P:=l.prog) (w:=w) (base:=base) M
 have ao:=J4 (P:=l.prog) (w:=w) (base:=base) M aa
 have al:=JU (P:=l.prog) (w:=w) (base:=base) M W
 have ag:=IF (P:=l.prog) (w:=w) (base:=base) M
 have D:=GU (P:=l.prog) (w:=w) (base:=base) M ak al
 have O:=GZ (P:=l.prog) (w:=w) (base:=base) M aj ak
 have R:=HP (P:=l.prog) (w:=w) (base:=base) M (ao.imp λ_ _ _ _=>DT) ag D O
 have ai:=IJ (P:=l.prog) (w:=w) (base:=base) M (ao.imp λ_ _ _ _=>DT)
 have an:=IY (P:=l.prog) (w:=w) (base:=base) M ai
 have ah:=JW (P:=l.prog) (w:=w) (base:=base) M R an
 have W0:=M.f_deal_within.nothing (P:=l.prog) (w:=w) (base:=base) (ps:=["left","begun"]) (λ_ _ _ _ _ _ us hl=>match us,hl with|[_,_],_=>rfl)
 have W1:=En (m:=0) M W0
 have W2:=En (m:=1) M W1
 have W3:=En (m:=2) M W2
 have W4:=En (m:=3) M W3
 have W5:=En (m:=4) M W4
 have W6:=En (m:=5) M W5
 have H:=En (m:=6) M W6
 have L:=GY (P:=l.prog) (w:=w) (base:=base) M aj
 have J:=Jl (P:=l.prog) (w:=w) (base:=base) M H al L aa
 have Y:=JL (P:=l.prog) (w:=w) (base:=base) M W aa
 have U:=Hx (P:=l.prog) (w:=w) (base:=base) M
 have S:=Hq (P:=l.prog) (w:=w) (base:=base) M U
 have ab:=IE (P:=l.prog) (w:=w) (base:=base) M
 have ap:=IU (P:=l.prog) (w:=w) (base:=base) M
 have V:=Hr (P:=l.prog) (w:=w) (base:=base) M ab
 have r:=Ix (P:=l.prog) (w:=w) (base:=base) M
 have ae:=HZ (P:=l.prog) (w:=w) (base:=base) M r V ap
 have o:=FX (P:=l.prog) (w:=w) (base:=base) M r d
 have B:=IL (P:=l.prog) (w:=w) (base:=base) M ae o
 have aq:=Jt (P:=l.prog) (w:=w) (base:=base) M
 have ar:=Jp (P:=l.prog) (w:=w) (base:=base) M S aq
 have A:=Gp (P:=l.prog) (w:=w) (base:=base) M ar
 have a:=Fz (P:=l.prog) (w:=w) (base:=base) M
 have y:=HR (P:=l.prog) (w:=w) (base:=base) M a
 have E:=GN (P:=l.prog) (w:=w) (base:=base) M
 have j:=Gv (P:=l.prog) (w:=w) (base:=base) M E ah B
 have N:=G7 (P:=l.prog) (w:=w) (base:=base) M a j
 have af:=Ic (P:=l.prog) (w:=w) (base:=base) M J j Y
 have k:=GF (P:=l.prog) (w:=w) (base:=base) M
 have Q:=HL (P:=l.prog) (w:=w) (base:=base) M
 have q:=Iv (P:=l.prog) (w:=w) (base:=base) M
 have ac:=Il (P:=l.prog) (w:=w) (base:=base) M
 have Z:=Ig (P:=l.prog) (w:=w) (base:=base) M
 have T:=Hv (P:=l.prog) (w:=w) (base:=base) M k ac Z
 have F:=GO (P:=l.prog) (w:=w) (base:=base) M
 have I:=G1 (P:=l.prog) (w:=w) (base:=base) M F
 have Y0:=M.f__law_same.nothing (P:=l.prog) (w:=w) (base:=base) (ps:=["_law_found","_law_due"]) (λ_ _ _ _ _ _ us hl=>match us,hl with|[_,_],_=>rfl)
 have Y1:=EY (n:=0) M Y0
 have Y2:=EY (n:=1) M Y1
 have Y3:=EY (n:=2) M Y2
 have t:=EY (n:=3) M Y3
 have g:=Gu (P:=l.prog) (w:=w) (base:=base) M ah B
 have b:=FM (P:=l.prog) (w:=w) (base:=base) M g N t
 have p:=Ge (P:=l.prog) (w:=w) (base:=base) M g J Y af t
 have z:=Ib (P:=l.prog) (w:=w) (base:=base) M q y
 have C:=GI (P:=l.prog) (w:=w) (base:=base) M q y
 have ad:=ID (P:=l.prog) (w:=w) (base:=base) M z C b I p
 exact LA (yz (st:=Ec 67) e2.1 e3.1 e3.2) M k T A Q z ad b
theorem walk{l:OpenLaw}{q:cT}{loose:List Str}{XP:(Str->Option cA)->Heap->Prop}{YP:dc->Heap->Prop}{d:DefRec}{K:Params->Frag}(hn:l.most=some 63)(hdf:d.params.defaults=[])
  (hY:∀(w:dc) (h:Heap),YP w h->(K w.params).In h)
  (F:∀(w:dc) (mg:Str->Option cA) (fa:cG) (h:Heap),(K w.params).In h->h.Ns fD mg->mg d.name=some (.ref fa)->
   ∃fd:FuncData,(∀(s:cD) (u:cA),BindsTo s fd ⟨[u],[]⟩ [("_law_script",u)])/\∀base:Heap,(K w.params).In base->base.Ns fD mg->FnOk l.prog w (K w.params) mg base Ei 12 fa fd ["_law_script"] (Jj (K w.params))):
  WalkO q loose XP YP l.row.toRowW d [] (λf vs=>oM f vs):=
 L2.walk_of (n:=63) (k:=12) (x:="_law_script") (CX:=λ_=>Ei) (sp:=λw=>Jj (K w.params)) hn (by decide) hdf ⟨rfl,by decide,by decide⟩ hY F (λ_ _ a c b _ e=>⟨a,c,rfl,e,b,λ_=>rfl⟩) λ_ _ _ _ _ z=>z
end Nk52
open PySem PySem.W PyProof.Rows L2 Nk52
set_option maxRecDepth 100000 in
set_option maxHeartbeats 0 in
theorem PySem.Challenge.cw_wishlots_k52_whole_book_holds : PySem.Challenge.rw_wishlots_k52_whole_book.Holds := by
 refine holds_law B4 λc=>?_
 refine holds_open (q:=vw) (loose:=[]) (Xt:=xt) (XP:=XL vw []) (Yf:=Hook.obs hk) (Ya:=Hook.val hk)
  (YP:=Hook.says hk) (N:=7866) ?hl (Hook.of _) (Hook.keeps _) (λs e=>xl_of s (mj.mp e).1)
  XL.keeps (by rfl) (by rfl) (by rfl) (λs e=>recFacts_of (mj.mp e).2) (by rfl) (by first|assumption|decide +kernel) (by decide +kernel) ⟨rfl,rfl,rfl,rfl,rfl,by decide +kernel⟩ ?hw ?hc
 case hl=>exact MO
 case hw=>w_witness2
 refine Nk52.walk (l:=f8) rfl rfl (λw h Y=>kIn_of Y) ?F
 case F=>
  intro w f d h a G b;refine Nk52.all_mk (x:=⟨24,37,49,0,61,0,73,85,97,109⟩) (cB:=351) 457 456 (vs Fw 652) a G b ?_ (by kernel_rfl);exact⟨ET 120 119 (vs HQ 319) a G (by kernel_rfl),
   ET 127 126 (vs HQ 319) a G (by kernel_rfl),
   ET 134 133 (vs HQ 319) a G (by kernel_rfl),
   ET 141 140 (vs HQ 319) a G (by kernel_rfl),
   ET 148 147 (vs HQ 319) a G (by kernel_rfl),
   ET 155 154 (vs HQ 319) a G (by kernel_rfl),
   ET 162 161 (vs HQ 319) a G (by kernel_rfl),
   ET 169 168 (vs HQ 319) a G (by kernel_rfl),
   ET 176 175 (vs HQ 319) a G (by kernel_rfl),
   ET 181 180 (vs IX 404) a G (by kernel_rfl),
   ET 186 185 (vs IX 404) a G (by kernel_rfl),
   ET 191 190 (vs IX 404) a G (by kernel_rfl),
   ET 196 195 (vs IX 404) a G (by kernel_rfl),
   ET 201 200 (vs IX 404) a G (by kernel_rfl),
   ET 206 205 (vs IX 404) a G (by kernel_rfl),
   ET 211 210 (vs IX 404) a G (by kernel_rfl),
   ET 218 217 (vs Kf 448) a G (by kernel_rfl),
   ET 225 224 (vs Kf 448) a G (by kernel_rfl),
   ET 230 229 (vs Kf 448) a G (by kernel_rfl),
   ET 237 236 (vs Kf 448) a G (by kernel_rfl),
   ET 244 243 (vs "wishlots.tables" 488) a G (by kernel_rfl),
   ET 251 250 (vs "wishlots.tables" 488) a G (by kernel_rfl),
   ET 256 255 (vs IG 506) a G (by kernel_rfl),
   ET 263 262 (vs IG 506) a G (by kernel_rfl),
   ET 268 267 (vs IG 506) a G (by kernel_rfl),
   ET 275 274 (vs IG 506) a G (by kernel_rfl),
   ET 282 281 (vs IG 506) a G (by kernel_rfl),
   ET 287 286 (vs IG 506) a G (by kernel_rfl),
   ET 292 291 (vs IG 506) a G (by kernel_rfl),
   ET 297 296 (vs GC 566) a G (by kernel_rfl),
   ET 302 301 (vs GC 566) a G (by kernel_rfl),
   MM 316 315 (vs GC 566) a G (by kernel_rfl) (by kernel_rfl),
   ⟨by kernel_rfl,by kernel_rfl,by kernel_rfl,by kernel_rfl⟩,
   (show findIn _ _ _=some none by kernel_rfl),
   (show findIn _ _ _=some none by kernel_rfl),
   (show findIn _ _ _=some none by kernel_rfl),
   KS 323 322 (vs GC 566) (by kernel_rfl),
   KS 328 327 (vs GC 566) (by kernel_rfl),
   KS 333 332 (vs GC 566) (by kernel_rfl),
   KS 338 337 (vs GC 566) (by kernel_rfl),
   KS 343 342 (vs GC 566) (by kernel_rfl),
   KS 348 347 (vs GC 566) (by kernel_rfl),
   ET 362 361 (vs Fw 652) a G (by kernel_rfl),
   ET 369 368 (vs Fw 652) a G (by kernel_rfl),
   ET 376 375 (vs Fw 652) a G (by kernel_rfl),
   ET 397 396 (vs Fw 652) a G (by kernel_rfl),
   ET 404 403 (vs Fw 652) a G (by kernel_rfl),
   ET 411 410 (vs Fw 652) a G (by kernel_rfl),
   ET 383 382 (vs Fw 652) a G (by kernel_rfl),
   ET 390 389 (vs Fw 652) a G (by kernel_rfl),
   ET 418 417 (vs Fw 652) a G (by kernel_rfl),
   ET 425 424 (vs Fw 652) a G (by kernel_rfl),
   ET 430 429 (vs Fw 652) a G (by kernel_rfl),
   ET 435 434 (vs Fw 652) a G (by kernel_rfl),
   ET 440 439 (vs Fw 652) a G (by kernel_rfl),
   ET 445 444 (vs Fw 652) a G (by kernel_rfl),
   ET 452 451 (vs Fw 652) a G (by kernel_rfl),
   fG a G (by kernel_rfl),
   fG a G (by kernel_rfl),
   fG a G (by kernel_rfl),
   fG a G (by kernel_rfl),
   fG a G (by kernel_rfl),
   fG a G (by kernel_rfl),
   fG a G (by kernel_rfl),
   fG a G (by kernel_rfl),
   fG a G (by kernel_rfl),
   fG a G (by kernel_rfl),
   fG a G (by kernel_rfl),
   fG a G (by kernel_rfl),
   fG a G (by kernel_rfl),
   fG a G (by kernel_rfl),
   fG a G (by kernel_rfl),
   fG a G (by kernel_rfl),
   fG a G (by kernel_rfl),
   fG a G (by kernel_rfl),
   fG a G (by kernel_rfl),
   ⟨112,kG a G (by kernel_rfl),λ_=> .inr ⟨_,_,_,rfl,rfl,rfl,by show 2<=sizeLine;decide,(.cons ⟨_,rfl⟩ (.cons ⟨_,rfl⟩ .nil))⟩⟩,
   ⟨113,kG a G (by kernel_rfl),λ_=> .inr ⟨_,_,_,rfl,rfl,rfl,by show 2<=sizeLine;decide,(.cons ⟨_,rfl⟩ (.cons ⟨_,rfl⟩ .nil))⟩⟩,
   ⟨490,kG a G (by kernel_rfl)⟩,
   ⟨568,kG a G (by kernel_rfl)⟩,
   ⟨kG a G (by kernel_rfl),by kernel_rfl⟩,
   ⟨kG a G (by kernel_rfl),by kernel_rfl⟩,
   ⟨kG a G (by kernel_rfl),by kernel_rfl⟩,
   ⟨kG a G (by kernel_rfl),by kernel_rfl⟩,
   ⟨kG a G (by kernel_rfl),by kernel_rfl⟩,
   ⟨kG a G (by kernel_rfl),by kernel_rfl⟩,
   ⟨kG a G (by kernel_rfl),by kernel_rfl⟩,
   ⟨kG a G (by kernel_rfl),by kernel_rfl⟩,
   by kernel_rfl⟩
#print axioms PySem.Challenge.cw_wishlots_k52_whole_book_holds
